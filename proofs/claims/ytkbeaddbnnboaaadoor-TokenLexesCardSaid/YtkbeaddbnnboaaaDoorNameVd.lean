/- The document's answer: what is within quotes: ways of a round at an escape. Conditions: as each states. -/
import Derived.Test.YtkbeaddbnnboaaaDoorNameV
namespace Go.Proofs.YtkbeaddbnnboaaaDoor
open Go Go.RowKit Go.Maps

set_option linter.unusedVariables false in
set_option maxHeartbeats 4000000 in
set_option maxRecDepth 1000000 in
theorem ve_x_noN (u4 u5 u6 u9 u10 u11 u12 u13 u14 u15 u16 u17 u18 u19 u20 u21 u22 u23 u24 u25 u26 u27 u28 u29 u30 u31 u32 u33 u34 u35 u36 u37 u38 u39 u40 u41 u42 u43 u44 u45 u46 u47 u48 u49 u50 u51 u52 u53 u54 u55 u56 u57 u58 u59 u60 u61 u62 u63 u64 u65 u66 u67 u68 u69 u70 u71 u72 u73 u74 u75 u76 u77 u78 u79 u80 u81 u82 u83 u84 u85 u86 u87 u88 u89 u90 u91 u92 u93 u94 u95 u96 u97 u98 u99 u100 u101 u102 u103 u104 u105 u106 u107 u108 u109 u110 u111 u112 u113 u114 u115 u116 u117 u118 u119 u120 u121 u122 u123 u124 u125 u126 u127 u128 u129 u130 u131 u132 u133 u134 u135 u136 u137 u138 u139 u140 u141 u142 u143 u144 u145 u146 u147 u148 u149 u150 u151 u152 u153 u154 u155 u156 u157 u158 u159 u160 u161 u162 u163 u164 u165 u166 u167 u168 u169 u170 u171 u172 u173 u174 u175 u176 u177 u178 u179 u180 u181 v : Value) (s : ByteArray) (q : Int) (w wr : World) (r : Option (List UInt8 × Nat)) (k : Nat) (g : List UInt8) (c : UInt8) (hs : s.size ≤ 4000) (hlt : k < s.size) (hc : s[k] = c) (hgl : g.length ≤ k)
    (HDK : Hid (s.data.toList.drop k = c :: s.data.toList.drop (k + 1))) (hown : Hid (wr.ownsRow w.heap.size 5 1 v g.length (bc g))) (HG : Hid (getF q ((s.data.toList.drop k).length + 1) (s.data.toList.drop k) g k = r)) (hbl : Hid (Below w.heap.size w wr))
    (hq : ((c.toNat : Int) == q) = false) (h10 : ((c.toNat : Int) == 10) = false) (h92 : ((c.toNat : Int) != 92) = false) (hend : k + 1 < s.size) (e : UInt8) (hx : s[k + 1] = e) (he : e = 120) (hend2 : s.size ≤ k + 2) (o : Option (UInt8 × Nat)) (NU : Hid (∀ w, Calls Tryd.prog 64 #[.string (s.extract (k + 2) s.size), .int .i64 16] w fun e1 w' => e1 = numQ o ∧ w' = w)) (ho : o = none) (hp : Hid (r = none))
    (Kn : Act → World → Prop) (Q : Exit → Act → World → Prop) (HK : Hid (∀ a' w'', WI w s q r a' w'' → s.size - (intOf (a'.tmps.getD 8 undef)).toNat < s.size - k → Kn a' w'')) (HQ : Hid (∀ a' w'', bodyPost Tryd.prog Tryd.f45 (GetPost w r) Exit.ret a' w'' → Q Exit.ret a' w'')) :
    Code.wp Tryd.prog ((Tryd.f45.body.bind firstLoop).getD .skip) (Exit.then Kn Q) ⟨#[.string s, .int .u8 q, undef, undef, u4, u5, u6, v, .int .i64 k, u9, u10, u11, u12, u13, u14, u15, u16, u17, u18, u19, u20, u21, u22, u23, u24, u25, u26, u27, u28, u29, u30, u31, u32, u33, u34, u35, u36, u37, u38, u39, u40, u41, u42, u43, u44, u45, u46, u47, u48, u49, u50, u51, u52, u53, u54, u55, u56, u57, u58, u59, u60, u61, u62, u63, u64, u65, u66, u67, u68, u69, u70, u71, u72, u73, u74, u75, u76, u77, u78, u79, u80, u81, u82, u83, u84, u85, u86, u87, u88, u89, u90, u91, u92, u93, u94, u95, u96, u97, u98, u99, u100, u101, u102, u103, u104, u105, u106, u107, u108, u109, u110, u111, u112, u113, u114, u115, u116, u117, u118, u119, u120, u121, u122, u123, u124, u125, u126, u127, u128, u129, u130, u131, u132, u133, u134, u135, u136, u137, u138, u139, u140, u141, u142, u143, u144, u145, u146, u147, u148, u149, u150, u151, u152, u153, u154, u155, u156, u157, u158, u159, u160, u161, u162, u163, u164, u165, u166, u167, u168, u169, u170, u171, u172, u173, u174, u175, u176, u177, u178, u179, u180, u181], []⟩ wr := by
  obtain ⟨i0, hi, hz0, hz1, hz2⟩ := info_parts byteInfo
  have hc0 : (0 : Int) ≤ (c.toNat : Int) := by omega
  have hc1 : (c.toNat : Int) ≤ 255 := by have := c.toNat_lt; omega
  conv => arg 2; whnf
  subst ho
  obtain rfl : e = 120 := he
  have cx0 : (ByteArray.mk #[110, 114, 116, 97, 98, 102, 118, 48])[0]'(by decide) = 110 := rfl
  have cx1 : (ByteArray.mk #[110, 114, 116, 97, 98, 102, 118, 48])[1]'(by decide) = 114 := rfl
  have cx2 : (ByteArray.mk #[110, 114, 116, 97, 98, 102, 118, 48])[2]'(by decide) = 116 := rfl
  have cx3 : (ByteArray.mk #[110, 114, 116, 97, 98, 102, 118, 48])[3]'(by decide) = 97 := rfl
  have cx4 : (ByteArray.mk #[110, 114, 116, 97, 98, 102, 118, 48])[4]'(by decide) = 98 := rfl
  have cx5 : (ByteArray.mk #[110, 114, 116, 97, 98, 102, 118, 48])[5]'(by decide) = 102 := rfl
  have cx6 : (ByteArray.mk #[110, 114, 116, 97, 98, 102, 118, 48])[6]'(by decide) = 118 := rfl
  have cx7 : (ByteArray.mk #[110, 114, 116, 97, 98, 102, 118, 48])[7]'(by decide) = 48 := rfl
  go_wp2_with fail
  refine wp_loop_rounds 9 ?_
  rw [rounds_succ]
  go_wp2_with fail
  rw [rounds_succ]
  go_wp2_with fail
  rw [rounds_succ]
  go_wp2_with fail
  rw [rounds_succ]
  go_wp2_with fail
  rw [rounds_succ]
  go_wp2_with fail
  rw [rounds_succ]
  go_wp2_with fail
  rw [rounds_succ]
  go_wp2_with fail
  rw [rounds_succ]
  go_wp2_with fail
  rw [rounds_succ]
  go_wp2_with (first | (go_at_call 64; refine (NU.out _).mono ?_; rintro e5 w5 ⟨he5, hw⟩; obtain rfl := hw.symm; clear hw; have he6 : e5 = .returned (.tuple #[.int .i64 (-1), .int .i64 0]) := he5; subst he6; clear he5))
  refine HQ.out _ _ ?_
  go_ret3
  cases hp.out
  exact ⟨rfl, hbl.out⟩

set_option linter.unusedVariables false in
set_option maxHeartbeats 4000000 in
set_option maxRecDepth 1000000 in
theorem ve_x_yesN (u4 u5 u6 u9 u10 u11 u12 u13 u14 u15 u16 u17 u18 u19 u20 u21 u22 u23 u24 u25 u26 u27 u28 u29 u30 u31 u32 u33 u34 u35 u36 u37 u38 u39 u40 u41 u42 u43 u44 u45 u46 u47 u48 u49 u50 u51 u52 u53 u54 u55 u56 u57 u58 u59 u60 u61 u62 u63 u64 u65 u66 u67 u68 u69 u70 u71 u72 u73 u74 u75 u76 u77 u78 u79 u80 u81 u82 u83 u84 u85 u86 u87 u88 u89 u90 u91 u92 u93 u94 u95 u96 u97 u98 u99 u100 u101 u102 u103 u104 u105 u106 u107 u108 u109 u110 u111 u112 u113 u114 u115 u116 u117 u118 u119 u120 u121 u122 u123 u124 u125 u126 u127 u128 u129 u130 u131 u132 u133 u134 u135 u136 u137 u138 u139 u140 u141 u142 u143 u144 u145 u146 u147 u148 u149 u150 u151 u152 u153 u154 u155 u156 u157 u158 u159 u160 u161 u162 u163 u164 u165 u166 u167 u168 u169 u170 u171 u172 u173 u174 u175 u176 u177 u178 u179 u180 u181 v : Value) (s : ByteArray) (q : Int) (w wr : World) (r : Option (List UInt8 × Nat)) (k : Nat) (g : List UInt8) (c : UInt8) (hs : s.size ≤ 4000) (hlt : k < s.size) (hc : s[k] = c) (hgl : g.length ≤ k)
    (HDK : Hid (s.data.toList.drop k = c :: s.data.toList.drop (k + 1))) (hown : Hid (wr.ownsRow w.heap.size 5 1 v g.length (bc g))) (HG : Hid (getF q ((s.data.toList.drop k).length + 1) (s.data.toList.drop k) g k = r)) (hbl : Hid (Below w.heap.size w wr))
    (hq : ((c.toNat : Int) == q) = false) (h10 : ((c.toNat : Int) == 10) = false) (h92 : ((c.toNat : Int) != 92) = false) (hend : k + 1 < s.size) (e : UInt8) (hx : s[k + 1] = e) (he : e = 120) (hend2 : s.size ≤ k + 2) (o : Option (UInt8 × Nat)) (NU : Hid (∀ w, Calls Tryd.prog 64 #[.string (s.extract (k + 2) s.size), .int .i64 16] w fun e1 w' => e1 = numQ o ∧ w' = w)) (b : UInt8) (m : Nat) (ho : o = some (b, m)) (hm : 1 ≤ m) (hm2 : m ≤ s.size - (k + 2)) (ST : Hid (stepF q (s.data.toList.drop k) = .go [b] (2 + m)))
    (Kn : Act → World → Prop) (Q : Exit → Act → World → Prop) (HK : Hid (∀ a' w'', WI w s q r a' w'' → s.size - (intOf (a'.tmps.getD 8 undef)).toNat < s.size - k → Kn a' w'')) (HQ : Hid (∀ a' w'', bodyPost Tryd.prog Tryd.f45 (GetPost w r) Exit.ret a' w'' → Q Exit.ret a' w'')) :
    Code.wp Tryd.prog ((Tryd.f45.body.bind firstLoop).getD .skip) (Exit.then Kn Q) ⟨#[.string s, .int .u8 q, undef, undef, u4, u5, u6, v, .int .i64 k, u9, u10, u11, u12, u13, u14, u15, u16, u17, u18, u19, u20, u21, u22, u23, u24, u25, u26, u27, u28, u29, u30, u31, u32, u33, u34, u35, u36, u37, u38, u39, u40, u41, u42, u43, u44, u45, u46, u47, u48, u49, u50, u51, u52, u53, u54, u55, u56, u57, u58, u59, u60, u61, u62, u63, u64, u65, u66, u67, u68, u69, u70, u71, u72, u73, u74, u75, u76, u77, u78, u79, u80, u81, u82, u83, u84, u85, u86, u87, u88, u89, u90, u91, u92, u93, u94, u95, u96, u97, u98, u99, u100, u101, u102, u103, u104, u105, u106, u107, u108, u109, u110, u111, u112, u113, u114, u115, u116, u117, u118, u119, u120, u121, u122, u123, u124, u125, u126, u127, u128, u129, u130, u131, u132, u133, u134, u135, u136, u137, u138, u139, u140, u141, u142, u143, u144, u145, u146, u147, u148, u149, u150, u151, u152, u153, u154, u155, u156, u157, u158, u159, u160, u161, u162, u163, u164, u165, u166, u167, u168, u169, u170, u171, u172, u173, u174, u175, u176, u177, u178, u179, u180, u181], []⟩ wr := by
  obtain ⟨i0, hi, hz0, hz1, hz2⟩ := info_parts byteInfo
  have hc0 : (0 : Int) ≤ (c.toNat : Int) := by omega
  have hc1 : (c.toNat : Int) ≤ 255 := by have := c.toNat_lt; omega
  conv => arg 2; whnf
  exfalso
  omega

set_option linter.unusedVariables false in
set_option maxHeartbeats 4000000 in
set_option maxRecDepth 1000000 in
theorem ve_o_noN (u4 u5 u6 u9 u10 u11 u12 u13 u14 u15 u16 u17 u18 u19 u20 u21 u22 u23 u24 u25 u26 u27 u28 u29 u30 u31 u32 u33 u34 u35 u36 u37 u38 u39 u40 u41 u42 u43 u44 u45 u46 u47 u48 u49 u50 u51 u52 u53 u54 u55 u56 u57 u58 u59 u60 u61 u62 u63 u64 u65 u66 u67 u68 u69 u70 u71 u72 u73 u74 u75 u76 u77 u78 u79 u80 u81 u82 u83 u84 u85 u86 u87 u88 u89 u90 u91 u92 u93 u94 u95 u96 u97 u98 u99 u100 u101 u102 u103 u104 u105 u106 u107 u108 u109 u110 u111 u112 u113 u114 u115 u116 u117 u118 u119 u120 u121 u122 u123 u124 u125 u126 u127 u128 u129 u130 u131 u132 u133 u134 u135 u136 u137 u138 u139 u140 u141 u142 u143 u144 u145 u146 u147 u148 u149 u150 u151 u152 u153 u154 u155 u156 u157 u158 u159 u160 u161 u162 u163 u164 u165 u166 u167 u168 u169 u170 u171 u172 u173 u174 u175 u176 u177 u178 u179 u180 u181 v : Value) (s : ByteArray) (q : Int) (w wr : World) (r : Option (List UInt8 × Nat)) (k : Nat) (g : List UInt8) (c : UInt8) (hs : s.size ≤ 4000) (hlt : k < s.size) (hc : s[k] = c) (hgl : g.length ≤ k)
    (HDK : Hid (s.data.toList.drop k = c :: s.data.toList.drop (k + 1))) (hown : Hid (wr.ownsRow w.heap.size 5 1 v g.length (bc g))) (HG : Hid (getF q ((s.data.toList.drop k).length + 1) (s.data.toList.drop k) g k = r)) (hbl : Hid (Below w.heap.size w wr))
    (hq : ((c.toNat : Int) == q) = false) (h10 : ((c.toNat : Int) == 10) = false) (h92 : ((c.toNat : Int) != 92) = false) (hend : k + 1 < s.size) (e : UInt8) (hx : s[k + 1] = e) (f110 : ((e.toNat : Int) == 110) = false) (f114 : ((e.toNat : Int) == 114) = false) (f116 : ((e.toNat : Int) == 116) = false) (f97 : ((e.toNat : Int) == 97) = false) (f98 : ((e.toNat : Int) == 98) = false) (f102 : ((e.toNat : Int) == 102) = false) (f118 : ((e.toNat : Int) == 118) = false) (f48 : ((e.toNat : Int) == 48) = false) (f92 : ((e.toNat : Int) == 92) = false) (f39 : ((e.toNat : Int) == 39) = false) (f34 : ((e.toNat : Int) == 34) = false) (f96 : ((e.toNat : Int) == 96) = false) (f10 : ((e.toNat : Int) == 10) = false) (f120 : ((e.toNat : Int) == 120) = false) (D : Int) (D8 : Hid (∀ w, Calls Tryd.prog 63 #[.int .u8 (e.toNat : Int), .int .i64 8] w fun e1 w' => e1 = .returned (.int .i64 D) ∧ w' = w)) (hD : 0 ≤ D) (hD2 : D ≤ 7) (hend2 : s.size ≤ k + 2) (o : Option (UInt8 × Nat)) (NU : Hid (∀ w, Calls Tryd.prog 64 #[.string (s.extract (k + 1) s.size), .int .i64 8] w fun e1 w' => e1 = numQ o ∧ w' = w)) (ho : o = none) (hp : Hid (r = none))
    (Kn : Act → World → Prop) (Q : Exit → Act → World → Prop) (HK : Hid (∀ a' w'', WI w s q r a' w'' → s.size - (intOf (a'.tmps.getD 8 undef)).toNat < s.size - k → Kn a' w'')) (HQ : Hid (∀ a' w'', bodyPost Tryd.prog Tryd.f45 (GetPost w r) Exit.ret a' w'' → Q Exit.ret a' w'')) :
    Code.wp Tryd.prog ((Tryd.f45.body.bind firstLoop).getD .skip) (Exit.then Kn Q) ⟨#[.string s, .int .u8 q, undef, undef, u4, u5, u6, v, .int .i64 k, u9, u10, u11, u12, u13, u14, u15, u16, u17, u18, u19, u20, u21, u22, u23, u24, u25, u26, u27, u28, u29, u30, u31, u32, u33, u34, u35, u36, u37, u38, u39, u40, u41, u42, u43, u44, u45, u46, u47, u48, u49, u50, u51, u52, u53, u54, u55, u56, u57, u58, u59, u60, u61, u62, u63, u64, u65, u66, u67, u68, u69, u70, u71, u72, u73, u74, u75, u76, u77, u78, u79, u80, u81, u82, u83, u84, u85, u86, u87, u88, u89, u90, u91, u92, u93, u94, u95, u96, u97, u98, u99, u100, u101, u102, u103, u104, u105, u106, u107, u108, u109, u110, u111, u112, u113, u114, u115, u116, u117, u118, u119, u120, u121, u122, u123, u124, u125, u126, u127, u128, u129, u130, u131, u132, u133, u134, u135, u136, u137, u138, u139, u140, u141, u142, u143, u144, u145, u146, u147, u148, u149, u150, u151, u152, u153, u154, u155, u156, u157, u158, u159, u160, u161, u162, u163, u164, u165, u166, u167, u168, u169, u170, u171, u172, u173, u174, u175, u176, u177, u178, u179, u180, u181], []⟩ wr := by
  obtain ⟨i0, hi, hz0, hz1, hz2⟩ := info_parts byteInfo
  have hc0 : (0 : Int) ≤ (c.toNat : Int) := by omega
  have hc1 : (c.toNat : Int) ≤ 255 := by have := c.toNat_lt; omega
  conv => arg 2; whnf
  subst ho
  have q0 : (0 : Int) ≤ (e.toNat : Int) := by omega
  have q1 : (e.toNat : Int) ≤ 255 := by have := e.toNat_lt; omega
  have cx0 : (ByteArray.mk #[110, 114, 116, 97, 98, 102, 118, 48])[0]'(by decide) = 110 := rfl
  have cx1 : (ByteArray.mk #[110, 114, 116, 97, 98, 102, 118, 48])[1]'(by decide) = 114 := rfl
  have cx2 : (ByteArray.mk #[110, 114, 116, 97, 98, 102, 118, 48])[2]'(by decide) = 116 := rfl
  have cx3 : (ByteArray.mk #[110, 114, 116, 97, 98, 102, 118, 48])[3]'(by decide) = 97 := rfl
  have cx4 : (ByteArray.mk #[110, 114, 116, 97, 98, 102, 118, 48])[4]'(by decide) = 98 := rfl
  have cx5 : (ByteArray.mk #[110, 114, 116, 97, 98, 102, 118, 48])[5]'(by decide) = 102 := rfl
  have cx6 : (ByteArray.mk #[110, 114, 116, 97, 98, 102, 118, 48])[6]'(by decide) = 118 := rfl
  have cx7 : (ByteArray.mk #[110, 114, 116, 97, 98, 102, 118, 48])[7]'(by decide) = 48 := rfl
  go_wp2_with fail
  refine wp_loop_rounds 9 ?_
  rw [rounds_succ]
  go_wp2_with fail
  rw [rounds_succ]
  go_wp2_with fail
  rw [rounds_succ]
  go_wp2_with fail
  rw [rounds_succ]
  go_wp2_with fail
  rw [rounds_succ]
  go_wp2_with fail
  rw [rounds_succ]
  go_wp2_with fail
  rw [rounds_succ]
  go_wp2_with fail
  rw [rounds_succ]
  go_wp2_with fail
  rw [rounds_succ]
  go_wp2_with (first | (go_at_call_of 63 (Value.int IntKind.u8 (e.toNat : Int)); refine (D8.out _).mono ?_; rintro e5 w5 ⟨rfl, hw⟩; obtain rfl := hw.symm; clear hw) | (go_at_call 64; refine (NU.out _).mono ?_; rintro e5 w5 ⟨he5, hw⟩; obtain rfl := hw.symm; clear hw; have he6 : e5 = .returned (.tuple #[.int .i64 (-1), .int .i64 0]) := he5; subst he6; clear he5))
  refine HQ.out _ _ ?_
  go_ret3
  cases hp.out
  exact ⟨rfl, hbl.out⟩

set_option linter.unusedVariables false in
set_option maxHeartbeats 4000000 in
set_option maxRecDepth 1000000 in
theorem ve_o_yesN (u4 u5 u6 u9 u10 u11 u12 u13 u14 u15 u16 u17 u18 u19 u20 u21 u22 u23 u24 u25 u26 u27 u28 u29 u30 u31 u32 u33 u34 u35 u36 u37 u38 u39 u40 u41 u42 u43 u44 u45 u46 u47 u48 u49 u50 u51 u52 u53 u54 u55 u56 u57 u58 u59 u60 u61 u62 u63 u64 u65 u66 u67 u68 u69 u70 u71 u72 u73 u74 u75 u76 u77 u78 u79 u80 u81 u82 u83 u84 u85 u86 u87 u88 u89 u90 u91 u92 u93 u94 u95 u96 u97 u98 u99 u100 u101 u102 u103 u104 u105 u106 u107 u108 u109 u110 u111 u112 u113 u114 u115 u116 u117 u118 u119 u120 u121 u122 u123 u124 u125 u126 u127 u128 u129 u130 u131 u132 u133 u134 u135 u136 u137 u138 u139 u140 u141 u142 u143 u144 u145 u146 u147 u148 u149 u150 u151 u152 u153 u154 u155 u156 u157 u158 u159 u160 u161 u162 u163 u164 u165 u166 u167 u168 u169 u170 u171 u172 u173 u174 u175 u176 u177 u178 u179 u180 u181 v : Value) (s : ByteArray) (q : Int) (w wr : World) (r : Option (List UInt8 × Nat)) (k : Nat) (g : List UInt8) (c : UInt8) (hs : s.size ≤ 4000) (hlt : k < s.size) (hc : s[k] = c) (hgl : g.length ≤ k)
    (HDK : Hid (s.data.toList.drop k = c :: s.data.toList.drop (k + 1))) (hown : Hid (wr.ownsRow w.heap.size 5 1 v g.length (bc g))) (HG : Hid (getF q ((s.data.toList.drop k).length + 1) (s.data.toList.drop k) g k = r)) (hbl : Hid (Below w.heap.size w wr))
    (hq : ((c.toNat : Int) == q) = false) (h10 : ((c.toNat : Int) == 10) = false) (h92 : ((c.toNat : Int) != 92) = false) (hend : k + 1 < s.size) (e : UInt8) (hx : s[k + 1] = e) (f110 : ((e.toNat : Int) == 110) = false) (f114 : ((e.toNat : Int) == 114) = false) (f116 : ((e.toNat : Int) == 116) = false) (f97 : ((e.toNat : Int) == 97) = false) (f98 : ((e.toNat : Int) == 98) = false) (f102 : ((e.toNat : Int) == 102) = false) (f118 : ((e.toNat : Int) == 118) = false) (f48 : ((e.toNat : Int) == 48) = false) (f92 : ((e.toNat : Int) == 92) = false) (f39 : ((e.toNat : Int) == 39) = false) (f34 : ((e.toNat : Int) == 34) = false) (f96 : ((e.toNat : Int) == 96) = false) (f10 : ((e.toNat : Int) == 10) = false) (f120 : ((e.toNat : Int) == 120) = false) (D : Int) (D8 : Hid (∀ w, Calls Tryd.prog 63 #[.int .u8 (e.toNat : Int), .int .i64 8] w fun e1 w' => e1 = .returned (.int .i64 D) ∧ w' = w)) (hD : 0 ≤ D) (hD2 : D ≤ 7) (hend2 : s.size ≤ k + 2) (o : Option (UInt8 × Nat)) (NU : Hid (∀ w, Calls Tryd.prog 64 #[.string (s.extract (k + 1) s.size), .int .i64 8] w fun e1 w' => e1 = numQ o ∧ w' = w)) (b : UInt8) (m : Nat) (ho : o = some (b, m)) (hm : 1 ≤ m) (hm2 : m ≤ s.size - (k + 1)) (ST : Hid (stepF q (s.data.toList.drop k) = .go [b] (1 + m)))
    (Kn : Act → World → Prop) (Q : Exit → Act → World → Prop) (HK : Hid (∀ a' w'', WI w s q r a' w'' → s.size - (intOf (a'.tmps.getD 8 undef)).toNat < s.size - k → Kn a' w'')) (HQ : Hid (∀ a' w'', bodyPost Tryd.prog Tryd.f45 (GetPost w r) Exit.ret a' w'' → Q Exit.ret a' w'')) :
    Code.wp Tryd.prog ((Tryd.f45.body.bind firstLoop).getD .skip) (Exit.then Kn Q) ⟨#[.string s, .int .u8 q, undef, undef, u4, u5, u6, v, .int .i64 k, u9, u10, u11, u12, u13, u14, u15, u16, u17, u18, u19, u20, u21, u22, u23, u24, u25, u26, u27, u28, u29, u30, u31, u32, u33, u34, u35, u36, u37, u38, u39, u40, u41, u42, u43, u44, u45, u46, u47, u48, u49, u50, u51, u52, u53, u54, u55, u56, u57, u58, u59, u60, u61, u62, u63, u64, u65, u66, u67, u68, u69, u70, u71, u72, u73, u74, u75, u76, u77, u78, u79, u80, u81, u82, u83, u84, u85, u86, u87, u88, u89, u90, u91, u92, u93, u94, u95, u96, u97, u98, u99, u100, u101, u102, u103, u104, u105, u106, u107, u108, u109, u110, u111, u112, u113, u114, u115, u116, u117, u118, u119, u120, u121, u122, u123, u124, u125, u126, u127, u128, u129, u130, u131, u132, u133, u134, u135, u136, u137, u138, u139, u140, u141, u142, u143, u144, u145, u146, u147, u148, u149, u150, u151, u152, u153, u154, u155, u156, u157, u158, u159, u160, u161, u162, u163, u164, u165, u166, u167, u168, u169, u170, u171, u172, u173, u174, u175, u176, u177, u178, u179, u180, u181], []⟩ wr := by
  obtain ⟨i0, hi, hz0, hz1, hz2⟩ := info_parts byteInfo
  have hc0 : (0 : Int) ≤ (c.toNat : Int) := by omega
  have hc1 : (c.toNat : Int) ≤ 255 := by have := c.toNat_lt; omega
  conv => arg 2; whnf
  subst ho
  have hb0 : (0 : Int) ≤ (b.toNat : Int) := by omega
  have hb1 : (b.toNat : Int) ≤ 255 := by have := b.toNat_lt; omega
  have hwb : IntKind.u8.wrap (b.toNat : Int) = (b.toNat : Int) := by rw [IntKind.wrap_u8]; omega
  have q0 : (0 : Int) ≤ (e.toNat : Int) := by omega
  have q1 : (e.toNat : Int) ≤ 255 := by have := e.toNat_lt; omega
  have cx0 : (ByteArray.mk #[110, 114, 116, 97, 98, 102, 118, 48])[0]'(by decide) = 110 := rfl
  have cx1 : (ByteArray.mk #[110, 114, 116, 97, 98, 102, 118, 48])[1]'(by decide) = 114 := rfl
  have cx2 : (ByteArray.mk #[110, 114, 116, 97, 98, 102, 118, 48])[2]'(by decide) = 116 := rfl
  have cx3 : (ByteArray.mk #[110, 114, 116, 97, 98, 102, 118, 48])[3]'(by decide) = 97 := rfl
  have cx4 : (ByteArray.mk #[110, 114, 116, 97, 98, 102, 118, 48])[4]'(by decide) = 98 := rfl
  have cx5 : (ByteArray.mk #[110, 114, 116, 97, 98, 102, 118, 48])[5]'(by decide) = 102 := rfl
  have cx6 : (ByteArray.mk #[110, 114, 116, 97, 98, 102, 118, 48])[6]'(by decide) = 118 := rfl
  have cx7 : (ByteArray.mk #[110, 114, 116, 97, 98, 102, 118, 48])[7]'(by decide) = 48 := rfl
  go_wp2_with fail
  refine wp_loop_rounds 9 ?_
  rw [rounds_succ]
  go_wp2_with fail
  rw [rounds_succ]
  go_wp2_with fail
  rw [rounds_succ]
  go_wp2_with fail
  rw [rounds_succ]
  go_wp2_with fail
  rw [rounds_succ]
  go_wp2_with fail
  rw [rounds_succ]
  go_wp2_with fail
  rw [rounds_succ]
  go_wp2_with fail
  rw [rounds_succ]
  go_wp2_with fail
  rw [rounds_succ]
  go_wp2_with (first | (go_at_call_of 63 (Value.int IntKind.u8 (e.toNat : Int)); refine (D8.out _).mono ?_; rintro e5 w5 ⟨rfl, hw⟩; obtain rfl := hw.symm; clear hw) | (go_at_call 64; refine (NU.out _).mono ?_; rintro e5 w5 ⟨he5, hw⟩; obtain rfl := hw.symm; clear hw; have he6 : e5 = .returned (.tuple #[.int .i64 (b.toNat : Int), .int .i64 (m : Int)]) := he5; subst he6; clear he5) | (at_builtin; refine wpList_append_own _ rfl (.tmp 140) (.tmp 143) 38 rfl w.heap.size 5 i0 (.int .u8 0) 1 1 Tryd.underlying38 hi hz0 hz1 hz2 rfl (by decide) _ _ _ rfl (hown.out.alloc _) ⟨wr.heap.size, 0, none⟩ 1 1 [.int .u8 (b.toNat : Int)] rfl rfl (cell_one_new _ _ _) one_1 ?_ ?_ ?_ ?_))
  · unfold maxLen; omega
  · omega
  · have := hbl.out.size; simp; omega
  intro v3 w3 hown3 hg3 _
  have HO3 := Lib.hid (own_more (X := g ++ [b]) (N := [b]) hown3 rfl rfl (bc_back b))
  have hb3 := Lib.hid (below_app hbl.out (Nat.le_refl _) hown.out hg3)
  clear hown3 hg3 hown hbl
  go_wp2_with fail
  refine HK.out _ _ ⟨_, _, _, _, _, _, _, _, _, _, _, _, _, _, _, _, _, _, _, _, _, _, _, _, _, _, _, _, _, _, _, _, _, _, _, _, _, _, _, _, _, _, _, _, _, _, _, _, _, _, _, _, _, _, _, _, _, _, _, _, _, _, _, _, _, _, _, _, _, _, _, _, _, _, _, _, _, _, _, _, _, _, _, _, _, _, _, _, _, _, _, _, _, _, _, _, _, _, _, _, _, _, _, _, _, _, _, _, _, _, _, _, _, _, _, _, _, _, _, _, _, _, _, _, _, _, _, _, _, _, _, _, _, _, _, _, _, _, _, _, _, _, _, _, _, _, _, _, _, _, _, _, _, _, _, _, _, _, _, _, _, _, _, _, _, _, _, _, _, _, _, _, _, _, _, _, _, _, RGet.mk (k := k + (1 + m)) (by omega) (by first | rfl | go_num | (congr 1; omega)) HO3.out (by simp; omega) (get_on HG.out ST.out) hb3.out, rfl⟩ ?_
  simp [intOf]
  omega

set_option linter.unusedVariables false in
set_option maxHeartbeats 4000000 in
set_option maxRecDepth 1000000 in
theorem ve_noneN (u4 u5 u6 u9 u10 u11 u12 u13 u14 u15 u16 u17 u18 u19 u20 u21 u22 u23 u24 u25 u26 u27 u28 u29 u30 u31 u32 u33 u34 u35 u36 u37 u38 u39 u40 u41 u42 u43 u44 u45 u46 u47 u48 u49 u50 u51 u52 u53 u54 u55 u56 u57 u58 u59 u60 u61 u62 u63 u64 u65 u66 u67 u68 u69 u70 u71 u72 u73 u74 u75 u76 u77 u78 u79 u80 u81 u82 u83 u84 u85 u86 u87 u88 u89 u90 u91 u92 u93 u94 u95 u96 u97 u98 u99 u100 u101 u102 u103 u104 u105 u106 u107 u108 u109 u110 u111 u112 u113 u114 u115 u116 u117 u118 u119 u120 u121 u122 u123 u124 u125 u126 u127 u128 u129 u130 u131 u132 u133 u134 u135 u136 u137 u138 u139 u140 u141 u142 u143 u144 u145 u146 u147 u148 u149 u150 u151 u152 u153 u154 u155 u156 u157 u158 u159 u160 u161 u162 u163 u164 u165 u166 u167 u168 u169 u170 u171 u172 u173 u174 u175 u176 u177 u178 u179 u180 u181 v : Value) (s : ByteArray) (q : Int) (w wr : World) (r : Option (List UInt8 × Nat)) (k : Nat) (g : List UInt8) (c : UInt8) (hs : s.size ≤ 4000) (hlt : k < s.size) (hc : s[k] = c) (hgl : g.length ≤ k)
    (HDK : Hid (s.data.toList.drop k = c :: s.data.toList.drop (k + 1))) (hown : Hid (wr.ownsRow w.heap.size 5 1 v g.length (bc g))) (HG : Hid (getF q ((s.data.toList.drop k).length + 1) (s.data.toList.drop k) g k = r)) (hbl : Hid (Below w.heap.size w wr))
    (hq : ((c.toNat : Int) == q) = false) (h10 : ((c.toNat : Int) == 10) = false) (h92 : ((c.toNat : Int) != 92) = false) (hend : k + 1 < s.size) (e : UInt8) (hx : s[k + 1] = e) (f110 : ((e.toNat : Int) == 110) = false) (f114 : ((e.toNat : Int) == 114) = false) (f116 : ((e.toNat : Int) == 116) = false) (f97 : ((e.toNat : Int) == 97) = false) (f98 : ((e.toNat : Int) == 98) = false) (f102 : ((e.toNat : Int) == 102) = false) (f118 : ((e.toNat : Int) == 118) = false) (f48 : ((e.toNat : Int) == 48) = false) (f92 : ((e.toNat : Int) == 92) = false) (f39 : ((e.toNat : Int) == 39) = false) (f34 : ((e.toNat : Int) == 34) = false) (f96 : ((e.toNat : Int) == 96) = false) (f10 : ((e.toNat : Int) == 10) = false) (f120 : ((e.toNat : Int) == 120) = false) (D : Int) (D8 : Hid (∀ w, Calls Tryd.prog 63 #[.int .u8 (e.toNat : Int), .int .i64 8] w fun e1 w' => e1 = .returned (.int .i64 D) ∧ w' = w)) (hD : D = -1) (hend2 : s.size ≤ k + 2) (hp : Hid (r = none))
    (Kn : Act → World → Prop) (Q : Exit → Act → World → Prop) (HK : Hid (∀ a' w'', WI w s q r a' w'' → s.size - (intOf (a'.tmps.getD 8 undef)).toNat < s.size - k → Kn a' w'')) (HQ : Hid (∀ a' w'', bodyPost Tryd.prog Tryd.f45 (GetPost w r) Exit.ret a' w'' → Q Exit.ret a' w'')) :
    Code.wp Tryd.prog ((Tryd.f45.body.bind firstLoop).getD .skip) (Exit.then Kn Q) ⟨#[.string s, .int .u8 q, undef, undef, u4, u5, u6, v, .int .i64 k, u9, u10, u11, u12, u13, u14, u15, u16, u17, u18, u19, u20, u21, u22, u23, u24, u25, u26, u27, u28, u29, u30, u31, u32, u33, u34, u35, u36, u37, u38, u39, u40, u41, u42, u43, u44, u45, u46, u47, u48, u49, u50, u51, u52, u53, u54, u55, u56, u57, u58, u59, u60, u61, u62, u63, u64, u65, u66, u67, u68, u69, u70, u71, u72, u73, u74, u75, u76, u77, u78, u79, u80, u81, u82, u83, u84, u85, u86, u87, u88, u89, u90, u91, u92, u93, u94, u95, u96, u97, u98, u99, u100, u101, u102, u103, u104, u105, u106, u107, u108, u109, u110, u111, u112, u113, u114, u115, u116, u117, u118, u119, u120, u121, u122, u123, u124, u125, u126, u127, u128, u129, u130, u131, u132, u133, u134, u135, u136, u137, u138, u139, u140, u141, u142, u143, u144, u145, u146, u147, u148, u149, u150, u151, u152, u153, u154, u155, u156, u157, u158, u159, u160, u161, u162, u163, u164, u165, u166, u167, u168, u169, u170, u171, u172, u173, u174, u175, u176, u177, u178, u179, u180, u181], []⟩ wr := by
  obtain ⟨i0, hi, hz0, hz1, hz2⟩ := info_parts byteInfo
  have hc0 : (0 : Int) ≤ (c.toNat : Int) := by omega
  have hc1 : (c.toNat : Int) ≤ 255 := by have := c.toNat_lt; omega
  conv => arg 2; whnf
  subst hD
  have q0 : (0 : Int) ≤ (e.toNat : Int) := by omega
  have q1 : (e.toNat : Int) ≤ 255 := by have := e.toNat_lt; omega
  have cx0 : (ByteArray.mk #[110, 114, 116, 97, 98, 102, 118, 48])[0]'(by decide) = 110 := rfl
  have cx1 : (ByteArray.mk #[110, 114, 116, 97, 98, 102, 118, 48])[1]'(by decide) = 114 := rfl
  have cx2 : (ByteArray.mk #[110, 114, 116, 97, 98, 102, 118, 48])[2]'(by decide) = 116 := rfl
  have cx3 : (ByteArray.mk #[110, 114, 116, 97, 98, 102, 118, 48])[3]'(by decide) = 97 := rfl
  have cx4 : (ByteArray.mk #[110, 114, 116, 97, 98, 102, 118, 48])[4]'(by decide) = 98 := rfl
  have cx5 : (ByteArray.mk #[110, 114, 116, 97, 98, 102, 118, 48])[5]'(by decide) = 102 := rfl
  have cx6 : (ByteArray.mk #[110, 114, 116, 97, 98, 102, 118, 48])[6]'(by decide) = 118 := rfl
  have cx7 : (ByteArray.mk #[110, 114, 116, 97, 98, 102, 118, 48])[7]'(by decide) = 48 := rfl
  go_wp2_with fail
  refine wp_loop_rounds 9 ?_
  rw [rounds_succ]
  go_wp2_with fail
  rw [rounds_succ]
  go_wp2_with fail
  rw [rounds_succ]
  go_wp2_with fail
  rw [rounds_succ]
  go_wp2_with fail
  rw [rounds_succ]
  go_wp2_with fail
  rw [rounds_succ]
  go_wp2_with fail
  rw [rounds_succ]
  go_wp2_with fail
  rw [rounds_succ]
  go_wp2_with fail
  rw [rounds_succ]
  go_wp2_with (go_at_call_of 63 (Value.int IntKind.u8 (e.toNat : Int)); refine (D8.out _).mono ?_; rintro e5 w5 ⟨rfl, hw⟩; obtain rfl := hw.symm; clear hw)
  refine HQ.out _ _ ?_
  go_ret3
  cases hp.out
  exact ⟨rfl, hbl.out⟩

set_option linter.unusedVariables false in
set_option maxHeartbeats 4000000 in
set_option maxRecDepth 1000000 in
theorem ve_x_noS (u4 u5 u6 u9 u10 u11 u12 u13 u14 u15 u16 u17 u18 u19 u20 u21 u22 u23 u24 u25 u26 u27 u28 u29 u30 u31 u32 u33 u34 u35 u36 u37 u38 u39 u40 u41 u42 u43 u44 u45 u46 u47 u48 u49 u50 u51 u52 u53 u54 u55 u56 u57 u58 u59 u60 u61 u62 u63 u64 u65 u66 u67 u68 u69 u70 u71 u72 u73 u74 u75 u76 u77 u78 u79 u80 u81 u82 u83 u84 u85 u86 u87 u88 u89 u90 u91 u92 u93 u94 u95 u96 u97 u98 u99 u100 u101 u102 u103 u104 u105 u106 u107 u108 u109 u110 u111 u112 u113 u114 u115 u116 u117 u118 u119 u120 u121 u122 u123 u124 u125 u126 u127 u128 u129 u130 u131 u132 u133 u134 u135 u136 u137 u138 u139 u140 u141 u142 u143 u144 u145 u146 u147 u148 u149 u150 u151 u152 u153 u154 u155 u156 u157 u158 u159 u160 u161 u162 u163 u164 u165 u166 u167 u168 u169 u170 u171 u172 u173 u174 u175 u176 u177 u178 u179 u180 u181 v : Value) (s : ByteArray) (q : Int) (w wr : World) (r : Option (List UInt8 × Nat)) (k : Nat) (g : List UInt8) (c : UInt8) (hs : s.size ≤ 4000) (hlt : k < s.size) (hc : s[k] = c) (hgl : g.length ≤ k)
    (HDK : Hid (s.data.toList.drop k = c :: s.data.toList.drop (k + 1))) (hown : Hid (wr.ownsRow w.heap.size 5 1 v g.length (bc g))) (HG : Hid (getF q ((s.data.toList.drop k).length + 1) (s.data.toList.drop k) g k = r)) (hbl : Hid (Below w.heap.size w wr))
    (hq : ((c.toNat : Int) == q) = false) (h10 : ((c.toNat : Int) == 10) = false) (h92 : ((c.toNat : Int) != 92) = false) (hend : k + 1 < s.size) (e : UInt8) (hx : s[k + 1] = e) (he : e = 120) (hend2 : k + 2 < s.size) (y : UInt8) (hy : s[k + 2] = y) (V : Int) (DY : Hid (∀ w, Calls Tryd.prog 63 #[.int .u8 (y.toNat : Int), .int .i64 8] w fun e1 w' => e1 = .returned (.int .i64 V) ∧ w' = w)) (o : Option (UInt8 × Nat)) (NU : Hid (∀ w, Calls Tryd.prog 64 #[.string (s.extract (k + 2) s.size), .int .i64 16] w fun e1 w' => e1 = numQ o ∧ w' = w)) (ho : o = none) (hp : Hid (r = none))
    (Kn : Act → World → Prop) (Q : Exit → Act → World → Prop) (HK : Hid (∀ a' w'', WI w s q r a' w'' → s.size - (intOf (a'.tmps.getD 8 undef)).toNat < s.size - k → Kn a' w'')) (HQ : Hid (∀ a' w'', bodyPost Tryd.prog Tryd.f45 (GetPost w r) Exit.ret a' w'' → Q Exit.ret a' w'')) :
    Code.wp Tryd.prog ((Tryd.f45.body.bind firstLoop).getD .skip) (Exit.then Kn Q) ⟨#[.string s, .int .u8 q, undef, undef, u4, u5, u6, v, .int .i64 k, u9, u10, u11, u12, u13, u14, u15, u16, u17, u18, u19, u20, u21, u22, u23, u24, u25, u26, u27, u28, u29, u30, u31, u32, u33, u34, u35, u36, u37, u38, u39, u40, u41, u42, u43, u44, u45, u46, u47, u48, u49, u50, u51, u52, u53, u54, u55, u56, u57, u58, u59, u60, u61, u62, u63, u64, u65, u66, u67, u68, u69, u70, u71, u72, u73, u74, u75, u76, u77, u78, u79, u80, u81, u82, u83, u84, u85, u86, u87, u88, u89, u90, u91, u92, u93, u94, u95, u96, u97, u98, u99, u100, u101, u102, u103, u104, u105, u106, u107, u108, u109, u110, u111, u112, u113, u114, u115, u116, u117, u118, u119, u120, u121, u122, u123, u124, u125, u126, u127, u128, u129, u130, u131, u132, u133, u134, u135, u136, u137, u138, u139, u140, u141, u142, u143, u144, u145, u146, u147, u148, u149, u150, u151, u152, u153, u154, u155, u156, u157, u158, u159, u160, u161, u162, u163, u164, u165, u166, u167, u168, u169, u170, u171, u172, u173, u174, u175, u176, u177, u178, u179, u180, u181], []⟩ wr := by
  obtain ⟨i0, hi, hz0, hz1, hz2⟩ := info_parts byteInfo
  have hc0 : (0 : Int) ≤ (c.toNat : Int) := by omega
  have hc1 : (c.toNat : Int) ≤ 255 := by have := c.toNat_lt; omega
  conv => arg 2; whnf
  subst ho
  obtain rfl : e = 120 := he
  have cx0 : (ByteArray.mk #[110, 114, 116, 97, 98, 102, 118, 48])[0]'(by decide) = 110 := rfl
  have cx1 : (ByteArray.mk #[110, 114, 116, 97, 98, 102, 118, 48])[1]'(by decide) = 114 := rfl
  have cx2 : (ByteArray.mk #[110, 114, 116, 97, 98, 102, 118, 48])[2]'(by decide) = 116 := rfl
  have cx3 : (ByteArray.mk #[110, 114, 116, 97, 98, 102, 118, 48])[3]'(by decide) = 97 := rfl
  have cx4 : (ByteArray.mk #[110, 114, 116, 97, 98, 102, 118, 48])[4]'(by decide) = 98 := rfl
  have cx5 : (ByteArray.mk #[110, 114, 116, 97, 98, 102, 118, 48])[5]'(by decide) = 102 := rfl
  have cx6 : (ByteArray.mk #[110, 114, 116, 97, 98, 102, 118, 48])[6]'(by decide) = 118 := rfl
  have cx7 : (ByteArray.mk #[110, 114, 116, 97, 98, 102, 118, 48])[7]'(by decide) = 48 := rfl
  go_wp2_with (go_at_call_of 63 (Value.int IntKind.u8 (y.toNat : Int)); refine (DY.out _).mono ?_; rintro e5 w5 ⟨rfl, hw⟩; obtain rfl := hw.symm; clear hw)
  refine wp_loop_rounds 9 ?_
  rw [rounds_succ]
  go_wp2_with fail
  rw [rounds_succ]
  go_wp2_with fail
  rw [rounds_succ]
  go_wp2_with fail
  rw [rounds_succ]
  go_wp2_with fail
  rw [rounds_succ]
  go_wp2_with fail
  rw [rounds_succ]
  go_wp2_with fail
  rw [rounds_succ]
  go_wp2_with fail
  rw [rounds_succ]
  go_wp2_with fail
  rw [rounds_succ]
  go_wp2_with (first | (go_at_call 64; refine (NU.out _).mono ?_; rintro e5 w5 ⟨he5, hw⟩; obtain rfl := hw.symm; clear hw; have he6 : e5 = .returned (.tuple #[.int .i64 (-1), .int .i64 0]) := he5; subst he6; clear he5))
  refine HQ.out _ _ ?_
  go_ret3
  cases hp.out
  exact ⟨rfl, hbl.out⟩

set_option linter.unusedVariables false in
set_option maxHeartbeats 4000000 in
set_option maxRecDepth 1000000 in
theorem ve_x_yesS (u4 u5 u6 u9 u10 u11 u12 u13 u14 u15 u16 u17 u18 u19 u20 u21 u22 u23 u24 u25 u26 u27 u28 u29 u30 u31 u32 u33 u34 u35 u36 u37 u38 u39 u40 u41 u42 u43 u44 u45 u46 u47 u48 u49 u50 u51 u52 u53 u54 u55 u56 u57 u58 u59 u60 u61 u62 u63 u64 u65 u66 u67 u68 u69 u70 u71 u72 u73 u74 u75 u76 u77 u78 u79 u80 u81 u82 u83 u84 u85 u86 u87 u88 u89 u90 u91 u92 u93 u94 u95 u96 u97 u98 u99 u100 u101 u102 u103 u104 u105 u106 u107 u108 u109 u110 u111 u112 u113 u114 u115 u116 u117 u118 u119 u120 u121 u122 u123 u124 u125 u126 u127 u128 u129 u130 u131 u132 u133 u134 u135 u136 u137 u138 u139 u140 u141 u142 u143 u144 u145 u146 u147 u148 u149 u150 u151 u152 u153 u154 u155 u156 u157 u158 u159 u160 u161 u162 u163 u164 u165 u166 u167 u168 u169 u170 u171 u172 u173 u174 u175 u176 u177 u178 u179 u180 u181 v : Value) (s : ByteArray) (q : Int) (w wr : World) (r : Option (List UInt8 × Nat)) (k : Nat) (g : List UInt8) (c : UInt8) (hs : s.size ≤ 4000) (hlt : k < s.size) (hc : s[k] = c) (hgl : g.length ≤ k)
    (HDK : Hid (s.data.toList.drop k = c :: s.data.toList.drop (k + 1))) (hown : Hid (wr.ownsRow w.heap.size 5 1 v g.length (bc g))) (HG : Hid (getF q ((s.data.toList.drop k).length + 1) (s.data.toList.drop k) g k = r)) (hbl : Hid (Below w.heap.size w wr))
    (hq : ((c.toNat : Int) == q) = false) (h10 : ((c.toNat : Int) == 10) = false) (h92 : ((c.toNat : Int) != 92) = false) (hend : k + 1 < s.size) (e : UInt8) (hx : s[k + 1] = e) (he : e = 120) (hend2 : k + 2 < s.size) (y : UInt8) (hy : s[k + 2] = y) (V : Int) (DY : Hid (∀ w, Calls Tryd.prog 63 #[.int .u8 (y.toNat : Int), .int .i64 8] w fun e1 w' => e1 = .returned (.int .i64 V) ∧ w' = w)) (o : Option (UInt8 × Nat)) (NU : Hid (∀ w, Calls Tryd.prog 64 #[.string (s.extract (k + 2) s.size), .int .i64 16] w fun e1 w' => e1 = numQ o ∧ w' = w)) (b : UInt8) (m : Nat) (ho : o = some (b, m)) (hm : 1 ≤ m) (hm2 : m ≤ s.size - (k + 2)) (ST : Hid (stepF q (s.data.toList.drop k) = .go [b] (2 + m)))
    (Kn : Act → World → Prop) (Q : Exit → Act → World → Prop) (HK : Hid (∀ a' w'', WI w s q r a' w'' → s.size - (intOf (a'.tmps.getD 8 undef)).toNat < s.size - k → Kn a' w'')) (HQ : Hid (∀ a' w'', bodyPost Tryd.prog Tryd.f45 (GetPost w r) Exit.ret a' w'' → Q Exit.ret a' w'')) :
    Code.wp Tryd.prog ((Tryd.f45.body.bind firstLoop).getD .skip) (Exit.then Kn Q) ⟨#[.string s, .int .u8 q, undef, undef, u4, u5, u6, v, .int .i64 k, u9, u10, u11, u12, u13, u14, u15, u16, u17, u18, u19, u20, u21, u22, u23, u24, u25, u26, u27, u28, u29, u30, u31, u32, u33, u34, u35, u36, u37, u38, u39, u40, u41, u42, u43, u44, u45, u46, u47, u48, u49, u50, u51, u52, u53, u54, u55, u56, u57, u58, u59, u60, u61, u62, u63, u64, u65, u66, u67, u68, u69, u70, u71, u72, u73, u74, u75, u76, u77, u78, u79, u80, u81, u82, u83, u84, u85, u86, u87, u88, u89, u90, u91, u92, u93, u94, u95, u96, u97, u98, u99, u100, u101, u102, u103, u104, u105, u106, u107, u108, u109, u110, u111, u112, u113, u114, u115, u116, u117, u118, u119, u120, u121, u122, u123, u124, u125, u126, u127, u128, u129, u130, u131, u132, u133, u134, u135, u136, u137, u138, u139, u140, u141, u142, u143, u144, u145, u146, u147, u148, u149, u150, u151, u152, u153, u154, u155, u156, u157, u158, u159, u160, u161, u162, u163, u164, u165, u166, u167, u168, u169, u170, u171, u172, u173, u174, u175, u176, u177, u178, u179, u180, u181], []⟩ wr := by
  obtain ⟨i0, hi, hz0, hz1, hz2⟩ := info_parts byteInfo
  have hc0 : (0 : Int) ≤ (c.toNat : Int) := by omega
  have hc1 : (c.toNat : Int) ≤ 255 := by have := c.toNat_lt; omega
  conv => arg 2; whnf
  subst ho
  have hb0 : (0 : Int) ≤ (b.toNat : Int) := by omega
  have hb1 : (b.toNat : Int) ≤ 255 := by have := b.toNat_lt; omega
  have hwb : IntKind.u8.wrap (b.toNat : Int) = (b.toNat : Int) := by rw [IntKind.wrap_u8]; omega
  obtain rfl : e = 120 := he
  have cx0 : (ByteArray.mk #[110, 114, 116, 97, 98, 102, 118, 48])[0]'(by decide) = 110 := rfl
  have cx1 : (ByteArray.mk #[110, 114, 116, 97, 98, 102, 118, 48])[1]'(by decide) = 114 := rfl
  have cx2 : (ByteArray.mk #[110, 114, 116, 97, 98, 102, 118, 48])[2]'(by decide) = 116 := rfl
  have cx3 : (ByteArray.mk #[110, 114, 116, 97, 98, 102, 118, 48])[3]'(by decide) = 97 := rfl
  have cx4 : (ByteArray.mk #[110, 114, 116, 97, 98, 102, 118, 48])[4]'(by decide) = 98 := rfl
  have cx5 : (ByteArray.mk #[110, 114, 116, 97, 98, 102, 118, 48])[5]'(by decide) = 102 := rfl
  have cx6 : (ByteArray.mk #[110, 114, 116, 97, 98, 102, 118, 48])[6]'(by decide) = 118 := rfl
  have cx7 : (ByteArray.mk #[110, 114, 116, 97, 98, 102, 118, 48])[7]'(by decide) = 48 := rfl
  go_wp2_with (go_at_call_of 63 (Value.int IntKind.u8 (y.toNat : Int)); refine (DY.out _).mono ?_; rintro e5 w5 ⟨rfl, hw⟩; obtain rfl := hw.symm; clear hw)
  refine wp_loop_rounds 9 ?_
  rw [rounds_succ]
  go_wp2_with fail
  rw [rounds_succ]
  go_wp2_with fail
  rw [rounds_succ]
  go_wp2_with fail
  rw [rounds_succ]
  go_wp2_with fail
  rw [rounds_succ]
  go_wp2_with fail
  rw [rounds_succ]
  go_wp2_with fail
  rw [rounds_succ]
  go_wp2_with fail
  rw [rounds_succ]
  go_wp2_with fail
  rw [rounds_succ]
  go_wp2_with (first | (go_at_call 64; refine (NU.out _).mono ?_; rintro e5 w5 ⟨he5, hw⟩; obtain rfl := hw.symm; clear hw; have he6 : e5 = .returned (.tuple #[.int .i64 (b.toNat : Int), .int .i64 (m : Int)]) := he5; subst he6; clear he5) | (at_builtin; refine wpList_append_own _ rfl (.tmp 140) (.tmp 143) 38 rfl w.heap.size 5 i0 (.int .u8 0) 1 1 Tryd.underlying38 hi hz0 hz1 hz2 rfl (by decide) _ _ _ rfl (hown.out.alloc _) ⟨wr.heap.size, 0, none⟩ 1 1 [.int .u8 (b.toNat : Int)] rfl rfl (cell_one_new _ _ _) one_1 ?_ ?_ ?_ ?_))
  · unfold maxLen; omega
  · omega
  · have := hbl.out.size; simp; omega
  intro v3 w3 hown3 hg3 _
  have HO3 := Lib.hid (own_more (X := g ++ [b]) (N := [b]) hown3 rfl rfl (bc_back b))
  have hb3 := Lib.hid (below_app hbl.out (Nat.le_refl _) hown.out hg3)
  clear hown3 hg3 hown hbl
  go_wp2_with fail
  refine HK.out _ _ ⟨_, _, _, _, _, _, _, _, _, _, _, _, _, _, _, _, _, _, _, _, _, _, _, _, _, _, _, _, _, _, _, _, _, _, _, _, _, _, _, _, _, _, _, _, _, _, _, _, _, _, _, _, _, _, _, _, _, _, _, _, _, _, _, _, _, _, _, _, _, _, _, _, _, _, _, _, _, _, _, _, _, _, _, _, _, _, _, _, _, _, _, _, _, _, _, _, _, _, _, _, _, _, _, _, _, _, _, _, _, _, _, _, _, _, _, _, _, _, _, _, _, _, _, _, _, _, _, _, _, _, _, _, _, _, _, _, _, _, _, _, _, _, _, _, _, _, _, _, _, _, _, _, _, _, _, _, _, _, _, _, _, _, _, _, _, _, _, _, _, _, _, _, _, _, _, _, _, _, RGet.mk (k := k + (2 + m)) (by omega) (by first | rfl | go_num | (congr 1; omega)) HO3.out (by simp; omega) (get_on HG.out ST.out) hb3.out, rfl⟩ ?_
  simp [intOf]
  omega

set_option linter.unusedVariables false in
set_option maxHeartbeats 4000000 in
set_option maxRecDepth 1000000 in
theorem ve_o_noS (u4 u5 u6 u9 u10 u11 u12 u13 u14 u15 u16 u17 u18 u19 u20 u21 u22 u23 u24 u25 u26 u27 u28 u29 u30 u31 u32 u33 u34 u35 u36 u37 u38 u39 u40 u41 u42 u43 u44 u45 u46 u47 u48 u49 u50 u51 u52 u53 u54 u55 u56 u57 u58 u59 u60 u61 u62 u63 u64 u65 u66 u67 u68 u69 u70 u71 u72 u73 u74 u75 u76 u77 u78 u79 u80 u81 u82 u83 u84 u85 u86 u87 u88 u89 u90 u91 u92 u93 u94 u95 u96 u97 u98 u99 u100 u101 u102 u103 u104 u105 u106 u107 u108 u109 u110 u111 u112 u113 u114 u115 u116 u117 u118 u119 u120 u121 u122 u123 u124 u125 u126 u127 u128 u129 u130 u131 u132 u133 u134 u135 u136 u137 u138 u139 u140 u141 u142 u143 u144 u145 u146 u147 u148 u149 u150 u151 u152 u153 u154 u155 u156 u157 u158 u159 u160 u161 u162 u163 u164 u165 u166 u167 u168 u169 u170 u171 u172 u173 u174 u175 u176 u177 u178 u179 u180 u181 v : Value) (s : ByteArray) (q : Int) (w wr : World) (r : Option (List UInt8 × Nat)) (k : Nat) (g : List UInt8) (c : UInt8) (hs : s.size ≤ 4000) (hlt : k < s.size) (hc : s[k] = c) (hgl : g.length ≤ k)
    (HDK : Hid (s.data.toList.drop k = c :: s.data.toList.drop (k + 1))) (hown : Hid (wr.ownsRow w.heap.size 5 1 v g.length (bc g))) (HG : Hid (getF q ((s.data.toList.drop k).length + 1) (s.data.toList.drop k) g k = r)) (hbl : Hid (Below w.heap.size w wr))
    (hq : ((c.toNat : Int) == q) = false) (h10 : ((c.toNat : Int) == 10) = false) (h92 : ((c.toNat : Int) != 92) = false) (hend : k + 1 < s.size) (e : UInt8) (hx : s[k + 1] = e) (f110 : ((e.toNat : Int) == 110) = false) (f114 : ((e.toNat : Int) == 114) = false) (f116 : ((e.toNat : Int) == 116) = false) (f97 : ((e.toNat : Int) == 97) = false) (f98 : ((e.toNat : Int) == 98) = false) (f102 : ((e.toNat : Int) == 102) = false) (f118 : ((e.toNat : Int) == 118) = false) (f48 : ((e.toNat : Int) == 48) = false) (f92 : ((e.toNat : Int) == 92) = false) (f39 : ((e.toNat : Int) == 39) = false) (f34 : ((e.toNat : Int) == 34) = false) (f96 : ((e.toNat : Int) == 96) = false) (f10 : ((e.toNat : Int) == 10) = false) (f120 : ((e.toNat : Int) == 120) = false) (D : Int) (D8 : Hid (∀ w, Calls Tryd.prog 63 #[.int .u8 (e.toNat : Int), .int .i64 8] w fun e1 w' => e1 = .returned (.int .i64 D) ∧ w' = w)) (hD : 0 ≤ D) (hD2 : D ≤ 7) (hend2 : k + 2 < s.size) (y : UInt8) (hy : s[k + 2] = y) (V : Int) (DY : Hid (∀ w, Calls Tryd.prog 63 #[.int .u8 (y.toNat : Int), .int .i64 8] w fun e1 w' => e1 = .returned (.int .i64 V) ∧ w' = w)) (o : Option (UInt8 × Nat)) (NU : Hid (∀ w, Calls Tryd.prog 64 #[.string (s.extract (k + 1) s.size), .int .i64 8] w fun e1 w' => e1 = numQ o ∧ w' = w)) (ho : o = none) (hp : Hid (r = none))
    (Kn : Act → World → Prop) (Q : Exit → Act → World → Prop) (HK : Hid (∀ a' w'', WI w s q r a' w'' → s.size - (intOf (a'.tmps.getD 8 undef)).toNat < s.size - k → Kn a' w'')) (HQ : Hid (∀ a' w'', bodyPost Tryd.prog Tryd.f45 (GetPost w r) Exit.ret a' w'' → Q Exit.ret a' w'')) :
    Code.wp Tryd.prog ((Tryd.f45.body.bind firstLoop).getD .skip) (Exit.then Kn Q) ⟨#[.string s, .int .u8 q, undef, undef, u4, u5, u6, v, .int .i64 k, u9, u10, u11, u12, u13, u14, u15, u16, u17, u18, u19, u20, u21, u22, u23, u24, u25, u26, u27, u28, u29, u30, u31, u32, u33, u34, u35, u36, u37, u38, u39, u40, u41, u42, u43, u44, u45, u46, u47, u48, u49, u50, u51, u52, u53, u54, u55, u56, u57, u58, u59, u60, u61, u62, u63, u64, u65, u66, u67, u68, u69, u70, u71, u72, u73, u74, u75, u76, u77, u78, u79, u80, u81, u82, u83, u84, u85, u86, u87, u88, u89, u90, u91, u92, u93, u94, u95, u96, u97, u98, u99, u100, u101, u102, u103, u104, u105, u106, u107, u108, u109, u110, u111, u112, u113, u114, u115, u116, u117, u118, u119, u120, u121, u122, u123, u124, u125, u126, u127, u128, u129, u130, u131, u132, u133, u134, u135, u136, u137, u138, u139, u140, u141, u142, u143, u144, u145, u146, u147, u148, u149, u150, u151, u152, u153, u154, u155, u156, u157, u158, u159, u160, u161, u162, u163, u164, u165, u166, u167, u168, u169, u170, u171, u172, u173, u174, u175, u176, u177, u178, u179, u180, u181], []⟩ wr := by
  obtain ⟨i0, hi, hz0, hz1, hz2⟩ := info_parts byteInfo
  have hc0 : (0 : Int) ≤ (c.toNat : Int) := by omega
  have hc1 : (c.toNat : Int) ≤ 255 := by have := c.toNat_lt; omega
  conv => arg 2; whnf
  subst ho
  have q0 : (0 : Int) ≤ (e.toNat : Int) := by omega
  have q1 : (e.toNat : Int) ≤ 255 := by have := e.toNat_lt; omega
  have cx0 : (ByteArray.mk #[110, 114, 116, 97, 98, 102, 118, 48])[0]'(by decide) = 110 := rfl
  have cx1 : (ByteArray.mk #[110, 114, 116, 97, 98, 102, 118, 48])[1]'(by decide) = 114 := rfl
  have cx2 : (ByteArray.mk #[110, 114, 116, 97, 98, 102, 118, 48])[2]'(by decide) = 116 := rfl
  have cx3 : (ByteArray.mk #[110, 114, 116, 97, 98, 102, 118, 48])[3]'(by decide) = 97 := rfl
  have cx4 : (ByteArray.mk #[110, 114, 116, 97, 98, 102, 118, 48])[4]'(by decide) = 98 := rfl
  have cx5 : (ByteArray.mk #[110, 114, 116, 97, 98, 102, 118, 48])[5]'(by decide) = 102 := rfl
  have cx6 : (ByteArray.mk #[110, 114, 116, 97, 98, 102, 118, 48])[6]'(by decide) = 118 := rfl
  have cx7 : (ByteArray.mk #[110, 114, 116, 97, 98, 102, 118, 48])[7]'(by decide) = 48 := rfl
  go_wp2_with (go_at_call_of 63 (Value.int IntKind.u8 (y.toNat : Int)); refine (DY.out _).mono ?_; rintro e5 w5 ⟨rfl, hw⟩; obtain rfl := hw.symm; clear hw)
  refine wp_loop_rounds 9 ?_
  rw [rounds_succ]
  go_wp2_with fail
  rw [rounds_succ]
  go_wp2_with fail
  rw [rounds_succ]
  go_wp2_with fail
  rw [rounds_succ]
  go_wp2_with fail
  rw [rounds_succ]
  go_wp2_with fail
  rw [rounds_succ]
  go_wp2_with fail
  rw [rounds_succ]
  go_wp2_with fail
  rw [rounds_succ]
  go_wp2_with fail
  rw [rounds_succ]
  go_wp2_with (first | (go_at_call_of 63 (Value.int IntKind.u8 (e.toNat : Int)); refine (D8.out _).mono ?_; rintro e5 w5 ⟨rfl, hw⟩; obtain rfl := hw.symm; clear hw) | (go_at_call 64; refine (NU.out _).mono ?_; rintro e5 w5 ⟨he5, hw⟩; obtain rfl := hw.symm; clear hw; have he6 : e5 = .returned (.tuple #[.int .i64 (-1), .int .i64 0]) := he5; subst he6; clear he5))
  refine HQ.out _ _ ?_
  go_ret3
  cases hp.out
  exact ⟨rfl, hbl.out⟩

end Go.Proofs.YtkbeaddbnnboaaaDoor
