/- The document's answer: what is within quotes: ways of a round at an escape. Conditions: as each states. -/
import Derived.Test.YtkbeaddbnnboaaaDoorNameV
namespace Go.Proofs.YtkbeaddbnnboaaaDoor
open Go Go.RowKit Go.Maps

set_option linter.unusedVariables false in
set_option maxHeartbeats 4000000 in
set_option maxRecDepth 1000000 in
theorem ve_110N (u4 u5 u6 u9 u10 u11 u12 u13 u14 u15 u16 u17 u18 u19 u20 u21 u22 u23 u24 u25 u26 u27 u28 u29 u30 u31 u32 u33 u34 u35 u36 u37 u38 u39 u40 u41 u42 u43 u44 u45 u46 u47 u48 u49 u50 u51 u52 u53 u54 u55 u56 u57 u58 u59 u60 u61 u62 u63 u64 u65 u66 u67 u68 u69 u70 u71 u72 u73 u74 u75 u76 u77 u78 u79 u80 u81 u82 u83 u84 u85 u86 u87 u88 u89 u90 u91 u92 u93 u94 u95 u96 u97 u98 u99 u100 u101 u102 u103 u104 u105 u106 u107 u108 u109 u110 u111 u112 u113 u114 u115 u116 u117 u118 u119 u120 u121 u122 u123 u124 u125 u126 u127 u128 u129 u130 u131 u132 u133 u134 u135 u136 u137 u138 u139 u140 u141 u142 u143 u144 u145 u146 u147 u148 u149 u150 u151 u152 u153 u154 u155 u156 u157 u158 u159 u160 u161 u162 u163 u164 u165 u166 u167 u168 u169 u170 u171 u172 u173 u174 u175 u176 u177 u178 u179 u180 u181 v : Value) (s : ByteArray) (q : Int) (w wr : World) (r : Option (List UInt8 × Nat)) (k : Nat) (g : List UInt8) (c : UInt8) (hs : s.size ≤ 4000) (hlt : k < s.size) (hc : s[k] = c) (hgl : g.length ≤ k)
    (HDK : Hid (s.data.toList.drop k = c :: s.data.toList.drop (k + 1))) (hown : Hid (wr.ownsRow w.heap.size 5 1 v g.length (bc g))) (HG : Hid (getF q ((s.data.toList.drop k).length + 1) (s.data.toList.drop k) g k = r)) (hbl : Hid (Below w.heap.size w wr))
    (hq : ((c.toNat : Int) == q) = false) (h10 : ((c.toNat : Int) == 10) = false) (h92 : ((c.toNat : Int) != 92) = false) (hend : k + 1 < s.size) (e : UInt8) (hx : s[k + 1] = e) (he : e = 110) (hend2 : s.size ≤ k + 2) (ST : Hid (stepF q (s.data.toList.drop k) = .go [10] 2))
    (Kn : Act → World → Prop) (Q : Exit → Act → World → Prop) (HK : Hid (∀ a' w'', WI w s q r a' w'' → s.size - (intOf (a'.tmps.getD 8 undef)).toNat < s.size - k → Kn a' w'')) (HQ : Hid (∀ a' w'', bodyPost Tryd.prog Tryd.f45 (GetPost w r) Exit.ret a' w'' → Q Exit.ret a' w'')) :
    Code.wp Tryd.prog ((Tryd.f45.body.bind firstLoop).getD .skip) (Exit.then Kn Q) ⟨#[.string s, .int .u8 q, undef, undef, u4, u5, u6, v, .int .i64 k, u9, u10, u11, u12, u13, u14, u15, u16, u17, u18, u19, u20, u21, u22, u23, u24, u25, u26, u27, u28, u29, u30, u31, u32, u33, u34, u35, u36, u37, u38, u39, u40, u41, u42, u43, u44, u45, u46, u47, u48, u49, u50, u51, u52, u53, u54, u55, u56, u57, u58, u59, u60, u61, u62, u63, u64, u65, u66, u67, u68, u69, u70, u71, u72, u73, u74, u75, u76, u77, u78, u79, u80, u81, u82, u83, u84, u85, u86, u87, u88, u89, u90, u91, u92, u93, u94, u95, u96, u97, u98, u99, u100, u101, u102, u103, u104, u105, u106, u107, u108, u109, u110, u111, u112, u113, u114, u115, u116, u117, u118, u119, u120, u121, u122, u123, u124, u125, u126, u127, u128, u129, u130, u131, u132, u133, u134, u135, u136, u137, u138, u139, u140, u141, u142, u143, u144, u145, u146, u147, u148, u149, u150, u151, u152, u153, u154, u155, u156, u157, u158, u159, u160, u161, u162, u163, u164, u165, u166, u167, u168, u169, u170, u171, u172, u173, u174, u175, u176, u177, u178, u179, u180, u181], []⟩ wr := by
  obtain ⟨i0, hi, hz0, hz1, hz2⟩ := info_parts byteInfo
  have hc0 : (0 : Int) ≤ (c.toNat : Int) := by omega
  have hc1 : (c.toNat : Int) ≤ 255 := by have := c.toNat_lt; omega
  conv => arg 2; whnf
  obtain rfl : e = 110 := he
  have cx0 : (ByteArray.mk #[110, 114, 116, 97, 98, 102, 118, 48])[0]'(by decide) = 110 := rfl
  have cx1 : (ByteArray.mk #[110, 114, 116, 97, 98, 102, 118, 48])[1]'(by decide) = 114 := rfl
  have cx2 : (ByteArray.mk #[110, 114, 116, 97, 98, 102, 118, 48])[2]'(by decide) = 116 := rfl
  have cx3 : (ByteArray.mk #[110, 114, 116, 97, 98, 102, 118, 48])[3]'(by decide) = 97 := rfl
  have cx4 : (ByteArray.mk #[110, 114, 116, 97, 98, 102, 118, 48])[4]'(by decide) = 98 := rfl
  have cx5 : (ByteArray.mk #[110, 114, 116, 97, 98, 102, 118, 48])[5]'(by decide) = 102 := rfl
  have cx6 : (ByteArray.mk #[110, 114, 116, 97, 98, 102, 118, 48])[6]'(by decide) = 118 := rfl
  have cx7 : (ByteArray.mk #[110, 114, 116, 97, 98, 102, 118, 48])[7]'(by decide) = 48 := rfl
  have ix : ∀ w, (Instr.index 79 (.agg #[.int .i64 10, .int .i64 13, .int .i64 9, .int .i64 7, .int .i64 8, .int .i64 12, .int .i64 11, .int .i64 0]) (.int .i64 0)).run Tryd.prog w = .ok (.int .i64 10) w := fun _ => by kernel_rfl
  go_wp2_with fail
  refine wp_loop_rounds 9 ?_
  rw [rounds_succ]
  go_wp2_with fail
  rw [rounds_succ]
  go_wp2_with fail
  rw [rounds_succ]
  go_wp2_with fail
  rw [rounds_succ]
  go_wp2_with fail
  rw [rounds_succ]
  go_wp2_with fail
  rw [rounds_succ]
  go_wp2_with fail
  rw [rounds_succ]
  go_wp2_with fail
  rw [rounds_succ]
  go_wp2_with fail
  rw [rounds_succ]
  go_wp2_with (at_builtin; refine wpList_append_own _ rfl (.tmp 84) (.tmp 87) 38 rfl w.heap.size 5 i0 (.int .u8 0) 1 1 Tryd.underlying38 hi hz0 hz1 hz2 rfl (by decide) _ _ _ rfl (hown.out.alloc _) ⟨wr.heap.size, 0, none⟩ 1 1 [.int .u8 10] rfl rfl (cell_one_new _ _ _) one_1 ?_ ?_ ?_ ?_)
  · unfold maxLen; omega
  · omega
  · have := hbl.out.size; simp; omega
  intro v3 w3 hown3 hg3 _
  have HO3 := Lib.hid (own_more (X := g ++ [10]) (N := [10]) hown3 rfl rfl rfl)
  have hb3 := Lib.hid (below_app hbl.out (Nat.le_refl _) hown.out hg3)
  clear hown3 hg3 hown hbl
  go_wp2_with fail
  refine HK.out _ _ ⟨_, _, _, _, _, _, _, _, _, _, _, _, _, _, _, _, _, _, _, _, _, _, _, _, _, _, _, _, _, _, _, _, _, _, _, _, _, _, _, _, _, _, _, _, _, _, _, _, _, _, _, _, _, _, _, _, _, _, _, _, _, _, _, _, _, _, _, _, _, _, _, _, _, _, _, _, _, _, _, _, _, _, _, _, _, _, _, _, _, _, _, _, _, _, _, _, _, _, _, _, _, _, _, _, _, _, _, _, _, _, _, _, _, _, _, _, _, _, _, _, _, _, _, _, _, _, _, _, _, _, _, _, _, _, _, _, _, _, _, _, _, _, _, _, _, _, _, _, _, _, _, _, _, _, _, _, _, _, _, _, _, _, _, _, _, _, _, _, _, _, _, _, _, _, _, _, _, _, RGet.mk (k := k + 2) (by omega) (by first | rfl | go_num | (congr 1; omega)) HO3.out (by simp; omega) (get_on HG.out ST.out) hb3.out, rfl⟩ ?_
  simp [intOf]
  omega

set_option linter.unusedVariables false in
set_option maxHeartbeats 4000000 in
set_option maxRecDepth 1000000 in
theorem ve_114N (u4 u5 u6 u9 u10 u11 u12 u13 u14 u15 u16 u17 u18 u19 u20 u21 u22 u23 u24 u25 u26 u27 u28 u29 u30 u31 u32 u33 u34 u35 u36 u37 u38 u39 u40 u41 u42 u43 u44 u45 u46 u47 u48 u49 u50 u51 u52 u53 u54 u55 u56 u57 u58 u59 u60 u61 u62 u63 u64 u65 u66 u67 u68 u69 u70 u71 u72 u73 u74 u75 u76 u77 u78 u79 u80 u81 u82 u83 u84 u85 u86 u87 u88 u89 u90 u91 u92 u93 u94 u95 u96 u97 u98 u99 u100 u101 u102 u103 u104 u105 u106 u107 u108 u109 u110 u111 u112 u113 u114 u115 u116 u117 u118 u119 u120 u121 u122 u123 u124 u125 u126 u127 u128 u129 u130 u131 u132 u133 u134 u135 u136 u137 u138 u139 u140 u141 u142 u143 u144 u145 u146 u147 u148 u149 u150 u151 u152 u153 u154 u155 u156 u157 u158 u159 u160 u161 u162 u163 u164 u165 u166 u167 u168 u169 u170 u171 u172 u173 u174 u175 u176 u177 u178 u179 u180 u181 v : Value) (s : ByteArray) (q : Int) (w wr : World) (r : Option (List UInt8 × Nat)) (k : Nat) (g : List UInt8) (c : UInt8) (hs : s.size ≤ 4000) (hlt : k < s.size) (hc : s[k] = c) (hgl : g.length ≤ k)
    (HDK : Hid (s.data.toList.drop k = c :: s.data.toList.drop (k + 1))) (hown : Hid (wr.ownsRow w.heap.size 5 1 v g.length (bc g))) (HG : Hid (getF q ((s.data.toList.drop k).length + 1) (s.data.toList.drop k) g k = r)) (hbl : Hid (Below w.heap.size w wr))
    (hq : ((c.toNat : Int) == q) = false) (h10 : ((c.toNat : Int) == 10) = false) (h92 : ((c.toNat : Int) != 92) = false) (hend : k + 1 < s.size) (e : UInt8) (hx : s[k + 1] = e) (he : e = 114) (hend2 : s.size ≤ k + 2) (ST : Hid (stepF q (s.data.toList.drop k) = .go [13] 2))
    (Kn : Act → World → Prop) (Q : Exit → Act → World → Prop) (HK : Hid (∀ a' w'', WI w s q r a' w'' → s.size - (intOf (a'.tmps.getD 8 undef)).toNat < s.size - k → Kn a' w'')) (HQ : Hid (∀ a' w'', bodyPost Tryd.prog Tryd.f45 (GetPost w r) Exit.ret a' w'' → Q Exit.ret a' w'')) :
    Code.wp Tryd.prog ((Tryd.f45.body.bind firstLoop).getD .skip) (Exit.then Kn Q) ⟨#[.string s, .int .u8 q, undef, undef, u4, u5, u6, v, .int .i64 k, u9, u10, u11, u12, u13, u14, u15, u16, u17, u18, u19, u20, u21, u22, u23, u24, u25, u26, u27, u28, u29, u30, u31, u32, u33, u34, u35, u36, u37, u38, u39, u40, u41, u42, u43, u44, u45, u46, u47, u48, u49, u50, u51, u52, u53, u54, u55, u56, u57, u58, u59, u60, u61, u62, u63, u64, u65, u66, u67, u68, u69, u70, u71, u72, u73, u74, u75, u76, u77, u78, u79, u80, u81, u82, u83, u84, u85, u86, u87, u88, u89, u90, u91, u92, u93, u94, u95, u96, u97, u98, u99, u100, u101, u102, u103, u104, u105, u106, u107, u108, u109, u110, u111, u112, u113, u114, u115, u116, u117, u118, u119, u120, u121, u122, u123, u124, u125, u126, u127, u128, u129, u130, u131, u132, u133, u134, u135, u136, u137, u138, u139, u140, u141, u142, u143, u144, u145, u146, u147, u148, u149, u150, u151, u152, u153, u154, u155, u156, u157, u158, u159, u160, u161, u162, u163, u164, u165, u166, u167, u168, u169, u170, u171, u172, u173, u174, u175, u176, u177, u178, u179, u180, u181], []⟩ wr := by
  obtain ⟨i0, hi, hz0, hz1, hz2⟩ := info_parts byteInfo
  have hc0 : (0 : Int) ≤ (c.toNat : Int) := by omega
  have hc1 : (c.toNat : Int) ≤ 255 := by have := c.toNat_lt; omega
  conv => arg 2; whnf
  obtain rfl : e = 114 := he
  have cx0 : (ByteArray.mk #[110, 114, 116, 97, 98, 102, 118, 48])[0]'(by decide) = 110 := rfl
  have cx1 : (ByteArray.mk #[110, 114, 116, 97, 98, 102, 118, 48])[1]'(by decide) = 114 := rfl
  have cx2 : (ByteArray.mk #[110, 114, 116, 97, 98, 102, 118, 48])[2]'(by decide) = 116 := rfl
  have cx3 : (ByteArray.mk #[110, 114, 116, 97, 98, 102, 118, 48])[3]'(by decide) = 97 := rfl
  have cx4 : (ByteArray.mk #[110, 114, 116, 97, 98, 102, 118, 48])[4]'(by decide) = 98 := rfl
  have cx5 : (ByteArray.mk #[110, 114, 116, 97, 98, 102, 118, 48])[5]'(by decide) = 102 := rfl
  have cx6 : (ByteArray.mk #[110, 114, 116, 97, 98, 102, 118, 48])[6]'(by decide) = 118 := rfl
  have cx7 : (ByteArray.mk #[110, 114, 116, 97, 98, 102, 118, 48])[7]'(by decide) = 48 := rfl
  have ix : ∀ w, (Instr.index 79 (.agg #[.int .i64 10, .int .i64 13, .int .i64 9, .int .i64 7, .int .i64 8, .int .i64 12, .int .i64 11, .int .i64 0]) (.int .i64 1)).run Tryd.prog w = .ok (.int .i64 13) w := fun _ => by kernel_rfl
  go_wp2_with fail
  refine wp_loop_rounds 9 ?_
  rw [rounds_succ]
  go_wp2_with fail
  rw [rounds_succ]
  go_wp2_with fail
  rw [rounds_succ]
  go_wp2_with fail
  rw [rounds_succ]
  go_wp2_with fail
  rw [rounds_succ]
  go_wp2_with fail
  rw [rounds_succ]
  go_wp2_with fail
  rw [rounds_succ]
  go_wp2_with fail
  rw [rounds_succ]
  go_wp2_with fail
  rw [rounds_succ]
  go_wp2_with (at_builtin; refine wpList_append_own _ rfl (.tmp 84) (.tmp 87) 38 rfl w.heap.size 5 i0 (.int .u8 0) 1 1 Tryd.underlying38 hi hz0 hz1 hz2 rfl (by decide) _ _ _ rfl (hown.out.alloc _) ⟨wr.heap.size, 0, none⟩ 1 1 [.int .u8 13] rfl rfl (cell_one_new _ _ _) one_1 ?_ ?_ ?_ ?_)
  · unfold maxLen; omega
  · omega
  · have := hbl.out.size; simp; omega
  intro v3 w3 hown3 hg3 _
  have HO3 := Lib.hid (own_more (X := g ++ [13]) (N := [13]) hown3 rfl rfl rfl)
  have hb3 := Lib.hid (below_app hbl.out (Nat.le_refl _) hown.out hg3)
  clear hown3 hg3 hown hbl
  go_wp2_with fail
  refine HK.out _ _ ⟨_, _, _, _, _, _, _, _, _, _, _, _, _, _, _, _, _, _, _, _, _, _, _, _, _, _, _, _, _, _, _, _, _, _, _, _, _, _, _, _, _, _, _, _, _, _, _, _, _, _, _, _, _, _, _, _, _, _, _, _, _, _, _, _, _, _, _, _, _, _, _, _, _, _, _, _, _, _, _, _, _, _, _, _, _, _, _, _, _, _, _, _, _, _, _, _, _, _, _, _, _, _, _, _, _, _, _, _, _, _, _, _, _, _, _, _, _, _, _, _, _, _, _, _, _, _, _, _, _, _, _, _, _, _, _, _, _, _, _, _, _, _, _, _, _, _, _, _, _, _, _, _, _, _, _, _, _, _, _, _, _, _, _, _, _, _, _, _, _, _, _, _, _, _, _, _, _, _, RGet.mk (k := k + 2) (by omega) (by first | rfl | go_num | (congr 1; omega)) HO3.out (by simp; omega) (get_on HG.out ST.out) hb3.out, rfl⟩ ?_
  simp [intOf]
  omega

set_option linter.unusedVariables false in
set_option maxHeartbeats 4000000 in
set_option maxRecDepth 1000000 in
theorem ve_116N (u4 u5 u6 u9 u10 u11 u12 u13 u14 u15 u16 u17 u18 u19 u20 u21 u22 u23 u24 u25 u26 u27 u28 u29 u30 u31 u32 u33 u34 u35 u36 u37 u38 u39 u40 u41 u42 u43 u44 u45 u46 u47 u48 u49 u50 u51 u52 u53 u54 u55 u56 u57 u58 u59 u60 u61 u62 u63 u64 u65 u66 u67 u68 u69 u70 u71 u72 u73 u74 u75 u76 u77 u78 u79 u80 u81 u82 u83 u84 u85 u86 u87 u88 u89 u90 u91 u92 u93 u94 u95 u96 u97 u98 u99 u100 u101 u102 u103 u104 u105 u106 u107 u108 u109 u110 u111 u112 u113 u114 u115 u116 u117 u118 u119 u120 u121 u122 u123 u124 u125 u126 u127 u128 u129 u130 u131 u132 u133 u134 u135 u136 u137 u138 u139 u140 u141 u142 u143 u144 u145 u146 u147 u148 u149 u150 u151 u152 u153 u154 u155 u156 u157 u158 u159 u160 u161 u162 u163 u164 u165 u166 u167 u168 u169 u170 u171 u172 u173 u174 u175 u176 u177 u178 u179 u180 u181 v : Value) (s : ByteArray) (q : Int) (w wr : World) (r : Option (List UInt8 × Nat)) (k : Nat) (g : List UInt8) (c : UInt8) (hs : s.size ≤ 4000) (hlt : k < s.size) (hc : s[k] = c) (hgl : g.length ≤ k)
    (HDK : Hid (s.data.toList.drop k = c :: s.data.toList.drop (k + 1))) (hown : Hid (wr.ownsRow w.heap.size 5 1 v g.length (bc g))) (HG : Hid (getF q ((s.data.toList.drop k).length + 1) (s.data.toList.drop k) g k = r)) (hbl : Hid (Below w.heap.size w wr))
    (hq : ((c.toNat : Int) == q) = false) (h10 : ((c.toNat : Int) == 10) = false) (h92 : ((c.toNat : Int) != 92) = false) (hend : k + 1 < s.size) (e : UInt8) (hx : s[k + 1] = e) (he : e = 116) (hend2 : s.size ≤ k + 2) (ST : Hid (stepF q (s.data.toList.drop k) = .go [9] 2))
    (Kn : Act → World → Prop) (Q : Exit → Act → World → Prop) (HK : Hid (∀ a' w'', WI w s q r a' w'' → s.size - (intOf (a'.tmps.getD 8 undef)).toNat < s.size - k → Kn a' w'')) (HQ : Hid (∀ a' w'', bodyPost Tryd.prog Tryd.f45 (GetPost w r) Exit.ret a' w'' → Q Exit.ret a' w'')) :
    Code.wp Tryd.prog ((Tryd.f45.body.bind firstLoop).getD .skip) (Exit.then Kn Q) ⟨#[.string s, .int .u8 q, undef, undef, u4, u5, u6, v, .int .i64 k, u9, u10, u11, u12, u13, u14, u15, u16, u17, u18, u19, u20, u21, u22, u23, u24, u25, u26, u27, u28, u29, u30, u31, u32, u33, u34, u35, u36, u37, u38, u39, u40, u41, u42, u43, u44, u45, u46, u47, u48, u49, u50, u51, u52, u53, u54, u55, u56, u57, u58, u59, u60, u61, u62, u63, u64, u65, u66, u67, u68, u69, u70, u71, u72, u73, u74, u75, u76, u77, u78, u79, u80, u81, u82, u83, u84, u85, u86, u87, u88, u89, u90, u91, u92, u93, u94, u95, u96, u97, u98, u99, u100, u101, u102, u103, u104, u105, u106, u107, u108, u109, u110, u111, u112, u113, u114, u115, u116, u117, u118, u119, u120, u121, u122, u123, u124, u125, u126, u127, u128, u129, u130, u131, u132, u133, u134, u135, u136, u137, u138, u139, u140, u141, u142, u143, u144, u145, u146, u147, u148, u149, u150, u151, u152, u153, u154, u155, u156, u157, u158, u159, u160, u161, u162, u163, u164, u165, u166, u167, u168, u169, u170, u171, u172, u173, u174, u175, u176, u177, u178, u179, u180, u181], []⟩ wr := by
  obtain ⟨i0, hi, hz0, hz1, hz2⟩ := info_parts byteInfo
  have hc0 : (0 : Int) ≤ (c.toNat : Int) := by omega
  have hc1 : (c.toNat : Int) ≤ 255 := by have := c.toNat_lt; omega
  conv => arg 2; whnf
  obtain rfl : e = 116 := he
  have cx0 : (ByteArray.mk #[110, 114, 116, 97, 98, 102, 118, 48])[0]'(by decide) = 110 := rfl
  have cx1 : (ByteArray.mk #[110, 114, 116, 97, 98, 102, 118, 48])[1]'(by decide) = 114 := rfl
  have cx2 : (ByteArray.mk #[110, 114, 116, 97, 98, 102, 118, 48])[2]'(by decide) = 116 := rfl
  have cx3 : (ByteArray.mk #[110, 114, 116, 97, 98, 102, 118, 48])[3]'(by decide) = 97 := rfl
  have cx4 : (ByteArray.mk #[110, 114, 116, 97, 98, 102, 118, 48])[4]'(by decide) = 98 := rfl
  have cx5 : (ByteArray.mk #[110, 114, 116, 97, 98, 102, 118, 48])[5]'(by decide) = 102 := rfl
  have cx6 : (ByteArray.mk #[110, 114, 116, 97, 98, 102, 118, 48])[6]'(by decide) = 118 := rfl
  have cx7 : (ByteArray.mk #[110, 114, 116, 97, 98, 102, 118, 48])[7]'(by decide) = 48 := rfl
  have ix : ∀ w, (Instr.index 79 (.agg #[.int .i64 10, .int .i64 13, .int .i64 9, .int .i64 7, .int .i64 8, .int .i64 12, .int .i64 11, .int .i64 0]) (.int .i64 2)).run Tryd.prog w = .ok (.int .i64 9) w := fun _ => by kernel_rfl
  go_wp2_with fail
  refine wp_loop_rounds 9 ?_
  rw [rounds_succ]
  go_wp2_with fail
  rw [rounds_succ]
  go_wp2_with fail
  rw [rounds_succ]
  go_wp2_with fail
  rw [rounds_succ]
  go_wp2_with fail
  rw [rounds_succ]
  go_wp2_with fail
  rw [rounds_succ]
  go_wp2_with fail
  rw [rounds_succ]
  go_wp2_with fail
  rw [rounds_succ]
  go_wp2_with fail
  rw [rounds_succ]
  go_wp2_with (at_builtin; refine wpList_append_own _ rfl (.tmp 84) (.tmp 87) 38 rfl w.heap.size 5 i0 (.int .u8 0) 1 1 Tryd.underlying38 hi hz0 hz1 hz2 rfl (by decide) _ _ _ rfl (hown.out.alloc _) ⟨wr.heap.size, 0, none⟩ 1 1 [.int .u8 9] rfl rfl (cell_one_new _ _ _) one_1 ?_ ?_ ?_ ?_)
  · unfold maxLen; omega
  · omega
  · have := hbl.out.size; simp; omega
  intro v3 w3 hown3 hg3 _
  have HO3 := Lib.hid (own_more (X := g ++ [9]) (N := [9]) hown3 rfl rfl rfl)
  have hb3 := Lib.hid (below_app hbl.out (Nat.le_refl _) hown.out hg3)
  clear hown3 hg3 hown hbl
  go_wp2_with fail
  refine HK.out _ _ ⟨_, _, _, _, _, _, _, _, _, _, _, _, _, _, _, _, _, _, _, _, _, _, _, _, _, _, _, _, _, _, _, _, _, _, _, _, _, _, _, _, _, _, _, _, _, _, _, _, _, _, _, _, _, _, _, _, _, _, _, _, _, _, _, _, _, _, _, _, _, _, _, _, _, _, _, _, _, _, _, _, _, _, _, _, _, _, _, _, _, _, _, _, _, _, _, _, _, _, _, _, _, _, _, _, _, _, _, _, _, _, _, _, _, _, _, _, _, _, _, _, _, _, _, _, _, _, _, _, _, _, _, _, _, _, _, _, _, _, _, _, _, _, _, _, _, _, _, _, _, _, _, _, _, _, _, _, _, _, _, _, _, _, _, _, _, _, _, _, _, _, _, _, _, _, _, _, _, _, RGet.mk (k := k + 2) (by omega) (by first | rfl | go_num | (congr 1; omega)) HO3.out (by simp; omega) (get_on HG.out ST.out) hb3.out, rfl⟩ ?_
  simp [intOf]
  omega

set_option linter.unusedVariables false in
set_option maxHeartbeats 4000000 in
set_option maxRecDepth 1000000 in
theorem ve_97N (u4 u5 u6 u9 u10 u11 u12 u13 u14 u15 u16 u17 u18 u19 u20 u21 u22 u23 u24 u25 u26 u27 u28 u29 u30 u31 u32 u33 u34 u35 u36 u37 u38 u39 u40 u41 u42 u43 u44 u45 u46 u47 u48 u49 u50 u51 u52 u53 u54 u55 u56 u57 u58 u59 u60 u61 u62 u63 u64 u65 u66 u67 u68 u69 u70 u71 u72 u73 u74 u75 u76 u77 u78 u79 u80 u81 u82 u83 u84 u85 u86 u87 u88 u89 u90 u91 u92 u93 u94 u95 u96 u97 u98 u99 u100 u101 u102 u103 u104 u105 u106 u107 u108 u109 u110 u111 u112 u113 u114 u115 u116 u117 u118 u119 u120 u121 u122 u123 u124 u125 u126 u127 u128 u129 u130 u131 u132 u133 u134 u135 u136 u137 u138 u139 u140 u141 u142 u143 u144 u145 u146 u147 u148 u149 u150 u151 u152 u153 u154 u155 u156 u157 u158 u159 u160 u161 u162 u163 u164 u165 u166 u167 u168 u169 u170 u171 u172 u173 u174 u175 u176 u177 u178 u179 u180 u181 v : Value) (s : ByteArray) (q : Int) (w wr : World) (r : Option (List UInt8 × Nat)) (k : Nat) (g : List UInt8) (c : UInt8) (hs : s.size ≤ 4000) (hlt : k < s.size) (hc : s[k] = c) (hgl : g.length ≤ k)
    (HDK : Hid (s.data.toList.drop k = c :: s.data.toList.drop (k + 1))) (hown : Hid (wr.ownsRow w.heap.size 5 1 v g.length (bc g))) (HG : Hid (getF q ((s.data.toList.drop k).length + 1) (s.data.toList.drop k) g k = r)) (hbl : Hid (Below w.heap.size w wr))
    (hq : ((c.toNat : Int) == q) = false) (h10 : ((c.toNat : Int) == 10) = false) (h92 : ((c.toNat : Int) != 92) = false) (hend : k + 1 < s.size) (e : UInt8) (hx : s[k + 1] = e) (he : e = 97) (hend2 : s.size ≤ k + 2) (ST : Hid (stepF q (s.data.toList.drop k) = .go [7] 2))
    (Kn : Act → World → Prop) (Q : Exit → Act → World → Prop) (HK : Hid (∀ a' w'', WI w s q r a' w'' → s.size - (intOf (a'.tmps.getD 8 undef)).toNat < s.size - k → Kn a' w'')) (HQ : Hid (∀ a' w'', bodyPost Tryd.prog Tryd.f45 (GetPost w r) Exit.ret a' w'' → Q Exit.ret a' w'')) :
    Code.wp Tryd.prog ((Tryd.f45.body.bind firstLoop).getD .skip) (Exit.then Kn Q) ⟨#[.string s, .int .u8 q, undef, undef, u4, u5, u6, v, .int .i64 k, u9, u10, u11, u12, u13, u14, u15, u16, u17, u18, u19, u20, u21, u22, u23, u24, u25, u26, u27, u28, u29, u30, u31, u32, u33, u34, u35, u36, u37, u38, u39, u40, u41, u42, u43, u44, u45, u46, u47, u48, u49, u50, u51, u52, u53, u54, u55, u56, u57, u58, u59, u60, u61, u62, u63, u64, u65, u66, u67, u68, u69, u70, u71, u72, u73, u74, u75, u76, u77, u78, u79, u80, u81, u82, u83, u84, u85, u86, u87, u88, u89, u90, u91, u92, u93, u94, u95, u96, u97, u98, u99, u100, u101, u102, u103, u104, u105, u106, u107, u108, u109, u110, u111, u112, u113, u114, u115, u116, u117, u118, u119, u120, u121, u122, u123, u124, u125, u126, u127, u128, u129, u130, u131, u132, u133, u134, u135, u136, u137, u138, u139, u140, u141, u142, u143, u144, u145, u146, u147, u148, u149, u150, u151, u152, u153, u154, u155, u156, u157, u158, u159, u160, u161, u162, u163, u164, u165, u166, u167, u168, u169, u170, u171, u172, u173, u174, u175, u176, u177, u178, u179, u180, u181], []⟩ wr := by
  obtain ⟨i0, hi, hz0, hz1, hz2⟩ := info_parts byteInfo
  have hc0 : (0 : Int) ≤ (c.toNat : Int) := by omega
  have hc1 : (c.toNat : Int) ≤ 255 := by have := c.toNat_lt; omega
  conv => arg 2; whnf
  obtain rfl : e = 97 := he
  have cx0 : (ByteArray.mk #[110, 114, 116, 97, 98, 102, 118, 48])[0]'(by decide) = 110 := rfl
  have cx1 : (ByteArray.mk #[110, 114, 116, 97, 98, 102, 118, 48])[1]'(by decide) = 114 := rfl
  have cx2 : (ByteArray.mk #[110, 114, 116, 97, 98, 102, 118, 48])[2]'(by decide) = 116 := rfl
  have cx3 : (ByteArray.mk #[110, 114, 116, 97, 98, 102, 118, 48])[3]'(by decide) = 97 := rfl
  have cx4 : (ByteArray.mk #[110, 114, 116, 97, 98, 102, 118, 48])[4]'(by decide) = 98 := rfl
  have cx5 : (ByteArray.mk #[110, 114, 116, 97, 98, 102, 118, 48])[5]'(by decide) = 102 := rfl
  have cx6 : (ByteArray.mk #[110, 114, 116, 97, 98, 102, 118, 48])[6]'(by decide) = 118 := rfl
  have cx7 : (ByteArray.mk #[110, 114, 116, 97, 98, 102, 118, 48])[7]'(by decide) = 48 := rfl
  have ix : ∀ w, (Instr.index 79 (.agg #[.int .i64 10, .int .i64 13, .int .i64 9, .int .i64 7, .int .i64 8, .int .i64 12, .int .i64 11, .int .i64 0]) (.int .i64 3)).run Tryd.prog w = .ok (.int .i64 7) w := fun _ => by kernel_rfl
  go_wp2_with fail
  refine wp_loop_rounds 9 ?_
  rw [rounds_succ]
  go_wp2_with fail
  rw [rounds_succ]
  go_wp2_with fail
  rw [rounds_succ]
  go_wp2_with fail
  rw [rounds_succ]
  go_wp2_with fail
  rw [rounds_succ]
  go_wp2_with fail
  rw [rounds_succ]
  go_wp2_with fail
  rw [rounds_succ]
  go_wp2_with fail
  rw [rounds_succ]
  go_wp2_with fail
  rw [rounds_succ]
  go_wp2_with (at_builtin; refine wpList_append_own _ rfl (.tmp 84) (.tmp 87) 38 rfl w.heap.size 5 i0 (.int .u8 0) 1 1 Tryd.underlying38 hi hz0 hz1 hz2 rfl (by decide) _ _ _ rfl (hown.out.alloc _) ⟨wr.heap.size, 0, none⟩ 1 1 [.int .u8 7] rfl rfl (cell_one_new _ _ _) one_1 ?_ ?_ ?_ ?_)
  · unfold maxLen; omega
  · omega
  · have := hbl.out.size; simp; omega
  intro v3 w3 hown3 hg3 _
  have HO3 := Lib.hid (own_more (X := g ++ [7]) (N := [7]) hown3 rfl rfl rfl)
  have hb3 := Lib.hid (below_app hbl.out (Nat.le_refl _) hown.out hg3)
  clear hown3 hg3 hown hbl
  go_wp2_with fail
  refine HK.out _ _ ⟨_, _, _, _, _, _, _, _, _, _, _, _, _, _, _, _, _, _, _, _, _, _, _, _, _, _, _, _, _, _, _, _, _, _, _, _, _, _, _, _, _, _, _, _, _, _, _, _, _, _, _, _, _, _, _, _, _, _, _, _, _, _, _, _, _, _, _, _, _, _, _, _, _, _, _, _, _, _, _, _, _, _, _, _, _, _, _, _, _, _, _, _, _, _, _, _, _, _, _, _, _, _, _, _, _, _, _, _, _, _, _, _, _, _, _, _, _, _, _, _, _, _, _, _, _, _, _, _, _, _, _, _, _, _, _, _, _, _, _, _, _, _, _, _, _, _, _, _, _, _, _, _, _, _, _, _, _, _, _, _, _, _, _, _, _, _, _, _, _, _, _, _, _, _, _, _, _, _, RGet.mk (k := k + 2) (by omega) (by first | rfl | go_num | (congr 1; omega)) HO3.out (by simp; omega) (get_on HG.out ST.out) hb3.out, rfl⟩ ?_
  simp [intOf]
  omega

set_option linter.unusedVariables false in
set_option maxHeartbeats 4000000 in
set_option maxRecDepth 1000000 in
theorem ve_98N (u4 u5 u6 u9 u10 u11 u12 u13 u14 u15 u16 u17 u18 u19 u20 u21 u22 u23 u24 u25 u26 u27 u28 u29 u30 u31 u32 u33 u34 u35 u36 u37 u38 u39 u40 u41 u42 u43 u44 u45 u46 u47 u48 u49 u50 u51 u52 u53 u54 u55 u56 u57 u58 u59 u60 u61 u62 u63 u64 u65 u66 u67 u68 u69 u70 u71 u72 u73 u74 u75 u76 u77 u78 u79 u80 u81 u82 u83 u84 u85 u86 u87 u88 u89 u90 u91 u92 u93 u94 u95 u96 u97 u98 u99 u100 u101 u102 u103 u104 u105 u106 u107 u108 u109 u110 u111 u112 u113 u114 u115 u116 u117 u118 u119 u120 u121 u122 u123 u124 u125 u126 u127 u128 u129 u130 u131 u132 u133 u134 u135 u136 u137 u138 u139 u140 u141 u142 u143 u144 u145 u146 u147 u148 u149 u150 u151 u152 u153 u154 u155 u156 u157 u158 u159 u160 u161 u162 u163 u164 u165 u166 u167 u168 u169 u170 u171 u172 u173 u174 u175 u176 u177 u178 u179 u180 u181 v : Value) (s : ByteArray) (q : Int) (w wr : World) (r : Option (List UInt8 × Nat)) (k : Nat) (g : List UInt8) (c : UInt8) (hs : s.size ≤ 4000) (hlt : k < s.size) (hc : s[k] = c) (hgl : g.length ≤ k)
    (HDK : Hid (s.data.toList.drop k = c :: s.data.toList.drop (k + 1))) (hown : Hid (wr.ownsRow w.heap.size 5 1 v g.length (bc g))) (HG : Hid (getF q ((s.data.toList.drop k).length + 1) (s.data.toList.drop k) g k = r)) (hbl : Hid (Below w.heap.size w wr))
    (hq : ((c.toNat : Int) == q) = false) (h10 : ((c.toNat : Int) == 10) = false) (h92 : ((c.toNat : Int) != 92) = false) (hend : k + 1 < s.size) (e : UInt8) (hx : s[k + 1] = e) (he : e = 98) (hend2 : s.size ≤ k + 2) (ST : Hid (stepF q (s.data.toList.drop k) = .go [8] 2))
    (Kn : Act → World → Prop) (Q : Exit → Act → World → Prop) (HK : Hid (∀ a' w'', WI w s q r a' w'' → s.size - (intOf (a'.tmps.getD 8 undef)).toNat < s.size - k → Kn a' w'')) (HQ : Hid (∀ a' w'', bodyPost Tryd.prog Tryd.f45 (GetPost w r) Exit.ret a' w'' → Q Exit.ret a' w'')) :
    Code.wp Tryd.prog ((Tryd.f45.body.bind firstLoop).getD .skip) (Exit.then Kn Q) ⟨#[.string s, .int .u8 q, undef, undef, u4, u5, u6, v, .int .i64 k, u9, u10, u11, u12, u13, u14, u15, u16, u17, u18, u19, u20, u21, u22, u23, u24, u25, u26, u27, u28, u29, u30, u31, u32, u33, u34, u35, u36, u37, u38, u39, u40, u41, u42, u43, u44, u45, u46, u47, u48, u49, u50, u51, u52, u53, u54, u55, u56, u57, u58, u59, u60, u61, u62, u63, u64, u65, u66, u67, u68, u69, u70, u71, u72, u73, u74, u75, u76, u77, u78, u79, u80, u81, u82, u83, u84, u85, u86, u87, u88, u89, u90, u91, u92, u93, u94, u95, u96, u97, u98, u99, u100, u101, u102, u103, u104, u105, u106, u107, u108, u109, u110, u111, u112, u113, u114, u115, u116, u117, u118, u119, u120, u121, u122, u123, u124, u125, u126, u127, u128, u129, u130, u131, u132, u133, u134, u135, u136, u137, u138, u139, u140, u141, u142, u143, u144, u145, u146, u147, u148, u149, u150, u151, u152, u153, u154, u155, u156, u157, u158, u159, u160, u161, u162, u163, u164, u165, u166, u167, u168, u169, u170, u171, u172, u173, u174, u175, u176, u177, u178, u179, u180, u181], []⟩ wr := by
  obtain ⟨i0, hi, hz0, hz1, hz2⟩ := info_parts byteInfo
  have hc0 : (0 : Int) ≤ (c.toNat : Int) := by omega
  have hc1 : (c.toNat : Int) ≤ 255 := by have := c.toNat_lt; omega
  conv => arg 2; whnf
  obtain rfl : e = 98 := he
  have cx0 : (ByteArray.mk #[110, 114, 116, 97, 98, 102, 118, 48])[0]'(by decide) = 110 := rfl
  have cx1 : (ByteArray.mk #[110, 114, 116, 97, 98, 102, 118, 48])[1]'(by decide) = 114 := rfl
  have cx2 : (ByteArray.mk #[110, 114, 116, 97, 98, 102, 118, 48])[2]'(by decide) = 116 := rfl
  have cx3 : (ByteArray.mk #[110, 114, 116, 97, 98, 102, 118, 48])[3]'(by decide) = 97 := rfl
  have cx4 : (ByteArray.mk #[110, 114, 116, 97, 98, 102, 118, 48])[4]'(by decide) = 98 := rfl
  have cx5 : (ByteArray.mk #[110, 114, 116, 97, 98, 102, 118, 48])[5]'(by decide) = 102 := rfl
  have cx6 : (ByteArray.mk #[110, 114, 116, 97, 98, 102, 118, 48])[6]'(by decide) = 118 := rfl
  have cx7 : (ByteArray.mk #[110, 114, 116, 97, 98, 102, 118, 48])[7]'(by decide) = 48 := rfl
  have ix : ∀ w, (Instr.index 79 (.agg #[.int .i64 10, .int .i64 13, .int .i64 9, .int .i64 7, .int .i64 8, .int .i64 12, .int .i64 11, .int .i64 0]) (.int .i64 4)).run Tryd.prog w = .ok (.int .i64 8) w := fun _ => by kernel_rfl
  go_wp2_with fail
  refine wp_loop_rounds 9 ?_
  rw [rounds_succ]
  go_wp2_with fail
  rw [rounds_succ]
  go_wp2_with fail
  rw [rounds_succ]
  go_wp2_with fail
  rw [rounds_succ]
  go_wp2_with fail
  rw [rounds_succ]
  go_wp2_with fail
  rw [rounds_succ]
  go_wp2_with fail
  rw [rounds_succ]
  go_wp2_with fail
  rw [rounds_succ]
  go_wp2_with fail
  rw [rounds_succ]
  go_wp2_with (at_builtin; refine wpList_append_own _ rfl (.tmp 84) (.tmp 87) 38 rfl w.heap.size 5 i0 (.int .u8 0) 1 1 Tryd.underlying38 hi hz0 hz1 hz2 rfl (by decide) _ _ _ rfl (hown.out.alloc _) ⟨wr.heap.size, 0, none⟩ 1 1 [.int .u8 8] rfl rfl (cell_one_new _ _ _) one_1 ?_ ?_ ?_ ?_)
  · unfold maxLen; omega
  · omega
  · have := hbl.out.size; simp; omega
  intro v3 w3 hown3 hg3 _
  have HO3 := Lib.hid (own_more (X := g ++ [8]) (N := [8]) hown3 rfl rfl rfl)
  have hb3 := Lib.hid (below_app hbl.out (Nat.le_refl _) hown.out hg3)
  clear hown3 hg3 hown hbl
  go_wp2_with fail
  refine HK.out _ _ ⟨_, _, _, _, _, _, _, _, _, _, _, _, _, _, _, _, _, _, _, _, _, _, _, _, _, _, _, _, _, _, _, _, _, _, _, _, _, _, _, _, _, _, _, _, _, _, _, _, _, _, _, _, _, _, _, _, _, _, _, _, _, _, _, _, _, _, _, _, _, _, _, _, _, _, _, _, _, _, _, _, _, _, _, _, _, _, _, _, _, _, _, _, _, _, _, _, _, _, _, _, _, _, _, _, _, _, _, _, _, _, _, _, _, _, _, _, _, _, _, _, _, _, _, _, _, _, _, _, _, _, _, _, _, _, _, _, _, _, _, _, _, _, _, _, _, _, _, _, _, _, _, _, _, _, _, _, _, _, _, _, _, _, _, _, _, _, _, _, _, _, _, _, _, _, _, _, _, _, RGet.mk (k := k + 2) (by omega) (by first | rfl | go_num | (congr 1; omega)) HO3.out (by simp; omega) (get_on HG.out ST.out) hb3.out, rfl⟩ ?_
  simp [intOf]
  omega

set_option linter.unusedVariables false in
set_option maxHeartbeats 4000000 in
set_option maxRecDepth 1000000 in
theorem ve_102N (u4 u5 u6 u9 u10 u11 u12 u13 u14 u15 u16 u17 u18 u19 u20 u21 u22 u23 u24 u25 u26 u27 u28 u29 u30 u31 u32 u33 u34 u35 u36 u37 u38 u39 u40 u41 u42 u43 u44 u45 u46 u47 u48 u49 u50 u51 u52 u53 u54 u55 u56 u57 u58 u59 u60 u61 u62 u63 u64 u65 u66 u67 u68 u69 u70 u71 u72 u73 u74 u75 u76 u77 u78 u79 u80 u81 u82 u83 u84 u85 u86 u87 u88 u89 u90 u91 u92 u93 u94 u95 u96 u97 u98 u99 u100 u101 u102 u103 u104 u105 u106 u107 u108 u109 u110 u111 u112 u113 u114 u115 u116 u117 u118 u119 u120 u121 u122 u123 u124 u125 u126 u127 u128 u129 u130 u131 u132 u133 u134 u135 u136 u137 u138 u139 u140 u141 u142 u143 u144 u145 u146 u147 u148 u149 u150 u151 u152 u153 u154 u155 u156 u157 u158 u159 u160 u161 u162 u163 u164 u165 u166 u167 u168 u169 u170 u171 u172 u173 u174 u175 u176 u177 u178 u179 u180 u181 v : Value) (s : ByteArray) (q : Int) (w wr : World) (r : Option (List UInt8 × Nat)) (k : Nat) (g : List UInt8) (c : UInt8) (hs : s.size ≤ 4000) (hlt : k < s.size) (hc : s[k] = c) (hgl : g.length ≤ k)
    (HDK : Hid (s.data.toList.drop k = c :: s.data.toList.drop (k + 1))) (hown : Hid (wr.ownsRow w.heap.size 5 1 v g.length (bc g))) (HG : Hid (getF q ((s.data.toList.drop k).length + 1) (s.data.toList.drop k) g k = r)) (hbl : Hid (Below w.heap.size w wr))
    (hq : ((c.toNat : Int) == q) = false) (h10 : ((c.toNat : Int) == 10) = false) (h92 : ((c.toNat : Int) != 92) = false) (hend : k + 1 < s.size) (e : UInt8) (hx : s[k + 1] = e) (he : e = 102) (hend2 : s.size ≤ k + 2) (ST : Hid (stepF q (s.data.toList.drop k) = .go [12] 2))
    (Kn : Act → World → Prop) (Q : Exit → Act → World → Prop) (HK : Hid (∀ a' w'', WI w s q r a' w'' → s.size - (intOf (a'.tmps.getD 8 undef)).toNat < s.size - k → Kn a' w'')) (HQ : Hid (∀ a' w'', bodyPost Tryd.prog Tryd.f45 (GetPost w r) Exit.ret a' w'' → Q Exit.ret a' w'')) :
    Code.wp Tryd.prog ((Tryd.f45.body.bind firstLoop).getD .skip) (Exit.then Kn Q) ⟨#[.string s, .int .u8 q, undef, undef, u4, u5, u6, v, .int .i64 k, u9, u10, u11, u12, u13, u14, u15, u16, u17, u18, u19, u20, u21, u22, u23, u24, u25, u26, u27, u28, u29, u30, u31, u32, u33, u34, u35, u36, u37, u38, u39, u40, u41, u42, u43, u44, u45, u46, u47, u48, u49, u50, u51, u52, u53, u54, u55, u56, u57, u58, u59, u60, u61, u62, u63, u64, u65, u66, u67, u68, u69, u70, u71, u72, u73, u74, u75, u76, u77, u78, u79, u80, u81, u82, u83, u84, u85, u86, u87, u88, u89, u90, u91, u92, u93, u94, u95, u96, u97, u98, u99, u100, u101, u102, u103, u104, u105, u106, u107, u108, u109, u110, u111, u112, u113, u114, u115, u116, u117, u118, u119, u120, u121, u122, u123, u124, u125, u126, u127, u128, u129, u130, u131, u132, u133, u134, u135, u136, u137, u138, u139, u140, u141, u142, u143, u144, u145, u146, u147, u148, u149, u150, u151, u152, u153, u154, u155, u156, u157, u158, u159, u160, u161, u162, u163, u164, u165, u166, u167, u168, u169, u170, u171, u172, u173, u174, u175, u176, u177, u178, u179, u180, u181], []⟩ wr := by
  obtain ⟨i0, hi, hz0, hz1, hz2⟩ := info_parts byteInfo
  have hc0 : (0 : Int) ≤ (c.toNat : Int) := by omega
  have hc1 : (c.toNat : Int) ≤ 255 := by have := c.toNat_lt; omega
  conv => arg 2; whnf
  obtain rfl : e = 102 := he
  have cx0 : (ByteArray.mk #[110, 114, 116, 97, 98, 102, 118, 48])[0]'(by decide) = 110 := rfl
  have cx1 : (ByteArray.mk #[110, 114, 116, 97, 98, 102, 118, 48])[1]'(by decide) = 114 := rfl
  have cx2 : (ByteArray.mk #[110, 114, 116, 97, 98, 102, 118, 48])[2]'(by decide) = 116 := rfl
  have cx3 : (ByteArray.mk #[110, 114, 116, 97, 98, 102, 118, 48])[3]'(by decide) = 97 := rfl
  have cx4 : (ByteArray.mk #[110, 114, 116, 97, 98, 102, 118, 48])[4]'(by decide) = 98 := rfl
  have cx5 : (ByteArray.mk #[110, 114, 116, 97, 98, 102, 118, 48])[5]'(by decide) = 102 := rfl
  have cx6 : (ByteArray.mk #[110, 114, 116, 97, 98, 102, 118, 48])[6]'(by decide) = 118 := rfl
  have cx7 : (ByteArray.mk #[110, 114, 116, 97, 98, 102, 118, 48])[7]'(by decide) = 48 := rfl
  have ix : ∀ w, (Instr.index 79 (.agg #[.int .i64 10, .int .i64 13, .int .i64 9, .int .i64 7, .int .i64 8, .int .i64 12, .int .i64 11, .int .i64 0]) (.int .i64 5)).run Tryd.prog w = .ok (.int .i64 12) w := fun _ => by kernel_rfl
  go_wp2_with fail
  refine wp_loop_rounds 9 ?_
  rw [rounds_succ]
  go_wp2_with fail
  rw [rounds_succ]
  go_wp2_with fail
  rw [rounds_succ]
  go_wp2_with fail
  rw [rounds_succ]
  go_wp2_with fail
  rw [rounds_succ]
  go_wp2_with fail
  rw [rounds_succ]
  go_wp2_with fail
  rw [rounds_succ]
  go_wp2_with fail
  rw [rounds_succ]
  go_wp2_with fail
  rw [rounds_succ]
  go_wp2_with (at_builtin; refine wpList_append_own _ rfl (.tmp 84) (.tmp 87) 38 rfl w.heap.size 5 i0 (.int .u8 0) 1 1 Tryd.underlying38 hi hz0 hz1 hz2 rfl (by decide) _ _ _ rfl (hown.out.alloc _) ⟨wr.heap.size, 0, none⟩ 1 1 [.int .u8 12] rfl rfl (cell_one_new _ _ _) one_1 ?_ ?_ ?_ ?_)
  · unfold maxLen; omega
  · omega
  · have := hbl.out.size; simp; omega
  intro v3 w3 hown3 hg3 _
  have HO3 := Lib.hid (own_more (X := g ++ [12]) (N := [12]) hown3 rfl rfl rfl)
  have hb3 := Lib.hid (below_app hbl.out (Nat.le_refl _) hown.out hg3)
  clear hown3 hg3 hown hbl
  go_wp2_with fail
  refine HK.out _ _ ⟨_, _, _, _, _, _, _, _, _, _, _, _, _, _, _, _, _, _, _, _, _, _, _, _, _, _, _, _, _, _, _, _, _, _, _, _, _, _, _, _, _, _, _, _, _, _, _, _, _, _, _, _, _, _, _, _, _, _, _, _, _, _, _, _, _, _, _, _, _, _, _, _, _, _, _, _, _, _, _, _, _, _, _, _, _, _, _, _, _, _, _, _, _, _, _, _, _, _, _, _, _, _, _, _, _, _, _, _, _, _, _, _, _, _, _, _, _, _, _, _, _, _, _, _, _, _, _, _, _, _, _, _, _, _, _, _, _, _, _, _, _, _, _, _, _, _, _, _, _, _, _, _, _, _, _, _, _, _, _, _, _, _, _, _, _, _, _, _, _, _, _, _, _, _, _, _, _, _, RGet.mk (k := k + 2) (by omega) (by first | rfl | go_num | (congr 1; omega)) HO3.out (by simp; omega) (get_on HG.out ST.out) hb3.out, rfl⟩ ?_
  simp [intOf]
  omega

set_option linter.unusedVariables false in
set_option maxHeartbeats 4000000 in
set_option maxRecDepth 1000000 in
theorem ve_118N (u4 u5 u6 u9 u10 u11 u12 u13 u14 u15 u16 u17 u18 u19 u20 u21 u22 u23 u24 u25 u26 u27 u28 u29 u30 u31 u32 u33 u34 u35 u36 u37 u38 u39 u40 u41 u42 u43 u44 u45 u46 u47 u48 u49 u50 u51 u52 u53 u54 u55 u56 u57 u58 u59 u60 u61 u62 u63 u64 u65 u66 u67 u68 u69 u70 u71 u72 u73 u74 u75 u76 u77 u78 u79 u80 u81 u82 u83 u84 u85 u86 u87 u88 u89 u90 u91 u92 u93 u94 u95 u96 u97 u98 u99 u100 u101 u102 u103 u104 u105 u106 u107 u108 u109 u110 u111 u112 u113 u114 u115 u116 u117 u118 u119 u120 u121 u122 u123 u124 u125 u126 u127 u128 u129 u130 u131 u132 u133 u134 u135 u136 u137 u138 u139 u140 u141 u142 u143 u144 u145 u146 u147 u148 u149 u150 u151 u152 u153 u154 u155 u156 u157 u158 u159 u160 u161 u162 u163 u164 u165 u166 u167 u168 u169 u170 u171 u172 u173 u174 u175 u176 u177 u178 u179 u180 u181 v : Value) (s : ByteArray) (q : Int) (w wr : World) (r : Option (List UInt8 × Nat)) (k : Nat) (g : List UInt8) (c : UInt8) (hs : s.size ≤ 4000) (hlt : k < s.size) (hc : s[k] = c) (hgl : g.length ≤ k)
    (HDK : Hid (s.data.toList.drop k = c :: s.data.toList.drop (k + 1))) (hown : Hid (wr.ownsRow w.heap.size 5 1 v g.length (bc g))) (HG : Hid (getF q ((s.data.toList.drop k).length + 1) (s.data.toList.drop k) g k = r)) (hbl : Hid (Below w.heap.size w wr))
    (hq : ((c.toNat : Int) == q) = false) (h10 : ((c.toNat : Int) == 10) = false) (h92 : ((c.toNat : Int) != 92) = false) (hend : k + 1 < s.size) (e : UInt8) (hx : s[k + 1] = e) (he : e = 118) (hend2 : s.size ≤ k + 2) (ST : Hid (stepF q (s.data.toList.drop k) = .go [11] 2))
    (Kn : Act → World → Prop) (Q : Exit → Act → World → Prop) (HK : Hid (∀ a' w'', WI w s q r a' w'' → s.size - (intOf (a'.tmps.getD 8 undef)).toNat < s.size - k → Kn a' w'')) (HQ : Hid (∀ a' w'', bodyPost Tryd.prog Tryd.f45 (GetPost w r) Exit.ret a' w'' → Q Exit.ret a' w'')) :
    Code.wp Tryd.prog ((Tryd.f45.body.bind firstLoop).getD .skip) (Exit.then Kn Q) ⟨#[.string s, .int .u8 q, undef, undef, u4, u5, u6, v, .int .i64 k, u9, u10, u11, u12, u13, u14, u15, u16, u17, u18, u19, u20, u21, u22, u23, u24, u25, u26, u27, u28, u29, u30, u31, u32, u33, u34, u35, u36, u37, u38, u39, u40, u41, u42, u43, u44, u45, u46, u47, u48, u49, u50, u51, u52, u53, u54, u55, u56, u57, u58, u59, u60, u61, u62, u63, u64, u65, u66, u67, u68, u69, u70, u71, u72, u73, u74, u75, u76, u77, u78, u79, u80, u81, u82, u83, u84, u85, u86, u87, u88, u89, u90, u91, u92, u93, u94, u95, u96, u97, u98, u99, u100, u101, u102, u103, u104, u105, u106, u107, u108, u109, u110, u111, u112, u113, u114, u115, u116, u117, u118, u119, u120, u121, u122, u123, u124, u125, u126, u127, u128, u129, u130, u131, u132, u133, u134, u135, u136, u137, u138, u139, u140, u141, u142, u143, u144, u145, u146, u147, u148, u149, u150, u151, u152, u153, u154, u155, u156, u157, u158, u159, u160, u161, u162, u163, u164, u165, u166, u167, u168, u169, u170, u171, u172, u173, u174, u175, u176, u177, u178, u179, u180, u181], []⟩ wr := by
  obtain ⟨i0, hi, hz0, hz1, hz2⟩ := info_parts byteInfo
  have hc0 : (0 : Int) ≤ (c.toNat : Int) := by omega
  have hc1 : (c.toNat : Int) ≤ 255 := by have := c.toNat_lt; omega
  conv => arg 2; whnf
  obtain rfl : e = 118 := he
  have cx0 : (ByteArray.mk #[110, 114, 116, 97, 98, 102, 118, 48])[0]'(by decide) = 110 := rfl
  have cx1 : (ByteArray.mk #[110, 114, 116, 97, 98, 102, 118, 48])[1]'(by decide) = 114 := rfl
  have cx2 : (ByteArray.mk #[110, 114, 116, 97, 98, 102, 118, 48])[2]'(by decide) = 116 := rfl
  have cx3 : (ByteArray.mk #[110, 114, 116, 97, 98, 102, 118, 48])[3]'(by decide) = 97 := rfl
  have cx4 : (ByteArray.mk #[110, 114, 116, 97, 98, 102, 118, 48])[4]'(by decide) = 98 := rfl
  have cx5 : (ByteArray.mk #[110, 114, 116, 97, 98, 102, 118, 48])[5]'(by decide) = 102 := rfl
  have cx6 : (ByteArray.mk #[110, 114, 116, 97, 98, 102, 118, 48])[6]'(by decide) = 118 := rfl
  have cx7 : (ByteArray.mk #[110, 114, 116, 97, 98, 102, 118, 48])[7]'(by decide) = 48 := rfl
  have ix : ∀ w, (Instr.index 79 (.agg #[.int .i64 10, .int .i64 13, .int .i64 9, .int .i64 7, .int .i64 8, .int .i64 12, .int .i64 11, .int .i64 0]) (.int .i64 6)).run Tryd.prog w = .ok (.int .i64 11) w := fun _ => by kernel_rfl
  go_wp2_with fail
  refine wp_loop_rounds 9 ?_
  rw [rounds_succ]
  go_wp2_with fail
  rw [rounds_succ]
  go_wp2_with fail
  rw [rounds_succ]
  go_wp2_with fail
  rw [rounds_succ]
  go_wp2_with fail
  rw [rounds_succ]
  go_wp2_with fail
  rw [rounds_succ]
  go_wp2_with fail
  rw [rounds_succ]
  go_wp2_with fail
  rw [rounds_succ]
  go_wp2_with fail
  rw [rounds_succ]
  go_wp2_with (at_builtin; refine wpList_append_own _ rfl (.tmp 84) (.tmp 87) 38 rfl w.heap.size 5 i0 (.int .u8 0) 1 1 Tryd.underlying38 hi hz0 hz1 hz2 rfl (by decide) _ _ _ rfl (hown.out.alloc _) ⟨wr.heap.size, 0, none⟩ 1 1 [.int .u8 11] rfl rfl (cell_one_new _ _ _) one_1 ?_ ?_ ?_ ?_)
  · unfold maxLen; omega
  · omega
  · have := hbl.out.size; simp; omega
  intro v3 w3 hown3 hg3 _
  have HO3 := Lib.hid (own_more (X := g ++ [11]) (N := [11]) hown3 rfl rfl rfl)
  have hb3 := Lib.hid (below_app hbl.out (Nat.le_refl _) hown.out hg3)
  clear hown3 hg3 hown hbl
  go_wp2_with fail
  refine HK.out _ _ ⟨_, _, _, _, _, _, _, _, _, _, _, _, _, _, _, _, _, _, _, _, _, _, _, _, _, _, _, _, _, _, _, _, _, _, _, _, _, _, _, _, _, _, _, _, _, _, _, _, _, _, _, _, _, _, _, _, _, _, _, _, _, _, _, _, _, _, _, _, _, _, _, _, _, _, _, _, _, _, _, _, _, _, _, _, _, _, _, _, _, _, _, _, _, _, _, _, _, _, _, _, _, _, _, _, _, _, _, _, _, _, _, _, _, _, _, _, _, _, _, _, _, _, _, _, _, _, _, _, _, _, _, _, _, _, _, _, _, _, _, _, _, _, _, _, _, _, _, _, _, _, _, _, _, _, _, _, _, _, _, _, _, _, _, _, _, _, _, _, _, _, _, _, _, _, _, _, _, _, RGet.mk (k := k + 2) (by omega) (by first | rfl | go_num | (congr 1; omega)) HO3.out (by simp; omega) (get_on HG.out ST.out) hb3.out, rfl⟩ ?_
  simp [intOf]
  omega

set_option linter.unusedVariables false in
set_option maxHeartbeats 4000000 in
set_option maxRecDepth 1000000 in
theorem ve_92N (u4 u5 u6 u9 u10 u11 u12 u13 u14 u15 u16 u17 u18 u19 u20 u21 u22 u23 u24 u25 u26 u27 u28 u29 u30 u31 u32 u33 u34 u35 u36 u37 u38 u39 u40 u41 u42 u43 u44 u45 u46 u47 u48 u49 u50 u51 u52 u53 u54 u55 u56 u57 u58 u59 u60 u61 u62 u63 u64 u65 u66 u67 u68 u69 u70 u71 u72 u73 u74 u75 u76 u77 u78 u79 u80 u81 u82 u83 u84 u85 u86 u87 u88 u89 u90 u91 u92 u93 u94 u95 u96 u97 u98 u99 u100 u101 u102 u103 u104 u105 u106 u107 u108 u109 u110 u111 u112 u113 u114 u115 u116 u117 u118 u119 u120 u121 u122 u123 u124 u125 u126 u127 u128 u129 u130 u131 u132 u133 u134 u135 u136 u137 u138 u139 u140 u141 u142 u143 u144 u145 u146 u147 u148 u149 u150 u151 u152 u153 u154 u155 u156 u157 u158 u159 u160 u161 u162 u163 u164 u165 u166 u167 u168 u169 u170 u171 u172 u173 u174 u175 u176 u177 u178 u179 u180 u181 v : Value) (s : ByteArray) (q : Int) (w wr : World) (r : Option (List UInt8 × Nat)) (k : Nat) (g : List UInt8) (c : UInt8) (hs : s.size ≤ 4000) (hlt : k < s.size) (hc : s[k] = c) (hgl : g.length ≤ k)
    (HDK : Hid (s.data.toList.drop k = c :: s.data.toList.drop (k + 1))) (hown : Hid (wr.ownsRow w.heap.size 5 1 v g.length (bc g))) (HG : Hid (getF q ((s.data.toList.drop k).length + 1) (s.data.toList.drop k) g k = r)) (hbl : Hid (Below w.heap.size w wr))
    (hq : ((c.toNat : Int) == q) = false) (h10 : ((c.toNat : Int) == 10) = false) (h92 : ((c.toNat : Int) != 92) = false) (hend : k + 1 < s.size) (e : UInt8) (hx : s[k + 1] = e) (he : e = 92) (hend2 : s.size ≤ k + 2) (ST : Hid (stepF q (s.data.toList.drop k) = .go [92] 2))
    (Kn : Act → World → Prop) (Q : Exit → Act → World → Prop) (HK : Hid (∀ a' w'', WI w s q r a' w'' → s.size - (intOf (a'.tmps.getD 8 undef)).toNat < s.size - k → Kn a' w'')) (HQ : Hid (∀ a' w'', bodyPost Tryd.prog Tryd.f45 (GetPost w r) Exit.ret a' w'' → Q Exit.ret a' w'')) :
    Code.wp Tryd.prog ((Tryd.f45.body.bind firstLoop).getD .skip) (Exit.then Kn Q) ⟨#[.string s, .int .u8 q, undef, undef, u4, u5, u6, v, .int .i64 k, u9, u10, u11, u12, u13, u14, u15, u16, u17, u18, u19, u20, u21, u22, u23, u24, u25, u26, u27, u28, u29, u30, u31, u32, u33, u34, u35, u36, u37, u38, u39, u40, u41, u42, u43, u44, u45, u46, u47, u48, u49, u50, u51, u52, u53, u54, u55, u56, u57, u58, u59, u60, u61, u62, u63, u64, u65, u66, u67, u68, u69, u70, u71, u72, u73, u74, u75, u76, u77, u78, u79, u80, u81, u82, u83, u84, u85, u86, u87, u88, u89, u90, u91, u92, u93, u94, u95, u96, u97, u98, u99, u100, u101, u102, u103, u104, u105, u106, u107, u108, u109, u110, u111, u112, u113, u114, u115, u116, u117, u118, u119, u120, u121, u122, u123, u124, u125, u126, u127, u128, u129, u130, u131, u132, u133, u134, u135, u136, u137, u138, u139, u140, u141, u142, u143, u144, u145, u146, u147, u148, u149, u150, u151, u152, u153, u154, u155, u156, u157, u158, u159, u160, u161, u162, u163, u164, u165, u166, u167, u168, u169, u170, u171, u172, u173, u174, u175, u176, u177, u178, u179, u180, u181], []⟩ wr := by
  obtain ⟨i0, hi, hz0, hz1, hz2⟩ := info_parts byteInfo
  have hc0 : (0 : Int) ≤ (c.toNat : Int) := by omega
  have hc1 : (c.toNat : Int) ≤ 255 := by have := c.toNat_lt; omega
  conv => arg 2; whnf
  obtain rfl : e = 92 := he
  have cx0 : (ByteArray.mk #[110, 114, 116, 97, 98, 102, 118, 48])[0]'(by decide) = 110 := rfl
  have cx1 : (ByteArray.mk #[110, 114, 116, 97, 98, 102, 118, 48])[1]'(by decide) = 114 := rfl
  have cx2 : (ByteArray.mk #[110, 114, 116, 97, 98, 102, 118, 48])[2]'(by decide) = 116 := rfl
  have cx3 : (ByteArray.mk #[110, 114, 116, 97, 98, 102, 118, 48])[3]'(by decide) = 97 := rfl
  have cx4 : (ByteArray.mk #[110, 114, 116, 97, 98, 102, 118, 48])[4]'(by decide) = 98 := rfl
  have cx5 : (ByteArray.mk #[110, 114, 116, 97, 98, 102, 118, 48])[5]'(by decide) = 102 := rfl
  have cx6 : (ByteArray.mk #[110, 114, 116, 97, 98, 102, 118, 48])[6]'(by decide) = 118 := rfl
  have cx7 : (ByteArray.mk #[110, 114, 116, 97, 98, 102, 118, 48])[7]'(by decide) = 48 := rfl
  go_wp2_with fail
  refine wp_loop_rounds 9 ?_
  rw [rounds_succ]
  go_wp2_with fail
  rw [rounds_succ]
  go_wp2_with fail
  rw [rounds_succ]
  go_wp2_with fail
  rw [rounds_succ]
  go_wp2_with fail
  rw [rounds_succ]
  go_wp2_with fail
  rw [rounds_succ]
  go_wp2_with fail
  rw [rounds_succ]
  go_wp2_with fail
  rw [rounds_succ]
  go_wp2_with fail
  rw [rounds_succ]
  go_wp2_with (at_builtin; refine wpList_append_own _ rfl (.tmp 106) (.tmp 108) 38 rfl w.heap.size 5 i0 (.int .u8 0) 1 1 Tryd.underlying38 hi hz0 hz1 hz2 rfl (by decide) _ _ _ rfl (hown.out.alloc _) ⟨wr.heap.size, 0, none⟩ 1 1 [.int .u8 92] rfl rfl (cell_one_new _ _ _) one_1 ?_ ?_ ?_ ?_)
  · unfold maxLen; omega
  · omega
  · have := hbl.out.size; simp; omega
  intro v3 w3 hown3 hg3 _
  have HO3 := Lib.hid (own_more (X := g ++ [92]) (N := [92]) hown3 rfl rfl rfl)
  have hb3 := Lib.hid (below_app hbl.out (Nat.le_refl _) hown.out hg3)
  clear hown3 hg3 hown hbl
  go_wp2_with fail
  refine HK.out _ _ ⟨_, _, _, _, _, _, _, _, _, _, _, _, _, _, _, _, _, _, _, _, _, _, _, _, _, _, _, _, _, _, _, _, _, _, _, _, _, _, _, _, _, _, _, _, _, _, _, _, _, _, _, _, _, _, _, _, _, _, _, _, _, _, _, _, _, _, _, _, _, _, _, _, _, _, _, _, _, _, _, _, _, _, _, _, _, _, _, _, _, _, _, _, _, _, _, _, _, _, _, _, _, _, _, _, _, _, _, _, _, _, _, _, _, _, _, _, _, _, _, _, _, _, _, _, _, _, _, _, _, _, _, _, _, _, _, _, _, _, _, _, _, _, _, _, _, _, _, _, _, _, _, _, _, _, _, _, _, _, _, _, _, _, _, _, _, _, _, _, _, _, _, _, _, _, _, _, _, _, RGet.mk (k := k + 2) (by omega) (by first | rfl | go_num | (congr 1; omega)) HO3.out (by simp; omega) (get_on HG.out ST.out) hb3.out, rfl⟩ ?_
  simp [intOf]
  omega

end Go.Proofs.YtkbeaddbnnboaaaDoor
