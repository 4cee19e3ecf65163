/- The document's answer: what is within quotes: its loop's relation, and the plain ways of a round. Conditions: the text has at most 4000 bytes. -/
import Derived.Test.YtkbeaddbnnboaaaDoorNameO
import Derived.Test.YtkbeaddbnnboaaaDoorNameT
import Derived.LoopN
namespace Go.Proofs.YtkbeaddbnnboaaaDoor
open Go Go.RowKit Go.Maps

def firstLoop : Code → Option Code
  | .loop c => some c
  | .seq a b => match firstLoop a with
    | some c => some c
    | none => firstLoop b
  | .block _ c => firstLoop c
  | .scope c => firstLoop c
  | .cond _ a b => match firstLoop a with
    | some c => some c
    | none => firstLoop b
  | _ => none

/-- what holds at each round's head -/
def RGet (w : World) (s : ByteArray) (q : Int) (r : Option (List UInt8 × Nat)) (v i : Value) (wr : World) : Prop :=
  ∃ (k : Nat) (g : List UInt8), k ≤ s.size ∧ i = .int .i64 k ∧ wr.ownsRow w.heap.size 5 1 v g.length (bc g) ∧ g.length ≤ k ∧ getF q ((s.data.toList.drop k).length + 1) (s.data.toList.drop k) g k = r ∧ Below w.heap.size w wr
theorem RGet.mk {w : World} {s : ByteArray} {q : Int} {r : Option (List UInt8 × Nat)} {v i : Value} {wr : World} {k : Nat} {g : List UInt8} (h1 : k ≤ s.size) (h2 : i = .int .i64 k) (h3 : wr.ownsRow w.heap.size 5 1 v g.length (bc g)) (h4 : g.length ≤ k)
    (h5 : getF q ((s.data.toList.drop k).length + 1) (s.data.toList.drop k) g k = r) (h6 : Below w.heap.size w wr) : Hid (RGet w s q r v i wr) := ⟨k, g, h1, h2, h3, h4, h5, h6⟩
theorem get_on {q : Int} {l g b : List UInt8} {k n : Nat} {r : Option (List UInt8 × Nat)} (h : getF q ((l.drop k).length + 1) (l.drop k) g k = r) (hs : stepF q (l.drop k) = .go b n) :
    getF q ((l.drop (k + n)).length + 1) (l.drop (k + n)) (g ++ b) (k + n) = r := by
  rw [getF_go hs, List.drop_drop] at h
  exact h
theorem bc_back (c : UInt8) : [Value.int .u8 (c.toNat : Int)] = bc [c] := rfl

set_option maxRecDepth 1000000 in
/-- the frame at each round's head -/
def WI (w : World) (s : ByteArray) (q : Int) (r : Option (List UInt8 × Nat)) (a : Act) (wr : World) : Prop :=
  ∃ u4 u5 u6 u7 u8 u9 u10 u11 u12 u13 u14 u15 u16 u17 u18 u19 u20 u21 u22 u23 u24 u25 u26 u27 u28 u29 u30 u31 u32 u33 u34 u35 u36 u37 u38 u39 u40 u41 u42 u43 u44 u45 u46 u47 u48 u49 u50 u51 u52 u53 u54 u55 u56 u57 u58 u59 u60 u61 u62 u63 u64 u65 u66 u67 u68 u69 u70 u71 u72 u73 u74 u75 u76 u77 u78 u79 u80 u81 u82 u83 u84 u85 u86 u87 u88 u89 u90 u91 u92 u93 u94 u95 u96 u97 u98 u99 u100 u101 u102 u103 u104 u105 u106 u107 u108 u109 u110 u111 u112 u113 u114 u115 u116 u117 u118 u119 u120 u121 u122 u123 u124 u125 u126 u127 u128 u129 u130 u131 u132 u133 u134 u135 u136 u137 u138 u139 u140 u141 u142 u143 u144 u145 u146 u147 u148 u149 u150 u151 u152 u153 u154 u155 u156 u157 u158 u159 u160 u161 u162 u163 u164 u165 u166 u167 u168 u169 u170 u171 u172 u173 u174 u175 u176 u177 u178 u179 u180 u181 : Value, Hid (RGet w s q r u7 u8 wr) ∧ a = ⟨#[.string s, .int .u8 q, undef, undef, u4, u5, u6, u7, u8, u9, u10, u11, u12, u13, u14, u15, u16, u17, u18, u19, u20, u21, u22, u23, u24, u25, u26, u27, u28, u29, u30, u31, u32, u33, u34, u35, u36, u37, u38, u39, u40, u41, u42, u43, u44, u45, u46, u47, u48, u49, u50, u51, u52, u53, u54, u55, u56, u57, u58, u59, u60, u61, u62, u63, u64, u65, u66, u67, u68, u69, u70, u71, u72, u73, u74, u75, u76, u77, u78, u79, u80, u81, u82, u83, u84, u85, u86, u87, u88, u89, u90, u91, u92, u93, u94, u95, u96, u97, u98, u99, u100, u101, u102, u103, u104, u105, u106, u107, u108, u109, u110, u111, u112, u113, u114, u115, u116, u117, u118, u119, u120, u121, u122, u123, u124, u125, u126, u127, u128, u129, u130, u131, u132, u133, u134, u135, u136, u137, u138, u139, u140, u141, u142, u143, u144, u145, u146, u147, u148, u149, u150, u151, u152, u153, u154, u155, u156, u157, u158, u159, u160, u161, u162, u163, u164, u165, u166, u167, u168, u169, u170, u171, u172, u173, u174, u175, u176, u177, u178, u179, u180, u181], []⟩

set_option linter.unusedVariables false in
set_option maxHeartbeats 4000000 in
set_option maxRecDepth 1000000 in
theorem vq_end (u4 u5 u6 u9 u10 u11 u12 u13 u14 u15 u16 u17 u18 u19 u20 u21 u22 u23 u24 u25 u26 u27 u28 u29 u30 u31 u32 u33 u34 u35 u36 u37 u38 u39 u40 u41 u42 u43 u44 u45 u46 u47 u48 u49 u50 u51 u52 u53 u54 u55 u56 u57 u58 u59 u60 u61 u62 u63 u64 u65 u66 u67 u68 u69 u70 u71 u72 u73 u74 u75 u76 u77 u78 u79 u80 u81 u82 u83 u84 u85 u86 u87 u88 u89 u90 u91 u92 u93 u94 u95 u96 u97 u98 u99 u100 u101 u102 u103 u104 u105 u106 u107 u108 u109 u110 u111 u112 u113 u114 u115 u116 u117 u118 u119 u120 u121 u122 u123 u124 u125 u126 u127 u128 u129 u130 u131 u132 u133 u134 u135 u136 u137 u138 u139 u140 u141 u142 u143 u144 u145 u146 u147 u148 u149 u150 u151 u152 u153 u154 u155 u156 u157 u158 u159 u160 u161 u162 u163 u164 u165 u166 u167 u168 u169 u170 u171 u172 u173 u174 u175 u176 u177 u178 u179 u180 u181 v : Value) (s : ByteArray) (q : Int) (w wr : World) (r : Option (List UInt8 × Nat)) (k : Nat) (g : List UInt8) (c : UInt8) (hs : s.size ≤ 4000) (hlt : k < s.size) (hc : s[k] = c) (hgl : g.length ≤ k)
    (HDK : Hid (s.data.toList.drop k = c :: s.data.toList.drop (k + 1))) (hown : Hid (wr.ownsRow w.heap.size 5 1 v g.length (bc g))) (HG : Hid (getF q ((s.data.toList.drop k).length + 1) (s.data.toList.drop k) g k = r)) (hbl : Hid (Below w.heap.size w wr))
    (hq : ((c.toNat : Int) == q) = true) (hend : s.size ≤ k + 1) (ST : Hid (stepF q (s.data.toList.drop k) = .done))
    (Kn : Act → World → Prop) (Q : Exit → Act → World → Prop) (HK : Hid (∀ a' w'', WI w s q r a' w'' → s.size - (intOf (a'.tmps.getD 8 undef)).toNat < s.size - k → Kn a' w'')) (HQ : Hid (∀ a' w'', bodyPost Tryd.prog Tryd.f45 (GetPost w r) Exit.ret a' w'' → Q Exit.ret a' w'')) :
    Code.wp Tryd.prog ((Tryd.f45.body.bind firstLoop).getD .skip) (Exit.then Kn Q) ⟨#[.string s, .int .u8 q, undef, undef, u4, u5, u6, v, .int .i64 k, u9, u10, u11, u12, u13, u14, u15, u16, u17, u18, u19, u20, u21, u22, u23, u24, u25, u26, u27, u28, u29, u30, u31, u32, u33, u34, u35, u36, u37, u38, u39, u40, u41, u42, u43, u44, u45, u46, u47, u48, u49, u50, u51, u52, u53, u54, u55, u56, u57, u58, u59, u60, u61, u62, u63, u64, u65, u66, u67, u68, u69, u70, u71, u72, u73, u74, u75, u76, u77, u78, u79, u80, u81, u82, u83, u84, u85, u86, u87, u88, u89, u90, u91, u92, u93, u94, u95, u96, u97, u98, u99, u100, u101, u102, u103, u104, u105, u106, u107, u108, u109, u110, u111, u112, u113, u114, u115, u116, u117, u118, u119, u120, u121, u122, u123, u124, u125, u126, u127, u128, u129, u130, u131, u132, u133, u134, u135, u136, u137, u138, u139, u140, u141, u142, u143, u144, u145, u146, u147, u148, u149, u150, u151, u152, u153, u154, u155, u156, u157, u158, u159, u160, u161, u162, u163, u164, u165, u166, u167, u168, u169, u170, u171, u172, u173, u174, u175, u176, u177, u178, u179, u180, u181], []⟩ wr := by
  obtain ⟨i0, hi, hz0, hz1, hz2⟩ := info_parts byteInfo
  have hc0 : (0 : Int) ≤ (c.toNat : Int) := by omega
  have hc1 : (c.toNat : Int) ≤ 255 := by have := c.toNat_lt; omega
  conv => arg 2; whnf
  have hp := Lib.hid (HG.out.symm.trans (getF_done ST.out))
  have hcv := conv_own hown.out
  go_wp2_with fail
  refine HQ.out _ _ ?_
  go_ret3
  cases hp.out
  exact ⟨rfl, hbl.out⟩

set_option linter.unusedVariables false in
set_option maxHeartbeats 4000000 in
set_option maxRecDepth 1000000 in
theorem vq_stop (u4 u5 u6 u9 u10 u11 u12 u13 u14 u15 u16 u17 u18 u19 u20 u21 u22 u23 u24 u25 u26 u27 u28 u29 u30 u31 u32 u33 u34 u35 u36 u37 u38 u39 u40 u41 u42 u43 u44 u45 u46 u47 u48 u49 u50 u51 u52 u53 u54 u55 u56 u57 u58 u59 u60 u61 u62 u63 u64 u65 u66 u67 u68 u69 u70 u71 u72 u73 u74 u75 u76 u77 u78 u79 u80 u81 u82 u83 u84 u85 u86 u87 u88 u89 u90 u91 u92 u93 u94 u95 u96 u97 u98 u99 u100 u101 u102 u103 u104 u105 u106 u107 u108 u109 u110 u111 u112 u113 u114 u115 u116 u117 u118 u119 u120 u121 u122 u123 u124 u125 u126 u127 u128 u129 u130 u131 u132 u133 u134 u135 u136 u137 u138 u139 u140 u141 u142 u143 u144 u145 u146 u147 u148 u149 u150 u151 u152 u153 u154 u155 u156 u157 u158 u159 u160 u161 u162 u163 u164 u165 u166 u167 u168 u169 u170 u171 u172 u173 u174 u175 u176 u177 u178 u179 u180 u181 v : Value) (s : ByteArray) (q : Int) (w wr : World) (r : Option (List UInt8 × Nat)) (k : Nat) (g : List UInt8) (c : UInt8) (hs : s.size ≤ 4000) (hlt : k < s.size) (hc : s[k] = c) (hgl : g.length ≤ k)
    (HDK : Hid (s.data.toList.drop k = c :: s.data.toList.drop (k + 1))) (hown : Hid (wr.ownsRow w.heap.size 5 1 v g.length (bc g))) (HG : Hid (getF q ((s.data.toList.drop k).length + 1) (s.data.toList.drop k) g k = r)) (hbl : Hid (Below w.heap.size w wr))
    (hq : ((c.toNat : Int) == q) = true) (hend : k + 1 < s.size) (x : UInt8) (hx : s[k + 1] = x) (hxn : ((x.toNat : Int) != q) = true) (ST : Hid (stepF q (s.data.toList.drop k) = .done))
    (Kn : Act → World → Prop) (Q : Exit → Act → World → Prop) (HK : Hid (∀ a' w'', WI w s q r a' w'' → s.size - (intOf (a'.tmps.getD 8 undef)).toNat < s.size - k → Kn a' w'')) (HQ : Hid (∀ a' w'', bodyPost Tryd.prog Tryd.f45 (GetPost w r) Exit.ret a' w'' → Q Exit.ret a' w'')) :
    Code.wp Tryd.prog ((Tryd.f45.body.bind firstLoop).getD .skip) (Exit.then Kn Q) ⟨#[.string s, .int .u8 q, undef, undef, u4, u5, u6, v, .int .i64 k, u9, u10, u11, u12, u13, u14, u15, u16, u17, u18, u19, u20, u21, u22, u23, u24, u25, u26, u27, u28, u29, u30, u31, u32, u33, u34, u35, u36, u37, u38, u39, u40, u41, u42, u43, u44, u45, u46, u47, u48, u49, u50, u51, u52, u53, u54, u55, u56, u57, u58, u59, u60, u61, u62, u63, u64, u65, u66, u67, u68, u69, u70, u71, u72, u73, u74, u75, u76, u77, u78, u79, u80, u81, u82, u83, u84, u85, u86, u87, u88, u89, u90, u91, u92, u93, u94, u95, u96, u97, u98, u99, u100, u101, u102, u103, u104, u105, u106, u107, u108, u109, u110, u111, u112, u113, u114, u115, u116, u117, u118, u119, u120, u121, u122, u123, u124, u125, u126, u127, u128, u129, u130, u131, u132, u133, u134, u135, u136, u137, u138, u139, u140, u141, u142, u143, u144, u145, u146, u147, u148, u149, u150, u151, u152, u153, u154, u155, u156, u157, u158, u159, u160, u161, u162, u163, u164, u165, u166, u167, u168, u169, u170, u171, u172, u173, u174, u175, u176, u177, u178, u179, u180, u181], []⟩ wr := by
  obtain ⟨i0, hi, hz0, hz1, hz2⟩ := info_parts byteInfo
  have hc0 : (0 : Int) ≤ (c.toNat : Int) := by omega
  have hc1 : (c.toNat : Int) ≤ 255 := by have := c.toNat_lt; omega
  conv => arg 2; whnf
  have hp := Lib.hid (HG.out.symm.trans (getF_done ST.out))
  have hcv := conv_own hown.out
  go_wp2_with fail
  refine HQ.out _ _ ?_
  go_ret3
  cases hp.out
  exact ⟨rfl, hbl.out⟩

set_option linter.unusedVariables false in
set_option maxHeartbeats 4000000 in
set_option maxRecDepth 1000000 in
theorem vq_two (u4 u5 u6 u9 u10 u11 u12 u13 u14 u15 u16 u17 u18 u19 u20 u21 u22 u23 u24 u25 u26 u27 u28 u29 u30 u31 u32 u33 u34 u35 u36 u37 u38 u39 u40 u41 u42 u43 u44 u45 u46 u47 u48 u49 u50 u51 u52 u53 u54 u55 u56 u57 u58 u59 u60 u61 u62 u63 u64 u65 u66 u67 u68 u69 u70 u71 u72 u73 u74 u75 u76 u77 u78 u79 u80 u81 u82 u83 u84 u85 u86 u87 u88 u89 u90 u91 u92 u93 u94 u95 u96 u97 u98 u99 u100 u101 u102 u103 u104 u105 u106 u107 u108 u109 u110 u111 u112 u113 u114 u115 u116 u117 u118 u119 u120 u121 u122 u123 u124 u125 u126 u127 u128 u129 u130 u131 u132 u133 u134 u135 u136 u137 u138 u139 u140 u141 u142 u143 u144 u145 u146 u147 u148 u149 u150 u151 u152 u153 u154 u155 u156 u157 u158 u159 u160 u161 u162 u163 u164 u165 u166 u167 u168 u169 u170 u171 u172 u173 u174 u175 u176 u177 u178 u179 u180 u181 v : Value) (s : ByteArray) (q : Int) (w wr : World) (r : Option (List UInt8 × Nat)) (k : Nat) (g : List UInt8) (c : UInt8) (hs : s.size ≤ 4000) (hlt : k < s.size) (hc : s[k] = c) (hgl : g.length ≤ k)
    (HDK : Hid (s.data.toList.drop k = c :: s.data.toList.drop (k + 1))) (hown : Hid (wr.ownsRow w.heap.size 5 1 v g.length (bc g))) (HG : Hid (getF q ((s.data.toList.drop k).length + 1) (s.data.toList.drop k) g k = r)) (hbl : Hid (Below w.heap.size w wr))
    (hq : ((c.toNat : Int) == q) = true) (HCQ : Hid ((c.toNat : Int) = q)) (hend : k + 1 < s.size) (x : UInt8) (hx : s[k + 1] = x) (hxn : ((x.toNat : Int) != q) = false) (ST : Hid (stepF q (s.data.toList.drop k) = .go [c] 2))
    (Kn : Act → World → Prop) (Q : Exit → Act → World → Prop) (HK : Hid (∀ a' w'', WI w s q r a' w'' → s.size - (intOf (a'.tmps.getD 8 undef)).toNat < s.size - k → Kn a' w'')) (HQ : Hid (∀ a' w'', bodyPost Tryd.prog Tryd.f45 (GetPost w r) Exit.ret a' w'' → Q Exit.ret a' w'')) :
    Code.wp Tryd.prog ((Tryd.f45.body.bind firstLoop).getD .skip) (Exit.then Kn Q) ⟨#[.string s, .int .u8 q, undef, undef, u4, u5, u6, v, .int .i64 k, u9, u10, u11, u12, u13, u14, u15, u16, u17, u18, u19, u20, u21, u22, u23, u24, u25, u26, u27, u28, u29, u30, u31, u32, u33, u34, u35, u36, u37, u38, u39, u40, u41, u42, u43, u44, u45, u46, u47, u48, u49, u50, u51, u52, u53, u54, u55, u56, u57, u58, u59, u60, u61, u62, u63, u64, u65, u66, u67, u68, u69, u70, u71, u72, u73, u74, u75, u76, u77, u78, u79, u80, u81, u82, u83, u84, u85, u86, u87, u88, u89, u90, u91, u92, u93, u94, u95, u96, u97, u98, u99, u100, u101, u102, u103, u104, u105, u106, u107, u108, u109, u110, u111, u112, u113, u114, u115, u116, u117, u118, u119, u120, u121, u122, u123, u124, u125, u126, u127, u128, u129, u130, u131, u132, u133, u134, u135, u136, u137, u138, u139, u140, u141, u142, u143, u144, u145, u146, u147, u148, u149, u150, u151, u152, u153, u154, u155, u156, u157, u158, u159, u160, u161, u162, u163, u164, u165, u166, u167, u168, u169, u170, u171, u172, u173, u174, u175, u176, u177, u178, u179, u180, u181], []⟩ wr := by
  obtain ⟨i0, hi, hz0, hz1, hz2⟩ := info_parts byteInfo
  have hc0 : (0 : Int) ≤ (c.toNat : Int) := by omega
  have hc1 : (c.toNat : Int) ≤ 255 := by have := c.toNat_lt; omega
  conv => arg 2; whnf
  go_wp2_with (at_builtin; refine wpList_append_own _ rfl (.tmp 166) (.tmp 168) 38 rfl w.heap.size 5 i0 (.int .u8 0) 1 1 Tryd.underlying38 hi hz0 hz1 hz2 rfl (by decide) _ _ _ rfl (hown.out.alloc _) ⟨wr.heap.size, 0, none⟩ 1 1 [.int .u8 q] rfl rfl (cell_one_new _ _ _) one_1 ?_ ?_ ?_ ?_)
  · unfold maxLen; omega
  · omega
  · have := hbl.out.size; simp; omega
  intro v3 w3 hown3 hg3 _
  have HO3 := Lib.hid (own_more (X := g ++ [c]) (N := [c]) hown3 rfl rfl (by rw [← HCQ.out]; exact bc_back c))
  have hb3 := Lib.hid (below_app hbl.out (Nat.le_refl _) hown.out hg3)
  clear hown3 hg3 hown hbl
  go_wp2_with fail
  refine HK.out _ _ ⟨_, _, _, _, _, _, _, _, _, _, _, _, _, _, _, _, _, _, _, _, _, _, _, _, _, _, _, _, _, _, _, _, _, _, _, _, _, _, _, _, _, _, _, _, _, _, _, _, _, _, _, _, _, _, _, _, _, _, _, _, _, _, _, _, _, _, _, _, _, _, _, _, _, _, _, _, _, _, _, _, _, _, _, _, _, _, _, _, _, _, _, _, _, _, _, _, _, _, _, _, _, _, _, _, _, _, _, _, _, _, _, _, _, _, _, _, _, _, _, _, _, _, _, _, _, _, _, _, _, _, _, _, _, _, _, _, _, _, _, _, _, _, _, _, _, _, _, _, _, _, _, _, _, _, _, _, _, _, _, _, _, _, _, _, _, _, _, _, _, _, _, _, _, _, _, _, _, _, RGet.mk (k := k + 2) (by omega) (by first | rfl | go_num | (congr 1; omega)) HO3.out (by simp; omega) (get_on HG.out ST.out) hb3.out, rfl⟩ ?_
  simp [intOf]
  omega

set_option linter.unusedVariables false in
set_option maxHeartbeats 4000000 in
set_option maxRecDepth 1000000 in
theorem vc_line (u4 u5 u6 u9 u10 u11 u12 u13 u14 u15 u16 u17 u18 u19 u20 u21 u22 u23 u24 u25 u26 u27 u28 u29 u30 u31 u32 u33 u34 u35 u36 u37 u38 u39 u40 u41 u42 u43 u44 u45 u46 u47 u48 u49 u50 u51 u52 u53 u54 u55 u56 u57 u58 u59 u60 u61 u62 u63 u64 u65 u66 u67 u68 u69 u70 u71 u72 u73 u74 u75 u76 u77 u78 u79 u80 u81 u82 u83 u84 u85 u86 u87 u88 u89 u90 u91 u92 u93 u94 u95 u96 u97 u98 u99 u100 u101 u102 u103 u104 u105 u106 u107 u108 u109 u110 u111 u112 u113 u114 u115 u116 u117 u118 u119 u120 u121 u122 u123 u124 u125 u126 u127 u128 u129 u130 u131 u132 u133 u134 u135 u136 u137 u138 u139 u140 u141 u142 u143 u144 u145 u146 u147 u148 u149 u150 u151 u152 u153 u154 u155 u156 u157 u158 u159 u160 u161 u162 u163 u164 u165 u166 u167 u168 u169 u170 u171 u172 u173 u174 u175 u176 u177 u178 u179 u180 u181 v : Value) (s : ByteArray) (q : Int) (w wr : World) (r : Option (List UInt8 × Nat)) (k : Nat) (g : List UInt8) (c : UInt8) (hs : s.size ≤ 4000) (hlt : k < s.size) (hc : s[k] = c) (hgl : g.length ≤ k)
    (HDK : Hid (s.data.toList.drop k = c :: s.data.toList.drop (k + 1))) (hown : Hid (wr.ownsRow w.heap.size 5 1 v g.length (bc g))) (HG : Hid (getF q ((s.data.toList.drop k).length + 1) (s.data.toList.drop k) g k = r)) (hbl : Hid (Below w.heap.size w wr))
    (hq : ((c.toNat : Int) == q) = false) (h10 : ((c.toNat : Int) == 10) = true) (hp : Hid (r = none))
    (Kn : Act → World → Prop) (Q : Exit → Act → World → Prop) (HK : Hid (∀ a' w'', WI w s q r a' w'' → s.size - (intOf (a'.tmps.getD 8 undef)).toNat < s.size - k → Kn a' w'')) (HQ : Hid (∀ a' w'', bodyPost Tryd.prog Tryd.f45 (GetPost w r) Exit.ret a' w'' → Q Exit.ret a' w'')) :
    Code.wp Tryd.prog ((Tryd.f45.body.bind firstLoop).getD .skip) (Exit.then Kn Q) ⟨#[.string s, .int .u8 q, undef, undef, u4, u5, u6, v, .int .i64 k, u9, u10, u11, u12, u13, u14, u15, u16, u17, u18, u19, u20, u21, u22, u23, u24, u25, u26, u27, u28, u29, u30, u31, u32, u33, u34, u35, u36, u37, u38, u39, u40, u41, u42, u43, u44, u45, u46, u47, u48, u49, u50, u51, u52, u53, u54, u55, u56, u57, u58, u59, u60, u61, u62, u63, u64, u65, u66, u67, u68, u69, u70, u71, u72, u73, u74, u75, u76, u77, u78, u79, u80, u81, u82, u83, u84, u85, u86, u87, u88, u89, u90, u91, u92, u93, u94, u95, u96, u97, u98, u99, u100, u101, u102, u103, u104, u105, u106, u107, u108, u109, u110, u111, u112, u113, u114, u115, u116, u117, u118, u119, u120, u121, u122, u123, u124, u125, u126, u127, u128, u129, u130, u131, u132, u133, u134, u135, u136, u137, u138, u139, u140, u141, u142, u143, u144, u145, u146, u147, u148, u149, u150, u151, u152, u153, u154, u155, u156, u157, u158, u159, u160, u161, u162, u163, u164, u165, u166, u167, u168, u169, u170, u171, u172, u173, u174, u175, u176, u177, u178, u179, u180, u181], []⟩ wr := by
  obtain ⟨i0, hi, hz0, hz1, hz2⟩ := info_parts byteInfo
  have hc0 : (0 : Int) ≤ (c.toNat : Int) := by omega
  have hc1 : (c.toNat : Int) ≤ 255 := by have := c.toNat_lt; omega
  conv => arg 2; whnf
  go_wp2_with fail
  refine HQ.out _ _ ?_
  go_ret3
  cases hp.out
  exact ⟨rfl, hbl.out⟩

set_option linter.unusedVariables false in
set_option maxHeartbeats 4000000 in
set_option maxRecDepth 1000000 in
theorem vc_one (u4 u5 u6 u9 u10 u11 u12 u13 u14 u15 u16 u17 u18 u19 u20 u21 u22 u23 u24 u25 u26 u27 u28 u29 u30 u31 u32 u33 u34 u35 u36 u37 u38 u39 u40 u41 u42 u43 u44 u45 u46 u47 u48 u49 u50 u51 u52 u53 u54 u55 u56 u57 u58 u59 u60 u61 u62 u63 u64 u65 u66 u67 u68 u69 u70 u71 u72 u73 u74 u75 u76 u77 u78 u79 u80 u81 u82 u83 u84 u85 u86 u87 u88 u89 u90 u91 u92 u93 u94 u95 u96 u97 u98 u99 u100 u101 u102 u103 u104 u105 u106 u107 u108 u109 u110 u111 u112 u113 u114 u115 u116 u117 u118 u119 u120 u121 u122 u123 u124 u125 u126 u127 u128 u129 u130 u131 u132 u133 u134 u135 u136 u137 u138 u139 u140 u141 u142 u143 u144 u145 u146 u147 u148 u149 u150 u151 u152 u153 u154 u155 u156 u157 u158 u159 u160 u161 u162 u163 u164 u165 u166 u167 u168 u169 u170 u171 u172 u173 u174 u175 u176 u177 u178 u179 u180 u181 v : Value) (s : ByteArray) (q : Int) (w wr : World) (r : Option (List UInt8 × Nat)) (k : Nat) (g : List UInt8) (c : UInt8) (hs : s.size ≤ 4000) (hlt : k < s.size) (hc : s[k] = c) (hgl : g.length ≤ k)
    (HDK : Hid (s.data.toList.drop k = c :: s.data.toList.drop (k + 1))) (hown : Hid (wr.ownsRow w.heap.size 5 1 v g.length (bc g))) (HG : Hid (getF q ((s.data.toList.drop k).length + 1) (s.data.toList.drop k) g k = r)) (hbl : Hid (Below w.heap.size w wr))
    (hq : ((c.toNat : Int) == q) = false) (h10 : ((c.toNat : Int) == 10) = false) (h92 : ((c.toNat : Int) != 92) = true) (ST : Hid (stepF q (s.data.toList.drop k) = .go [c] 1))
    (Kn : Act → World → Prop) (Q : Exit → Act → World → Prop) (HK : Hid (∀ a' w'', WI w s q r a' w'' → s.size - (intOf (a'.tmps.getD 8 undef)).toNat < s.size - k → Kn a' w'')) (HQ : Hid (∀ a' w'', bodyPost Tryd.prog Tryd.f45 (GetPost w r) Exit.ret a' w'' → Q Exit.ret a' w'')) :
    Code.wp Tryd.prog ((Tryd.f45.body.bind firstLoop).getD .skip) (Exit.then Kn Q) ⟨#[.string s, .int .u8 q, undef, undef, u4, u5, u6, v, .int .i64 k, u9, u10, u11, u12, u13, u14, u15, u16, u17, u18, u19, u20, u21, u22, u23, u24, u25, u26, u27, u28, u29, u30, u31, u32, u33, u34, u35, u36, u37, u38, u39, u40, u41, u42, u43, u44, u45, u46, u47, u48, u49, u50, u51, u52, u53, u54, u55, u56, u57, u58, u59, u60, u61, u62, u63, u64, u65, u66, u67, u68, u69, u70, u71, u72, u73, u74, u75, u76, u77, u78, u79, u80, u81, u82, u83, u84, u85, u86, u87, u88, u89, u90, u91, u92, u93, u94, u95, u96, u97, u98, u99, u100, u101, u102, u103, u104, u105, u106, u107, u108, u109, u110, u111, u112, u113, u114, u115, u116, u117, u118, u119, u120, u121, u122, u123, u124, u125, u126, u127, u128, u129, u130, u131, u132, u133, u134, u135, u136, u137, u138, u139, u140, u141, u142, u143, u144, u145, u146, u147, u148, u149, u150, u151, u152, u153, u154, u155, u156, u157, u158, u159, u160, u161, u162, u163, u164, u165, u166, u167, u168, u169, u170, u171, u172, u173, u174, u175, u176, u177, u178, u179, u180, u181], []⟩ wr := by
  obtain ⟨i0, hi, hz0, hz1, hz2⟩ := info_parts byteInfo
  have hc0 : (0 : Int) ≤ (c.toNat : Int) := by omega
  have hc1 : (c.toNat : Int) ≤ 255 := by have := c.toNat_lt; omega
  conv => arg 2; whnf
  go_wp2_with (at_builtin; refine wpList_append_own _ rfl (.tmp 178) (.tmp 180) 38 rfl w.heap.size 5 i0 (.int .u8 0) 1 1 Tryd.underlying38 hi hz0 hz1 hz2 rfl (by decide) _ _ _ rfl (hown.out.alloc _) ⟨wr.heap.size, 0, none⟩ 1 1 [.int .u8 (c.toNat : Int)] rfl rfl (cell_one_new _ _ _) one_1 ?_ ?_ ?_ ?_)
  · unfold maxLen; omega
  · omega
  · have := hbl.out.size; simp; omega
  intro v3 w3 hown3 hg3 _
  have HO3 := Lib.hid (own_more (X := g ++ [c]) (N := [c]) hown3 rfl rfl (bc_back c))
  have hb3 := Lib.hid (below_app hbl.out (Nat.le_refl _) hown.out hg3)
  clear hown3 hg3 hown hbl
  go_wp2_with fail
  refine HK.out _ _ ⟨_, _, _, _, _, _, _, _, _, _, _, _, _, _, _, _, _, _, _, _, _, _, _, _, _, _, _, _, _, _, _, _, _, _, _, _, _, _, _, _, _, _, _, _, _, _, _, _, _, _, _, _, _, _, _, _, _, _, _, _, _, _, _, _, _, _, _, _, _, _, _, _, _, _, _, _, _, _, _, _, _, _, _, _, _, _, _, _, _, _, _, _, _, _, _, _, _, _, _, _, _, _, _, _, _, _, _, _, _, _, _, _, _, _, _, _, _, _, _, _, _, _, _, _, _, _, _, _, _, _, _, _, _, _, _, _, _, _, _, _, _, _, _, _, _, _, _, _, _, _, _, _, _, _, _, _, _, _, _, _, _, _, _, _, _, _, _, _, _, _, _, _, _, _, _, _, _, _, RGet.mk (k := k + 1) (by omega) (by first | rfl | go_num | (congr 1; omega)) HO3.out (by simp; omega) (get_on HG.out ST.out) hb3.out, rfl⟩ ?_
  simp [intOf]
  omega

set_option linter.unusedVariables false in
set_option maxHeartbeats 4000000 in
set_option maxRecDepth 1000000 in
theorem vc_last (u4 u5 u6 u9 u10 u11 u12 u13 u14 u15 u16 u17 u18 u19 u20 u21 u22 u23 u24 u25 u26 u27 u28 u29 u30 u31 u32 u33 u34 u35 u36 u37 u38 u39 u40 u41 u42 u43 u44 u45 u46 u47 u48 u49 u50 u51 u52 u53 u54 u55 u56 u57 u58 u59 u60 u61 u62 u63 u64 u65 u66 u67 u68 u69 u70 u71 u72 u73 u74 u75 u76 u77 u78 u79 u80 u81 u82 u83 u84 u85 u86 u87 u88 u89 u90 u91 u92 u93 u94 u95 u96 u97 u98 u99 u100 u101 u102 u103 u104 u105 u106 u107 u108 u109 u110 u111 u112 u113 u114 u115 u116 u117 u118 u119 u120 u121 u122 u123 u124 u125 u126 u127 u128 u129 u130 u131 u132 u133 u134 u135 u136 u137 u138 u139 u140 u141 u142 u143 u144 u145 u146 u147 u148 u149 u150 u151 u152 u153 u154 u155 u156 u157 u158 u159 u160 u161 u162 u163 u164 u165 u166 u167 u168 u169 u170 u171 u172 u173 u174 u175 u176 u177 u178 u179 u180 u181 v : Value) (s : ByteArray) (q : Int) (w wr : World) (r : Option (List UInt8 × Nat)) (k : Nat) (g : List UInt8) (c : UInt8) (hs : s.size ≤ 4000) (hlt : k < s.size) (hc : s[k] = c) (hgl : g.length ≤ k)
    (HDK : Hid (s.data.toList.drop k = c :: s.data.toList.drop (k + 1))) (hown : Hid (wr.ownsRow w.heap.size 5 1 v g.length (bc g))) (HG : Hid (getF q ((s.data.toList.drop k).length + 1) (s.data.toList.drop k) g k = r)) (hbl : Hid (Below w.heap.size w wr))
    (hq : ((c.toNat : Int) == q) = false) (h10 : ((c.toNat : Int) == 10) = false) (h92 : ((c.toNat : Int) != 92) = false) (hend : s.size ≤ k + 1) (hp : Hid (r = none))
    (Kn : Act → World → Prop) (Q : Exit → Act → World → Prop) (HK : Hid (∀ a' w'', WI w s q r a' w'' → s.size - (intOf (a'.tmps.getD 8 undef)).toNat < s.size - k → Kn a' w'')) (HQ : Hid (∀ a' w'', bodyPost Tryd.prog Tryd.f45 (GetPost w r) Exit.ret a' w'' → Q Exit.ret a' w'')) :
    Code.wp Tryd.prog ((Tryd.f45.body.bind firstLoop).getD .skip) (Exit.then Kn Q) ⟨#[.string s, .int .u8 q, undef, undef, u4, u5, u6, v, .int .i64 k, u9, u10, u11, u12, u13, u14, u15, u16, u17, u18, u19, u20, u21, u22, u23, u24, u25, u26, u27, u28, u29, u30, u31, u32, u33, u34, u35, u36, u37, u38, u39, u40, u41, u42, u43, u44, u45, u46, u47, u48, u49, u50, u51, u52, u53, u54, u55, u56, u57, u58, u59, u60, u61, u62, u63, u64, u65, u66, u67, u68, u69, u70, u71, u72, u73, u74, u75, u76, u77, u78, u79, u80, u81, u82, u83, u84, u85, u86, u87, u88, u89, u90, u91, u92, u93, u94, u95, u96, u97, u98, u99, u100, u101, u102, u103, u104, u105, u106, u107, u108, u109, u110, u111, u112, u113, u114, u115, u116, u117, u118, u119, u120, u121, u122, u123, u124, u125, u126, u127, u128, u129, u130, u131, u132, u133, u134, u135, u136, u137, u138, u139, u140, u141, u142, u143, u144, u145, u146, u147, u148, u149, u150, u151, u152, u153, u154, u155, u156, u157, u158, u159, u160, u161, u162, u163, u164, u165, u166, u167, u168, u169, u170, u171, u172, u173, u174, u175, u176, u177, u178, u179, u180, u181], []⟩ wr := by
  obtain ⟨i0, hi, hz0, hz1, hz2⟩ := info_parts byteInfo
  have hc0 : (0 : Int) ≤ (c.toNat : Int) := by omega
  have hc1 : (c.toNat : Int) ≤ 255 := by have := c.toNat_lt; omega
  conv => arg 2; whnf
  go_wp2_with fail
  refine HQ.out _ _ ?_
  go_ret3
  cases hp.out
  exact ⟨rfl, hbl.out⟩

end Go.Proofs.YtkbeaddbnnboaaaDoor
