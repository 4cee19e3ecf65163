/- The document's answer: what is within quotes: a contract of its Get. Conditions: the text has at most 4000 bytes. -/
import Derived.Test.YtkbeaddbnnboaaaDoorNameVa
import Derived.Test.YtkbeaddbnnboaaaDoorNameVb
import Derived.Test.YtkbeaddbnnboaaaDoorNameVc
import Derived.Test.YtkbeaddbnnboaaaDoorNameVd
import Derived.Test.YtkbeaddbnnboaaaDoorNameVe
namespace Go.Proofs.YtkbeaddbnnboaaaDoor
open Go Go.RowKit Go.Maps

theorem ne_byte {e c : UInt8} (h : ¬ e = c) : ((e.toNat : Int) == (c.toNat : Int)) = false := beq_eq_false_iff_ne.2 (fun x => h (UInt8.toNat_inj.1 (by omega)))
theorem eq_byte {e c : UInt8} (h : ((e.toNat : Int) == (c.toNat : Int)) = true) : e = c := UInt8.toNat_inj.1 (by have := beq_iff_eq.1 h; omega)
theorem dig_oct {c : Int} (h : octZ c = true) : digV 8 c = c - 48 ∧ 0 ≤ c - 48 ∧ c - 48 ≤ 7 := by
  unfold octZ at h
  simp at h
  unfold digV
  rw [show hexZ c = c - 48 by unfold hexZ; rw [if_pos (by omega)], if_pos (by omega)]
  omega
theorem dig_not {c : Int} (h : octZ c = false) : digV 8 c = -1 := by
  unfold octZ at h
  unfold digV
  rw [if_neg]
  simp at h
  unfold hexZ
  (repeat' split) <;> omega
theorem esc_hex_none {t : List UInt8} (h : numAt 16 t = none) : escT 120 t = none := by
  unfold escT
  rw [if_neg (by decide), if_pos (by decide), h]
theorem esc_hex_some {t : List UInt8} {b : UInt8} {k : Nat} (h : numAt 16 t = some (b, k)) : escT 120 t = some ([b], 2 + k) := by
  unfold escT
  rw [if_neg (by decide), if_pos (by decide), h]
theorem oct_parts {e : UInt8} {t : List UInt8} (ho : octZ (e.toNat : Int) = true) (hz : zeroB e t = false) : ((e.toNat : Int) == 10) = false ∧ ((e.toNat : Int) == 120) = false ∧ (octZ (e.toNat : Int) && !zeroB e t) = true := by
  rw [ho, hz]
  unfold octZ at ho
  simp at ho
  exact ⟨beq_eq_false_iff_ne.2 (by omega), beq_eq_false_iff_ne.2 (by omega), rfl⟩
theorem esc_oct_none {e : UInt8} {t : List UInt8} (ho : octZ (e.toNat : Int) = true) (hz : zeroB e t = false) (h : numAt 8 (e :: t) = none) : escT e t = none := by
  obtain ⟨h1, h2, h3⟩ := oct_parts ho hz
  unfold escT
  rw [h1, h2, h3, if_neg (by simp), if_neg (by simp), if_pos rfl, h]
theorem esc_oct_some {e : UInt8} {t : List UInt8} {b : UInt8} {k : Nat} (ho : octZ (e.toNat : Int) = true) (hz : zeroB e t = false) (h : numAt 8 (e :: t) = some (b, k)) : escT e t = some ([b], 1 + k) := by
  obtain ⟨h1, h2, h3⟩ := oct_parts ho hz
  unfold escT
  rw [h1, h2, h3, if_neg (by simp), if_neg (by simp), if_pos rfl, h]
theorem esc_zero {t : List UInt8} (h : zeroN t = true) : escT 48 t = some ([0], 2) := by
  unfold escT zeroB
  rw [h]
  rfl
theorem esc_not {e : UInt8} {t : List UInt8} (ho : octZ (e.toNat : Int) = false) (f110 : ((e.toNat : Int) == 110) = false) (f114 : ((e.toNat : Int) == 114) = false) (f116 : ((e.toNat : Int) == 116) = false) (f97 : ((e.toNat : Int) == 97) = false) (f98 : ((e.toNat : Int) == 98) = false) (f102 : ((e.toNat : Int) == 102) = false) (f118 : ((e.toNat : Int) == 118) = false) (f48 : ((e.toNat : Int) == 48) = false) (f92 : ((e.toNat : Int) == 92) = false) (f39 : ((e.toNat : Int) == 39) = false) (f34 : ((e.toNat : Int) == 34) = false) (f96 : ((e.toNat : Int) == 96) = false) (f10 : ((e.toNat : Int) == 10) = false) (f120 : ((e.toNat : Int) == 120) = false) : escT e t = none := by
  have hO : escO (e.toNat : Int) = false := by unfold escO; rw [f110, f114, f116, f97, f98, f102, f118, f48, f92, f39, f34, f96]; rfl
  unfold escT
  rw [f10, f120, ho, hO]
  rfl
theorem st_of {q : Int} {l b : List UInt8} {k n : Nat} {c e : UInt8} (H : Hid (l.drop k = c :: l.drop (k + 1))) (H1 : Hid (l.drop (k + 1) = e :: l.drop (k + 2))) (hq : ((c.toNat : Int) == q) = false) (h92 : ((c.toNat : Int) == 92) = true) (h : escT e (l.drop (k + 2)) = some (b, n)) :
    Hid (stepF q (l.drop k) = .go b n) := Lib.hid (by rw [H.out, H1.out]; exact step_esc hq h92 h)
theorem bad_of {q : Int} {l g : List UInt8} {k : Nat} {c e : UInt8} {r : Option (List UInt8 × Nat)} (H : Hid (l.drop k = c :: l.drop (k + 1))) (H1 : Hid (l.drop (k + 1) = e :: l.drop (k + 2))) (HG : Hid (getF q ((l.drop k).length + 1) (l.drop k) g k = r))
    (hq : ((c.toNat : Int) == q) = false) (h92 : ((c.toNat : Int) == 92) = true) (h : escT e (l.drop (k + 2)) = none) : Hid (r = none) :=
  (Lib.hid (HG.out.symm.trans (getF_bad (by rw [H.out, H1.out]; exact step_bad hq h92 h))))
theorem num_16 (s : ByteArray) (k : Nat) (hs : s.size ≤ 4000) : Hid (∀ w, Calls Tryd.prog 64 #[.string (s.extract (k + 2) s.size), .int .i64 16] w fun e1 w' => e1 = numQ (numAt 16 (s.data.toList.drop (k + 2))) ∧ w' = w) := by
  have hT : (s.extract (k + 2) s.size).data.toList = s.data.toList.drop (k + 2) := Lib.extract_to_end _ _
  rw [← hT]
  exact Lib.hid (fun w => ref_number_16 _ (by rw [Lib.size_eq, hT, List.length_drop, ← Lib.size_eq]; omega) w)
theorem num_8 (s : ByteArray) (k : Nat) (hs : s.size ≤ 4000) : Hid (∀ w, Calls Tryd.prog 64 #[.string (s.extract (k + 1) s.size), .int .i64 8] w fun e1 w' => e1 = numQ (numAt 8 (s.data.toList.drop (k + 1))) ∧ w' = w) := by
  have hT : (s.extract (k + 1) s.size).data.toList = s.data.toList.drop (k + 1) := Lib.extract_to_end _ _
  rw [← hT]
  exact Lib.hid (fun w => ref_number_8 _ (by rw [Lib.size_eq, hT, List.length_drop, ← Lib.size_eq]; omega) w)
theorem num_len {base : Int} {l : List UInt8} {i : Nat} {b : UInt8} {m : Nat} (h : numAt base (l.drop i) = some (b, m)) : 1 ≤ m ∧ m ≤ l.length - i := by
  have := numAt_len h
  rw [List.length_drop] at this
  exact this

set_option linter.unusedVariables false in
set_option maxHeartbeats 4000000 in
set_option maxRecDepth 1000000 in
theorem x_escN (u4 u5 u6 u9 u10 u11 u12 u13 u14 u15 u16 u17 u18 u19 u20 u21 u22 u23 u24 u25 u26 u27 u28 u29 u30 u31 u32 u33 u34 u35 u36 u37 u38 u39 u40 u41 u42 u43 u44 u45 u46 u47 u48 u49 u50 u51 u52 u53 u54 u55 u56 u57 u58 u59 u60 u61 u62 u63 u64 u65 u66 u67 u68 u69 u70 u71 u72 u73 u74 u75 u76 u77 u78 u79 u80 u81 u82 u83 u84 u85 u86 u87 u88 u89 u90 u91 u92 u93 u94 u95 u96 u97 u98 u99 u100 u101 u102 u103 u104 u105 u106 u107 u108 u109 u110 u111 u112 u113 u114 u115 u116 u117 u118 u119 u120 u121 u122 u123 u124 u125 u126 u127 u128 u129 u130 u131 u132 u133 u134 u135 u136 u137 u138 u139 u140 u141 u142 u143 u144 u145 u146 u147 u148 u149 u150 u151 u152 u153 u154 u155 u156 u157 u158 u159 u160 u161 u162 u163 u164 u165 u166 u167 u168 u169 u170 u171 u172 u173 u174 u175 u176 u177 u178 u179 u180 u181 v : Value) (s : ByteArray) (q : Int) (w wr : World) (r : Option (List UInt8 × Nat)) (k : Nat) (g : List UInt8) (c : UInt8) (hs : s.size ≤ 4000) (hlt : k < s.size) (hc : s[k] = c) (hgl : g.length ≤ k)
    (HDK : Hid (s.data.toList.drop k = c :: s.data.toList.drop (k + 1))) (hown : Hid (wr.ownsRow w.heap.size 5 1 v g.length (bc g))) (HG : Hid (getF q ((s.data.toList.drop k).length + 1) (s.data.toList.drop k) g k = r)) (hbl : Hid (Below w.heap.size w wr))
    (hq : ((c.toNat : Int) == q) = false) (h10 : ((c.toNat : Int) == 10) = false) (h92 : ((c.toNat : Int) != 92) = false) (h92t : ((c.toNat : Int) == 92) = true) (hend : k + 1 < s.size) (e : UInt8) (hx : s[k + 1] = e) (HX1 : Hid (s.data.toList.drop (k + 1) = e :: s.data.toList.drop (k + 2))) (hend2 : s.size ≤ k + 2) (HZ : Hid (zeroN (s.data.toList.drop (k + 2)) = true))
    (Kn : Act → World → Prop) (Q : Exit → Act → World → Prop) (HK : Hid (∀ a' w'', WI w s q r a' w'' → s.size - (intOf (a'.tmps.getD 8 undef)).toNat < s.size - k → Kn a' w'')) (HQ : Hid (∀ a' w'', bodyPost Tryd.prog Tryd.f45 (GetPost w r) Exit.ret a' w'' → Q Exit.ret a' w'')) :
    Code.wp Tryd.prog ((Tryd.f45.body.bind firstLoop).getD .skip) (Exit.then Kn Q) ⟨#[.string s, .int .u8 q, undef, undef, u4, u5, u6, v, .int .i64 k, u9, u10, u11, u12, u13, u14, u15, u16, u17, u18, u19, u20, u21, u22, u23, u24, u25, u26, u27, u28, u29, u30, u31, u32, u33, u34, u35, u36, u37, u38, u39, u40, u41, u42, u43, u44, u45, u46, u47, u48, u49, u50, u51, u52, u53, u54, u55, u56, u57, u58, u59, u60, u61, u62, u63, u64, u65, u66, u67, u68, u69, u70, u71, u72, u73, u74, u75, u76, u77, u78, u79, u80, u81, u82, u83, u84, u85, u86, u87, u88, u89, u90, u91, u92, u93, u94, u95, u96, u97, u98, u99, u100, u101, u102, u103, u104, u105, u106, u107, u108, u109, u110, u111, u112, u113, u114, u115, u116, u117, u118, u119, u120, u121, u122, u123, u124, u125, u126, u127, u128, u129, u130, u131, u132, u133, u134, u135, u136, u137, u138, u139, u140, u141, u142, u143, u144, u145, u146, u147, u148, u149, u150, u151, u152, u153, u154, u155, u156, u157, u158, u159, u160, u161, u162, u163, u164, u165, u166, u167, u168, u169, u170, u171, u172, u173, u174, u175, u176, u177, u178, u179, u180, u181], []⟩ wr := by
  by_cases n110 : e = 110
  · exact ve_110N u4 u5 u6 u9 u10 u11 u12 u13 u14 u15 u16 u17 u18 u19 u20 u21 u22 u23 u24 u25 u26 u27 u28 u29 u30 u31 u32 u33 u34 u35 u36 u37 u38 u39 u40 u41 u42 u43 u44 u45 u46 u47 u48 u49 u50 u51 u52 u53 u54 u55 u56 u57 u58 u59 u60 u61 u62 u63 u64 u65 u66 u67 u68 u69 u70 u71 u72 u73 u74 u75 u76 u77 u78 u79 u80 u81 u82 u83 u84 u85 u86 u87 u88 u89 u90 u91 u92 u93 u94 u95 u96 u97 u98 u99 u100 u101 u102 u103 u104 u105 u106 u107 u108 u109 u110 u111 u112 u113 u114 u115 u116 u117 u118 u119 u120 u121 u122 u123 u124 u125 u126 u127 u128 u129 u130 u131 u132 u133 u134 u135 u136 u137 u138 u139 u140 u141 u142 u143 u144 u145 u146 u147 u148 u149 u150 u151 u152 u153 u154 u155 u156 u157 u158 u159 u160 u161 u162 u163 u164 u165 u166 u167 u168 u169 u170 u171 u172 u173 u174 u175 u176 u177 u178 u179 u180 u181 v s q w wr r k g c hs hlt hc hgl HDK hown HG hbl hq h10 h92 hend e hx n110 hend2 (st_of HDK HX1 hq h92t (by subst n110; rfl)) Kn Q HK HQ
  by_cases n114 : e = 114
  · exact ve_114N u4 u5 u6 u9 u10 u11 u12 u13 u14 u15 u16 u17 u18 u19 u20 u21 u22 u23 u24 u25 u26 u27 u28 u29 u30 u31 u32 u33 u34 u35 u36 u37 u38 u39 u40 u41 u42 u43 u44 u45 u46 u47 u48 u49 u50 u51 u52 u53 u54 u55 u56 u57 u58 u59 u60 u61 u62 u63 u64 u65 u66 u67 u68 u69 u70 u71 u72 u73 u74 u75 u76 u77 u78 u79 u80 u81 u82 u83 u84 u85 u86 u87 u88 u89 u90 u91 u92 u93 u94 u95 u96 u97 u98 u99 u100 u101 u102 u103 u104 u105 u106 u107 u108 u109 u110 u111 u112 u113 u114 u115 u116 u117 u118 u119 u120 u121 u122 u123 u124 u125 u126 u127 u128 u129 u130 u131 u132 u133 u134 u135 u136 u137 u138 u139 u140 u141 u142 u143 u144 u145 u146 u147 u148 u149 u150 u151 u152 u153 u154 u155 u156 u157 u158 u159 u160 u161 u162 u163 u164 u165 u166 u167 u168 u169 u170 u171 u172 u173 u174 u175 u176 u177 u178 u179 u180 u181 v s q w wr r k g c hs hlt hc hgl HDK hown HG hbl hq h10 h92 hend e hx n114 hend2 (st_of HDK HX1 hq h92t (by subst n114; rfl)) Kn Q HK HQ
  by_cases n116 : e = 116
  · exact ve_116N u4 u5 u6 u9 u10 u11 u12 u13 u14 u15 u16 u17 u18 u19 u20 u21 u22 u23 u24 u25 u26 u27 u28 u29 u30 u31 u32 u33 u34 u35 u36 u37 u38 u39 u40 u41 u42 u43 u44 u45 u46 u47 u48 u49 u50 u51 u52 u53 u54 u55 u56 u57 u58 u59 u60 u61 u62 u63 u64 u65 u66 u67 u68 u69 u70 u71 u72 u73 u74 u75 u76 u77 u78 u79 u80 u81 u82 u83 u84 u85 u86 u87 u88 u89 u90 u91 u92 u93 u94 u95 u96 u97 u98 u99 u100 u101 u102 u103 u104 u105 u106 u107 u108 u109 u110 u111 u112 u113 u114 u115 u116 u117 u118 u119 u120 u121 u122 u123 u124 u125 u126 u127 u128 u129 u130 u131 u132 u133 u134 u135 u136 u137 u138 u139 u140 u141 u142 u143 u144 u145 u146 u147 u148 u149 u150 u151 u152 u153 u154 u155 u156 u157 u158 u159 u160 u161 u162 u163 u164 u165 u166 u167 u168 u169 u170 u171 u172 u173 u174 u175 u176 u177 u178 u179 u180 u181 v s q w wr r k g c hs hlt hc hgl HDK hown HG hbl hq h10 h92 hend e hx n116 hend2 (st_of HDK HX1 hq h92t (by subst n116; rfl)) Kn Q HK HQ
  by_cases n97 : e = 97
  · exact ve_97N u4 u5 u6 u9 u10 u11 u12 u13 u14 u15 u16 u17 u18 u19 u20 u21 u22 u23 u24 u25 u26 u27 u28 u29 u30 u31 u32 u33 u34 u35 u36 u37 u38 u39 u40 u41 u42 u43 u44 u45 u46 u47 u48 u49 u50 u51 u52 u53 u54 u55 u56 u57 u58 u59 u60 u61 u62 u63 u64 u65 u66 u67 u68 u69 u70 u71 u72 u73 u74 u75 u76 u77 u78 u79 u80 u81 u82 u83 u84 u85 u86 u87 u88 u89 u90 u91 u92 u93 u94 u95 u96 u97 u98 u99 u100 u101 u102 u103 u104 u105 u106 u107 u108 u109 u110 u111 u112 u113 u114 u115 u116 u117 u118 u119 u120 u121 u122 u123 u124 u125 u126 u127 u128 u129 u130 u131 u132 u133 u134 u135 u136 u137 u138 u139 u140 u141 u142 u143 u144 u145 u146 u147 u148 u149 u150 u151 u152 u153 u154 u155 u156 u157 u158 u159 u160 u161 u162 u163 u164 u165 u166 u167 u168 u169 u170 u171 u172 u173 u174 u175 u176 u177 u178 u179 u180 u181 v s q w wr r k g c hs hlt hc hgl HDK hown HG hbl hq h10 h92 hend e hx n97 hend2 (st_of HDK HX1 hq h92t (by subst n97; rfl)) Kn Q HK HQ
  by_cases n98 : e = 98
  · exact ve_98N u4 u5 u6 u9 u10 u11 u12 u13 u14 u15 u16 u17 u18 u19 u20 u21 u22 u23 u24 u25 u26 u27 u28 u29 u30 u31 u32 u33 u34 u35 u36 u37 u38 u39 u40 u41 u42 u43 u44 u45 u46 u47 u48 u49 u50 u51 u52 u53 u54 u55 u56 u57 u58 u59 u60 u61 u62 u63 u64 u65 u66 u67 u68 u69 u70 u71 u72 u73 u74 u75 u76 u77 u78 u79 u80 u81 u82 u83 u84 u85 u86 u87 u88 u89 u90 u91 u92 u93 u94 u95 u96 u97 u98 u99 u100 u101 u102 u103 u104 u105 u106 u107 u108 u109 u110 u111 u112 u113 u114 u115 u116 u117 u118 u119 u120 u121 u122 u123 u124 u125 u126 u127 u128 u129 u130 u131 u132 u133 u134 u135 u136 u137 u138 u139 u140 u141 u142 u143 u144 u145 u146 u147 u148 u149 u150 u151 u152 u153 u154 u155 u156 u157 u158 u159 u160 u161 u162 u163 u164 u165 u166 u167 u168 u169 u170 u171 u172 u173 u174 u175 u176 u177 u178 u179 u180 u181 v s q w wr r k g c hs hlt hc hgl HDK hown HG hbl hq h10 h92 hend e hx n98 hend2 (st_of HDK HX1 hq h92t (by subst n98; rfl)) Kn Q HK HQ
  by_cases n102 : e = 102
  · exact ve_102N u4 u5 u6 u9 u10 u11 u12 u13 u14 u15 u16 u17 u18 u19 u20 u21 u22 u23 u24 u25 u26 u27 u28 u29 u30 u31 u32 u33 u34 u35 u36 u37 u38 u39 u40 u41 u42 u43 u44 u45 u46 u47 u48 u49 u50 u51 u52 u53 u54 u55 u56 u57 u58 u59 u60 u61 u62 u63 u64 u65 u66 u67 u68 u69 u70 u71 u72 u73 u74 u75 u76 u77 u78 u79 u80 u81 u82 u83 u84 u85 u86 u87 u88 u89 u90 u91 u92 u93 u94 u95 u96 u97 u98 u99 u100 u101 u102 u103 u104 u105 u106 u107 u108 u109 u110 u111 u112 u113 u114 u115 u116 u117 u118 u119 u120 u121 u122 u123 u124 u125 u126 u127 u128 u129 u130 u131 u132 u133 u134 u135 u136 u137 u138 u139 u140 u141 u142 u143 u144 u145 u146 u147 u148 u149 u150 u151 u152 u153 u154 u155 u156 u157 u158 u159 u160 u161 u162 u163 u164 u165 u166 u167 u168 u169 u170 u171 u172 u173 u174 u175 u176 u177 u178 u179 u180 u181 v s q w wr r k g c hs hlt hc hgl HDK hown HG hbl hq h10 h92 hend e hx n102 hend2 (st_of HDK HX1 hq h92t (by subst n102; rfl)) Kn Q HK HQ
  by_cases n118 : e = 118
  · exact ve_118N u4 u5 u6 u9 u10 u11 u12 u13 u14 u15 u16 u17 u18 u19 u20 u21 u22 u23 u24 u25 u26 u27 u28 u29 u30 u31 u32 u33 u34 u35 u36 u37 u38 u39 u40 u41 u42 u43 u44 u45 u46 u47 u48 u49 u50 u51 u52 u53 u54 u55 u56 u57 u58 u59 u60 u61 u62 u63 u64 u65 u66 u67 u68 u69 u70 u71 u72 u73 u74 u75 u76 u77 u78 u79 u80 u81 u82 u83 u84 u85 u86 u87 u88 u89 u90 u91 u92 u93 u94 u95 u96 u97 u98 u99 u100 u101 u102 u103 u104 u105 u106 u107 u108 u109 u110 u111 u112 u113 u114 u115 u116 u117 u118 u119 u120 u121 u122 u123 u124 u125 u126 u127 u128 u129 u130 u131 u132 u133 u134 u135 u136 u137 u138 u139 u140 u141 u142 u143 u144 u145 u146 u147 u148 u149 u150 u151 u152 u153 u154 u155 u156 u157 u158 u159 u160 u161 u162 u163 u164 u165 u166 u167 u168 u169 u170 u171 u172 u173 u174 u175 u176 u177 u178 u179 u180 u181 v s q w wr r k g c hs hlt hc hgl HDK hown HG hbl hq h10 h92 hend e hx n118 hend2 (st_of HDK HX1 hq h92t (by subst n118; rfl)) Kn Q HK HQ
  by_cases n48 : e = 48
  · exact ve_48zN u4 u5 u6 u9 u10 u11 u12 u13 u14 u15 u16 u17 u18 u19 u20 u21 u22 u23 u24 u25 u26 u27 u28 u29 u30 u31 u32 u33 u34 u35 u36 u37 u38 u39 u40 u41 u42 u43 u44 u45 u46 u47 u48 u49 u50 u51 u52 u53 u54 u55 u56 u57 u58 u59 u60 u61 u62 u63 u64 u65 u66 u67 u68 u69 u70 u71 u72 u73 u74 u75 u76 u77 u78 u79 u80 u81 u82 u83 u84 u85 u86 u87 u88 u89 u90 u91 u92 u93 u94 u95 u96 u97 u98 u99 u100 u101 u102 u103 u104 u105 u106 u107 u108 u109 u110 u111 u112 u113 u114 u115 u116 u117 u118 u119 u120 u121 u122 u123 u124 u125 u126 u127 u128 u129 u130 u131 u132 u133 u134 u135 u136 u137 u138 u139 u140 u141 u142 u143 u144 u145 u146 u147 u148 u149 u150 u151 u152 u153 u154 u155 u156 u157 u158 u159 u160 u161 u162 u163 u164 u165 u166 u167 u168 u169 u170 u171 u172 u173 u174 u175 u176 u177 u178 u179 u180 u181 v s q w wr r k g c hs hlt hc hgl HDK hown HG hbl hq h10 h92 hend e hx n48 hend2 (st_of HDK HX1 hq h92t (by subst n48; exact esc_zero HZ.out)) Kn Q HK HQ
  by_cases n92 : e = 92
  · exact ve_92N u4 u5 u6 u9 u10 u11 u12 u13 u14 u15 u16 u17 u18 u19 u20 u21 u22 u23 u24 u25 u26 u27 u28 u29 u30 u31 u32 u33 u34 u35 u36 u37 u38 u39 u40 u41 u42 u43 u44 u45 u46 u47 u48 u49 u50 u51 u52 u53 u54 u55 u56 u57 u58 u59 u60 u61 u62 u63 u64 u65 u66 u67 u68 u69 u70 u71 u72 u73 u74 u75 u76 u77 u78 u79 u80 u81 u82 u83 u84 u85 u86 u87 u88 u89 u90 u91 u92 u93 u94 u95 u96 u97 u98 u99 u100 u101 u102 u103 u104 u105 u106 u107 u108 u109 u110 u111 u112 u113 u114 u115 u116 u117 u118 u119 u120 u121 u122 u123 u124 u125 u126 u127 u128 u129 u130 u131 u132 u133 u134 u135 u136 u137 u138 u139 u140 u141 u142 u143 u144 u145 u146 u147 u148 u149 u150 u151 u152 u153 u154 u155 u156 u157 u158 u159 u160 u161 u162 u163 u164 u165 u166 u167 u168 u169 u170 u171 u172 u173 u174 u175 u176 u177 u178 u179 u180 u181 v s q w wr r k g c hs hlt hc hgl HDK hown HG hbl hq h10 h92 hend e hx n92 hend2 (st_of HDK HX1 hq h92t (by subst n92; rfl)) Kn Q HK HQ
  by_cases n39 : e = 39
  · exact ve_39N u4 u5 u6 u9 u10 u11 u12 u13 u14 u15 u16 u17 u18 u19 u20 u21 u22 u23 u24 u25 u26 u27 u28 u29 u30 u31 u32 u33 u34 u35 u36 u37 u38 u39 u40 u41 u42 u43 u44 u45 u46 u47 u48 u49 u50 u51 u52 u53 u54 u55 u56 u57 u58 u59 u60 u61 u62 u63 u64 u65 u66 u67 u68 u69 u70 u71 u72 u73 u74 u75 u76 u77 u78 u79 u80 u81 u82 u83 u84 u85 u86 u87 u88 u89 u90 u91 u92 u93 u94 u95 u96 u97 u98 u99 u100 u101 u102 u103 u104 u105 u106 u107 u108 u109 u110 u111 u112 u113 u114 u115 u116 u117 u118 u119 u120 u121 u122 u123 u124 u125 u126 u127 u128 u129 u130 u131 u132 u133 u134 u135 u136 u137 u138 u139 u140 u141 u142 u143 u144 u145 u146 u147 u148 u149 u150 u151 u152 u153 u154 u155 u156 u157 u158 u159 u160 u161 u162 u163 u164 u165 u166 u167 u168 u169 u170 u171 u172 u173 u174 u175 u176 u177 u178 u179 u180 u181 v s q w wr r k g c hs hlt hc hgl HDK hown HG hbl hq h10 h92 hend e hx n39 hend2 (st_of HDK HX1 hq h92t (by subst n39; rfl)) Kn Q HK HQ
  by_cases n34 : e = 34
  · exact ve_34N u4 u5 u6 u9 u10 u11 u12 u13 u14 u15 u16 u17 u18 u19 u20 u21 u22 u23 u24 u25 u26 u27 u28 u29 u30 u31 u32 u33 u34 u35 u36 u37 u38 u39 u40 u41 u42 u43 u44 u45 u46 u47 u48 u49 u50 u51 u52 u53 u54 u55 u56 u57 u58 u59 u60 u61 u62 u63 u64 u65 u66 u67 u68 u69 u70 u71 u72 u73 u74 u75 u76 u77 u78 u79 u80 u81 u82 u83 u84 u85 u86 u87 u88 u89 u90 u91 u92 u93 u94 u95 u96 u97 u98 u99 u100 u101 u102 u103 u104 u105 u106 u107 u108 u109 u110 u111 u112 u113 u114 u115 u116 u117 u118 u119 u120 u121 u122 u123 u124 u125 u126 u127 u128 u129 u130 u131 u132 u133 u134 u135 u136 u137 u138 u139 u140 u141 u142 u143 u144 u145 u146 u147 u148 u149 u150 u151 u152 u153 u154 u155 u156 u157 u158 u159 u160 u161 u162 u163 u164 u165 u166 u167 u168 u169 u170 u171 u172 u173 u174 u175 u176 u177 u178 u179 u180 u181 v s q w wr r k g c hs hlt hc hgl HDK hown HG hbl hq h10 h92 hend e hx n34 hend2 (st_of HDK HX1 hq h92t (by subst n34; rfl)) Kn Q HK HQ
  by_cases n96 : e = 96
  · exact ve_96N u4 u5 u6 u9 u10 u11 u12 u13 u14 u15 u16 u17 u18 u19 u20 u21 u22 u23 u24 u25 u26 u27 u28 u29 u30 u31 u32 u33 u34 u35 u36 u37 u38 u39 u40 u41 u42 u43 u44 u45 u46 u47 u48 u49 u50 u51 u52 u53 u54 u55 u56 u57 u58 u59 u60 u61 u62 u63 u64 u65 u66 u67 u68 u69 u70 u71 u72 u73 u74 u75 u76 u77 u78 u79 u80 u81 u82 u83 u84 u85 u86 u87 u88 u89 u90 u91 u92 u93 u94 u95 u96 u97 u98 u99 u100 u101 u102 u103 u104 u105 u106 u107 u108 u109 u110 u111 u112 u113 u114 u115 u116 u117 u118 u119 u120 u121 u122 u123 u124 u125 u126 u127 u128 u129 u130 u131 u132 u133 u134 u135 u136 u137 u138 u139 u140 u141 u142 u143 u144 u145 u146 u147 u148 u149 u150 u151 u152 u153 u154 u155 u156 u157 u158 u159 u160 u161 u162 u163 u164 u165 u166 u167 u168 u169 u170 u171 u172 u173 u174 u175 u176 u177 u178 u179 u180 u181 v s q w wr r k g c hs hlt hc hgl HDK hown HG hbl hq h10 h92 hend e hx n96 hend2 (st_of HDK HX1 hq h92t (by subst n96; rfl)) Kn Q HK HQ
  by_cases n10 : e = 10
  · exact ve_10N u4 u5 u6 u9 u10 u11 u12 u13 u14 u15 u16 u17 u18 u19 u20 u21 u22 u23 u24 u25 u26 u27 u28 u29 u30 u31 u32 u33 u34 u35 u36 u37 u38 u39 u40 u41 u42 u43 u44 u45 u46 u47 u48 u49 u50 u51 u52 u53 u54 u55 u56 u57 u58 u59 u60 u61 u62 u63 u64 u65 u66 u67 u68 u69 u70 u71 u72 u73 u74 u75 u76 u77 u78 u79 u80 u81 u82 u83 u84 u85 u86 u87 u88 u89 u90 u91 u92 u93 u94 u95 u96 u97 u98 u99 u100 u101 u102 u103 u104 u105 u106 u107 u108 u109 u110 u111 u112 u113 u114 u115 u116 u117 u118 u119 u120 u121 u122 u123 u124 u125 u126 u127 u128 u129 u130 u131 u132 u133 u134 u135 u136 u137 u138 u139 u140 u141 u142 u143 u144 u145 u146 u147 u148 u149 u150 u151 u152 u153 u154 u155 u156 u157 u158 u159 u160 u161 u162 u163 u164 u165 u166 u167 u168 u169 u170 u171 u172 u173 u174 u175 u176 u177 u178 u179 u180 u181 v s q w wr r k g c hs hlt hc hgl HDK hown HG hbl hq h10 h92 hend e hx n10 hend2 (st_of HDK HX1 hq h92t (by subst n10; rfl)) Kn Q HK HQ
  by_cases n120 : e = 120
  · have NU := num_16 s k hs
    obtain ⟨o, ho⟩ : ∃ o, numAt 16 (s.data.toList.drop (k + 2)) = o := ⟨_, rfl⟩
    rw [ho] at NU
    rcases o with _ | ⟨b, m⟩
    · exact ve_x_noN u4 u5 u6 u9 u10 u11 u12 u13 u14 u15 u16 u17 u18 u19 u20 u21 u22 u23 u24 u25 u26 u27 u28 u29 u30 u31 u32 u33 u34 u35 u36 u37 u38 u39 u40 u41 u42 u43 u44 u45 u46 u47 u48 u49 u50 u51 u52 u53 u54 u55 u56 u57 u58 u59 u60 u61 u62 u63 u64 u65 u66 u67 u68 u69 u70 u71 u72 u73 u74 u75 u76 u77 u78 u79 u80 u81 u82 u83 u84 u85 u86 u87 u88 u89 u90 u91 u92 u93 u94 u95 u96 u97 u98 u99 u100 u101 u102 u103 u104 u105 u106 u107 u108 u109 u110 u111 u112 u113 u114 u115 u116 u117 u118 u119 u120 u121 u122 u123 u124 u125 u126 u127 u128 u129 u130 u131 u132 u133 u134 u135 u136 u137 u138 u139 u140 u141 u142 u143 u144 u145 u146 u147 u148 u149 u150 u151 u152 u153 u154 u155 u156 u157 u158 u159 u160 u161 u162 u163 u164 u165 u166 u167 u168 u169 u170 u171 u172 u173 u174 u175 u176 u177 u178 u179 u180 u181 v s q w wr r k g c hs hlt hc hgl HDK hown HG hbl hq h10 h92 hend e hx n120 hend2 _ NU rfl (bad_of HDK HX1 HG hq h92t (by subst n120; exact esc_hex_none ho)) Kn Q HK HQ
    · have hm := num_len ho
      rw [← Lib.size_eq] at hm
      exact ve_x_yesN u4 u5 u6 u9 u10 u11 u12 u13 u14 u15 u16 u17 u18 u19 u20 u21 u22 u23 u24 u25 u26 u27 u28 u29 u30 u31 u32 u33 u34 u35 u36 u37 u38 u39 u40 u41 u42 u43 u44 u45 u46 u47 u48 u49 u50 u51 u52 u53 u54 u55 u56 u57 u58 u59 u60 u61 u62 u63 u64 u65 u66 u67 u68 u69 u70 u71 u72 u73 u74 u75 u76 u77 u78 u79 u80 u81 u82 u83 u84 u85 u86 u87 u88 u89 u90 u91 u92 u93 u94 u95 u96 u97 u98 u99 u100 u101 u102 u103 u104 u105 u106 u107 u108 u109 u110 u111 u112 u113 u114 u115 u116 u117 u118 u119 u120 u121 u122 u123 u124 u125 u126 u127 u128 u129 u130 u131 u132 u133 u134 u135 u136 u137 u138 u139 u140 u141 u142 u143 u144 u145 u146 u147 u148 u149 u150 u151 u152 u153 u154 u155 u156 u157 u158 u159 u160 u161 u162 u163 u164 u165 u166 u167 u168 u169 u170 u171 u172 u173 u174 u175 u176 u177 u178 u179 u180 u181 v s q w wr r k g c hs hlt hc hgl HDK hown HG hbl hq h10 h92 hend e hx n120 hend2 _ NU b m rfl hm.1 hm.2 (st_of HDK HX1 hq h92t (by subst n120; exact esc_hex_some ho)) Kn Q HK HQ
  have f110 : ((e.toNat : Int) == 110) = false := ne_byte (c := 110) n110
  have f114 : ((e.toNat : Int) == 114) = false := ne_byte (c := 114) n114
  have f116 : ((e.toNat : Int) == 116) = false := ne_byte (c := 116) n116
  have f97 : ((e.toNat : Int) == 97) = false := ne_byte (c := 97) n97
  have f98 : ((e.toNat : Int) == 98) = false := ne_byte (c := 98) n98
  have f102 : ((e.toNat : Int) == 102) = false := ne_byte (c := 102) n102
  have f118 : ((e.toNat : Int) == 118) = false := ne_byte (c := 118) n118
  have f48 : ((e.toNat : Int) == 48) = false := ne_byte (c := 48) n48
  have f92 : ((e.toNat : Int) == 92) = false := ne_byte (c := 92) n92
  have f39 : ((e.toNat : Int) == 39) = false := ne_byte (c := 39) n39
  have f34 : ((e.toNat : Int) == 34) = false := ne_byte (c := 34) n34
  have f96 : ((e.toNat : Int) == 96) = false := ne_byte (c := 96) n96
  have f10 : ((e.toNat : Int) == 10) = false := ne_byte (c := 10) n10
  have f120 : ((e.toNat : Int) == 120) = false := ne_byte (c := 120) n120
  have q0 : (0 : Int) ≤ (e.toNat : Int) := by omega
  have q1 : (e.toNat : Int) ≤ 255 := by have := e.toNat_lt; omega
  have D8 := Lib.hid (fun w => ref_digit (e.toNat : Int) 8 (.inl rfl) w q0 q1)
  cases ho8 : octZ (e.toNat : Int)
  · exact ve_noneN u4 u5 u6 u9 u10 u11 u12 u13 u14 u15 u16 u17 u18 u19 u20 u21 u22 u23 u24 u25 u26 u27 u28 u29 u30 u31 u32 u33 u34 u35 u36 u37 u38 u39 u40 u41 u42 u43 u44 u45 u46 u47 u48 u49 u50 u51 u52 u53 u54 u55 u56 u57 u58 u59 u60 u61 u62 u63 u64 u65 u66 u67 u68 u69 u70 u71 u72 u73 u74 u75 u76 u77 u78 u79 u80 u81 u82 u83 u84 u85 u86 u87 u88 u89 u90 u91 u92 u93 u94 u95 u96 u97 u98 u99 u100 u101 u102 u103 u104 u105 u106 u107 u108 u109 u110 u111 u112 u113 u114 u115 u116 u117 u118 u119 u120 u121 u122 u123 u124 u125 u126 u127 u128 u129 u130 u131 u132 u133 u134 u135 u136 u137 u138 u139 u140 u141 u142 u143 u144 u145 u146 u147 u148 u149 u150 u151 u152 u153 u154 u155 u156 u157 u158 u159 u160 u161 u162 u163 u164 u165 u166 u167 u168 u169 u170 u171 u172 u173 u174 u175 u176 u177 u178 u179 u180 u181 v s q w wr r k g c hs hlt hc hgl HDK hown HG hbl hq h10 h92 hend e hx f110 f114 f116 f97 f98 f102 f118 f48 f92 f39 f34 f96 f10 f120 _ D8 (dig_not ho8) hend2 (bad_of HDK HX1 HG hq h92t (esc_not ho8 f110 f114 f116 f97 f98 f102 f118 f48 f92 f39 f34 f96 f10 f120)) Kn Q HK HQ
  have hz : zeroB e (s.data.toList.drop (k + 2)) = false := by unfold zeroB; rw [f48]; rfl
  have NU := num_8 s k hs
  obtain ⟨o, ho⟩ : ∃ o, numAt 8 (s.data.toList.drop (k + 1)) = o := ⟨_, rfl⟩
  rw [ho] at NU
  rcases o with _ | ⟨b, m⟩
  · exact ve_o_noN u4 u5 u6 u9 u10 u11 u12 u13 u14 u15 u16 u17 u18 u19 u20 u21 u22 u23 u24 u25 u26 u27 u28 u29 u30 u31 u32 u33 u34 u35 u36 u37 u38 u39 u40 u41 u42 u43 u44 u45 u46 u47 u48 u49 u50 u51 u52 u53 u54 u55 u56 u57 u58 u59 u60 u61 u62 u63 u64 u65 u66 u67 u68 u69 u70 u71 u72 u73 u74 u75 u76 u77 u78 u79 u80 u81 u82 u83 u84 u85 u86 u87 u88 u89 u90 u91 u92 u93 u94 u95 u96 u97 u98 u99 u100 u101 u102 u103 u104 u105 u106 u107 u108 u109 u110 u111 u112 u113 u114 u115 u116 u117 u118 u119 u120 u121 u122 u123 u124 u125 u126 u127 u128 u129 u130 u131 u132 u133 u134 u135 u136 u137 u138 u139 u140 u141 u142 u143 u144 u145 u146 u147 u148 u149 u150 u151 u152 u153 u154 u155 u156 u157 u158 u159 u160 u161 u162 u163 u164 u165 u166 u167 u168 u169 u170 u171 u172 u173 u174 u175 u176 u177 u178 u179 u180 u181 v s q w wr r k g c hs hlt hc hgl HDK hown HG hbl hq h10 h92 hend e hx f110 f114 f116 f97 f98 f102 f118 f48 f92 f39 f34 f96 f10 f120 _ D8 (by rw [(dig_oct ho8).1]; exact (dig_oct ho8).2.1) (by rw [(dig_oct ho8).1]; exact (dig_oct ho8).2.2) hend2 _ NU rfl (bad_of HDK HX1 HG hq h92t (esc_oct_none ho8 hz (by rw [← HX1.out]; exact ho))) Kn Q HK HQ
  · have hm := num_len ho
    rw [← Lib.size_eq] at hm
    exact ve_o_yesN u4 u5 u6 u9 u10 u11 u12 u13 u14 u15 u16 u17 u18 u19 u20 u21 u22 u23 u24 u25 u26 u27 u28 u29 u30 u31 u32 u33 u34 u35 u36 u37 u38 u39 u40 u41 u42 u43 u44 u45 u46 u47 u48 u49 u50 u51 u52 u53 u54 u55 u56 u57 u58 u59 u60 u61 u62 u63 u64 u65 u66 u67 u68 u69 u70 u71 u72 u73 u74 u75 u76 u77 u78 u79 u80 u81 u82 u83 u84 u85 u86 u87 u88 u89 u90 u91 u92 u93 u94 u95 u96 u97 u98 u99 u100 u101 u102 u103 u104 u105 u106 u107 u108 u109 u110 u111 u112 u113 u114 u115 u116 u117 u118 u119 u120 u121 u122 u123 u124 u125 u126 u127 u128 u129 u130 u131 u132 u133 u134 u135 u136 u137 u138 u139 u140 u141 u142 u143 u144 u145 u146 u147 u148 u149 u150 u151 u152 u153 u154 u155 u156 u157 u158 u159 u160 u161 u162 u163 u164 u165 u166 u167 u168 u169 u170 u171 u172 u173 u174 u175 u176 u177 u178 u179 u180 u181 v s q w wr r k g c hs hlt hc hgl HDK hown HG hbl hq h10 h92 hend e hx f110 f114 f116 f97 f98 f102 f118 f48 f92 f39 f34 f96 f10 f120 _ D8 (by rw [(dig_oct ho8).1]; exact (dig_oct ho8).2.1) (by rw [(dig_oct ho8).1]; exact (dig_oct ho8).2.2) hend2 _ NU b m rfl hm.1 hm.2 (st_of HDK HX1 hq h92t (esc_oct_some ho8 hz (by rw [← HX1.out]; exact ho))) Kn Q HK HQ

set_option linter.unusedVariables false in
set_option maxHeartbeats 4000000 in
set_option maxRecDepth 1000000 in
theorem x_escS (u4 u5 u6 u9 u10 u11 u12 u13 u14 u15 u16 u17 u18 u19 u20 u21 u22 u23 u24 u25 u26 u27 u28 u29 u30 u31 u32 u33 u34 u35 u36 u37 u38 u39 u40 u41 u42 u43 u44 u45 u46 u47 u48 u49 u50 u51 u52 u53 u54 u55 u56 u57 u58 u59 u60 u61 u62 u63 u64 u65 u66 u67 u68 u69 u70 u71 u72 u73 u74 u75 u76 u77 u78 u79 u80 u81 u82 u83 u84 u85 u86 u87 u88 u89 u90 u91 u92 u93 u94 u95 u96 u97 u98 u99 u100 u101 u102 u103 u104 u105 u106 u107 u108 u109 u110 u111 u112 u113 u114 u115 u116 u117 u118 u119 u120 u121 u122 u123 u124 u125 u126 u127 u128 u129 u130 u131 u132 u133 u134 u135 u136 u137 u138 u139 u140 u141 u142 u143 u144 u145 u146 u147 u148 u149 u150 u151 u152 u153 u154 u155 u156 u157 u158 u159 u160 u161 u162 u163 u164 u165 u166 u167 u168 u169 u170 u171 u172 u173 u174 u175 u176 u177 u178 u179 u180 u181 v : Value) (s : ByteArray) (q : Int) (w wr : World) (r : Option (List UInt8 × Nat)) (k : Nat) (g : List UInt8) (c : UInt8) (hs : s.size ≤ 4000) (hlt : k < s.size) (hc : s[k] = c) (hgl : g.length ≤ k)
    (HDK : Hid (s.data.toList.drop k = c :: s.data.toList.drop (k + 1))) (hown : Hid (wr.ownsRow w.heap.size 5 1 v g.length (bc g))) (HG : Hid (getF q ((s.data.toList.drop k).length + 1) (s.data.toList.drop k) g k = r)) (hbl : Hid (Below w.heap.size w wr))
    (hq : ((c.toNat : Int) == q) = false) (h10 : ((c.toNat : Int) == 10) = false) (h92 : ((c.toNat : Int) != 92) = false) (h92t : ((c.toNat : Int) == 92) = true) (hend : k + 1 < s.size) (e : UInt8) (hx : s[k + 1] = e) (HX1 : Hid (s.data.toList.drop (k + 1) = e :: s.data.toList.drop (k + 2))) (hend2 : k + 2 < s.size) (y : UInt8) (hy : s[k + 2] = y) (HY : Hid (zeroN (s.data.toList.drop (k + 2)) = (!octZ (y.toNat : Int) && !((y.toNat : Int) == 92)))) (V : Int) (hVV : digV 8 (y.toNat : Int) = V) (DY : Hid (∀ w, Calls Tryd.prog 63 #[.int .u8 (y.toNat : Int), .int .i64 8] w fun e1 w' => e1 = .returned (.int .i64 V) ∧ w' = w))
    (Kn : Act → World → Prop) (Q : Exit → Act → World → Prop) (HK : Hid (∀ a' w'', WI w s q r a' w'' → s.size - (intOf (a'.tmps.getD 8 undef)).toNat < s.size - k → Kn a' w'')) (HQ : Hid (∀ a' w'', bodyPost Tryd.prog Tryd.f45 (GetPost w r) Exit.ret a' w'' → Q Exit.ret a' w'')) :
    Code.wp Tryd.prog ((Tryd.f45.body.bind firstLoop).getD .skip) (Exit.then Kn Q) ⟨#[.string s, .int .u8 q, undef, undef, u4, u5, u6, v, .int .i64 k, u9, u10, u11, u12, u13, u14, u15, u16, u17, u18, u19, u20, u21, u22, u23, u24, u25, u26, u27, u28, u29, u30, u31, u32, u33, u34, u35, u36, u37, u38, u39, u40, u41, u42, u43, u44, u45, u46, u47, u48, u49, u50, u51, u52, u53, u54, u55, u56, u57, u58, u59, u60, u61, u62, u63, u64, u65, u66, u67, u68, u69, u70, u71, u72, u73, u74, u75, u76, u77, u78, u79, u80, u81, u82, u83, u84, u85, u86, u87, u88, u89, u90, u91, u92, u93, u94, u95, u96, u97, u98, u99, u100, u101, u102, u103, u104, u105, u106, u107, u108, u109, u110, u111, u112, u113, u114, u115, u116, u117, u118, u119, u120, u121, u122, u123, u124, u125, u126, u127, u128, u129, u130, u131, u132, u133, u134, u135, u136, u137, u138, u139, u140, u141, u142, u143, u144, u145, u146, u147, u148, u149, u150, u151, u152, u153, u154, u155, u156, u157, u158, u159, u160, u161, u162, u163, u164, u165, u166, u167, u168, u169, u170, u171, u172, u173, u174, u175, u176, u177, u178, u179, u180, u181], []⟩ wr := by
  by_cases n110 : e = 110
  · exact ve_110S u4 u5 u6 u9 u10 u11 u12 u13 u14 u15 u16 u17 u18 u19 u20 u21 u22 u23 u24 u25 u26 u27 u28 u29 u30 u31 u32 u33 u34 u35 u36 u37 u38 u39 u40 u41 u42 u43 u44 u45 u46 u47 u48 u49 u50 u51 u52 u53 u54 u55 u56 u57 u58 u59 u60 u61 u62 u63 u64 u65 u66 u67 u68 u69 u70 u71 u72 u73 u74 u75 u76 u77 u78 u79 u80 u81 u82 u83 u84 u85 u86 u87 u88 u89 u90 u91 u92 u93 u94 u95 u96 u97 u98 u99 u100 u101 u102 u103 u104 u105 u106 u107 u108 u109 u110 u111 u112 u113 u114 u115 u116 u117 u118 u119 u120 u121 u122 u123 u124 u125 u126 u127 u128 u129 u130 u131 u132 u133 u134 u135 u136 u137 u138 u139 u140 u141 u142 u143 u144 u145 u146 u147 u148 u149 u150 u151 u152 u153 u154 u155 u156 u157 u158 u159 u160 u161 u162 u163 u164 u165 u166 u167 u168 u169 u170 u171 u172 u173 u174 u175 u176 u177 u178 u179 u180 u181 v s q w wr r k g c hs hlt hc hgl HDK hown HG hbl hq h10 h92 hend e hx n110 hend2 y hy V DY (st_of HDK HX1 hq h92t (by subst n110; rfl)) Kn Q HK HQ
  by_cases n114 : e = 114
  · exact ve_114S u4 u5 u6 u9 u10 u11 u12 u13 u14 u15 u16 u17 u18 u19 u20 u21 u22 u23 u24 u25 u26 u27 u28 u29 u30 u31 u32 u33 u34 u35 u36 u37 u38 u39 u40 u41 u42 u43 u44 u45 u46 u47 u48 u49 u50 u51 u52 u53 u54 u55 u56 u57 u58 u59 u60 u61 u62 u63 u64 u65 u66 u67 u68 u69 u70 u71 u72 u73 u74 u75 u76 u77 u78 u79 u80 u81 u82 u83 u84 u85 u86 u87 u88 u89 u90 u91 u92 u93 u94 u95 u96 u97 u98 u99 u100 u101 u102 u103 u104 u105 u106 u107 u108 u109 u110 u111 u112 u113 u114 u115 u116 u117 u118 u119 u120 u121 u122 u123 u124 u125 u126 u127 u128 u129 u130 u131 u132 u133 u134 u135 u136 u137 u138 u139 u140 u141 u142 u143 u144 u145 u146 u147 u148 u149 u150 u151 u152 u153 u154 u155 u156 u157 u158 u159 u160 u161 u162 u163 u164 u165 u166 u167 u168 u169 u170 u171 u172 u173 u174 u175 u176 u177 u178 u179 u180 u181 v s q w wr r k g c hs hlt hc hgl HDK hown HG hbl hq h10 h92 hend e hx n114 hend2 y hy V DY (st_of HDK HX1 hq h92t (by subst n114; rfl)) Kn Q HK HQ
  by_cases n116 : e = 116
  · exact ve_116S u4 u5 u6 u9 u10 u11 u12 u13 u14 u15 u16 u17 u18 u19 u20 u21 u22 u23 u24 u25 u26 u27 u28 u29 u30 u31 u32 u33 u34 u35 u36 u37 u38 u39 u40 u41 u42 u43 u44 u45 u46 u47 u48 u49 u50 u51 u52 u53 u54 u55 u56 u57 u58 u59 u60 u61 u62 u63 u64 u65 u66 u67 u68 u69 u70 u71 u72 u73 u74 u75 u76 u77 u78 u79 u80 u81 u82 u83 u84 u85 u86 u87 u88 u89 u90 u91 u92 u93 u94 u95 u96 u97 u98 u99 u100 u101 u102 u103 u104 u105 u106 u107 u108 u109 u110 u111 u112 u113 u114 u115 u116 u117 u118 u119 u120 u121 u122 u123 u124 u125 u126 u127 u128 u129 u130 u131 u132 u133 u134 u135 u136 u137 u138 u139 u140 u141 u142 u143 u144 u145 u146 u147 u148 u149 u150 u151 u152 u153 u154 u155 u156 u157 u158 u159 u160 u161 u162 u163 u164 u165 u166 u167 u168 u169 u170 u171 u172 u173 u174 u175 u176 u177 u178 u179 u180 u181 v s q w wr r k g c hs hlt hc hgl HDK hown HG hbl hq h10 h92 hend e hx n116 hend2 y hy V DY (st_of HDK HX1 hq h92t (by subst n116; rfl)) Kn Q HK HQ
  by_cases n97 : e = 97
  · exact ve_97S u4 u5 u6 u9 u10 u11 u12 u13 u14 u15 u16 u17 u18 u19 u20 u21 u22 u23 u24 u25 u26 u27 u28 u29 u30 u31 u32 u33 u34 u35 u36 u37 u38 u39 u40 u41 u42 u43 u44 u45 u46 u47 u48 u49 u50 u51 u52 u53 u54 u55 u56 u57 u58 u59 u60 u61 u62 u63 u64 u65 u66 u67 u68 u69 u70 u71 u72 u73 u74 u75 u76 u77 u78 u79 u80 u81 u82 u83 u84 u85 u86 u87 u88 u89 u90 u91 u92 u93 u94 u95 u96 u97 u98 u99 u100 u101 u102 u103 u104 u105 u106 u107 u108 u109 u110 u111 u112 u113 u114 u115 u116 u117 u118 u119 u120 u121 u122 u123 u124 u125 u126 u127 u128 u129 u130 u131 u132 u133 u134 u135 u136 u137 u138 u139 u140 u141 u142 u143 u144 u145 u146 u147 u148 u149 u150 u151 u152 u153 u154 u155 u156 u157 u158 u159 u160 u161 u162 u163 u164 u165 u166 u167 u168 u169 u170 u171 u172 u173 u174 u175 u176 u177 u178 u179 u180 u181 v s q w wr r k g c hs hlt hc hgl HDK hown HG hbl hq h10 h92 hend e hx n97 hend2 y hy V DY (st_of HDK HX1 hq h92t (by subst n97; rfl)) Kn Q HK HQ
  by_cases n98 : e = 98
  · exact ve_98S u4 u5 u6 u9 u10 u11 u12 u13 u14 u15 u16 u17 u18 u19 u20 u21 u22 u23 u24 u25 u26 u27 u28 u29 u30 u31 u32 u33 u34 u35 u36 u37 u38 u39 u40 u41 u42 u43 u44 u45 u46 u47 u48 u49 u50 u51 u52 u53 u54 u55 u56 u57 u58 u59 u60 u61 u62 u63 u64 u65 u66 u67 u68 u69 u70 u71 u72 u73 u74 u75 u76 u77 u78 u79 u80 u81 u82 u83 u84 u85 u86 u87 u88 u89 u90 u91 u92 u93 u94 u95 u96 u97 u98 u99 u100 u101 u102 u103 u104 u105 u106 u107 u108 u109 u110 u111 u112 u113 u114 u115 u116 u117 u118 u119 u120 u121 u122 u123 u124 u125 u126 u127 u128 u129 u130 u131 u132 u133 u134 u135 u136 u137 u138 u139 u140 u141 u142 u143 u144 u145 u146 u147 u148 u149 u150 u151 u152 u153 u154 u155 u156 u157 u158 u159 u160 u161 u162 u163 u164 u165 u166 u167 u168 u169 u170 u171 u172 u173 u174 u175 u176 u177 u178 u179 u180 u181 v s q w wr r k g c hs hlt hc hgl HDK hown HG hbl hq h10 h92 hend e hx n98 hend2 y hy V DY (st_of HDK HX1 hq h92t (by subst n98; rfl)) Kn Q HK HQ
  by_cases n102 : e = 102
  · exact ve_102S u4 u5 u6 u9 u10 u11 u12 u13 u14 u15 u16 u17 u18 u19 u20 u21 u22 u23 u24 u25 u26 u27 u28 u29 u30 u31 u32 u33 u34 u35 u36 u37 u38 u39 u40 u41 u42 u43 u44 u45 u46 u47 u48 u49 u50 u51 u52 u53 u54 u55 u56 u57 u58 u59 u60 u61 u62 u63 u64 u65 u66 u67 u68 u69 u70 u71 u72 u73 u74 u75 u76 u77 u78 u79 u80 u81 u82 u83 u84 u85 u86 u87 u88 u89 u90 u91 u92 u93 u94 u95 u96 u97 u98 u99 u100 u101 u102 u103 u104 u105 u106 u107 u108 u109 u110 u111 u112 u113 u114 u115 u116 u117 u118 u119 u120 u121 u122 u123 u124 u125 u126 u127 u128 u129 u130 u131 u132 u133 u134 u135 u136 u137 u138 u139 u140 u141 u142 u143 u144 u145 u146 u147 u148 u149 u150 u151 u152 u153 u154 u155 u156 u157 u158 u159 u160 u161 u162 u163 u164 u165 u166 u167 u168 u169 u170 u171 u172 u173 u174 u175 u176 u177 u178 u179 u180 u181 v s q w wr r k g c hs hlt hc hgl HDK hown HG hbl hq h10 h92 hend e hx n102 hend2 y hy V DY (st_of HDK HX1 hq h92t (by subst n102; rfl)) Kn Q HK HQ
  by_cases n118 : e = 118
  · exact ve_118S u4 u5 u6 u9 u10 u11 u12 u13 u14 u15 u16 u17 u18 u19 u20 u21 u22 u23 u24 u25 u26 u27 u28 u29 u30 u31 u32 u33 u34 u35 u36 u37 u38 u39 u40 u41 u42 u43 u44 u45 u46 u47 u48 u49 u50 u51 u52 u53 u54 u55 u56 u57 u58 u59 u60 u61 u62 u63 u64 u65 u66 u67 u68 u69 u70 u71 u72 u73 u74 u75 u76 u77 u78 u79 u80 u81 u82 u83 u84 u85 u86 u87 u88 u89 u90 u91 u92 u93 u94 u95 u96 u97 u98 u99 u100 u101 u102 u103 u104 u105 u106 u107 u108 u109 u110 u111 u112 u113 u114 u115 u116 u117 u118 u119 u120 u121 u122 u123 u124 u125 u126 u127 u128 u129 u130 u131 u132 u133 u134 u135 u136 u137 u138 u139 u140 u141 u142 u143 u144 u145 u146 u147 u148 u149 u150 u151 u152 u153 u154 u155 u156 u157 u158 u159 u160 u161 u162 u163 u164 u165 u166 u167 u168 u169 u170 u171 u172 u173 u174 u175 u176 u177 u178 u179 u180 u181 v s q w wr r k g c hs hlt hc hgl HDK hown HG hbl hq h10 h92 hend e hx n118 hend2 y hy V DY (st_of HDK HX1 hq h92t (by subst n118; rfl)) Kn Q HK HQ
  by_cases n48 : e = 48
  · cases hoy : octZ (y.toNat : Int)
    · have hV : V = -1 := by rw [← hVV]; exact dig_not hoy
      cases hyb : ((y.toNat : Int) == 92)
      · exact ve_48zS u4 u5 u6 u9 u10 u11 u12 u13 u14 u15 u16 u17 u18 u19 u20 u21 u22 u23 u24 u25 u26 u27 u28 u29 u30 u31 u32 u33 u34 u35 u36 u37 u38 u39 u40 u41 u42 u43 u44 u45 u46 u47 u48 u49 u50 u51 u52 u53 u54 u55 u56 u57 u58 u59 u60 u61 u62 u63 u64 u65 u66 u67 u68 u69 u70 u71 u72 u73 u74 u75 u76 u77 u78 u79 u80 u81 u82 u83 u84 u85 u86 u87 u88 u89 u90 u91 u92 u93 u94 u95 u96 u97 u98 u99 u100 u101 u102 u103 u104 u105 u106 u107 u108 u109 u110 u111 u112 u113 u114 u115 u116 u117 u118 u119 u120 u121 u122 u123 u124 u125 u126 u127 u128 u129 u130 u131 u132 u133 u134 u135 u136 u137 u138 u139 u140 u141 u142 u143 u144 u145 u146 u147 u148 u149 u150 u151 u152 u153 u154 u155 u156 u157 u158 u159 u160 u161 u162 u163 u164 u165 u166 u167 u168 u169 u170 u171 u172 u173 u174 u175 u176 u177 u178 u179 u180 u181 v s q w wr r k g c hs hlt hc hgl HDK hown HG hbl hq h10 h92 hend e hx n48 hend2 y hy V DY hV hyb (st_of HDK HX1 hq h92t (by subst n48; exact esc_zero (by rw [HY.out, hoy, hyb]; rfl))) Kn Q HK HQ
      · have hz : zeroB e (s.data.toList.drop (k + 2)) = false := by rw [n48]; show (_ && _) = false; rw [HY.out, hoy, hyb]; rfl
        have NU := num_8 s k hs
        obtain ⟨o, ho⟩ : ∃ o, numAt 8 (s.data.toList.drop (k + 1)) = o := ⟨_, rfl⟩
        rw [ho] at NU
        rcases o with _ | ⟨b, m⟩
        · exact ve_48b_noS u4 u5 u6 u9 u10 u11 u12 u13 u14 u15 u16 u17 u18 u19 u20 u21 u22 u23 u24 u25 u26 u27 u28 u29 u30 u31 u32 u33 u34 u35 u36 u37 u38 u39 u40 u41 u42 u43 u44 u45 u46 u47 u48 u49 u50 u51 u52 u53 u54 u55 u56 u57 u58 u59 u60 u61 u62 u63 u64 u65 u66 u67 u68 u69 u70 u71 u72 u73 u74 u75 u76 u77 u78 u79 u80 u81 u82 u83 u84 u85 u86 u87 u88 u89 u90 u91 u92 u93 u94 u95 u96 u97 u98 u99 u100 u101 u102 u103 u104 u105 u106 u107 u108 u109 u110 u111 u112 u113 u114 u115 u116 u117 u118 u119 u120 u121 u122 u123 u124 u125 u126 u127 u128 u129 u130 u131 u132 u133 u134 u135 u136 u137 u138 u139 u140 u141 u142 u143 u144 u145 u146 u147 u148 u149 u150 u151 u152 u153 u154 u155 u156 u157 u158 u159 u160 u161 u162 u163 u164 u165 u166 u167 u168 u169 u170 u171 u172 u173 u174 u175 u176 u177 u178 u179 u180 u181 v s q w wr r k g c hs hlt hc hgl HDK hown HG hbl hq h10 h92 hend e hx n48 (Lib.hid fun w => ref_digit 48 8 (.inl rfl) w (by omega) (by omega)) hend2 y hy V DY _ NU rfl (bad_of HDK HX1 HG hq h92t (esc_oct_none (by rw [n48]; rfl) hz (by rw [← HX1.out]; exact ho))) hV hyb Kn Q HK HQ
        · have hm := num_len ho
          rw [← Lib.size_eq] at hm
          exact ve_48b_yesS u4 u5 u6 u9 u10 u11 u12 u13 u14 u15 u16 u17 u18 u19 u20 u21 u22 u23 u24 u25 u26 u27 u28 u29 u30 u31 u32 u33 u34 u35 u36 u37 u38 u39 u40 u41 u42 u43 u44 u45 u46 u47 u48 u49 u50 u51 u52 u53 u54 u55 u56 u57 u58 u59 u60 u61 u62 u63 u64 u65 u66 u67 u68 u69 u70 u71 u72 u73 u74 u75 u76 u77 u78 u79 u80 u81 u82 u83 u84 u85 u86 u87 u88 u89 u90 u91 u92 u93 u94 u95 u96 u97 u98 u99 u100 u101 u102 u103 u104 u105 u106 u107 u108 u109 u110 u111 u112 u113 u114 u115 u116 u117 u118 u119 u120 u121 u122 u123 u124 u125 u126 u127 u128 u129 u130 u131 u132 u133 u134 u135 u136 u137 u138 u139 u140 u141 u142 u143 u144 u145 u146 u147 u148 u149 u150 u151 u152 u153 u154 u155 u156 u157 u158 u159 u160 u161 u162 u163 u164 u165 u166 u167 u168 u169 u170 u171 u172 u173 u174 u175 u176 u177 u178 u179 u180 u181 v s q w wr r k g c hs hlt hc hgl HDK hown HG hbl hq h10 h92 hend e hx n48 (Lib.hid fun w => ref_digit 48 8 (.inl rfl) w (by omega) (by omega)) hend2 y hy V DY _ NU b m rfl hm.1 hm.2 (st_of HDK HX1 hq h92t (esc_oct_some (by rw [n48]; rfl) hz (by rw [← HX1.out]; exact ho))) hV hyb Kn Q HK HQ
    · have hV : 0 ≤ V := by rw [← hVV, (dig_oct hoy).1]; exact (dig_oct hoy).2.1
      have hz : zeroB e (s.data.toList.drop (k + 2)) = false := by rw [n48]; show (_ && _) = false; rw [HY.out, hoy]; rfl
      have NU := num_8 s k hs
      obtain ⟨o, ho⟩ : ∃ o, numAt 8 (s.data.toList.drop (k + 1)) = o := ⟨_, rfl⟩
      rw [ho] at NU
      rcases o with _ | ⟨b, m⟩
      · exact ve_48o_noS u4 u5 u6 u9 u10 u11 u12 u13 u14 u15 u16 u17 u18 u19 u20 u21 u22 u23 u24 u25 u26 u27 u28 u29 u30 u31 u32 u33 u34 u35 u36 u37 u38 u39 u40 u41 u42 u43 u44 u45 u46 u47 u48 u49 u50 u51 u52 u53 u54 u55 u56 u57 u58 u59 u60 u61 u62 u63 u64 u65 u66 u67 u68 u69 u70 u71 u72 u73 u74 u75 u76 u77 u78 u79 u80 u81 u82 u83 u84 u85 u86 u87 u88 u89 u90 u91 u92 u93 u94 u95 u96 u97 u98 u99 u100 u101 u102 u103 u104 u105 u106 u107 u108 u109 u110 u111 u112 u113 u114 u115 u116 u117 u118 u119 u120 u121 u122 u123 u124 u125 u126 u127 u128 u129 u130 u131 u132 u133 u134 u135 u136 u137 u138 u139 u140 u141 u142 u143 u144 u145 u146 u147 u148 u149 u150 u151 u152 u153 u154 u155 u156 u157 u158 u159 u160 u161 u162 u163 u164 u165 u166 u167 u168 u169 u170 u171 u172 u173 u174 u175 u176 u177 u178 u179 u180 u181 v s q w wr r k g c hs hlt hc hgl HDK hown HG hbl hq h10 h92 hend e hx n48 (Lib.hid fun w => ref_digit 48 8 (.inl rfl) w (by omega) (by omega)) hend2 y hy V DY _ NU rfl (bad_of HDK HX1 HG hq h92t (esc_oct_none (by rw [n48]; rfl) hz (by rw [← HX1.out]; exact ho))) hV Kn Q HK HQ
      · have hm := num_len ho
        rw [← Lib.size_eq] at hm
        exact ve_48o_yesS u4 u5 u6 u9 u10 u11 u12 u13 u14 u15 u16 u17 u18 u19 u20 u21 u22 u23 u24 u25 u26 u27 u28 u29 u30 u31 u32 u33 u34 u35 u36 u37 u38 u39 u40 u41 u42 u43 u44 u45 u46 u47 u48 u49 u50 u51 u52 u53 u54 u55 u56 u57 u58 u59 u60 u61 u62 u63 u64 u65 u66 u67 u68 u69 u70 u71 u72 u73 u74 u75 u76 u77 u78 u79 u80 u81 u82 u83 u84 u85 u86 u87 u88 u89 u90 u91 u92 u93 u94 u95 u96 u97 u98 u99 u100 u101 u102 u103 u104 u105 u106 u107 u108 u109 u110 u111 u112 u113 u114 u115 u116 u117 u118 u119 u120 u121 u122 u123 u124 u125 u126 u127 u128 u129 u130 u131 u132 u133 u134 u135 u136 u137 u138 u139 u140 u141 u142 u143 u144 u145 u146 u147 u148 u149 u150 u151 u152 u153 u154 u155 u156 u157 u158 u159 u160 u161 u162 u163 u164 u165 u166 u167 u168 u169 u170 u171 u172 u173 u174 u175 u176 u177 u178 u179 u180 u181 v s q w wr r k g c hs hlt hc hgl HDK hown HG hbl hq h10 h92 hend e hx n48 (Lib.hid fun w => ref_digit 48 8 (.inl rfl) w (by omega) (by omega)) hend2 y hy V DY _ NU b m rfl hm.1 hm.2 (st_of HDK HX1 hq h92t (esc_oct_some (by rw [n48]; rfl) hz (by rw [← HX1.out]; exact ho))) hV Kn Q HK HQ
  by_cases n92 : e = 92
  · exact ve_92S u4 u5 u6 u9 u10 u11 u12 u13 u14 u15 u16 u17 u18 u19 u20 u21 u22 u23 u24 u25 u26 u27 u28 u29 u30 u31 u32 u33 u34 u35 u36 u37 u38 u39 u40 u41 u42 u43 u44 u45 u46 u47 u48 u49 u50 u51 u52 u53 u54 u55 u56 u57 u58 u59 u60 u61 u62 u63 u64 u65 u66 u67 u68 u69 u70 u71 u72 u73 u74 u75 u76 u77 u78 u79 u80 u81 u82 u83 u84 u85 u86 u87 u88 u89 u90 u91 u92 u93 u94 u95 u96 u97 u98 u99 u100 u101 u102 u103 u104 u105 u106 u107 u108 u109 u110 u111 u112 u113 u114 u115 u116 u117 u118 u119 u120 u121 u122 u123 u124 u125 u126 u127 u128 u129 u130 u131 u132 u133 u134 u135 u136 u137 u138 u139 u140 u141 u142 u143 u144 u145 u146 u147 u148 u149 u150 u151 u152 u153 u154 u155 u156 u157 u158 u159 u160 u161 u162 u163 u164 u165 u166 u167 u168 u169 u170 u171 u172 u173 u174 u175 u176 u177 u178 u179 u180 u181 v s q w wr r k g c hs hlt hc hgl HDK hown HG hbl hq h10 h92 hend e hx n92 hend2 y hy V DY (st_of HDK HX1 hq h92t (by subst n92; rfl)) Kn Q HK HQ
  by_cases n39 : e = 39
  · exact ve_39S u4 u5 u6 u9 u10 u11 u12 u13 u14 u15 u16 u17 u18 u19 u20 u21 u22 u23 u24 u25 u26 u27 u28 u29 u30 u31 u32 u33 u34 u35 u36 u37 u38 u39 u40 u41 u42 u43 u44 u45 u46 u47 u48 u49 u50 u51 u52 u53 u54 u55 u56 u57 u58 u59 u60 u61 u62 u63 u64 u65 u66 u67 u68 u69 u70 u71 u72 u73 u74 u75 u76 u77 u78 u79 u80 u81 u82 u83 u84 u85 u86 u87 u88 u89 u90 u91 u92 u93 u94 u95 u96 u97 u98 u99 u100 u101 u102 u103 u104 u105 u106 u107 u108 u109 u110 u111 u112 u113 u114 u115 u116 u117 u118 u119 u120 u121 u122 u123 u124 u125 u126 u127 u128 u129 u130 u131 u132 u133 u134 u135 u136 u137 u138 u139 u140 u141 u142 u143 u144 u145 u146 u147 u148 u149 u150 u151 u152 u153 u154 u155 u156 u157 u158 u159 u160 u161 u162 u163 u164 u165 u166 u167 u168 u169 u170 u171 u172 u173 u174 u175 u176 u177 u178 u179 u180 u181 v s q w wr r k g c hs hlt hc hgl HDK hown HG hbl hq h10 h92 hend e hx n39 hend2 y hy V DY (st_of HDK HX1 hq h92t (by subst n39; rfl)) Kn Q HK HQ
  by_cases n34 : e = 34
  · exact ve_34S u4 u5 u6 u9 u10 u11 u12 u13 u14 u15 u16 u17 u18 u19 u20 u21 u22 u23 u24 u25 u26 u27 u28 u29 u30 u31 u32 u33 u34 u35 u36 u37 u38 u39 u40 u41 u42 u43 u44 u45 u46 u47 u48 u49 u50 u51 u52 u53 u54 u55 u56 u57 u58 u59 u60 u61 u62 u63 u64 u65 u66 u67 u68 u69 u70 u71 u72 u73 u74 u75 u76 u77 u78 u79 u80 u81 u82 u83 u84 u85 u86 u87 u88 u89 u90 u91 u92 u93 u94 u95 u96 u97 u98 u99 u100 u101 u102 u103 u104 u105 u106 u107 u108 u109 u110 u111 u112 u113 u114 u115 u116 u117 u118 u119 u120 u121 u122 u123 u124 u125 u126 u127 u128 u129 u130 u131 u132 u133 u134 u135 u136 u137 u138 u139 u140 u141 u142 u143 u144 u145 u146 u147 u148 u149 u150 u151 u152 u153 u154 u155 u156 u157 u158 u159 u160 u161 u162 u163 u164 u165 u166 u167 u168 u169 u170 u171 u172 u173 u174 u175 u176 u177 u178 u179 u180 u181 v s q w wr r k g c hs hlt hc hgl HDK hown HG hbl hq h10 h92 hend e hx n34 hend2 y hy V DY (st_of HDK HX1 hq h92t (by subst n34; rfl)) Kn Q HK HQ
  by_cases n96 : e = 96
  · exact ve_96S u4 u5 u6 u9 u10 u11 u12 u13 u14 u15 u16 u17 u18 u19 u20 u21 u22 u23 u24 u25 u26 u27 u28 u29 u30 u31 u32 u33 u34 u35 u36 u37 u38 u39 u40 u41 u42 u43 u44 u45 u46 u47 u48 u49 u50 u51 u52 u53 u54 u55 u56 u57 u58 u59 u60 u61 u62 u63 u64 u65 u66 u67 u68 u69 u70 u71 u72 u73 u74 u75 u76 u77 u78 u79 u80 u81 u82 u83 u84 u85 u86 u87 u88 u89 u90 u91 u92 u93 u94 u95 u96 u97 u98 u99 u100 u101 u102 u103 u104 u105 u106 u107 u108 u109 u110 u111 u112 u113 u114 u115 u116 u117 u118 u119 u120 u121 u122 u123 u124 u125 u126 u127 u128 u129 u130 u131 u132 u133 u134 u135 u136 u137 u138 u139 u140 u141 u142 u143 u144 u145 u146 u147 u148 u149 u150 u151 u152 u153 u154 u155 u156 u157 u158 u159 u160 u161 u162 u163 u164 u165 u166 u167 u168 u169 u170 u171 u172 u173 u174 u175 u176 u177 u178 u179 u180 u181 v s q w wr r k g c hs hlt hc hgl HDK hown HG hbl hq h10 h92 hend e hx n96 hend2 y hy V DY (st_of HDK HX1 hq h92t (by subst n96; rfl)) Kn Q HK HQ
  by_cases n10 : e = 10
  · exact ve_10S u4 u5 u6 u9 u10 u11 u12 u13 u14 u15 u16 u17 u18 u19 u20 u21 u22 u23 u24 u25 u26 u27 u28 u29 u30 u31 u32 u33 u34 u35 u36 u37 u38 u39 u40 u41 u42 u43 u44 u45 u46 u47 u48 u49 u50 u51 u52 u53 u54 u55 u56 u57 u58 u59 u60 u61 u62 u63 u64 u65 u66 u67 u68 u69 u70 u71 u72 u73 u74 u75 u76 u77 u78 u79 u80 u81 u82 u83 u84 u85 u86 u87 u88 u89 u90 u91 u92 u93 u94 u95 u96 u97 u98 u99 u100 u101 u102 u103 u104 u105 u106 u107 u108 u109 u110 u111 u112 u113 u114 u115 u116 u117 u118 u119 u120 u121 u122 u123 u124 u125 u126 u127 u128 u129 u130 u131 u132 u133 u134 u135 u136 u137 u138 u139 u140 u141 u142 u143 u144 u145 u146 u147 u148 u149 u150 u151 u152 u153 u154 u155 u156 u157 u158 u159 u160 u161 u162 u163 u164 u165 u166 u167 u168 u169 u170 u171 u172 u173 u174 u175 u176 u177 u178 u179 u180 u181 v s q w wr r k g c hs hlt hc hgl HDK hown HG hbl hq h10 h92 hend e hx n10 hend2 y hy V DY (st_of HDK HX1 hq h92t (by subst n10; rfl)) Kn Q HK HQ
  by_cases n120 : e = 120
  · have NU := num_16 s k hs
    obtain ⟨o, ho⟩ : ∃ o, numAt 16 (s.data.toList.drop (k + 2)) = o := ⟨_, rfl⟩
    rw [ho] at NU
    rcases o with _ | ⟨b, m⟩
    · exact ve_x_noS u4 u5 u6 u9 u10 u11 u12 u13 u14 u15 u16 u17 u18 u19 u20 u21 u22 u23 u24 u25 u26 u27 u28 u29 u30 u31 u32 u33 u34 u35 u36 u37 u38 u39 u40 u41 u42 u43 u44 u45 u46 u47 u48 u49 u50 u51 u52 u53 u54 u55 u56 u57 u58 u59 u60 u61 u62 u63 u64 u65 u66 u67 u68 u69 u70 u71 u72 u73 u74 u75 u76 u77 u78 u79 u80 u81 u82 u83 u84 u85 u86 u87 u88 u89 u90 u91 u92 u93 u94 u95 u96 u97 u98 u99 u100 u101 u102 u103 u104 u105 u106 u107 u108 u109 u110 u111 u112 u113 u114 u115 u116 u117 u118 u119 u120 u121 u122 u123 u124 u125 u126 u127 u128 u129 u130 u131 u132 u133 u134 u135 u136 u137 u138 u139 u140 u141 u142 u143 u144 u145 u146 u147 u148 u149 u150 u151 u152 u153 u154 u155 u156 u157 u158 u159 u160 u161 u162 u163 u164 u165 u166 u167 u168 u169 u170 u171 u172 u173 u174 u175 u176 u177 u178 u179 u180 u181 v s q w wr r k g c hs hlt hc hgl HDK hown HG hbl hq h10 h92 hend e hx n120 hend2 y hy V DY _ NU rfl (bad_of HDK HX1 HG hq h92t (by subst n120; exact esc_hex_none ho)) Kn Q HK HQ
    · have hm := num_len ho
      rw [← Lib.size_eq] at hm
      exact ve_x_yesS u4 u5 u6 u9 u10 u11 u12 u13 u14 u15 u16 u17 u18 u19 u20 u21 u22 u23 u24 u25 u26 u27 u28 u29 u30 u31 u32 u33 u34 u35 u36 u37 u38 u39 u40 u41 u42 u43 u44 u45 u46 u47 u48 u49 u50 u51 u52 u53 u54 u55 u56 u57 u58 u59 u60 u61 u62 u63 u64 u65 u66 u67 u68 u69 u70 u71 u72 u73 u74 u75 u76 u77 u78 u79 u80 u81 u82 u83 u84 u85 u86 u87 u88 u89 u90 u91 u92 u93 u94 u95 u96 u97 u98 u99 u100 u101 u102 u103 u104 u105 u106 u107 u108 u109 u110 u111 u112 u113 u114 u115 u116 u117 u118 u119 u120 u121 u122 u123 u124 u125 u126 u127 u128 u129 u130 u131 u132 u133 u134 u135 u136 u137 u138 u139 u140 u141 u142 u143 u144 u145 u146 u147 u148 u149 u150 u151 u152 u153 u154 u155 u156 u157 u158 u159 u160 u161 u162 u163 u164 u165 u166 u167 u168 u169 u170 u171 u172 u173 u174 u175 u176 u177 u178 u179 u180 u181 v s q w wr r k g c hs hlt hc hgl HDK hown HG hbl hq h10 h92 hend e hx n120 hend2 y hy V DY _ NU b m rfl hm.1 hm.2 (st_of HDK HX1 hq h92t (by subst n120; exact esc_hex_some ho)) Kn Q HK HQ
  have f110 : ((e.toNat : Int) == 110) = false := ne_byte (c := 110) n110
  have f114 : ((e.toNat : Int) == 114) = false := ne_byte (c := 114) n114
  have f116 : ((e.toNat : Int) == 116) = false := ne_byte (c := 116) n116
  have f97 : ((e.toNat : Int) == 97) = false := ne_byte (c := 97) n97
  have f98 : ((e.toNat : Int) == 98) = false := ne_byte (c := 98) n98
  have f102 : ((e.toNat : Int) == 102) = false := ne_byte (c := 102) n102
  have f118 : ((e.toNat : Int) == 118) = false := ne_byte (c := 118) n118
  have f48 : ((e.toNat : Int) == 48) = false := ne_byte (c := 48) n48
  have f92 : ((e.toNat : Int) == 92) = false := ne_byte (c := 92) n92
  have f39 : ((e.toNat : Int) == 39) = false := ne_byte (c := 39) n39
  have f34 : ((e.toNat : Int) == 34) = false := ne_byte (c := 34) n34
  have f96 : ((e.toNat : Int) == 96) = false := ne_byte (c := 96) n96
  have f10 : ((e.toNat : Int) == 10) = false := ne_byte (c := 10) n10
  have f120 : ((e.toNat : Int) == 120) = false := ne_byte (c := 120) n120
  have q0 : (0 : Int) ≤ (e.toNat : Int) := by omega
  have q1 : (e.toNat : Int) ≤ 255 := by have := e.toNat_lt; omega
  have D8 := Lib.hid (fun w => ref_digit (e.toNat : Int) 8 (.inl rfl) w q0 q1)
  cases ho8 : octZ (e.toNat : Int)
  · exact ve_noneS u4 u5 u6 u9 u10 u11 u12 u13 u14 u15 u16 u17 u18 u19 u20 u21 u22 u23 u24 u25 u26 u27 u28 u29 u30 u31 u32 u33 u34 u35 u36 u37 u38 u39 u40 u41 u42 u43 u44 u45 u46 u47 u48 u49 u50 u51 u52 u53 u54 u55 u56 u57 u58 u59 u60 u61 u62 u63 u64 u65 u66 u67 u68 u69 u70 u71 u72 u73 u74 u75 u76 u77 u78 u79 u80 u81 u82 u83 u84 u85 u86 u87 u88 u89 u90 u91 u92 u93 u94 u95 u96 u97 u98 u99 u100 u101 u102 u103 u104 u105 u106 u107 u108 u109 u110 u111 u112 u113 u114 u115 u116 u117 u118 u119 u120 u121 u122 u123 u124 u125 u126 u127 u128 u129 u130 u131 u132 u133 u134 u135 u136 u137 u138 u139 u140 u141 u142 u143 u144 u145 u146 u147 u148 u149 u150 u151 u152 u153 u154 u155 u156 u157 u158 u159 u160 u161 u162 u163 u164 u165 u166 u167 u168 u169 u170 u171 u172 u173 u174 u175 u176 u177 u178 u179 u180 u181 v s q w wr r k g c hs hlt hc hgl HDK hown HG hbl hq h10 h92 hend e hx f110 f114 f116 f97 f98 f102 f118 f48 f92 f39 f34 f96 f10 f120 _ D8 (dig_not ho8) hend2 y hy V DY (bad_of HDK HX1 HG hq h92t (esc_not ho8 f110 f114 f116 f97 f98 f102 f118 f48 f92 f39 f34 f96 f10 f120)) Kn Q HK HQ
  have hz : zeroB e (s.data.toList.drop (k + 2)) = false := by unfold zeroB; rw [f48]; rfl
  have NU := num_8 s k hs
  obtain ⟨o, ho⟩ : ∃ o, numAt 8 (s.data.toList.drop (k + 1)) = o := ⟨_, rfl⟩
  rw [ho] at NU
  rcases o with _ | ⟨b, m⟩
  · exact ve_o_noS u4 u5 u6 u9 u10 u11 u12 u13 u14 u15 u16 u17 u18 u19 u20 u21 u22 u23 u24 u25 u26 u27 u28 u29 u30 u31 u32 u33 u34 u35 u36 u37 u38 u39 u40 u41 u42 u43 u44 u45 u46 u47 u48 u49 u50 u51 u52 u53 u54 u55 u56 u57 u58 u59 u60 u61 u62 u63 u64 u65 u66 u67 u68 u69 u70 u71 u72 u73 u74 u75 u76 u77 u78 u79 u80 u81 u82 u83 u84 u85 u86 u87 u88 u89 u90 u91 u92 u93 u94 u95 u96 u97 u98 u99 u100 u101 u102 u103 u104 u105 u106 u107 u108 u109 u110 u111 u112 u113 u114 u115 u116 u117 u118 u119 u120 u121 u122 u123 u124 u125 u126 u127 u128 u129 u130 u131 u132 u133 u134 u135 u136 u137 u138 u139 u140 u141 u142 u143 u144 u145 u146 u147 u148 u149 u150 u151 u152 u153 u154 u155 u156 u157 u158 u159 u160 u161 u162 u163 u164 u165 u166 u167 u168 u169 u170 u171 u172 u173 u174 u175 u176 u177 u178 u179 u180 u181 v s q w wr r k g c hs hlt hc hgl HDK hown HG hbl hq h10 h92 hend e hx f110 f114 f116 f97 f98 f102 f118 f48 f92 f39 f34 f96 f10 f120 _ D8 (by rw [(dig_oct ho8).1]; exact (dig_oct ho8).2.1) (by rw [(dig_oct ho8).1]; exact (dig_oct ho8).2.2) hend2 y hy V DY _ NU rfl (bad_of HDK HX1 HG hq h92t (esc_oct_none ho8 hz (by rw [← HX1.out]; exact ho))) Kn Q HK HQ
  · have hm := num_len ho
    rw [← Lib.size_eq] at hm
    exact ve_o_yesS u4 u5 u6 u9 u10 u11 u12 u13 u14 u15 u16 u17 u18 u19 u20 u21 u22 u23 u24 u25 u26 u27 u28 u29 u30 u31 u32 u33 u34 u35 u36 u37 u38 u39 u40 u41 u42 u43 u44 u45 u46 u47 u48 u49 u50 u51 u52 u53 u54 u55 u56 u57 u58 u59 u60 u61 u62 u63 u64 u65 u66 u67 u68 u69 u70 u71 u72 u73 u74 u75 u76 u77 u78 u79 u80 u81 u82 u83 u84 u85 u86 u87 u88 u89 u90 u91 u92 u93 u94 u95 u96 u97 u98 u99 u100 u101 u102 u103 u104 u105 u106 u107 u108 u109 u110 u111 u112 u113 u114 u115 u116 u117 u118 u119 u120 u121 u122 u123 u124 u125 u126 u127 u128 u129 u130 u131 u132 u133 u134 u135 u136 u137 u138 u139 u140 u141 u142 u143 u144 u145 u146 u147 u148 u149 u150 u151 u152 u153 u154 u155 u156 u157 u158 u159 u160 u161 u162 u163 u164 u165 u166 u167 u168 u169 u170 u171 u172 u173 u174 u175 u176 u177 u178 u179 u180 u181 v s q w wr r k g c hs hlt hc hgl HDK hown HG hbl hq h10 h92 hend e hx f110 f114 f116 f97 f98 f102 f118 f48 f92 f39 f34 f96 f10 f120 _ D8 (by rw [(dig_oct ho8).1]; exact (dig_oct ho8).2.1) (by rw [(dig_oct ho8).1]; exact (dig_oct ho8).2.2) hend2 y hy V DY _ NU b m rfl hm.1 hm.2 (st_of HDK HX1 hq h92t (esc_oct_some ho8 hz (by rw [← HX1.out]; exact ho))) Kn Q HK HQ

set_option linter.unusedVariables false in
set_option maxHeartbeats 4000000 in
set_option maxRecDepth 1000000 in
theorem x_round (u4 u5 u6 u9 u10 u11 u12 u13 u14 u15 u16 u17 u18 u19 u20 u21 u22 u23 u24 u25 u26 u27 u28 u29 u30 u31 u32 u33 u34 u35 u36 u37 u38 u39 u40 u41 u42 u43 u44 u45 u46 u47 u48 u49 u50 u51 u52 u53 u54 u55 u56 u57 u58 u59 u60 u61 u62 u63 u64 u65 u66 u67 u68 u69 u70 u71 u72 u73 u74 u75 u76 u77 u78 u79 u80 u81 u82 u83 u84 u85 u86 u87 u88 u89 u90 u91 u92 u93 u94 u95 u96 u97 u98 u99 u100 u101 u102 u103 u104 u105 u106 u107 u108 u109 u110 u111 u112 u113 u114 u115 u116 u117 u118 u119 u120 u121 u122 u123 u124 u125 u126 u127 u128 u129 u130 u131 u132 u133 u134 u135 u136 u137 u138 u139 u140 u141 u142 u143 u144 u145 u146 u147 u148 u149 u150 u151 u152 u153 u154 u155 u156 u157 u158 u159 u160 u161 u162 u163 u164 u165 u166 u167 u168 u169 u170 u171 u172 u173 u174 u175 u176 u177 u178 u179 u180 u181 v : Value) (s : ByteArray) (q : Int) (w wr : World) (r : Option (List UInt8 × Nat)) (k : Nat) (g : List UInt8) (c : UInt8) (hs : s.size ≤ 4000) (hlt : k < s.size) (hc : s[k] = c) (hgl : g.length ≤ k)
    (HDK : Hid (s.data.toList.drop k = c :: s.data.toList.drop (k + 1))) (hown : Hid (wr.ownsRow w.heap.size 5 1 v g.length (bc g))) (HG : Hid (getF q ((s.data.toList.drop k).length + 1) (s.data.toList.drop k) g k = r)) (hbl : Hid (Below w.heap.size w wr))
    
    (Kn : Act → World → Prop) (Q : Exit → Act → World → Prop) (HK : Hid (∀ a' w'', WI w s q r a' w'' → s.size - (intOf (a'.tmps.getD 8 undef)).toNat < s.size - k → Kn a' w'')) (HQ : Hid (∀ a' w'', bodyPost Tryd.prog Tryd.f45 (GetPost w r) Exit.ret a' w'' → Q Exit.ret a' w'')) :
    Code.wp Tryd.prog ((Tryd.f45.body.bind firstLoop).getD .skip) (Exit.then Kn Q) ⟨#[.string s, .int .u8 q, undef, undef, u4, u5, u6, v, .int .i64 k, u9, u10, u11, u12, u13, u14, u15, u16, u17, u18, u19, u20, u21, u22, u23, u24, u25, u26, u27, u28, u29, u30, u31, u32, u33, u34, u35, u36, u37, u38, u39, u40, u41, u42, u43, u44, u45, u46, u47, u48, u49, u50, u51, u52, u53, u54, u55, u56, u57, u58, u59, u60, u61, u62, u63, u64, u65, u66, u67, u68, u69, u70, u71, u72, u73, u74, u75, u76, u77, u78, u79, u80, u81, u82, u83, u84, u85, u86, u87, u88, u89, u90, u91, u92, u93, u94, u95, u96, u97, u98, u99, u100, u101, u102, u103, u104, u105, u106, u107, u108, u109, u110, u111, u112, u113, u114, u115, u116, u117, u118, u119, u120, u121, u122, u123, u124, u125, u126, u127, u128, u129, u130, u131, u132, u133, u134, u135, u136, u137, u138, u139, u140, u141, u142, u143, u144, u145, u146, u147, u148, u149, u150, u151, u152, u153, u154, u155, u156, u157, u158, u159, u160, u161, u162, u163, u164, u165, u166, u167, u168, u169, u170, u171, u172, u173, u174, u175, u176, u177, u178, u179, u180, u181], []⟩ wr := by
  have hget : ∀ j, ∀ h : j < s.size, s.data.toList.drop j = s[j] :: s.data.toList.drop (j + 1) := fun j h => List.drop_eq_getElem_cons (by rw [← Lib.size_eq]; exact h)
  cases hq : ((c.toNat : Int) == q)
  · cases h92t : ((c.toNat : Int) == 92)
    · cases h10 : ((c.toNat : Int) == 10)
      · exact vc_one u4 u5 u6 u9 u10 u11 u12 u13 u14 u15 u16 u17 u18 u19 u20 u21 u22 u23 u24 u25 u26 u27 u28 u29 u30 u31 u32 u33 u34 u35 u36 u37 u38 u39 u40 u41 u42 u43 u44 u45 u46 u47 u48 u49 u50 u51 u52 u53 u54 u55 u56 u57 u58 u59 u60 u61 u62 u63 u64 u65 u66 u67 u68 u69 u70 u71 u72 u73 u74 u75 u76 u77 u78 u79 u80 u81 u82 u83 u84 u85 u86 u87 u88 u89 u90 u91 u92 u93 u94 u95 u96 u97 u98 u99 u100 u101 u102 u103 u104 u105 u106 u107 u108 u109 u110 u111 u112 u113 u114 u115 u116 u117 u118 u119 u120 u121 u122 u123 u124 u125 u126 u127 u128 u129 u130 u131 u132 u133 u134 u135 u136 u137 u138 u139 u140 u141 u142 u143 u144 u145 u146 u147 u148 u149 u150 u151 u152 u153 u154 u155 u156 u157 u158 u159 u160 u161 u162 u163 u164 u165 u166 u167 u168 u169 u170 u171 u172 u173 u174 u175 u176 u177 u178 u179 u180 u181 v s q w wr r k g c hs hlt hc hgl HDK hown HG hbl hq h10 (by rw [bne, h92t]; rfl) (Lib.hid (by rw [HDK.out]; exact step_one hq h92t h10)) Kn Q HK HQ
      · exact vc_line u4 u5 u6 u9 u10 u11 u12 u13 u14 u15 u16 u17 u18 u19 u20 u21 u22 u23 u24 u25 u26 u27 u28 u29 u30 u31 u32 u33 u34 u35 u36 u37 u38 u39 u40 u41 u42 u43 u44 u45 u46 u47 u48 u49 u50 u51 u52 u53 u54 u55 u56 u57 u58 u59 u60 u61 u62 u63 u64 u65 u66 u67 u68 u69 u70 u71 u72 u73 u74 u75 u76 u77 u78 u79 u80 u81 u82 u83 u84 u85 u86 u87 u88 u89 u90 u91 u92 u93 u94 u95 u96 u97 u98 u99 u100 u101 u102 u103 u104 u105 u106 u107 u108 u109 u110 u111 u112 u113 u114 u115 u116 u117 u118 u119 u120 u121 u122 u123 u124 u125 u126 u127 u128 u129 u130 u131 u132 u133 u134 u135 u136 u137 u138 u139 u140 u141 u142 u143 u144 u145 u146 u147 u148 u149 u150 u151 u152 u153 u154 u155 u156 u157 u158 u159 u160 u161 u162 u163 u164 u165 u166 u167 u168 u169 u170 u171 u172 u173 u174 u175 u176 u177 u178 u179 u180 u181 v s q w wr r k g c hs hlt hc hgl HDK hown HG hbl hq h10 (Lib.hid (HG.out.symm.trans (getF_bad (by rw [HDK.out]; exact step_line hq h92t h10)))) Kn Q HK HQ
    · have h92 : ((c.toNat : Int) != 92) = false := by rw [bne, h92t]; rfl
      have h10 : ((c.toNat : Int) == 10) = false := by rw [beq_iff_eq.1 h92t]; rfl
      by_cases hend : k + 1 < s.size
      · obtain ⟨e, hx⟩ : ∃ e, s[k + 1] = e := ⟨_, rfl⟩
        have HX1 := Lib.hid (show s.data.toList.drop (k + 1) = e :: s.data.toList.drop (k + 2) by rw [← hx]; exact hget _ hend)
        by_cases hend2 : k + 2 < s.size
        · obtain ⟨y, hy⟩ : ∃ y, s[k + 2] = y := ⟨_, rfl⟩
          have hy0 : (0 : Int) ≤ (y.toNat : Int) := by omega
          have hy2 : (y.toNat : Int) ≤ 255 := by have := y.toNat_lt; omega
          exact x_escS u4 u5 u6 u9 u10 u11 u12 u13 u14 u15 u16 u17 u18 u19 u20 u21 u22 u23 u24 u25 u26 u27 u28 u29 u30 u31 u32 u33 u34 u35 u36 u37 u38 u39 u40 u41 u42 u43 u44 u45 u46 u47 u48 u49 u50 u51 u52 u53 u54 u55 u56 u57 u58 u59 u60 u61 u62 u63 u64 u65 u66 u67 u68 u69 u70 u71 u72 u73 u74 u75 u76 u77 u78 u79 u80 u81 u82 u83 u84 u85 u86 u87 u88 u89 u90 u91 u92 u93 u94 u95 u96 u97 u98 u99 u100 u101 u102 u103 u104 u105 u106 u107 u108 u109 u110 u111 u112 u113 u114 u115 u116 u117 u118 u119 u120 u121 u122 u123 u124 u125 u126 u127 u128 u129 u130 u131 u132 u133 u134 u135 u136 u137 u138 u139 u140 u141 u142 u143 u144 u145 u146 u147 u148 u149 u150 u151 u152 u153 u154 u155 u156 u157 u158 u159 u160 u161 u162 u163 u164 u165 u166 u167 u168 u169 u170 u171 u172 u173 u174 u175 u176 u177 u178 u179 u180 u181 v s q w wr r k g c hs hlt hc hgl HDK hown HG hbl hq h10 h92 h92t hend e hx HX1 hend2 y hy (Lib.hid (by rw [hget _ hend2, hy]; rfl)) _ rfl (Lib.hid (fun w => ref_digit (y.toNat : Int) 8 (.inl rfl) w hy0 hy2)) Kn Q HK HQ
        · exact x_escN u4 u5 u6 u9 u10 u11 u12 u13 u14 u15 u16 u17 u18 u19 u20 u21 u22 u23 u24 u25 u26 u27 u28 u29 u30 u31 u32 u33 u34 u35 u36 u37 u38 u39 u40 u41 u42 u43 u44 u45 u46 u47 u48 u49 u50 u51 u52 u53 u54 u55 u56 u57 u58 u59 u60 u61 u62 u63 u64 u65 u66 u67 u68 u69 u70 u71 u72 u73 u74 u75 u76 u77 u78 u79 u80 u81 u82 u83 u84 u85 u86 u87 u88 u89 u90 u91 u92 u93 u94 u95 u96 u97 u98 u99 u100 u101 u102 u103 u104 u105 u106 u107 u108 u109 u110 u111 u112 u113 u114 u115 u116 u117 u118 u119 u120 u121 u122 u123 u124 u125 u126 u127 u128 u129 u130 u131 u132 u133 u134 u135 u136 u137 u138 u139 u140 u141 u142 u143 u144 u145 u146 u147 u148 u149 u150 u151 u152 u153 u154 u155 u156 u157 u158 u159 u160 u161 u162 u163 u164 u165 u166 u167 u168 u169 u170 u171 u172 u173 u174 u175 u176 u177 u178 u179 u180 u181 v s q w wr r k g c hs hlt hc hgl HDK hown HG hbl hq h10 h92 h92t hend e hx HX1 (by omega) (Lib.hid (by rw [List.drop_eq_nil_of_le (by rw [← Lib.size_eq]; omega)]; rfl)) Kn Q HK HQ
      · have hnil : s.data.toList.drop (k + 1) = [] := List.drop_eq_nil_of_le (by rw [← Lib.size_eq]; omega)
        exact vc_last u4 u5 u6 u9 u10 u11 u12 u13 u14 u15 u16 u17 u18 u19 u20 u21 u22 u23 u24 u25 u26 u27 u28 u29 u30 u31 u32 u33 u34 u35 u36 u37 u38 u39 u40 u41 u42 u43 u44 u45 u46 u47 u48 u49 u50 u51 u52 u53 u54 u55 u56 u57 u58 u59 u60 u61 u62 u63 u64 u65 u66 u67 u68 u69 u70 u71 u72 u73 u74 u75 u76 u77 u78 u79 u80 u81 u82 u83 u84 u85 u86 u87 u88 u89 u90 u91 u92 u93 u94 u95 u96 u97 u98 u99 u100 u101 u102 u103 u104 u105 u106 u107 u108 u109 u110 u111 u112 u113 u114 u115 u116 u117 u118 u119 u120 u121 u122 u123 u124 u125 u126 u127 u128 u129 u130 u131 u132 u133 u134 u135 u136 u137 u138 u139 u140 u141 u142 u143 u144 u145 u146 u147 u148 u149 u150 u151 u152 u153 u154 u155 u156 u157 u158 u159 u160 u161 u162 u163 u164 u165 u166 u167 u168 u169 u170 u171 u172 u173 u174 u175 u176 u177 u178 u179 u180 u181 v s q w wr r k g c hs hlt hc hgl HDK hown HG hbl hq h10 h92 (by omega) (Lib.hid (HG.out.symm.trans (getF_bad (by rw [HDK.out, hnil]; exact step_bad hq h92t rfl)))) Kn Q HK HQ
  · by_cases hend : k + 1 < s.size
    · obtain ⟨x, hx⟩ : ∃ x, s[k + 1] = x := ⟨_, rfl⟩
      have hx1 := hget _ hend
      rw [hx] at hx1
      have hcq : (c.toNat : Int) = q := beq_iff_eq.1 hq
      have hdb : dblB (c :: s.data.toList.drop (k + 1)) = ((x.toNat : Int) == q) := by rw [hx1, ← hcq]; rfl
      cases hxq : ((x.toNat : Int) == q)
      · exact vq_stop u4 u5 u6 u9 u10 u11 u12 u13 u14 u15 u16 u17 u18 u19 u20 u21 u22 u23 u24 u25 u26 u27 u28 u29 u30 u31 u32 u33 u34 u35 u36 u37 u38 u39 u40 u41 u42 u43 u44 u45 u46 u47 u48 u49 u50 u51 u52 u53 u54 u55 u56 u57 u58 u59 u60 u61 u62 u63 u64 u65 u66 u67 u68 u69 u70 u71 u72 u73 u74 u75 u76 u77 u78 u79 u80 u81 u82 u83 u84 u85 u86 u87 u88 u89 u90 u91 u92 u93 u94 u95 u96 u97 u98 u99 u100 u101 u102 u103 u104 u105 u106 u107 u108 u109 u110 u111 u112 u113 u114 u115 u116 u117 u118 u119 u120 u121 u122 u123 u124 u125 u126 u127 u128 u129 u130 u131 u132 u133 u134 u135 u136 u137 u138 u139 u140 u141 u142 u143 u144 u145 u146 u147 u148 u149 u150 u151 u152 u153 u154 u155 u156 u157 u158 u159 u160 u161 u162 u163 u164 u165 u166 u167 u168 u169 u170 u171 u172 u173 u174 u175 u176 u177 u178 u179 u180 u181 v s q w wr r k g c hs hlt hc hgl HDK hown HG hbl hq hend x hx (by rw [bne, hxq]; rfl) (Lib.hid (by rw [HDK.out]; exact step_done hq (hdb.trans hxq))) Kn Q HK HQ
      · exact vq_two u4 u5 u6 u9 u10 u11 u12 u13 u14 u15 u16 u17 u18 u19 u20 u21 u22 u23 u24 u25 u26 u27 u28 u29 u30 u31 u32 u33 u34 u35 u36 u37 u38 u39 u40 u41 u42 u43 u44 u45 u46 u47 u48 u49 u50 u51 u52 u53 u54 u55 u56 u57 u58 u59 u60 u61 u62 u63 u64 u65 u66 u67 u68 u69 u70 u71 u72 u73 u74 u75 u76 u77 u78 u79 u80 u81 u82 u83 u84 u85 u86 u87 u88 u89 u90 u91 u92 u93 u94 u95 u96 u97 u98 u99 u100 u101 u102 u103 u104 u105 u106 u107 u108 u109 u110 u111 u112 u113 u114 u115 u116 u117 u118 u119 u120 u121 u122 u123 u124 u125 u126 u127 u128 u129 u130 u131 u132 u133 u134 u135 u136 u137 u138 u139 u140 u141 u142 u143 u144 u145 u146 u147 u148 u149 u150 u151 u152 u153 u154 u155 u156 u157 u158 u159 u160 u161 u162 u163 u164 u165 u166 u167 u168 u169 u170 u171 u172 u173 u174 u175 u176 u177 u178 u179 u180 u181 v s q w wr r k g c hs hlt hc hgl HDK hown HG hbl hq (Lib.hid hcq) hend x hx (by rw [bne, hxq]; rfl) (Lib.hid (by rw [HDK.out]; exact step_true hq (hdb.trans hxq))) Kn Q HK HQ
    · have hnil : s.data.toList.drop (k + 1) = [] := List.drop_eq_nil_of_le (by rw [← Lib.size_eq]; omega)
      exact vq_end u4 u5 u6 u9 u10 u11 u12 u13 u14 u15 u16 u17 u18 u19 u20 u21 u22 u23 u24 u25 u26 u27 u28 u29 u30 u31 u32 u33 u34 u35 u36 u37 u38 u39 u40 u41 u42 u43 u44 u45 u46 u47 u48 u49 u50 u51 u52 u53 u54 u55 u56 u57 u58 u59 u60 u61 u62 u63 u64 u65 u66 u67 u68 u69 u70 u71 u72 u73 u74 u75 u76 u77 u78 u79 u80 u81 u82 u83 u84 u85 u86 u87 u88 u89 u90 u91 u92 u93 u94 u95 u96 u97 u98 u99 u100 u101 u102 u103 u104 u105 u106 u107 u108 u109 u110 u111 u112 u113 u114 u115 u116 u117 u118 u119 u120 u121 u122 u123 u124 u125 u126 u127 u128 u129 u130 u131 u132 u133 u134 u135 u136 u137 u138 u139 u140 u141 u142 u143 u144 u145 u146 u147 u148 u149 u150 u151 u152 u153 u154 u155 u156 u157 u158 u159 u160 u161 u162 u163 u164 u165 u166 u167 u168 u169 u170 u171 u172 u173 u174 u175 u176 u177 u178 u179 u180 u181 v s q w wr r k g c hs hlt hc hgl HDK hown HG hbl hq (by omega) (Lib.hid (by rw [HDK.out, hnil]; exact step_done hq rfl)) Kn Q HK HQ

set_option maxHeartbeats 4000000 in
set_option maxRecDepth 1000000 in
theorem ref_get (s : ByteArray) (q : Int) (w : World) (hs : s.size ≤ 4000) :
    Calls Tryd.prog 45 #[.string s, .int .u8 q] w (GetPost w (getL q s.data.toList)) := by
  obtain ⟨r, hr⟩ : ∃ r, getL q s.data.toList = r := ⟨_, rfl⟩
  rw [hr]
  have H0 : Hid (RGet w s q r (.slice none 0 0) (.int .i64 0) w) := RGet.mk (k := 0) (g := []) (Nat.zero_le _) rfl (World.ownsRow_nil _ _ _ _) (Nat.le_refl _) hr (Below.refl _ _)
  clear hr
  go_enter Tryd.func45, Tryd.ntmps45
  go_wp2_with fail
  refine wp_loop (WI w s q r) (fun a _ => s.size - (intOf (a.tmps.getD 8 undef)).toNat) ?_ (fun a wr hI => ?_)
  · exact ⟨_, _, _, _, _, _, _, _, _, _, _, _, _, _, _, _, _, _, _, _, _, _, _, _, _, _, _, _, _, _, _, _, _, _, _, _, _, _, _, _, _, _, _, _, _, _, _, _, _, _, _, _, _, _, _, _, _, _, _, _, _, _, _, _, _, _, _, _, _, _, _, _, _, _, _, _, _, _, _, _, _, _, _, _, _, _, _, _, _, _, _, _, _, _, _, _, _, _, _, _, _, _, _, _, _, _, _, _, _, _, _, _, _, _, _, _, _, _, _, _, _, _, _, _, _, _, _, _, _, _, _, _, _, _, _, _, _, _, _, _, _, _, _, _, _, _, _, _, _, _, _, _, _, _, _, _, _, _, _, _, _, _, _, _, _, _, _, _, _, _, _, _, _, _, _, _, _, _, H0, rfl⟩
  obtain ⟨u4, hI⟩ := hI
  obtain ⟨u5, hI⟩ := hI
  obtain ⟨u6, hI⟩ := hI
  obtain ⟨u7, hI⟩ := hI
  obtain ⟨u8, hI⟩ := hI
  obtain ⟨u9, hI⟩ := hI
  obtain ⟨u10, hI⟩ := hI
  obtain ⟨u11, hI⟩ := hI
  obtain ⟨u12, hI⟩ := hI
  obtain ⟨u13, hI⟩ := hI
  obtain ⟨u14, hI⟩ := hI
  obtain ⟨u15, hI⟩ := hI
  obtain ⟨u16, hI⟩ := hI
  obtain ⟨u17, hI⟩ := hI
  obtain ⟨u18, hI⟩ := hI
  obtain ⟨u19, hI⟩ := hI
  obtain ⟨u20, hI⟩ := hI
  obtain ⟨u21, hI⟩ := hI
  obtain ⟨u22, hI⟩ := hI
  obtain ⟨u23, hI⟩ := hI
  obtain ⟨u24, hI⟩ := hI
  obtain ⟨u25, hI⟩ := hI
  obtain ⟨u26, hI⟩ := hI
  obtain ⟨u27, hI⟩ := hI
  obtain ⟨u28, hI⟩ := hI
  obtain ⟨u29, hI⟩ := hI
  obtain ⟨u30, hI⟩ := hI
  obtain ⟨u31, hI⟩ := hI
  obtain ⟨u32, hI⟩ := hI
  obtain ⟨u33, hI⟩ := hI
  obtain ⟨u34, hI⟩ := hI
  obtain ⟨u35, hI⟩ := hI
  obtain ⟨u36, hI⟩ := hI
  obtain ⟨u37, hI⟩ := hI
  obtain ⟨u38, hI⟩ := hI
  obtain ⟨u39, hI⟩ := hI
  obtain ⟨u40, hI⟩ := hI
  obtain ⟨u41, hI⟩ := hI
  obtain ⟨u42, hI⟩ := hI
  obtain ⟨u43, hI⟩ := hI
  obtain ⟨u44, hI⟩ := hI
  obtain ⟨u45, hI⟩ := hI
  obtain ⟨u46, hI⟩ := hI
  obtain ⟨u47, hI⟩ := hI
  obtain ⟨u48, hI⟩ := hI
  obtain ⟨u49, hI⟩ := hI
  obtain ⟨u50, hI⟩ := hI
  obtain ⟨u51, hI⟩ := hI
  obtain ⟨u52, hI⟩ := hI
  obtain ⟨u53, hI⟩ := hI
  obtain ⟨u54, hI⟩ := hI
  obtain ⟨u55, hI⟩ := hI
  obtain ⟨u56, hI⟩ := hI
  obtain ⟨u57, hI⟩ := hI
  obtain ⟨u58, hI⟩ := hI
  obtain ⟨u59, hI⟩ := hI
  obtain ⟨u60, hI⟩ := hI
  obtain ⟨u61, hI⟩ := hI
  obtain ⟨u62, hI⟩ := hI
  obtain ⟨u63, hI⟩ := hI
  obtain ⟨u64, hI⟩ := hI
  obtain ⟨u65, hI⟩ := hI
  obtain ⟨u66, hI⟩ := hI
  obtain ⟨u67, hI⟩ := hI
  obtain ⟨u68, hI⟩ := hI
  obtain ⟨u69, hI⟩ := hI
  obtain ⟨u70, hI⟩ := hI
  obtain ⟨u71, hI⟩ := hI
  obtain ⟨u72, hI⟩ := hI
  obtain ⟨u73, hI⟩ := hI
  obtain ⟨u74, hI⟩ := hI
  obtain ⟨u75, hI⟩ := hI
  obtain ⟨u76, hI⟩ := hI
  obtain ⟨u77, hI⟩ := hI
  obtain ⟨u78, hI⟩ := hI
  obtain ⟨u79, hI⟩ := hI
  obtain ⟨u80, hI⟩ := hI
  obtain ⟨u81, hI⟩ := hI
  obtain ⟨u82, hI⟩ := hI
  obtain ⟨u83, hI⟩ := hI
  obtain ⟨u84, hI⟩ := hI
  obtain ⟨u85, hI⟩ := hI
  obtain ⟨u86, hI⟩ := hI
  obtain ⟨u87, hI⟩ := hI
  obtain ⟨u88, hI⟩ := hI
  obtain ⟨u89, hI⟩ := hI
  obtain ⟨u90, hI⟩ := hI
  obtain ⟨u91, hI⟩ := hI
  obtain ⟨u92, hI⟩ := hI
  obtain ⟨u93, hI⟩ := hI
  obtain ⟨u94, hI⟩ := hI
  obtain ⟨u95, hI⟩ := hI
  obtain ⟨u96, hI⟩ := hI
  obtain ⟨u97, hI⟩ := hI
  obtain ⟨u98, hI⟩ := hI
  obtain ⟨u99, hI⟩ := hI
  obtain ⟨u100, hI⟩ := hI
  obtain ⟨u101, hI⟩ := hI
  obtain ⟨u102, hI⟩ := hI
  obtain ⟨u103, hI⟩ := hI
  obtain ⟨u104, hI⟩ := hI
  obtain ⟨u105, hI⟩ := hI
  obtain ⟨u106, hI⟩ := hI
  obtain ⟨u107, hI⟩ := hI
  obtain ⟨u108, hI⟩ := hI
  obtain ⟨u109, hI⟩ := hI
  obtain ⟨u110, hI⟩ := hI
  obtain ⟨u111, hI⟩ := hI
  obtain ⟨u112, hI⟩ := hI
  obtain ⟨u113, hI⟩ := hI
  obtain ⟨u114, hI⟩ := hI
  obtain ⟨u115, hI⟩ := hI
  obtain ⟨u116, hI⟩ := hI
  obtain ⟨u117, hI⟩ := hI
  obtain ⟨u118, hI⟩ := hI
  obtain ⟨u119, hI⟩ := hI
  obtain ⟨u120, hI⟩ := hI
  obtain ⟨u121, hI⟩ := hI
  obtain ⟨u122, hI⟩ := hI
  obtain ⟨u123, hI⟩ := hI
  obtain ⟨u124, hI⟩ := hI
  obtain ⟨u125, hI⟩ := hI
  obtain ⟨u126, hI⟩ := hI
  obtain ⟨u127, hI⟩ := hI
  obtain ⟨u128, hI⟩ := hI
  obtain ⟨u129, hI⟩ := hI
  obtain ⟨u130, hI⟩ := hI
  obtain ⟨u131, hI⟩ := hI
  obtain ⟨u132, hI⟩ := hI
  obtain ⟨u133, hI⟩ := hI
  obtain ⟨u134, hI⟩ := hI
  obtain ⟨u135, hI⟩ := hI
  obtain ⟨u136, hI⟩ := hI
  obtain ⟨u137, hI⟩ := hI
  obtain ⟨u138, hI⟩ := hI
  obtain ⟨u139, hI⟩ := hI
  obtain ⟨u140, hI⟩ := hI
  obtain ⟨u141, hI⟩ := hI
  obtain ⟨u142, hI⟩ := hI
  obtain ⟨u143, hI⟩ := hI
  obtain ⟨u144, hI⟩ := hI
  obtain ⟨u145, hI⟩ := hI
  obtain ⟨u146, hI⟩ := hI
  obtain ⟨u147, hI⟩ := hI
  obtain ⟨u148, hI⟩ := hI
  obtain ⟨u149, hI⟩ := hI
  obtain ⟨u150, hI⟩ := hI
  obtain ⟨u151, hI⟩ := hI
  obtain ⟨u152, hI⟩ := hI
  obtain ⟨u153, hI⟩ := hI
  obtain ⟨u154, hI⟩ := hI
  obtain ⟨u155, hI⟩ := hI
  obtain ⟨u156, hI⟩ := hI
  obtain ⟨u157, hI⟩ := hI
  obtain ⟨u158, hI⟩ := hI
  obtain ⟨u159, hI⟩ := hI
  obtain ⟨u160, hI⟩ := hI
  obtain ⟨u161, hI⟩ := hI
  obtain ⟨u162, hI⟩ := hI
  obtain ⟨u163, hI⟩ := hI
  obtain ⟨u164, hI⟩ := hI
  obtain ⟨u165, hI⟩ := hI
  obtain ⟨u166, hI⟩ := hI
  obtain ⟨u167, hI⟩ := hI
  obtain ⟨u168, hI⟩ := hI
  obtain ⟨u169, hI⟩ := hI
  obtain ⟨u170, hI⟩ := hI
  obtain ⟨u171, hI⟩ := hI
  obtain ⟨u172, hI⟩ := hI
  obtain ⟨u173, hI⟩ := hI
  obtain ⟨u174, hI⟩ := hI
  obtain ⟨u175, hI⟩ := hI
  obtain ⟨u176, hI⟩ := hI
  obtain ⟨u177, hI⟩ := hI
  obtain ⟨u178, hI⟩ := hI
  obtain ⟨u179, hI⟩ := hI
  obtain ⟨u180, hI⟩ := hI
  obtain ⟨u181, hI⟩ := hI
  obtain ⟨hrel, rfl⟩ := hI
  obtain ⟨k, g, hk, h8, own, hgl, hg, hbel⟩ := hrel.out
  subst h8
  have hown := Lib.hid own
  have HG := Lib.hid hg
  have hbl := Lib.hid hbel
  clear hrel own hg hbel
  by_cases hlt : k < s.size
  · exact x_round u4 u5 u6 u9 u10 u11 u12 u13 u14 u15 u16 u17 u18 u19 u20 u21 u22 u23 u24 u25 u26 u27 u28 u29 u30 u31 u32 u33 u34 u35 u36 u37 u38 u39 u40 u41 u42 u43 u44 u45 u46 u47 u48 u49 u50 u51 u52 u53 u54 u55 u56 u57 u58 u59 u60 u61 u62 u63 u64 u65 u66 u67 u68 u69 u70 u71 u72 u73 u74 u75 u76 u77 u78 u79 u80 u81 u82 u83 u84 u85 u86 u87 u88 u89 u90 u91 u92 u93 u94 u95 u96 u97 u98 u99 u100 u101 u102 u103 u104 u105 u106 u107 u108 u109 u110 u111 u112 u113 u114 u115 u116 u117 u118 u119 u120 u121 u122 u123 u124 u125 u126 u127 u128 u129 u130 u131 u132 u133 u134 u135 u136 u137 u138 u139 u140 u141 u142 u143 u144 u145 u146 u147 u148 u149 u150 u151 u152 u153 u154 u155 u156 u157 u158 u159 u160 u161 u162 u163 u164 u165 u166 u167 u168 u169 u170 u171 u172 u173 u174 u175 u176 u177 u178 u179 u180 u181 u7 s q w wr r k g _ hs hlt rfl hgl (Lib.hid (List.drop_eq_getElem_cons (by rw [← Lib.size_eq]; exact hlt))) hown HG hbl _ _ (Lib.hid fun a' w'' h1 h2 => ⟨h1, h2⟩) (Lib.hid fun a' w'' h => h)
  have hp := Lib.hid (HG.out.symm.trans (getF_bad (by rw [List.drop_eq_nil_of_le (by rw [← Lib.size_eq]; omega)]; rfl)))
  go_wp2_with fail
  go_ret3
  cases hp.out
  exact ⟨rfl, hbl.out⟩

end Go.Proofs.YtkbeaddbnnboaaaDoor
