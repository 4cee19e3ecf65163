/- The document's number: a contract. Conditions: a place within the text, which has at most 3000 bytes. The document's number: its ways with a base or a 0. Conditions: a place within the text, which has at most 3000 bytes. The document's number: a byte's. Conditions: a place within the text, which has at most 3000 bytes. -/
import Derived.Test.YtkbeaddbnnboaaaDoorTokRa
import Derived.Test.YtkbeaddbnnboaaaDoorNameX
import Derived.Test.YtkbeaddbnnboaaaDoorTokO
import Derived.IntWalk
namespace Go.Proofs.YtkbeaddbnnboaaaDoor
open Go Go.RowKit Go.Maps

/-- the answer's box, and the token's -/
abbrev twoW (w : World) (v : Int) : World := (w.alloc (.cells #[.int .i64 0, .int .i64 0, .int .i64 0, .string ⟨#[]⟩, .bool false, .bool false] 30)).alloc (.cells #[.int .i64 3, .int .i64 0, .int .i64 v, .string ⟨#[]⟩, .bool false, .bool false] 30)
structure TwoF (w' : World) (b : Nat) (v : Int) : Prop where
  a : w'.heap[b]? = some (.cells #[.int .i64 0, .int .i64 0, .int .i64 0, .string ⟨#[]⟩, .bool false, .bool false] 30 (0, 0))
  t : w'.heap[b + 1]? = some (.cells #[.int .i64 3, .int .i64 0, .int .i64 v, .string ⟨#[]⟩, .bool false, .bool false] 30 (0, 0))
theorem two_below (w : World) (v : Int) : Below w.heap.size w (twoW w v) := ((Below.refl _ _).alloc (Nat.le_refl _) _).alloc (by simp) _
theorem two_facts (w : World) (v : Int) : TwoF (twoW w v) w.heap.size v :=
  ⟨by rw [Below.heap_alloc _ _ _ (by simp)]; exact new_at _ _ rfl, new_at _ _ (by simp)⟩
theorem two_zero (w : World) : ((w.alloc (.cells #[.int .i64 0, .int .i64 0, .int .i64 0, .string ⟨#[]⟩, .bool false, .bool false] 30)).alloc (.cells #[.int .i64 0, .int .i64 0, .int .i64 0, .string ⟨#[]⟩, .bool false, .bool false] 30)).heap[w.heap.size + 1]? = some (.cells #[.int .i64 0, .int .i64 0, .int .i64 0, .string ⟨#[]⟩, .bool false, .bool false] 30 (0, 0)) := new_at _ _ (by simp)
theorem TwoF.on {w w' : World} {b : Nat} {v : Int} (h : TwoF w b v) (hb : Below w.heap.size w w') : TwoF w' b v := ⟨(hb.block _ (heap_lt h.a)).trans h.a, (hb.block _ (heap_lt h.t)).trans h.t⟩

/-- digits behind so many bytes -/
theorem digits_form {f : Nat} {b : Int} {l : List UInt8} {r : Nat} {na ea : Int} (hr : runB (digZ b) (l.drop f) = r) (hp : parseR b ((l.drop f).take r) = (na, ea)) :
    digitsT f b l = if (ea == 0) = true then (if f + r = 0 then none else some (⟨3, na, []⟩, f + r)) else none := by
  unfold digitsT
  rw [hr, hp]

set_option maxRecDepth 100000 in
set_option maxHeartbeats 3200000 in
theorem num_plainR (s : ByteArray) (p : Nat) (w : World) (hs : s.size ≤ 3000) (hp : p < s.size) (h48 : ((s[p].toNat : Int) == 48) = false) :
    Calls Tryd.prog 44 #[.string s, .int .i64 p] w (AttPost w (numberT (s.data.toList.drop p))) := by
  obtain ⟨y, hy⟩ : ∃ y, s[p] = y := ⟨_, rfl⟩
  rw [hy] at h48
  have HNUM := Lib.hid (show numberT (s.data.toList.drop p) = digitsT 0 10 (s.data.toList.drop p) by
    have hd := drop_at s p hp
    rw [hy] at hd
    have hne : y ≠ 48 := fun e => by rw [e] at h48; cases h48
    unfold numberT
    rw [hd, pre_no hne, pre_no hne, pre_no hne, pre_no hne]
    rfl)
  obtain ⟨r, hr⟩ : ∃ r, runB (digZ 10) (s.data.toList.drop (p)) = r := ⟨_, rfl⟩
  have hrl : p + r ≤ s.size := by
    have := runB_le (digZ 10) (s.data.toList.drop (p))
    rw [hr, List.length_drop, ← Lib.size_eq] at this
    omega
  have D := Lib.hid (fun w => ref_digits_is s (p) 10 w (by omega) (by omega))
  rw [hr] at D
  have hx : (s.extract (p) (p + r)).data.toList = (s.data.toList.drop (p)).take r := by rw [Lib.extract_data]; congr 1; omega
  have P := Lib.hid (fun w => ref_parse (s.extract (p) (p + r)) 10 w (by unfold maxLen; rw [Lib.size_eq, hx, List.length_take]; omega))
  rw [hx] at P
  obtain ⟨⟨na, ea⟩, hpr⟩ : ∃ x, parseR 10 ((s.data.toList.drop (p)).take r) = x := ⟨_, rfl⟩
  rw [hpr] at P
  have HF := Lib.hid (HNUM.out.trans (digits_form (f := 0) (r := r) (na := na) (ea := ea) (l := s.data.toList.drop p) (by first | exact hr | (rw [List.drop_drop]; exact hr)) (by first | exact hpr | (rw [List.drop_drop]; exact hpr))))
  have hsum : (p : Int) + (r : Int) - (p : Int) = ((0 + r : Nat) : Int) := by omega
  have HB0 := Lib.hid (two_below w 0)
  have HBN := Lib.hid (two_below w na)
  have F0 := two_facts w 0
  have FN := two_facts w na
  have z0 := cell_of_heap (o := 0) (two_zero w) rfl
  have z1 := cell_of_heap (o := 1) (two_zero w) rfl
  have z2 := cell_of_heap (o := 2) (two_zero w) rfl
  have z3 := cell_of_heap (o := 3) (two_zero w) rfl
  have z4 := cell_of_heap (o := 4) (two_zero w) rfl
  have z5 := cell_of_heap (o := 5) (two_zero w) rfl
  have zf := fun o => free_of_heap (o := o) (two_zero w)
  have zf0 := zf 0
  have zf1 := zf 1
  have zf2 := zf 2
  have zf3 := zf 3
  have zf4 := zf 4
  have zf5 := zf 5
  have ax0 := cell_of_heap (o := 0) F0.a rfl
  have bx0 := cell_of_heap (o := 0) F0.t rfl
  have cx0 := free_of_heap (o := 0) F0.a
  have dx0 := free_of_heap (o := 0) F0.t
  have ax1 := cell_of_heap (o := 1) F0.a rfl
  have bx1 := cell_of_heap (o := 1) F0.t rfl
  have cx1 := free_of_heap (o := 1) F0.a
  have dx1 := free_of_heap (o := 1) F0.t
  have ax2 := cell_of_heap (o := 2) F0.a rfl
  have bx2 := cell_of_heap (o := 2) F0.t rfl
  have cx2 := free_of_heap (o := 2) F0.a
  have dx2 := free_of_heap (o := 2) F0.t
  have ax3 := cell_of_heap (o := 3) F0.a rfl
  have bx3 := cell_of_heap (o := 3) F0.t rfl
  have cx3 := free_of_heap (o := 3) F0.a
  have dx3 := free_of_heap (o := 3) F0.t
  have ax4 := cell_of_heap (o := 4) F0.a rfl
  have bx4 := cell_of_heap (o := 4) F0.t rfl
  have cx4 := free_of_heap (o := 4) F0.a
  have dx4 := free_of_heap (o := 4) F0.t
  have ax5 := cell_of_heap (o := 5) F0.a rfl
  have bx5 := cell_of_heap (o := 5) F0.t rfl
  have cx5 := free_of_heap (o := 5) F0.a
  have dx5 := free_of_heap (o := 5) F0.t
  have an0 := cell_of_heap (o := 0) FN.a rfl
  have bn0 := cell_of_heap (o := 0) FN.t rfl
  have cn0 := free_of_heap (o := 0) FN.a
  have dn0 := free_of_heap (o := 0) FN.t
  have an1 := cell_of_heap (o := 1) FN.a rfl
  have bn1 := cell_of_heap (o := 1) FN.t rfl
  have cn1 := free_of_heap (o := 1) FN.a
  have dn1 := free_of_heap (o := 1) FN.t
  have an2 := cell_of_heap (o := 2) FN.a rfl
  have bn2 := cell_of_heap (o := 2) FN.t rfl
  have cn2 := free_of_heap (o := 2) FN.a
  have dn2 := free_of_heap (o := 2) FN.t
  have an3 := cell_of_heap (o := 3) FN.a rfl
  have bn3 := cell_of_heap (o := 3) FN.t rfl
  have cn3 := free_of_heap (o := 3) FN.a
  have dn3 := free_of_heap (o := 3) FN.t
  have an4 := cell_of_heap (o := 4) FN.a rfl
  have bn4 := cell_of_heap (o := 4) FN.t rfl
  have cn4 := free_of_heap (o := 4) FN.a
  have dn4 := free_of_heap (o := 4) FN.t
  have an5 := cell_of_heap (o := 5) FN.a rfl
  have bn5 := cell_of_heap (o := 5) FN.t rfl
  have cn5 := free_of_heap (o := 5) FN.a
  have dn5 := free_of_heap (o := 5) FN.t
  clear hr hx hpr HNUM F0 FN zf
  unfold twoW at *
  go_enter Tryd.func44, Tryd.ntmps44
  cases he : (ea == 0)
  · have he2 : (ea != 0) = true := by simp [bne, he]
    have HO := Lib.hid (show numberT (s.data.toList.drop p) = none by rw [HF.out]; first | rfl | (rw [he]; rfl))
    clear he
    go_wp2_with (go_at_call 61; refine (D.out _).mono ?_; rintro e w' ⟨rfl, rfl⟩)
    refine (P.out _).mono ?_
    rintro e w' ⟨rfl, rfl⟩
    go_wp2_with fail
    refine bodyPost_ret (v := .tuple #[.agg #[.int .i64 3, .int .i64 0, .int .i64 0, .string ⟨#[]⟩, .bool false, .bool false], .int .i64 0]) (by simp [results, Tryd.results44, go_sem]) rfl ?_
    exact ⟨⟨⟨3, 0, []⟩, 0, rfl, .inl ⟨HO.out, rfl⟩⟩, ((Below.refl _ _).alloc (Nat.le_refl _) _).alloc (by simp) _⟩
  · have he2 : (ea != 0) = false := by simp [bne, he]
    have HO := Lib.hid (show numberT (s.data.toList.drop p) = if 0 + r = 0 then none else some (⟨3, na, []⟩, 0 + r) by rw [HF.out]; first | rfl | (rw [he]; rfl))
    clear he
    go_wp2_with (go_at_call 61; refine (D.out _).mono ?_; rintro e w' ⟨rfl, rfl⟩)
    refine (P.out _).mono ?_
    rintro e w' ⟨rfl, rfl⟩
    go_wp2_with fail
    refine bodyPost_ret (v := .tuple #[.agg #[.int .i64 3, .int .i64 0, .int .i64 na, .string ⟨#[]⟩, .bool false, .bool false], .int .i64 (0 + r : Nat)]) (by simp [results, Tryd.results44, go_sem]) rfl ?_
    by_cases h0 : 0 + r = 0
    · exact ⟨⟨⟨3, na, []⟩, 0 + r, rfl, .inl ⟨by rw [HO.out, if_pos h0], h0⟩⟩, ((Below.refl _ _).alloc (Nat.le_refl _) _).alloc (by simp) _⟩
    · exact ⟨⟨⟨3, na, []⟩, 0 + r, rfl, .inr ⟨by rw [HO.out, if_neg h0], by omega⟩⟩, ((Below.refl _ _).alloc (Nat.le_refl _) _).alloc (by simp) _⟩

set_option maxRecDepth 100000 in
set_option maxHeartbeats 3200000 in
theorem num_lastR (s : ByteArray) (p : Nat) (w : World) (hs : s.size ≤ 3000) (hp : p < s.size) (h48 : ((s[p].toNat : Int) == 48) = true) (hl : ¬ p + 1 < s.size) :
    Calls Tryd.prog 44 #[.string s, .int .i64 p] w (AttPost w (numberT (s.data.toList.drop p))) := by
  obtain ⟨y, hy⟩ : ∃ y, s[p] = y := ⟨_, rfl⟩
  rw [hy] at h48
  have HNUM := Lib.hid (show numberT (s.data.toList.drop p) = digitsT 0 10 (s.data.toList.drop p) by
    have hd := drop_at s p hp
    rw [hy] at hd
    have he : s.data.toList.drop (p + 1) = [] := List.drop_of_length_le (by rw [← Lib.size_eq]; omega)
    rw [he] at hd
    unfold numberT
    rw [hd]
    have e1 : ∀ b, Lib.hasPrefix [y] [48, b] = false := fun b => by show ((48 == y) && (List.isPrefixOf [b] [])) = false; simp
    rw [e1, e1, e1, e1]
    rfl)
  obtain ⟨r, hr⟩ : ∃ r, runB (digZ 10) (s.data.toList.drop (p)) = r := ⟨_, rfl⟩
  have hrl : p + r ≤ s.size := by
    have := runB_le (digZ 10) (s.data.toList.drop (p))
    rw [hr, List.length_drop, ← Lib.size_eq] at this
    omega
  have D := Lib.hid (fun w => ref_digits_is s (p) 10 w (by omega) (by omega))
  rw [hr] at D
  have hx : (s.extract (p) (p + r)).data.toList = (s.data.toList.drop (p)).take r := by rw [Lib.extract_data]; congr 1; omega
  have P := Lib.hid (fun w => ref_parse (s.extract (p) (p + r)) 10 w (by unfold maxLen; rw [Lib.size_eq, hx, List.length_take]; omega))
  rw [hx] at P
  obtain ⟨⟨na, ea⟩, hpr⟩ : ∃ x, parseR 10 ((s.data.toList.drop (p)).take r) = x := ⟨_, rfl⟩
  rw [hpr] at P
  have HF := Lib.hid (HNUM.out.trans (digits_form (f := 0) (r := r) (na := na) (ea := ea) (l := s.data.toList.drop p) (by first | exact hr | (rw [List.drop_drop]; exact hr)) (by first | exact hpr | (rw [List.drop_drop]; exact hpr))))
  have hsum : (p : Int) + (r : Int) - (p : Int) = ((0 + r : Nat) : Int) := by omega
  have HB0 := Lib.hid (two_below w 0)
  have HBN := Lib.hid (two_below w na)
  have F0 := two_facts w 0
  have FN := two_facts w na
  have z0 := cell_of_heap (o := 0) (two_zero w) rfl
  have z1 := cell_of_heap (o := 1) (two_zero w) rfl
  have z2 := cell_of_heap (o := 2) (two_zero w) rfl
  have z3 := cell_of_heap (o := 3) (two_zero w) rfl
  have z4 := cell_of_heap (o := 4) (two_zero w) rfl
  have z5 := cell_of_heap (o := 5) (two_zero w) rfl
  have zf := fun o => free_of_heap (o := o) (two_zero w)
  have zf0 := zf 0
  have zf1 := zf 1
  have zf2 := zf 2
  have zf3 := zf 3
  have zf4 := zf 4
  have zf5 := zf 5
  have ax0 := cell_of_heap (o := 0) F0.a rfl
  have bx0 := cell_of_heap (o := 0) F0.t rfl
  have cx0 := free_of_heap (o := 0) F0.a
  have dx0 := free_of_heap (o := 0) F0.t
  have ax1 := cell_of_heap (o := 1) F0.a rfl
  have bx1 := cell_of_heap (o := 1) F0.t rfl
  have cx1 := free_of_heap (o := 1) F0.a
  have dx1 := free_of_heap (o := 1) F0.t
  have ax2 := cell_of_heap (o := 2) F0.a rfl
  have bx2 := cell_of_heap (o := 2) F0.t rfl
  have cx2 := free_of_heap (o := 2) F0.a
  have dx2 := free_of_heap (o := 2) F0.t
  have ax3 := cell_of_heap (o := 3) F0.a rfl
  have bx3 := cell_of_heap (o := 3) F0.t rfl
  have cx3 := free_of_heap (o := 3) F0.a
  have dx3 := free_of_heap (o := 3) F0.t
  have ax4 := cell_of_heap (o := 4) F0.a rfl
  have bx4 := cell_of_heap (o := 4) F0.t rfl
  have cx4 := free_of_heap (o := 4) F0.a
  have dx4 := free_of_heap (o := 4) F0.t
  have ax5 := cell_of_heap (o := 5) F0.a rfl
  have bx5 := cell_of_heap (o := 5) F0.t rfl
  have cx5 := free_of_heap (o := 5) F0.a
  have dx5 := free_of_heap (o := 5) F0.t
  have an0 := cell_of_heap (o := 0) FN.a rfl
  have bn0 := cell_of_heap (o := 0) FN.t rfl
  have cn0 := free_of_heap (o := 0) FN.a
  have dn0 := free_of_heap (o := 0) FN.t
  have an1 := cell_of_heap (o := 1) FN.a rfl
  have bn1 := cell_of_heap (o := 1) FN.t rfl
  have cn1 := free_of_heap (o := 1) FN.a
  have dn1 := free_of_heap (o := 1) FN.t
  have an2 := cell_of_heap (o := 2) FN.a rfl
  have bn2 := cell_of_heap (o := 2) FN.t rfl
  have cn2 := free_of_heap (o := 2) FN.a
  have dn2 := free_of_heap (o := 2) FN.t
  have an3 := cell_of_heap (o := 3) FN.a rfl
  have bn3 := cell_of_heap (o := 3) FN.t rfl
  have cn3 := free_of_heap (o := 3) FN.a
  have dn3 := free_of_heap (o := 3) FN.t
  have an4 := cell_of_heap (o := 4) FN.a rfl
  have bn4 := cell_of_heap (o := 4) FN.t rfl
  have cn4 := free_of_heap (o := 4) FN.a
  have dn4 := free_of_heap (o := 4) FN.t
  have an5 := cell_of_heap (o := 5) FN.a rfl
  have bn5 := cell_of_heap (o := 5) FN.t rfl
  have cn5 := free_of_heap (o := 5) FN.a
  have dn5 := free_of_heap (o := 5) FN.t
  clear hr hx hpr HNUM F0 FN zf
  unfold twoW at *
  go_enter Tryd.func44, Tryd.ntmps44
  cases he : (ea == 0)
  · have he2 : (ea != 0) = true := by simp [bne, he]
    have HO := Lib.hid (show numberT (s.data.toList.drop p) = none by rw [HF.out]; first | rfl | (rw [he]; rfl))
    clear he
    go_wp2_with (go_at_call 61; refine (D.out _).mono ?_; rintro e w' ⟨rfl, rfl⟩)
    refine (P.out _).mono ?_
    rintro e w' ⟨rfl, rfl⟩
    go_wp2_with fail
    refine bodyPost_ret (v := .tuple #[.agg #[.int .i64 3, .int .i64 0, .int .i64 0, .string ⟨#[]⟩, .bool false, .bool false], .int .i64 0]) (by simp [results, Tryd.results44, go_sem]) rfl ?_
    exact ⟨⟨⟨3, 0, []⟩, 0, rfl, .inl ⟨HO.out, rfl⟩⟩, ((Below.refl _ _).alloc (Nat.le_refl _) _).alloc (by simp) _⟩
  · have he2 : (ea != 0) = false := by simp [bne, he]
    have HO := Lib.hid (show numberT (s.data.toList.drop p) = if 0 + r = 0 then none else some (⟨3, na, []⟩, 0 + r) by rw [HF.out]; first | rfl | (rw [he]; rfl))
    clear he
    go_wp2_with (go_at_call 61; refine (D.out _).mono ?_; rintro e w' ⟨rfl, rfl⟩)
    refine (P.out _).mono ?_
    rintro e w' ⟨rfl, rfl⟩
    go_wp2_with fail
    refine bodyPost_ret (v := .tuple #[.agg #[.int .i64 3, .int .i64 0, .int .i64 na, .string ⟨#[]⟩, .bool false, .bool false], .int .i64 (0 + r : Nat)]) (by simp [results, Tryd.results44, go_sem]) rfl ?_
    by_cases h0 : 0 + r = 0
    · exact ⟨⟨⟨3, na, []⟩, 0 + r, rfl, .inl ⟨by rw [HO.out, if_pos h0], h0⟩⟩, ((Below.refl _ _).alloc (Nat.le_refl _) _).alloc (by simp) _⟩
    · exact ⟨⟨⟨3, na, []⟩, 0 + r, rfl, .inr ⟨by rw [HO.out, if_neg h0], by omega⟩⟩, ((Below.refl _ _).alloc (Nat.le_refl _) _).alloc (by simp) _⟩

end Go.Proofs.YtkbeaddbnnboaaaDoor

namespace Go.Proofs.YtkbeaddbnnboaaaDoor
open Go Go.RowKit Go.Maps

set_option maxRecDepth 100000 in
set_option maxHeartbeats 3200000 in
theorem num_hexR (s : ByteArray) (p : Nat) (w : World) (hs : s.size ≤ 3000) (hp : p < s.size) (h48 : ((s[p].toNat : Int) == 48) = true) (hl : p + 1 < s.size) (hx0 : ((s[p + 1].toNat : Int) == 120) = true) :
    Calls Tryd.prog 44 #[.string s, .int .i64 p] w (AttPost w (numberT (s.data.toList.drop p))) := by
  obtain ⟨y, hy⟩ : ∃ y, s[p] = y := ⟨_, rfl⟩
  rw [hy] at h48
  obtain ⟨x, hxx⟩ : ∃ x, s[p + 1] = x := ⟨_, rfl⟩
  rw [hxx] at hx0
  have hx48 : y = 48 := UInt8.toNat_inj.1 (by have := beq_iff_eq.1 h48; show y.toNat = 48; omega)
  have hxk : x = 120 := UInt8.toNat_inj.1 (by have := beq_iff_eq.1 hx0; show x.toNat = 120; omega)
  subst hx48 hxk
  clear h48 hx0
  have HNUM := Lib.hid (show numberT (s.data.toList.drop p) = digitsT 2 16 (s.data.toList.drop p) by
    have hd := drop_at s p hp
    rw [hy] at hd
    have hd2 := drop_at s (p + 1) hl
    rw [hxx] at hd2
    rw [hd, hd2]
    rfl)
  obtain ⟨r, hr⟩ : ∃ r, runB (digZ 16) (s.data.toList.drop (p + 2)) = r := ⟨_, rfl⟩
  have hrl : p + 2 + r ≤ s.size := by
    have := runB_le (digZ 16) (s.data.toList.drop (p + 2))
    rw [hr, List.length_drop, ← Lib.size_eq] at this
    omega
  have D := Lib.hid (fun w => ref_digits_is s (p + 2) 16 w (by omega) (by omega))
  rw [hr] at D
  have hx : (s.extract (p + 2) (p + 2 + r)).data.toList = (s.data.toList.drop (p + 2)).take r := by rw [Lib.extract_data]; congr 1; omega
  have P := Lib.hid (fun w => ref_parse (s.extract (p + 2) (p + 2 + r)) 16 w (by unfold maxLen; rw [Lib.size_eq, hx, List.length_take]; omega))
  rw [hx] at P
  obtain ⟨⟨na, ea⟩, hpr⟩ : ∃ x, parseR 16 ((s.data.toList.drop (p + 2)).take r) = x := ⟨_, rfl⟩
  rw [hpr] at P
  have HF := Lib.hid (HNUM.out.trans (digits_form (f := 2) (r := r) (na := na) (ea := ea) (l := s.data.toList.drop p) (by first | exact hr | (rw [List.drop_drop]; exact hr)) (by first | exact hpr | (rw [List.drop_drop]; exact hpr))))
  have hsum : (p : Int) + 2 + (r : Int) - (p : Int) = ((2 + r : Nat) : Int) := by omega
  have hsum3 : (p : Int) + (2 + (r : Int)) - (p : Int) = ((2 + r : Nat) : Int) := by omega
  have HB0 := Lib.hid (two_below w 0)
  have HBN := Lib.hid (two_below w na)
  have F0 := two_facts w 0
  have FN := two_facts w na
  have z0 := cell_of_heap (o := 0) (two_zero w) rfl
  have z1 := cell_of_heap (o := 1) (two_zero w) rfl
  have z2 := cell_of_heap (o := 2) (two_zero w) rfl
  have z3 := cell_of_heap (o := 3) (two_zero w) rfl
  have z4 := cell_of_heap (o := 4) (two_zero w) rfl
  have z5 := cell_of_heap (o := 5) (two_zero w) rfl
  have zf := fun o => free_of_heap (o := o) (two_zero w)
  have zf0 := zf 0
  have zf1 := zf 1
  have zf2 := zf 2
  have zf3 := zf 3
  have zf4 := zf 4
  have zf5 := zf 5
  have ax0 := cell_of_heap (o := 0) F0.a rfl
  have bx0 := cell_of_heap (o := 0) F0.t rfl
  have cx0 := free_of_heap (o := 0) F0.a
  have dx0 := free_of_heap (o := 0) F0.t
  have ax1 := cell_of_heap (o := 1) F0.a rfl
  have bx1 := cell_of_heap (o := 1) F0.t rfl
  have cx1 := free_of_heap (o := 1) F0.a
  have dx1 := free_of_heap (o := 1) F0.t
  have ax2 := cell_of_heap (o := 2) F0.a rfl
  have bx2 := cell_of_heap (o := 2) F0.t rfl
  have cx2 := free_of_heap (o := 2) F0.a
  have dx2 := free_of_heap (o := 2) F0.t
  have ax3 := cell_of_heap (o := 3) F0.a rfl
  have bx3 := cell_of_heap (o := 3) F0.t rfl
  have cx3 := free_of_heap (o := 3) F0.a
  have dx3 := free_of_heap (o := 3) F0.t
  have ax4 := cell_of_heap (o := 4) F0.a rfl
  have bx4 := cell_of_heap (o := 4) F0.t rfl
  have cx4 := free_of_heap (o := 4) F0.a
  have dx4 := free_of_heap (o := 4) F0.t
  have ax5 := cell_of_heap (o := 5) F0.a rfl
  have bx5 := cell_of_heap (o := 5) F0.t rfl
  have cx5 := free_of_heap (o := 5) F0.a
  have dx5 := free_of_heap (o := 5) F0.t
  have an0 := cell_of_heap (o := 0) FN.a rfl
  have bn0 := cell_of_heap (o := 0) FN.t rfl
  have cn0 := free_of_heap (o := 0) FN.a
  have dn0 := free_of_heap (o := 0) FN.t
  have an1 := cell_of_heap (o := 1) FN.a rfl
  have bn1 := cell_of_heap (o := 1) FN.t rfl
  have cn1 := free_of_heap (o := 1) FN.a
  have dn1 := free_of_heap (o := 1) FN.t
  have an2 := cell_of_heap (o := 2) FN.a rfl
  have bn2 := cell_of_heap (o := 2) FN.t rfl
  have cn2 := free_of_heap (o := 2) FN.a
  have dn2 := free_of_heap (o := 2) FN.t
  have an3 := cell_of_heap (o := 3) FN.a rfl
  have bn3 := cell_of_heap (o := 3) FN.t rfl
  have cn3 := free_of_heap (o := 3) FN.a
  have dn3 := free_of_heap (o := 3) FN.t
  have an4 := cell_of_heap (o := 4) FN.a rfl
  have bn4 := cell_of_heap (o := 4) FN.t rfl
  have cn4 := free_of_heap (o := 4) FN.a
  have dn4 := free_of_heap (o := 4) FN.t
  have an5 := cell_of_heap (o := 5) FN.a rfl
  have bn5 := cell_of_heap (o := 5) FN.t rfl
  have cn5 := free_of_heap (o := 5) FN.a
  have dn5 := free_of_heap (o := 5) FN.t
  clear hr hx hpr HNUM F0 FN zf
  unfold twoW at *
  go_enter Tryd.func44, Tryd.ntmps44
  cases he : (ea == 0)
  · have he2 : (ea != 0) = true := by simp [bne, he]
    have HO := Lib.hid (show numberT (s.data.toList.drop p) = none by rw [HF.out]; first | rfl | (rw [he]; rfl))
    clear he
    go_wp2_with (go_at_call 61; refine (D.out _).mono ?_; rintro e w' ⟨rfl, rfl⟩)
    refine (P.out _).mono ?_
    rintro e w' ⟨rfl, rfl⟩
    go_wp2_with fail
    refine bodyPost_ret (v := .tuple #[.agg #[.int .i64 3, .int .i64 0, .int .i64 0, .string ⟨#[]⟩, .bool false, .bool false], .int .i64 0]) (by simp [results, Tryd.results44, go_sem]) rfl ?_
    exact ⟨⟨⟨3, 0, []⟩, 0, rfl, .inl ⟨HO.out, rfl⟩⟩, ((Below.refl _ _).alloc (Nat.le_refl _) _).alloc (by simp) _⟩
  · have he2 : (ea != 0) = false := by simp [bne, he]
    have HO := Lib.hid (show numberT (s.data.toList.drop p) = if 2 + r = 0 then none else some (⟨3, na, []⟩, 2 + r) by rw [HF.out]; first | rfl | (rw [he]; rfl))
    clear he
    go_wp2_with (go_at_call 61; refine (D.out _).mono ?_; rintro e w' ⟨rfl, rfl⟩)
    refine (P.out _).mono ?_
    rintro e w' ⟨rfl, rfl⟩
    go_wp2_with fail
    refine bodyPost_ret (v := .tuple #[.agg #[.int .i64 3, .int .i64 0, .int .i64 na, .string ⟨#[]⟩, .bool false, .bool false], .int .i64 (2 + r : Nat)]) (by simp [results, Tryd.results44, go_sem]) rfl ?_
    by_cases h0 : 2 + r = 0
    · exact ⟨⟨⟨3, na, []⟩, 2 + r, rfl, .inl ⟨by rw [HO.out, if_pos h0], h0⟩⟩, ((Below.refl _ _).alloc (Nat.le_refl _) _).alloc (by simp) _⟩
    · exact ⟨⟨⟨3, na, []⟩, 2 + r, rfl, .inr ⟨by rw [HO.out, if_neg h0], by omega⟩⟩, ((Below.refl _ _).alloc (Nat.le_refl _) _).alloc (by simp) _⟩

set_option maxRecDepth 100000 in
set_option maxHeartbeats 3200000 in
theorem num_octR (s : ByteArray) (p : Nat) (w : World) (hs : s.size ≤ 3000) (hp : p < s.size) (h48 : ((s[p].toNat : Int) == 48) = true) (hl : p + 1 < s.size) (hx0 : ((s[p + 1].toNat : Int) == 111) = true) :
    Calls Tryd.prog 44 #[.string s, .int .i64 p] w (AttPost w (numberT (s.data.toList.drop p))) := by
  obtain ⟨y, hy⟩ : ∃ y, s[p] = y := ⟨_, rfl⟩
  rw [hy] at h48
  obtain ⟨x, hxx⟩ : ∃ x, s[p + 1] = x := ⟨_, rfl⟩
  rw [hxx] at hx0
  have hx48 : y = 48 := UInt8.toNat_inj.1 (by have := beq_iff_eq.1 h48; show y.toNat = 48; omega)
  have hxk : x = 111 := UInt8.toNat_inj.1 (by have := beq_iff_eq.1 hx0; show x.toNat = 111; omega)
  subst hx48 hxk
  clear h48 hx0
  have HNUM := Lib.hid (show numberT (s.data.toList.drop p) = digitsT 2 8 (s.data.toList.drop p) by
    have hd := drop_at s p hp
    rw [hy] at hd
    have hd2 := drop_at s (p + 1) hl
    rw [hxx] at hd2
    rw [hd, hd2]
    rfl)
  obtain ⟨r, hr⟩ : ∃ r, runB (digZ 8) (s.data.toList.drop (p + 2)) = r := ⟨_, rfl⟩
  have hrl : p + 2 + r ≤ s.size := by
    have := runB_le (digZ 8) (s.data.toList.drop (p + 2))
    rw [hr, List.length_drop, ← Lib.size_eq] at this
    omega
  have D := Lib.hid (fun w => ref_digits_is s (p + 2) 8 w (by omega) (by omega))
  rw [hr] at D
  have hx : (s.extract (p + 2) (p + 2 + r)).data.toList = (s.data.toList.drop (p + 2)).take r := by rw [Lib.extract_data]; congr 1; omega
  have P := Lib.hid (fun w => ref_parse (s.extract (p + 2) (p + 2 + r)) 8 w (by unfold maxLen; rw [Lib.size_eq, hx, List.length_take]; omega))
  rw [hx] at P
  obtain ⟨⟨na, ea⟩, hpr⟩ : ∃ x, parseR 8 ((s.data.toList.drop (p + 2)).take r) = x := ⟨_, rfl⟩
  rw [hpr] at P
  have HF := Lib.hid (HNUM.out.trans (digits_form (f := 2) (r := r) (na := na) (ea := ea) (l := s.data.toList.drop p) (by first | exact hr | (rw [List.drop_drop]; exact hr)) (by first | exact hpr | (rw [List.drop_drop]; exact hpr))))
  have hsum : (p : Int) + 2 + (r : Int) - (p : Int) = ((2 + r : Nat) : Int) := by omega
  have hsum3 : (p : Int) + (2 + (r : Int)) - (p : Int) = ((2 + r : Nat) : Int) := by omega
  have HB0 := Lib.hid (two_below w 0)
  have HBN := Lib.hid (two_below w na)
  have F0 := two_facts w 0
  have FN := two_facts w na
  have z0 := cell_of_heap (o := 0) (two_zero w) rfl
  have z1 := cell_of_heap (o := 1) (two_zero w) rfl
  have z2 := cell_of_heap (o := 2) (two_zero w) rfl
  have z3 := cell_of_heap (o := 3) (two_zero w) rfl
  have z4 := cell_of_heap (o := 4) (two_zero w) rfl
  have z5 := cell_of_heap (o := 5) (two_zero w) rfl
  have zf := fun o => free_of_heap (o := o) (two_zero w)
  have zf0 := zf 0
  have zf1 := zf 1
  have zf2 := zf 2
  have zf3 := zf 3
  have zf4 := zf 4
  have zf5 := zf 5
  have ax0 := cell_of_heap (o := 0) F0.a rfl
  have bx0 := cell_of_heap (o := 0) F0.t rfl
  have cx0 := free_of_heap (o := 0) F0.a
  have dx0 := free_of_heap (o := 0) F0.t
  have ax1 := cell_of_heap (o := 1) F0.a rfl
  have bx1 := cell_of_heap (o := 1) F0.t rfl
  have cx1 := free_of_heap (o := 1) F0.a
  have dx1 := free_of_heap (o := 1) F0.t
  have ax2 := cell_of_heap (o := 2) F0.a rfl
  have bx2 := cell_of_heap (o := 2) F0.t rfl
  have cx2 := free_of_heap (o := 2) F0.a
  have dx2 := free_of_heap (o := 2) F0.t
  have ax3 := cell_of_heap (o := 3) F0.a rfl
  have bx3 := cell_of_heap (o := 3) F0.t rfl
  have cx3 := free_of_heap (o := 3) F0.a
  have dx3 := free_of_heap (o := 3) F0.t
  have ax4 := cell_of_heap (o := 4) F0.a rfl
  have bx4 := cell_of_heap (o := 4) F0.t rfl
  have cx4 := free_of_heap (o := 4) F0.a
  have dx4 := free_of_heap (o := 4) F0.t
  have ax5 := cell_of_heap (o := 5) F0.a rfl
  have bx5 := cell_of_heap (o := 5) F0.t rfl
  have cx5 := free_of_heap (o := 5) F0.a
  have dx5 := free_of_heap (o := 5) F0.t
  have an0 := cell_of_heap (o := 0) FN.a rfl
  have bn0 := cell_of_heap (o := 0) FN.t rfl
  have cn0 := free_of_heap (o := 0) FN.a
  have dn0 := free_of_heap (o := 0) FN.t
  have an1 := cell_of_heap (o := 1) FN.a rfl
  have bn1 := cell_of_heap (o := 1) FN.t rfl
  have cn1 := free_of_heap (o := 1) FN.a
  have dn1 := free_of_heap (o := 1) FN.t
  have an2 := cell_of_heap (o := 2) FN.a rfl
  have bn2 := cell_of_heap (o := 2) FN.t rfl
  have cn2 := free_of_heap (o := 2) FN.a
  have dn2 := free_of_heap (o := 2) FN.t
  have an3 := cell_of_heap (o := 3) FN.a rfl
  have bn3 := cell_of_heap (o := 3) FN.t rfl
  have cn3 := free_of_heap (o := 3) FN.a
  have dn3 := free_of_heap (o := 3) FN.t
  have an4 := cell_of_heap (o := 4) FN.a rfl
  have bn4 := cell_of_heap (o := 4) FN.t rfl
  have cn4 := free_of_heap (o := 4) FN.a
  have dn4 := free_of_heap (o := 4) FN.t
  have an5 := cell_of_heap (o := 5) FN.a rfl
  have bn5 := cell_of_heap (o := 5) FN.t rfl
  have cn5 := free_of_heap (o := 5) FN.a
  have dn5 := free_of_heap (o := 5) FN.t
  clear hr hx hpr HNUM F0 FN zf
  unfold twoW at *
  go_enter Tryd.func44, Tryd.ntmps44
  cases he : (ea == 0)
  · have he2 : (ea != 0) = true := by simp [bne, he]
    have HO := Lib.hid (show numberT (s.data.toList.drop p) = none by rw [HF.out]; first | rfl | (rw [he]; rfl))
    clear he
    go_wp2_with (go_at_call 61; refine (D.out _).mono ?_; rintro e w' ⟨rfl, rfl⟩)
    refine (P.out _).mono ?_
    rintro e w' ⟨rfl, rfl⟩
    go_wp2_with fail
    refine bodyPost_ret (v := .tuple #[.agg #[.int .i64 3, .int .i64 0, .int .i64 0, .string ⟨#[]⟩, .bool false, .bool false], .int .i64 0]) (by simp [results, Tryd.results44, go_sem]) rfl ?_
    exact ⟨⟨⟨3, 0, []⟩, 0, rfl, .inl ⟨HO.out, rfl⟩⟩, ((Below.refl _ _).alloc (Nat.le_refl _) _).alloc (by simp) _⟩
  · have he2 : (ea != 0) = false := by simp [bne, he]
    have HO := Lib.hid (show numberT (s.data.toList.drop p) = if 2 + r = 0 then none else some (⟨3, na, []⟩, 2 + r) by rw [HF.out]; first | rfl | (rw [he]; rfl))
    clear he
    go_wp2_with (go_at_call 61; refine (D.out _).mono ?_; rintro e w' ⟨rfl, rfl⟩)
    refine (P.out _).mono ?_
    rintro e w' ⟨rfl, rfl⟩
    go_wp2_with fail
    refine bodyPost_ret (v := .tuple #[.agg #[.int .i64 3, .int .i64 0, .int .i64 na, .string ⟨#[]⟩, .bool false, .bool false], .int .i64 (2 + r : Nat)]) (by simp [results, Tryd.results44, go_sem]) rfl ?_
    by_cases h0 : 2 + r = 0
    · exact ⟨⟨⟨3, na, []⟩, 2 + r, rfl, .inl ⟨by rw [HO.out, if_pos h0], h0⟩⟩, ((Below.refl _ _).alloc (Nat.le_refl _) _).alloc (by simp) _⟩
    · exact ⟨⟨⟨3, na, []⟩, 2 + r, rfl, .inr ⟨by rw [HO.out, if_neg h0], by omega⟩⟩, ((Below.refl _ _).alloc (Nat.le_refl _) _).alloc (by simp) _⟩

set_option maxRecDepth 100000 in
set_option maxHeartbeats 3200000 in
theorem num_binR (s : ByteArray) (p : Nat) (w : World) (hs : s.size ≤ 3000) (hp : p < s.size) (h48 : ((s[p].toNat : Int) == 48) = true) (hl : p + 1 < s.size) (hx0 : ((s[p + 1].toNat : Int) == 98) = true) :
    Calls Tryd.prog 44 #[.string s, .int .i64 p] w (AttPost w (numberT (s.data.toList.drop p))) := by
  obtain ⟨y, hy⟩ : ∃ y, s[p] = y := ⟨_, rfl⟩
  rw [hy] at h48
  obtain ⟨x, hxx⟩ : ∃ x, s[p + 1] = x := ⟨_, rfl⟩
  rw [hxx] at hx0
  have hx48 : y = 48 := UInt8.toNat_inj.1 (by have := beq_iff_eq.1 h48; show y.toNat = 48; omega)
  have hxk : x = 98 := UInt8.toNat_inj.1 (by have := beq_iff_eq.1 hx0; show x.toNat = 98; omega)
  subst hx48 hxk
  clear h48 hx0
  have HNUM := Lib.hid (show numberT (s.data.toList.drop p) = digitsT 2 2 (s.data.toList.drop p) by
    have hd := drop_at s p hp
    rw [hy] at hd
    have hd2 := drop_at s (p + 1) hl
    rw [hxx] at hd2
    rw [hd, hd2]
    rfl)
  obtain ⟨r, hr⟩ : ∃ r, runB (digZ 2) (s.data.toList.drop (p + 2)) = r := ⟨_, rfl⟩
  have hrl : p + 2 + r ≤ s.size := by
    have := runB_le (digZ 2) (s.data.toList.drop (p + 2))
    rw [hr, List.length_drop, ← Lib.size_eq] at this
    omega
  have D := Lib.hid (fun w => ref_digits_is s (p + 2) 2 w (by omega) (by omega))
  rw [hr] at D
  have hx : (s.extract (p + 2) (p + 2 + r)).data.toList = (s.data.toList.drop (p + 2)).take r := by rw [Lib.extract_data]; congr 1; omega
  have P := Lib.hid (fun w => ref_parse (s.extract (p + 2) (p + 2 + r)) 2 w (by unfold maxLen; rw [Lib.size_eq, hx, List.length_take]; omega))
  rw [hx] at P
  obtain ⟨⟨na, ea⟩, hpr⟩ : ∃ x, parseR 2 ((s.data.toList.drop (p + 2)).take r) = x := ⟨_, rfl⟩
  rw [hpr] at P
  have HF := Lib.hid (HNUM.out.trans (digits_form (f := 2) (r := r) (na := na) (ea := ea) (l := s.data.toList.drop p) (by first | exact hr | (rw [List.drop_drop]; exact hr)) (by first | exact hpr | (rw [List.drop_drop]; exact hpr))))
  have hsum : (p : Int) + 2 + (r : Int) - (p : Int) = ((2 + r : Nat) : Int) := by omega
  have hsum3 : (p : Int) + (2 + (r : Int)) - (p : Int) = ((2 + r : Nat) : Int) := by omega
  have HB0 := Lib.hid (two_below w 0)
  have HBN := Lib.hid (two_below w na)
  have F0 := two_facts w 0
  have FN := two_facts w na
  have z0 := cell_of_heap (o := 0) (two_zero w) rfl
  have z1 := cell_of_heap (o := 1) (two_zero w) rfl
  have z2 := cell_of_heap (o := 2) (two_zero w) rfl
  have z3 := cell_of_heap (o := 3) (two_zero w) rfl
  have z4 := cell_of_heap (o := 4) (two_zero w) rfl
  have z5 := cell_of_heap (o := 5) (two_zero w) rfl
  have zf := fun o => free_of_heap (o := o) (two_zero w)
  have zf0 := zf 0
  have zf1 := zf 1
  have zf2 := zf 2
  have zf3 := zf 3
  have zf4 := zf 4
  have zf5 := zf 5
  have ax0 := cell_of_heap (o := 0) F0.a rfl
  have bx0 := cell_of_heap (o := 0) F0.t rfl
  have cx0 := free_of_heap (o := 0) F0.a
  have dx0 := free_of_heap (o := 0) F0.t
  have ax1 := cell_of_heap (o := 1) F0.a rfl
  have bx1 := cell_of_heap (o := 1) F0.t rfl
  have cx1 := free_of_heap (o := 1) F0.a
  have dx1 := free_of_heap (o := 1) F0.t
  have ax2 := cell_of_heap (o := 2) F0.a rfl
  have bx2 := cell_of_heap (o := 2) F0.t rfl
  have cx2 := free_of_heap (o := 2) F0.a
  have dx2 := free_of_heap (o := 2) F0.t
  have ax3 := cell_of_heap (o := 3) F0.a rfl
  have bx3 := cell_of_heap (o := 3) F0.t rfl
  have cx3 := free_of_heap (o := 3) F0.a
  have dx3 := free_of_heap (o := 3) F0.t
  have ax4 := cell_of_heap (o := 4) F0.a rfl
  have bx4 := cell_of_heap (o := 4) F0.t rfl
  have cx4 := free_of_heap (o := 4) F0.a
  have dx4 := free_of_heap (o := 4) F0.t
  have ax5 := cell_of_heap (o := 5) F0.a rfl
  have bx5 := cell_of_heap (o := 5) F0.t rfl
  have cx5 := free_of_heap (o := 5) F0.a
  have dx5 := free_of_heap (o := 5) F0.t
  have an0 := cell_of_heap (o := 0) FN.a rfl
  have bn0 := cell_of_heap (o := 0) FN.t rfl
  have cn0 := free_of_heap (o := 0) FN.a
  have dn0 := free_of_heap (o := 0) FN.t
  have an1 := cell_of_heap (o := 1) FN.a rfl
  have bn1 := cell_of_heap (o := 1) FN.t rfl
  have cn1 := free_of_heap (o := 1) FN.a
  have dn1 := free_of_heap (o := 1) FN.t
  have an2 := cell_of_heap (o := 2) FN.a rfl
  have bn2 := cell_of_heap (o := 2) FN.t rfl
  have cn2 := free_of_heap (o := 2) FN.a
  have dn2 := free_of_heap (o := 2) FN.t
  have an3 := cell_of_heap (o := 3) FN.a rfl
  have bn3 := cell_of_heap (o := 3) FN.t rfl
  have cn3 := free_of_heap (o := 3) FN.a
  have dn3 := free_of_heap (o := 3) FN.t
  have an4 := cell_of_heap (o := 4) FN.a rfl
  have bn4 := cell_of_heap (o := 4) FN.t rfl
  have cn4 := free_of_heap (o := 4) FN.a
  have dn4 := free_of_heap (o := 4) FN.t
  have an5 := cell_of_heap (o := 5) FN.a rfl
  have bn5 := cell_of_heap (o := 5) FN.t rfl
  have cn5 := free_of_heap (o := 5) FN.a
  have dn5 := free_of_heap (o := 5) FN.t
  clear hr hx hpr HNUM F0 FN zf
  unfold twoW at *
  go_enter Tryd.func44, Tryd.ntmps44
  cases he : (ea == 0)
  · have he2 : (ea != 0) = true := by simp [bne, he]
    have HO := Lib.hid (show numberT (s.data.toList.drop p) = none by rw [HF.out]; first | rfl | (rw [he]; rfl))
    clear he
    go_wp2_with (go_at_call 61; refine (D.out _).mono ?_; rintro e w' ⟨rfl, rfl⟩)
    refine (P.out _).mono ?_
    rintro e w' ⟨rfl, rfl⟩
    go_wp2_with fail
    refine bodyPost_ret (v := .tuple #[.agg #[.int .i64 3, .int .i64 0, .int .i64 0, .string ⟨#[]⟩, .bool false, .bool false], .int .i64 0]) (by simp [results, Tryd.results44, go_sem]) rfl ?_
    exact ⟨⟨⟨3, 0, []⟩, 0, rfl, .inl ⟨HO.out, rfl⟩⟩, ((Below.refl _ _).alloc (Nat.le_refl _) _).alloc (by simp) _⟩
  · have he2 : (ea != 0) = false := by simp [bne, he]
    have HO := Lib.hid (show numberT (s.data.toList.drop p) = if 2 + r = 0 then none else some (⟨3, na, []⟩, 2 + r) by rw [HF.out]; first | rfl | (rw [he]; rfl))
    clear he
    go_wp2_with (go_at_call 61; refine (D.out _).mono ?_; rintro e w' ⟨rfl, rfl⟩)
    refine (P.out _).mono ?_
    rintro e w' ⟨rfl, rfl⟩
    go_wp2_with fail
    refine bodyPost_ret (v := .tuple #[.agg #[.int .i64 3, .int .i64 0, .int .i64 na, .string ⟨#[]⟩, .bool false, .bool false], .int .i64 (2 + r : Nat)]) (by simp [results, Tryd.results44, go_sem]) rfl ?_
    by_cases h0 : 2 + r = 0
    · exact ⟨⟨⟨3, na, []⟩, 2 + r, rfl, .inl ⟨by rw [HO.out, if_pos h0], h0⟩⟩, ((Below.refl _ _).alloc (Nat.le_refl _) _).alloc (by simp) _⟩
    · exact ⟨⟨⟨3, na, []⟩, 2 + r, rfl, .inr ⟨by rw [HO.out, if_neg h0], by omega⟩⟩, ((Below.refl _ _).alloc (Nat.le_refl _) _).alloc (by simp) _⟩

set_option maxRecDepth 100000 in
set_option maxHeartbeats 3200000 in
theorem num_zeroR (s : ByteArray) (p : Nat) (w : World) (hs : s.size ≤ 3000) (hp : p < s.size) (h48 : ((s[p].toNat : Int) == 48) = true) (hl : p + 1 < s.size) (x1 : ((s[p + 1].toNat : Int) == 120) = false) (x2 : ((s[p + 1].toNat : Int) == 111) = false) (x3 : ((s[p + 1].toNat : Int) == 98) = false) (x4 : ((s[p + 1].toNat : Int) == 39) = false) :
    Calls Tryd.prog 44 #[.string s, .int .i64 p] w (AttPost w (numberT (s.data.toList.drop p))) := by
  obtain ⟨y, hy⟩ : ∃ y, s[p] = y := ⟨_, rfl⟩
  rw [hy] at h48
  obtain ⟨x, hxx⟩ : ∃ x, s[p + 1] = x := ⟨_, rfl⟩
  rw [hxx] at x1 x2 x3 x4
  have HNUM := Lib.hid (show numberT (s.data.toList.drop p) = digitsT 0 10 (s.data.toList.drop p) by
    have hd := drop_at s p hp
    rw [hy] at hd
    have hd2 := drop_at s (p + 1) hl
    rw [hxx] at hd2
    have ne : ∀ k : UInt8, ((x.toNat : Int) == (k.toNat : Int)) = false → x ≠ k := fun k h e => by rw [e] at h; simp at h
    unfold numberT
    rw [hd, hd2]
    have pr : ∀ k : UInt8, x ≠ k → Lib.hasPrefix (y :: x :: s.data.toList.drop (p + 1 + 1)) [48, k] = false := fun k h => by
      show ((48 == y) && ((k == x) && _)) = false
      rw [beq_eq_false_iff_ne.2 (Ne.symm h)]
      simp
    rw [pr 120 (ne 120 x1), pr 111 (ne 111 x2), pr 98 (ne 98 x3), pr 39 (ne 39 x4)]
    rfl)
  obtain ⟨r, hr⟩ : ∃ r, runB (digZ 10) (s.data.toList.drop (p)) = r := ⟨_, rfl⟩
  have hrl : p + r ≤ s.size := by
    have := runB_le (digZ 10) (s.data.toList.drop (p))
    rw [hr, List.length_drop, ← Lib.size_eq] at this
    omega
  have D := Lib.hid (fun w => ref_digits_is s (p) 10 w (by omega) (by omega))
  rw [hr] at D
  have hx : (s.extract (p) (p + r)).data.toList = (s.data.toList.drop (p)).take r := by rw [Lib.extract_data]; congr 1; omega
  have P := Lib.hid (fun w => ref_parse (s.extract (p) (p + r)) 10 w (by unfold maxLen; rw [Lib.size_eq, hx, List.length_take]; omega))
  rw [hx] at P
  obtain ⟨⟨na, ea⟩, hpr⟩ : ∃ x, parseR 10 ((s.data.toList.drop (p)).take r) = x := ⟨_, rfl⟩
  rw [hpr] at P
  have HF := Lib.hid (HNUM.out.trans (digits_form (f := 0) (r := r) (na := na) (ea := ea) (l := s.data.toList.drop p) (by first | exact hr | (rw [List.drop_drop]; exact hr)) (by first | exact hpr | (rw [List.drop_drop]; exact hpr))))
  have hsum : (p : Int) + (r : Int) - (p : Int) = ((0 + r : Nat) : Int) := by omega
  have HB0 := Lib.hid (two_below w 0)
  have HBN := Lib.hid (two_below w na)
  have F0 := two_facts w 0
  have FN := two_facts w na
  have z0 := cell_of_heap (o := 0) (two_zero w) rfl
  have z1 := cell_of_heap (o := 1) (two_zero w) rfl
  have z2 := cell_of_heap (o := 2) (two_zero w) rfl
  have z3 := cell_of_heap (o := 3) (two_zero w) rfl
  have z4 := cell_of_heap (o := 4) (two_zero w) rfl
  have z5 := cell_of_heap (o := 5) (two_zero w) rfl
  have zf := fun o => free_of_heap (o := o) (two_zero w)
  have zf0 := zf 0
  have zf1 := zf 1
  have zf2 := zf 2
  have zf3 := zf 3
  have zf4 := zf 4
  have zf5 := zf 5
  have ax0 := cell_of_heap (o := 0) F0.a rfl
  have bx0 := cell_of_heap (o := 0) F0.t rfl
  have cx0 := free_of_heap (o := 0) F0.a
  have dx0 := free_of_heap (o := 0) F0.t
  have ax1 := cell_of_heap (o := 1) F0.a rfl
  have bx1 := cell_of_heap (o := 1) F0.t rfl
  have cx1 := free_of_heap (o := 1) F0.a
  have dx1 := free_of_heap (o := 1) F0.t
  have ax2 := cell_of_heap (o := 2) F0.a rfl
  have bx2 := cell_of_heap (o := 2) F0.t rfl
  have cx2 := free_of_heap (o := 2) F0.a
  have dx2 := free_of_heap (o := 2) F0.t
  have ax3 := cell_of_heap (o := 3) F0.a rfl
  have bx3 := cell_of_heap (o := 3) F0.t rfl
  have cx3 := free_of_heap (o := 3) F0.a
  have dx3 := free_of_heap (o := 3) F0.t
  have ax4 := cell_of_heap (o := 4) F0.a rfl
  have bx4 := cell_of_heap (o := 4) F0.t rfl
  have cx4 := free_of_heap (o := 4) F0.a
  have dx4 := free_of_heap (o := 4) F0.t
  have ax5 := cell_of_heap (o := 5) F0.a rfl
  have bx5 := cell_of_heap (o := 5) F0.t rfl
  have cx5 := free_of_heap (o := 5) F0.a
  have dx5 := free_of_heap (o := 5) F0.t
  have an0 := cell_of_heap (o := 0) FN.a rfl
  have bn0 := cell_of_heap (o := 0) FN.t rfl
  have cn0 := free_of_heap (o := 0) FN.a
  have dn0 := free_of_heap (o := 0) FN.t
  have an1 := cell_of_heap (o := 1) FN.a rfl
  have bn1 := cell_of_heap (o := 1) FN.t rfl
  have cn1 := free_of_heap (o := 1) FN.a
  have dn1 := free_of_heap (o := 1) FN.t
  have an2 := cell_of_heap (o := 2) FN.a rfl
  have bn2 := cell_of_heap (o := 2) FN.t rfl
  have cn2 := free_of_heap (o := 2) FN.a
  have dn2 := free_of_heap (o := 2) FN.t
  have an3 := cell_of_heap (o := 3) FN.a rfl
  have bn3 := cell_of_heap (o := 3) FN.t rfl
  have cn3 := free_of_heap (o := 3) FN.a
  have dn3 := free_of_heap (o := 3) FN.t
  have an4 := cell_of_heap (o := 4) FN.a rfl
  have bn4 := cell_of_heap (o := 4) FN.t rfl
  have cn4 := free_of_heap (o := 4) FN.a
  have dn4 := free_of_heap (o := 4) FN.t
  have an5 := cell_of_heap (o := 5) FN.a rfl
  have bn5 := cell_of_heap (o := 5) FN.t rfl
  have cn5 := free_of_heap (o := 5) FN.a
  have dn5 := free_of_heap (o := 5) FN.t
  clear hr hx hpr HNUM F0 FN zf
  unfold twoW at *
  go_enter Tryd.func44, Tryd.ntmps44
  cases he : (ea == 0)
  · have he2 : (ea != 0) = true := by simp [bne, he]
    have HO := Lib.hid (show numberT (s.data.toList.drop p) = none by rw [HF.out]; first | rfl | (rw [he]; rfl))
    clear he
    go_wp2_with (go_at_call 61; refine (D.out _).mono ?_; rintro e w' ⟨rfl, rfl⟩)
    refine (P.out _).mono ?_
    rintro e w' ⟨rfl, rfl⟩
    go_wp2_with fail
    refine bodyPost_ret (v := .tuple #[.agg #[.int .i64 3, .int .i64 0, .int .i64 0, .string ⟨#[]⟩, .bool false, .bool false], .int .i64 0]) (by simp [results, Tryd.results44, go_sem]) rfl ?_
    exact ⟨⟨⟨3, 0, []⟩, 0, rfl, .inl ⟨HO.out, rfl⟩⟩, ((Below.refl _ _).alloc (Nat.le_refl _) _).alloc (by simp) _⟩
  · have he2 : (ea != 0) = false := by simp [bne, he]
    have HO := Lib.hid (show numberT (s.data.toList.drop p) = if 0 + r = 0 then none else some (⟨3, na, []⟩, 0 + r) by rw [HF.out]; first | rfl | (rw [he]; rfl))
    clear he
    go_wp2_with (go_at_call 61; refine (D.out _).mono ?_; rintro e w' ⟨rfl, rfl⟩)
    refine (P.out _).mono ?_
    rintro e w' ⟨rfl, rfl⟩
    go_wp2_with fail
    refine bodyPost_ret (v := .tuple #[.agg #[.int .i64 3, .int .i64 0, .int .i64 na, .string ⟨#[]⟩, .bool false, .bool false], .int .i64 (0 + r : Nat)]) (by simp [results, Tryd.results44, go_sem]) rfl ?_
    by_cases h0 : 0 + r = 0
    · exact ⟨⟨⟨3, na, []⟩, 0 + r, rfl, .inl ⟨by rw [HO.out, if_pos h0], h0⟩⟩, ((Below.refl _ _).alloc (Nat.le_refl _) _).alloc (by simp) _⟩
    · exact ⟨⟨⟨3, na, []⟩, 0 + r, rfl, .inr ⟨by rw [HO.out, if_neg h0], by omega⟩⟩, ((Below.refl _ _).alloc (Nat.le_refl _) _).alloc (by simp) _⟩

end Go.Proofs.YtkbeaddbnnboaaaDoor

namespace Go.Proofs.YtkbeaddbnnboaaaDoor
open Go Go.RowKit Go.Maps

theorem chr_39 : ∀ v : Fin 256, getL 39 [39, UInt8.ofNat v.val, 39] = if v.val = 39 then some ([39], 3) else some ([], 1) := by decide +kernel
theorem chr_92 : ∀ v : Fin 256, (match getL 39 [92, UInt8.ofNat v.val, 39] with | some (b, n) => (b.length != 1) || (n == 3) | none => true) = true := by decide +kernel
theorem chr_else : ∀ v : Fin 256, v.val ≠ 39 → v.val ≠ 92 → v.val ≠ 10 → getL 39 [UInt8.ofNat v.val, 39] = some ([UInt8.ofNat v.val], 2) := by decide +kernel
theorem byte_fin (c : UInt8) : UInt8.ofNat c.toNat = c := by simp
theorem chrT_nil : charT [48, 39] = none := rfl
theorem chrT_10 (t : List UInt8) : charT (48 :: 39 :: 10 :: t) = none := by
  rw [charT_o, show List.drop 2 (48 :: 39 :: 10 :: t) = 10 :: t from rfl, show charZ (10 :: t) = 1 from rfl, if_neg (by simp), show List.take 1 (10 :: t) ++ [39] = [10, 39] from rfl, show getL 39 [10, 39] = none by kernel_rfl]
  rfl
theorem chrT_q (k : UInt8) (hk : k = 39 ∨ k = 92) : charT [48, 39, k] = none := by rcases hk with rfl | rfl <;> rfl
theorem chrT_39 (v : UInt8) (t : List UInt8) : charT (48 :: 39 :: 39 :: v :: t) = if v = 39 then some (⟨3, 39, []⟩, 4) else none := by
  have h := chr_39 ⟨v.toNat, v.toNat_lt⟩
  simp only [byte_fin] at h
  rw [charT_o, show List.drop 2 (48 :: 39 :: 39 :: v :: t) = 39 :: v :: t from rfl, show charZ (39 :: v :: t) = 2 from rfl, if_neg (by simp), show List.take 2 (39 :: v :: t) ++ [39] = [39, v, 39] from rfl, h]
  by_cases hv : v = 39
  · subst hv
    rfl
  · rw [if_neg hv, if_neg (show ¬ v.toNat = 39 from fun e => hv (UInt8.toNat_inj.1 e))]
    rfl
theorem chrT_92 (v : UInt8) (t : List UInt8) : charT (48 :: 39 :: 92 :: v :: t) = charO 2 (getL 39 [92, v, 39]) := by
  rw [charT_o, show List.drop 2 (48 :: 39 :: 92 :: v :: t) = 92 :: v :: t from rfl, show charZ (92 :: v :: t) = 2 from rfl, if_neg (by simp)]
  rfl
theorem chrT_else {v : UInt8} (t : List UInt8) (h1 : v ≠ 39) (h2 : v ≠ 92) (h3 : v ≠ 10) : charT (48 :: 39 :: v :: t) = some (⟨3, (v.toNat : Int), []⟩, 3) := by
  have ne : ∀ k : UInt8, v ≠ k → v.toNat ≠ k.toNat := fun k h e => h (UInt8.toNat_inj.1 e)
  have h := chr_else ⟨v.toNat, v.toNat_lt⟩ (ne 39 h1) (ne 92 h2) (ne 10 h3)
  simp only [byte_fin] at h
  have hz : charZ (v :: t) = 1 := by
    unfold charZ
    rw [if_neg (by show ¬ ((39 == v) && _) = true; rw [beq_eq_false_iff_ne.2 (Ne.symm h1)]; simp), if_neg (by show ¬ ((92 == v) && _) = true; rw [beq_eq_false_iff_ne.2 (Ne.symm h2)]; simp)]
  rw [charT_o, show List.drop 2 (48 :: 39 :: v :: t) = v :: t from rfl, hz, if_neg (by simp), show List.take 1 (v :: t) ++ [39] = [v, 39] from rfl, h]
  rfl

set_option maxRecDepth 100000 in
set_option maxHeartbeats 3200000 in
theorem chr_end (s : ByteArray) (p : Nat) (w : World) (hs : s.size ≤ 3000) (hp : p < s.size) (h48 : ((s[p].toNat : Int) == 48) = true) (hl : p + 1 < s.size) (h39 : ((s[p + 1].toNat : Int) == 39) = true) (h2 : ¬ p + 2 < s.size) :
    Calls Tryd.prog 44 #[.string s, .int .i64 p] w (AttPost w (numberT (s.data.toList.drop p))) := by
  have hd := drop_at s p hp
  have hd2 := drop_at s (p + 1) hl
  obtain ⟨y, hy⟩ : ∃ y, s[p] = y := ⟨_, rfl⟩
  obtain ⟨x, hx⟩ : ∃ x, s[p + 1] = x := ⟨_, rfl⟩
  rw [hy] at hd h48
  rw [hx] at hd2 h39
  obtain rfl : y = 48 := UInt8.toNat_inj.1 (by have := beq_iff_eq.1 h48; show y.toNat = 48; omega)
  obtain rfl : x = 39 := UInt8.toNat_inj.1 (by have := beq_iff_eq.1 h39; show x.toNat = 39; omega)
  rw [hd2] at hd
  have HNUM := Lib.hid (show numberT (s.data.toList.drop p) = charT (48 :: 39 :: s.data.toList.drop (p + 1 + 1)) by rw [hd]; rfl)
  clear hd hd2 h48 h39
  have he : s.data.toList.drop (p + 1 + 1) = [] := List.drop_of_length_le (by rw [← Lib.size_eq]; omega)
  have HO := Lib.hid (show numberT (s.data.toList.drop p) = none by rw [HNUM.out, he]; exact chrT_nil)
  clear he
  have F0 := two_facts w 0
  have z0 := cell_of_heap (o := 0) (two_zero w) rfl
  have zf0 := free_of_heap (o := 0) (two_zero w)
  have z1 := cell_of_heap (o := 1) (two_zero w) rfl
  have zf1 := free_of_heap (o := 1) (two_zero w)
  have z2 := cell_of_heap (o := 2) (two_zero w) rfl
  have zf2 := free_of_heap (o := 2) (two_zero w)
  have z3 := cell_of_heap (o := 3) (two_zero w) rfl
  have zf3 := free_of_heap (o := 3) (two_zero w)
  have z4 := cell_of_heap (o := 4) (two_zero w) rfl
  have zf4 := free_of_heap (o := 4) (two_zero w)
  have z5 := cell_of_heap (o := 5) (two_zero w) rfl
  have zf5 := free_of_heap (o := 5) (two_zero w)
  have ax0 := cell_of_heap (o := 0) F0.a rfl
  have bx0 := cell_of_heap (o := 0) F0.t rfl
  have cx0 := free_of_heap (o := 0) F0.a
  have dx0 := free_of_heap (o := 0) F0.t
  have ax1 := cell_of_heap (o := 1) F0.a rfl
  have bx1 := cell_of_heap (o := 1) F0.t rfl
  have cx1 := free_of_heap (o := 1) F0.a
  have dx1 := free_of_heap (o := 1) F0.t
  have ax2 := cell_of_heap (o := 2) F0.a rfl
  have bx2 := cell_of_heap (o := 2) F0.t rfl
  have cx2 := free_of_heap (o := 2) F0.a
  have dx2 := free_of_heap (o := 2) F0.t
  have ax3 := cell_of_heap (o := 3) F0.a rfl
  have bx3 := cell_of_heap (o := 3) F0.t rfl
  have cx3 := free_of_heap (o := 3) F0.a
  have dx3 := free_of_heap (o := 3) F0.t
  have ax4 := cell_of_heap (o := 4) F0.a rfl
  have bx4 := cell_of_heap (o := 4) F0.t rfl
  have cx4 := free_of_heap (o := 4) F0.a
  have dx4 := free_of_heap (o := 4) F0.t
  have ax5 := cell_of_heap (o := 5) F0.a rfl
  have bx5 := cell_of_heap (o := 5) F0.t rfl
  have cx5 := free_of_heap (o := 5) F0.a
  have dx5 := free_of_heap (o := 5) F0.t
  clear F0 HNUM
  unfold twoW at *
  go_enter Tryd.func44, Tryd.ntmps44
  go_wp2_with fail
  refine bodyPost_ret (v := .tuple #[.agg #[.int .i64 3, .int .i64 0, .int .i64 0, .string ⟨#[]⟩, .bool false, .bool false], .int .i64 0]) (by simp [results, Tryd.results44, go_sem]) rfl ?_
  exact ⟨⟨⟨3, 0, []⟩, 0, rfl, .inl ⟨HO.out, rfl⟩⟩, ((Below.refl _ _).alloc (Nat.le_refl _) _).alloc (by simp) _⟩

set_option maxRecDepth 100000 in
set_option maxHeartbeats 3200000 in
theorem chr_nl (s : ByteArray) (p : Nat) (w : World) (hs : s.size ≤ 3000) (hp : p < s.size) (h48 : ((s[p].toNat : Int) == 48) = true) (hl : p + 1 < s.size) (h39 : ((s[p + 1].toNat : Int) == 39) = true) (h2 : p + 2 < s.size) (hc0 : ((s[p + 2].toNat : Int) == 10) = true) :
    Calls Tryd.prog 44 #[.string s, .int .i64 p] w (AttPost w (numberT (s.data.toList.drop p))) := by
  have hd := drop_at s p hp
  have hd2 := drop_at s (p + 1) hl
  obtain ⟨y, hy⟩ : ∃ y, s[p] = y := ⟨_, rfl⟩
  obtain ⟨x, hx⟩ : ∃ x, s[p + 1] = x := ⟨_, rfl⟩
  rw [hy] at hd h48
  rw [hx] at hd2 h39
  obtain rfl : y = 48 := UInt8.toNat_inj.1 (by have := beq_iff_eq.1 h48; show y.toNat = 48; omega)
  obtain rfl : x = 39 := UInt8.toNat_inj.1 (by have := beq_iff_eq.1 h39; show x.toNat = 39; omega)
  rw [hd2] at hd
  have HNUM := Lib.hid (show numberT (s.data.toList.drop p) = charT (48 :: 39 :: s.data.toList.drop (p + 1 + 1)) by rw [hd]; rfl)
  clear hd hd2 h48 h39
  have hd3 := drop_at s (p + 2) h2
  obtain ⟨c, hc⟩ : ∃ c, s[p + 2] = c := ⟨_, rfl⟩
  rw [hc] at hd3 hc0
  obtain rfl : c = 10 := UInt8.toNat_inj.1 (by have := beq_iff_eq.1 hc0; show c.toNat = 10; omega)
  have HO := Lib.hid (show numberT (s.data.toList.drop p) = none by rw [HNUM.out, show p + 1 + 1 = p + 2 from rfl, hd3]; exact chrT_10 _)
  clear hd3 hc0
  have F0 := two_facts w 0
  have z0 := cell_of_heap (o := 0) (two_zero w) rfl
  have zf0 := free_of_heap (o := 0) (two_zero w)
  have z1 := cell_of_heap (o := 1) (two_zero w) rfl
  have zf1 := free_of_heap (o := 1) (two_zero w)
  have z2 := cell_of_heap (o := 2) (two_zero w) rfl
  have zf2 := free_of_heap (o := 2) (two_zero w)
  have z3 := cell_of_heap (o := 3) (two_zero w) rfl
  have zf3 := free_of_heap (o := 3) (two_zero w)
  have z4 := cell_of_heap (o := 4) (two_zero w) rfl
  have zf4 := free_of_heap (o := 4) (two_zero w)
  have z5 := cell_of_heap (o := 5) (two_zero w) rfl
  have zf5 := free_of_heap (o := 5) (two_zero w)
  have ax0 := cell_of_heap (o := 0) F0.a rfl
  have bx0 := cell_of_heap (o := 0) F0.t rfl
  have cx0 := free_of_heap (o := 0) F0.a
  have dx0 := free_of_heap (o := 0) F0.t
  have ax1 := cell_of_heap (o := 1) F0.a rfl
  have bx1 := cell_of_heap (o := 1) F0.t rfl
  have cx1 := free_of_heap (o := 1) F0.a
  have dx1 := free_of_heap (o := 1) F0.t
  have ax2 := cell_of_heap (o := 2) F0.a rfl
  have bx2 := cell_of_heap (o := 2) F0.t rfl
  have cx2 := free_of_heap (o := 2) F0.a
  have dx2 := free_of_heap (o := 2) F0.t
  have ax3 := cell_of_heap (o := 3) F0.a rfl
  have bx3 := cell_of_heap (o := 3) F0.t rfl
  have cx3 := free_of_heap (o := 3) F0.a
  have dx3 := free_of_heap (o := 3) F0.t
  have ax4 := cell_of_heap (o := 4) F0.a rfl
  have bx4 := cell_of_heap (o := 4) F0.t rfl
  have cx4 := free_of_heap (o := 4) F0.a
  have dx4 := free_of_heap (o := 4) F0.t
  have ax5 := cell_of_heap (o := 5) F0.a rfl
  have bx5 := cell_of_heap (o := 5) F0.t rfl
  have cx5 := free_of_heap (o := 5) F0.a
  have dx5 := free_of_heap (o := 5) F0.t
  clear F0 HNUM
  unfold twoW at *
  go_enter Tryd.func44, Tryd.ntmps44
  go_wp2_with fail
  refine bodyPost_ret (v := .tuple #[.agg #[.int .i64 3, .int .i64 0, .int .i64 0, .string ⟨#[]⟩, .bool false, .bool false], .int .i64 0]) (by simp [results, Tryd.results44, go_sem]) rfl ?_
  exact ⟨⟨⟨3, 0, []⟩, 0, rfl, .inl ⟨HO.out, rfl⟩⟩, ((Below.refl _ _).alloc (Nat.le_refl _) _).alloc (by simp) _⟩

set_option maxRecDepth 100000 in
set_option maxHeartbeats 3200000 in
theorem chr_qEnd (s : ByteArray) (p : Nat) (w : World) (hs : s.size ≤ 3000) (hp : p < s.size) (h48 : ((s[p].toNat : Int) == 48) = true) (hl : p + 1 < s.size) (h39 : ((s[p + 1].toNat : Int) == 39) = true) (h2 : p + 2 < s.size) (hc0 : ((s[p + 2].toNat : Int) == 39) = true) (h3 : ¬ p + 3 < s.size) :
    Calls Tryd.prog 44 #[.string s, .int .i64 p] w (AttPost w (numberT (s.data.toList.drop p))) := by
  have hd := drop_at s p hp
  have hd2 := drop_at s (p + 1) hl
  obtain ⟨y, hy⟩ : ∃ y, s[p] = y := ⟨_, rfl⟩
  obtain ⟨x, hx⟩ : ∃ x, s[p + 1] = x := ⟨_, rfl⟩
  rw [hy] at hd h48
  rw [hx] at hd2 h39
  obtain rfl : y = 48 := UInt8.toNat_inj.1 (by have := beq_iff_eq.1 h48; show y.toNat = 48; omega)
  obtain rfl : x = 39 := UInt8.toNat_inj.1 (by have := beq_iff_eq.1 h39; show x.toNat = 39; omega)
  rw [hd2] at hd
  have HNUM := Lib.hid (show numberT (s.data.toList.drop p) = charT (48 :: 39 :: s.data.toList.drop (p + 1 + 1)) by rw [hd]; rfl)
  clear hd hd2 h48 h39
  have hd3 := drop_at s (p + 2) h2
  obtain ⟨c, hc⟩ : ∃ c, s[p + 2] = c := ⟨_, rfl⟩
  rw [hc] at hd3 hc0
  obtain rfl : c = 39 := UInt8.toNat_inj.1 (by have := beq_iff_eq.1 hc0; show c.toNat = 39; omega)
  have he : s.data.toList.drop (p + 2 + 1) = [] := List.drop_of_length_le (by rw [← Lib.size_eq]; omega)
  rw [he] at hd3
  have HO := Lib.hid (show numberT (s.data.toList.drop p) = none by rw [HNUM.out, show p + 1 + 1 = p + 2 from rfl, hd3]; exact chrT_q _ (.inl rfl))
  clear hd3 hc0 he
  have F0 := two_facts w 0
  have z0 := cell_of_heap (o := 0) (two_zero w) rfl
  have zf0 := free_of_heap (o := 0) (two_zero w)
  have z1 := cell_of_heap (o := 1) (two_zero w) rfl
  have zf1 := free_of_heap (o := 1) (two_zero w)
  have z2 := cell_of_heap (o := 2) (two_zero w) rfl
  have zf2 := free_of_heap (o := 2) (two_zero w)
  have z3 := cell_of_heap (o := 3) (two_zero w) rfl
  have zf3 := free_of_heap (o := 3) (two_zero w)
  have z4 := cell_of_heap (o := 4) (two_zero w) rfl
  have zf4 := free_of_heap (o := 4) (two_zero w)
  have z5 := cell_of_heap (o := 5) (two_zero w) rfl
  have zf5 := free_of_heap (o := 5) (two_zero w)
  have ax0 := cell_of_heap (o := 0) F0.a rfl
  have bx0 := cell_of_heap (o := 0) F0.t rfl
  have cx0 := free_of_heap (o := 0) F0.a
  have dx0 := free_of_heap (o := 0) F0.t
  have ax1 := cell_of_heap (o := 1) F0.a rfl
  have bx1 := cell_of_heap (o := 1) F0.t rfl
  have cx1 := free_of_heap (o := 1) F0.a
  have dx1 := free_of_heap (o := 1) F0.t
  have ax2 := cell_of_heap (o := 2) F0.a rfl
  have bx2 := cell_of_heap (o := 2) F0.t rfl
  have cx2 := free_of_heap (o := 2) F0.a
  have dx2 := free_of_heap (o := 2) F0.t
  have ax3 := cell_of_heap (o := 3) F0.a rfl
  have bx3 := cell_of_heap (o := 3) F0.t rfl
  have cx3 := free_of_heap (o := 3) F0.a
  have dx3 := free_of_heap (o := 3) F0.t
  have ax4 := cell_of_heap (o := 4) F0.a rfl
  have bx4 := cell_of_heap (o := 4) F0.t rfl
  have cx4 := free_of_heap (o := 4) F0.a
  have dx4 := free_of_heap (o := 4) F0.t
  have ax5 := cell_of_heap (o := 5) F0.a rfl
  have bx5 := cell_of_heap (o := 5) F0.t rfl
  have cx5 := free_of_heap (o := 5) F0.a
  have dx5 := free_of_heap (o := 5) F0.t
  have FN := two_facts w 39
  have an0 := cell_of_heap (o := 0) FN.a rfl
  have bn0 := cell_of_heap (o := 0) FN.t rfl
  have cn0 := free_of_heap (o := 0) FN.a
  have dn0 := free_of_heap (o := 0) FN.t
  have an1 := cell_of_heap (o := 1) FN.a rfl
  have bn1 := cell_of_heap (o := 1) FN.t rfl
  have cn1 := free_of_heap (o := 1) FN.a
  have dn1 := free_of_heap (o := 1) FN.t
  have an2 := cell_of_heap (o := 2) FN.a rfl
  have bn2 := cell_of_heap (o := 2) FN.t rfl
  have cn2 := free_of_heap (o := 2) FN.a
  have dn2 := free_of_heap (o := 2) FN.t
  have an3 := cell_of_heap (o := 3) FN.a rfl
  have bn3 := cell_of_heap (o := 3) FN.t rfl
  have cn3 := free_of_heap (o := 3) FN.a
  have dn3 := free_of_heap (o := 3) FN.t
  have an4 := cell_of_heap (o := 4) FN.a rfl
  have bn4 := cell_of_heap (o := 4) FN.t rfl
  have cn4 := free_of_heap (o := 4) FN.a
  have dn4 := free_of_heap (o := 4) FN.t
  have an5 := cell_of_heap (o := 5) FN.a rfl
  have bn5 := cell_of_heap (o := 5) FN.t rfl
  have cn5 := free_of_heap (o := 5) FN.a
  have dn5 := free_of_heap (o := 5) FN.t
  clear F0 FN HNUM
  unfold twoW at *
  go_enter Tryd.func44, Tryd.ntmps44
  go_wp2_with fail
  refine bodyPost_ret (v := .tuple #[.agg #[.int .i64 3, .int .i64 0, .int .i64 39, .string ⟨#[]⟩, .bool false, .bool false], .int .i64 0]) (by simp [results, Tryd.results44, go_sem]) rfl ?_
  exact ⟨⟨⟨3, 39, []⟩, 0, rfl, .inl ⟨HO.out, rfl⟩⟩, ((Below.refl _ _).alloc (Nat.le_refl _) _).alloc (by simp) _⟩

set_option maxRecDepth 100000 in
set_option maxHeartbeats 3200000 in
theorem chr_qNo (s : ByteArray) (p : Nat) (w : World) (hs : s.size ≤ 3000) (hp : p < s.size) (h48 : ((s[p].toNat : Int) == 48) = true) (hl : p + 1 < s.size) (h39 : ((s[p + 1].toNat : Int) == 39) = true) (h2 : p + 2 < s.size) (hc0 : ((s[p + 2].toNat : Int) == 39) = true) (h3 : p + 3 < s.size) (hv0 : ((s[p + 3].toNat : Int) == 39) = false) :
    Calls Tryd.prog 44 #[.string s, .int .i64 p] w (AttPost w (numberT (s.data.toList.drop p))) := by
  have hd := drop_at s p hp
  have hd2 := drop_at s (p + 1) hl
  obtain ⟨y, hy⟩ : ∃ y, s[p] = y := ⟨_, rfl⟩
  obtain ⟨x, hx⟩ : ∃ x, s[p + 1] = x := ⟨_, rfl⟩
  rw [hy] at hd h48
  rw [hx] at hd2 h39
  obtain rfl : y = 48 := UInt8.toNat_inj.1 (by have := beq_iff_eq.1 h48; show y.toNat = 48; omega)
  obtain rfl : x = 39 := UInt8.toNat_inj.1 (by have := beq_iff_eq.1 h39; show x.toNat = 39; omega)
  rw [hd2] at hd
  have HNUM := Lib.hid (show numberT (s.data.toList.drop p) = charT (48 :: 39 :: s.data.toList.drop (p + 1 + 1)) by rw [hd]; rfl)
  clear hd hd2 h48 h39
  have hd3 := drop_at s (p + 2) h2
  obtain ⟨c, hc⟩ : ∃ c, s[p + 2] = c := ⟨_, rfl⟩
  rw [hc] at hd3 hc0
  obtain rfl : c = 39 := UInt8.toNat_inj.1 (by have := beq_iff_eq.1 hc0; show c.toNat = 39; omega)
  have hd4 := drop_at s (p + 3) h3
  obtain ⟨v, hv⟩ : ∃ v, s[p + 3] = v := ⟨_, rfl⟩
  rw [hv] at hd4 hv0
  have HO := Lib.hid (show numberT (s.data.toList.drop p) = none by
    rw [HNUM.out, show p + 1 + 1 = p + 2 from rfl, hd3, show p + 2 + 1 = p + 3 from rfl, hd4, chrT_39, if_neg (fun e => by rw [e] at hv0; cases hv0)])
  clear hd3 hc0 hd4
  have F0 := two_facts w 0
  have z0 := cell_of_heap (o := 0) (two_zero w) rfl
  have zf0 := free_of_heap (o := 0) (two_zero w)
  have z1 := cell_of_heap (o := 1) (two_zero w) rfl
  have zf1 := free_of_heap (o := 1) (two_zero w)
  have z2 := cell_of_heap (o := 2) (two_zero w) rfl
  have zf2 := free_of_heap (o := 2) (two_zero w)
  have z3 := cell_of_heap (o := 3) (two_zero w) rfl
  have zf3 := free_of_heap (o := 3) (two_zero w)
  have z4 := cell_of_heap (o := 4) (two_zero w) rfl
  have zf4 := free_of_heap (o := 4) (two_zero w)
  have z5 := cell_of_heap (o := 5) (two_zero w) rfl
  have zf5 := free_of_heap (o := 5) (two_zero w)
  have ax0 := cell_of_heap (o := 0) F0.a rfl
  have bx0 := cell_of_heap (o := 0) F0.t rfl
  have cx0 := free_of_heap (o := 0) F0.a
  have dx0 := free_of_heap (o := 0) F0.t
  have ax1 := cell_of_heap (o := 1) F0.a rfl
  have bx1 := cell_of_heap (o := 1) F0.t rfl
  have cx1 := free_of_heap (o := 1) F0.a
  have dx1 := free_of_heap (o := 1) F0.t
  have ax2 := cell_of_heap (o := 2) F0.a rfl
  have bx2 := cell_of_heap (o := 2) F0.t rfl
  have cx2 := free_of_heap (o := 2) F0.a
  have dx2 := free_of_heap (o := 2) F0.t
  have ax3 := cell_of_heap (o := 3) F0.a rfl
  have bx3 := cell_of_heap (o := 3) F0.t rfl
  have cx3 := free_of_heap (o := 3) F0.a
  have dx3 := free_of_heap (o := 3) F0.t
  have ax4 := cell_of_heap (o := 4) F0.a rfl
  have bx4 := cell_of_heap (o := 4) F0.t rfl
  have cx4 := free_of_heap (o := 4) F0.a
  have dx4 := free_of_heap (o := 4) F0.t
  have ax5 := cell_of_heap (o := 5) F0.a rfl
  have bx5 := cell_of_heap (o := 5) F0.t rfl
  have cx5 := free_of_heap (o := 5) F0.a
  have dx5 := free_of_heap (o := 5) F0.t
  have FN := two_facts w 39
  have an0 := cell_of_heap (o := 0) FN.a rfl
  have bn0 := cell_of_heap (o := 0) FN.t rfl
  have cn0 := free_of_heap (o := 0) FN.a
  have dn0 := free_of_heap (o := 0) FN.t
  have an1 := cell_of_heap (o := 1) FN.a rfl
  have bn1 := cell_of_heap (o := 1) FN.t rfl
  have cn1 := free_of_heap (o := 1) FN.a
  have dn1 := free_of_heap (o := 1) FN.t
  have an2 := cell_of_heap (o := 2) FN.a rfl
  have bn2 := cell_of_heap (o := 2) FN.t rfl
  have cn2 := free_of_heap (o := 2) FN.a
  have dn2 := free_of_heap (o := 2) FN.t
  have an3 := cell_of_heap (o := 3) FN.a rfl
  have bn3 := cell_of_heap (o := 3) FN.t rfl
  have cn3 := free_of_heap (o := 3) FN.a
  have dn3 := free_of_heap (o := 3) FN.t
  have an4 := cell_of_heap (o := 4) FN.a rfl
  have bn4 := cell_of_heap (o := 4) FN.t rfl
  have cn4 := free_of_heap (o := 4) FN.a
  have dn4 := free_of_heap (o := 4) FN.t
  have an5 := cell_of_heap (o := 5) FN.a rfl
  have bn5 := cell_of_heap (o := 5) FN.t rfl
  have cn5 := free_of_heap (o := 5) FN.a
  have dn5 := free_of_heap (o := 5) FN.t
  clear F0 FN HNUM
  unfold twoW at *
  go_enter Tryd.func44, Tryd.ntmps44
  go_wp2_with fail
  refine bodyPost_ret (v := .tuple #[.agg #[.int .i64 3, .int .i64 0, .int .i64 39, .string ⟨#[]⟩, .bool false, .bool false], .int .i64 0]) (by simp [results, Tryd.results44, go_sem]) rfl ?_
  exact ⟨⟨⟨3, 39, []⟩, 0, rfl, .inl ⟨HO.out, rfl⟩⟩, ((Below.refl _ _).alloc (Nat.le_refl _) _).alloc (by simp) _⟩

set_option maxRecDepth 100000 in
set_option maxHeartbeats 3200000 in
theorem chr_qYes (s : ByteArray) (p : Nat) (w : World) (hs : s.size ≤ 3000) (hp : p < s.size) (h48 : ((s[p].toNat : Int) == 48) = true) (hl : p + 1 < s.size) (h39 : ((s[p + 1].toNat : Int) == 39) = true) (h2 : p + 2 < s.size) (hc0 : ((s[p + 2].toNat : Int) == 39) = true) (h3 : p + 3 < s.size) (hv0 : ((s[p + 3].toNat : Int) == 39) = true) :
    Calls Tryd.prog 44 #[.string s, .int .i64 p] w (AttPost w (numberT (s.data.toList.drop p))) := by
  have hd := drop_at s p hp
  have hd2 := drop_at s (p + 1) hl
  obtain ⟨y, hy⟩ : ∃ y, s[p] = y := ⟨_, rfl⟩
  obtain ⟨x, hx⟩ : ∃ x, s[p + 1] = x := ⟨_, rfl⟩
  rw [hy] at hd h48
  rw [hx] at hd2 h39
  obtain rfl : y = 48 := UInt8.toNat_inj.1 (by have := beq_iff_eq.1 h48; show y.toNat = 48; omega)
  obtain rfl : x = 39 := UInt8.toNat_inj.1 (by have := beq_iff_eq.1 h39; show x.toNat = 39; omega)
  rw [hd2] at hd
  have HNUM := Lib.hid (show numberT (s.data.toList.drop p) = charT (48 :: 39 :: s.data.toList.drop (p + 1 + 1)) by rw [hd]; rfl)
  clear hd hd2 h48 h39
  have hd3 := drop_at s (p + 2) h2
  obtain ⟨c, hc⟩ : ∃ c, s[p + 2] = c := ⟨_, rfl⟩
  rw [hc] at hd3 hc0
  obtain rfl : c = 39 := UInt8.toNat_inj.1 (by have := beq_iff_eq.1 hc0; show c.toNat = 39; omega)
  have hd4 := drop_at s (p + 3) h3
  obtain ⟨v, hv⟩ : ∃ v, s[p + 3] = v := ⟨_, rfl⟩
  rw [hv] at hd4 hv0
  obtain rfl : v = 39 := UInt8.toNat_inj.1 (by have := beq_iff_eq.1 hv0; show v.toNat = 39; omega)
  have HO := Lib.hid (show numberT (s.data.toList.drop p) = some (⟨3, 39, []⟩, 4) by
    rw [HNUM.out, show p + 1 + 1 = p + 2 from rfl, hd3, show p + 2 + 1 = p + 3 from rfl, hd4, chrT_39, if_pos rfl])
  clear hd3 hc0 hd4 hv0
  have F0 := two_facts w 0
  have z0 := cell_of_heap (o := 0) (two_zero w) rfl
  have zf0 := free_of_heap (o := 0) (two_zero w)
  have z1 := cell_of_heap (o := 1) (two_zero w) rfl
  have zf1 := free_of_heap (o := 1) (two_zero w)
  have z2 := cell_of_heap (o := 2) (two_zero w) rfl
  have zf2 := free_of_heap (o := 2) (two_zero w)
  have z3 := cell_of_heap (o := 3) (two_zero w) rfl
  have zf3 := free_of_heap (o := 3) (two_zero w)
  have z4 := cell_of_heap (o := 4) (two_zero w) rfl
  have zf4 := free_of_heap (o := 4) (two_zero w)
  have z5 := cell_of_heap (o := 5) (two_zero w) rfl
  have zf5 := free_of_heap (o := 5) (two_zero w)
  have ax0 := cell_of_heap (o := 0) F0.a rfl
  have bx0 := cell_of_heap (o := 0) F0.t rfl
  have cx0 := free_of_heap (o := 0) F0.a
  have dx0 := free_of_heap (o := 0) F0.t
  have ax1 := cell_of_heap (o := 1) F0.a rfl
  have bx1 := cell_of_heap (o := 1) F0.t rfl
  have cx1 := free_of_heap (o := 1) F0.a
  have dx1 := free_of_heap (o := 1) F0.t
  have ax2 := cell_of_heap (o := 2) F0.a rfl
  have bx2 := cell_of_heap (o := 2) F0.t rfl
  have cx2 := free_of_heap (o := 2) F0.a
  have dx2 := free_of_heap (o := 2) F0.t
  have ax3 := cell_of_heap (o := 3) F0.a rfl
  have bx3 := cell_of_heap (o := 3) F0.t rfl
  have cx3 := free_of_heap (o := 3) F0.a
  have dx3 := free_of_heap (o := 3) F0.t
  have ax4 := cell_of_heap (o := 4) F0.a rfl
  have bx4 := cell_of_heap (o := 4) F0.t rfl
  have cx4 := free_of_heap (o := 4) F0.a
  have dx4 := free_of_heap (o := 4) F0.t
  have ax5 := cell_of_heap (o := 5) F0.a rfl
  have bx5 := cell_of_heap (o := 5) F0.t rfl
  have cx5 := free_of_heap (o := 5) F0.a
  have dx5 := free_of_heap (o := 5) F0.t
  have FN := two_facts w 39
  have an0 := cell_of_heap (o := 0) FN.a rfl
  have bn0 := cell_of_heap (o := 0) FN.t rfl
  have cn0 := free_of_heap (o := 0) FN.a
  have dn0 := free_of_heap (o := 0) FN.t
  have an1 := cell_of_heap (o := 1) FN.a rfl
  have bn1 := cell_of_heap (o := 1) FN.t rfl
  have cn1 := free_of_heap (o := 1) FN.a
  have dn1 := free_of_heap (o := 1) FN.t
  have an2 := cell_of_heap (o := 2) FN.a rfl
  have bn2 := cell_of_heap (o := 2) FN.t rfl
  have cn2 := free_of_heap (o := 2) FN.a
  have dn2 := free_of_heap (o := 2) FN.t
  have an3 := cell_of_heap (o := 3) FN.a rfl
  have bn3 := cell_of_heap (o := 3) FN.t rfl
  have cn3 := free_of_heap (o := 3) FN.a
  have dn3 := free_of_heap (o := 3) FN.t
  have an4 := cell_of_heap (o := 4) FN.a rfl
  have bn4 := cell_of_heap (o := 4) FN.t rfl
  have cn4 := free_of_heap (o := 4) FN.a
  have dn4 := free_of_heap (o := 4) FN.t
  have an5 := cell_of_heap (o := 5) FN.a rfl
  have bn5 := cell_of_heap (o := 5) FN.t rfl
  have cn5 := free_of_heap (o := 5) FN.a
  have dn5 := free_of_heap (o := 5) FN.t
  clear F0 FN HNUM
  unfold twoW at *
  go_enter Tryd.func44, Tryd.ntmps44
  go_wp2_with fail
  refine bodyPost_ret (v := .tuple #[.agg #[.int .i64 3, .int .i64 0, .int .i64 39, .string ⟨#[]⟩, .bool false, .bool false], .int .i64 4]) (by simp [results, Tryd.results44, go_sem]) rfl ?_
  exact ⟨⟨⟨3, 39, []⟩, 4, rfl, .inr ⟨HO.out, by omega⟩⟩, ((Below.refl _ _).alloc (Nat.le_refl _) _).alloc (by simp) _⟩

set_option maxRecDepth 100000 in
set_option maxHeartbeats 3200000 in
theorem chr_bEnd (s : ByteArray) (p : Nat) (w : World) (hs : s.size ≤ 3000) (hp : p < s.size) (h48 : ((s[p].toNat : Int) == 48) = true) (hl : p + 1 < s.size) (h39 : ((s[p + 1].toNat : Int) == 39) = true) (h2 : p + 2 < s.size) (hc0 : ((s[p + 2].toNat : Int) == 92) = true) (h3 : ¬ p + 3 < s.size) :
    Calls Tryd.prog 44 #[.string s, .int .i64 p] w (AttPost w (numberT (s.data.toList.drop p))) := by
  have hd := drop_at s p hp
  have hd2 := drop_at s (p + 1) hl
  obtain ⟨y, hy⟩ : ∃ y, s[p] = y := ⟨_, rfl⟩
  obtain ⟨x, hx⟩ : ∃ x, s[p + 1] = x := ⟨_, rfl⟩
  rw [hy] at hd h48
  rw [hx] at hd2 h39
  obtain rfl : y = 48 := UInt8.toNat_inj.1 (by have := beq_iff_eq.1 h48; show y.toNat = 48; omega)
  obtain rfl : x = 39 := UInt8.toNat_inj.1 (by have := beq_iff_eq.1 h39; show x.toNat = 39; omega)
  rw [hd2] at hd
  have HNUM := Lib.hid (show numberT (s.data.toList.drop p) = charT (48 :: 39 :: s.data.toList.drop (p + 1 + 1)) by rw [hd]; rfl)
  clear hd hd2 h48 h39
  have hd3 := drop_at s (p + 2) h2
  obtain ⟨c, hc⟩ : ∃ c, s[p + 2] = c := ⟨_, rfl⟩
  rw [hc] at hd3 hc0
  obtain rfl : c = 92 := UInt8.toNat_inj.1 (by have := beq_iff_eq.1 hc0; show c.toNat = 92; omega)
  have he : s.data.toList.drop (p + 2 + 1) = [] := List.drop_of_length_le (by rw [← Lib.size_eq]; omega)
  rw [he] at hd3
  have HO := Lib.hid (show numberT (s.data.toList.drop p) = none by rw [HNUM.out, show p + 1 + 1 = p + 2 from rfl, hd3]; exact chrT_q _ (.inr rfl))
  clear hd3 hc0 he
  have F0 := two_facts w 0
  have z0 := cell_of_heap (o := 0) (two_zero w) rfl
  have zf0 := free_of_heap (o := 0) (two_zero w)
  have z1 := cell_of_heap (o := 1) (two_zero w) rfl
  have zf1 := free_of_heap (o := 1) (two_zero w)
  have z2 := cell_of_heap (o := 2) (two_zero w) rfl
  have zf2 := free_of_heap (o := 2) (two_zero w)
  have z3 := cell_of_heap (o := 3) (two_zero w) rfl
  have zf3 := free_of_heap (o := 3) (two_zero w)
  have z4 := cell_of_heap (o := 4) (two_zero w) rfl
  have zf4 := free_of_heap (o := 4) (two_zero w)
  have z5 := cell_of_heap (o := 5) (two_zero w) rfl
  have zf5 := free_of_heap (o := 5) (two_zero w)
  have ax0 := cell_of_heap (o := 0) F0.a rfl
  have bx0 := cell_of_heap (o := 0) F0.t rfl
  have cx0 := free_of_heap (o := 0) F0.a
  have dx0 := free_of_heap (o := 0) F0.t
  have ax1 := cell_of_heap (o := 1) F0.a rfl
  have bx1 := cell_of_heap (o := 1) F0.t rfl
  have cx1 := free_of_heap (o := 1) F0.a
  have dx1 := free_of_heap (o := 1) F0.t
  have ax2 := cell_of_heap (o := 2) F0.a rfl
  have bx2 := cell_of_heap (o := 2) F0.t rfl
  have cx2 := free_of_heap (o := 2) F0.a
  have dx2 := free_of_heap (o := 2) F0.t
  have ax3 := cell_of_heap (o := 3) F0.a rfl
  have bx3 := cell_of_heap (o := 3) F0.t rfl
  have cx3 := free_of_heap (o := 3) F0.a
  have dx3 := free_of_heap (o := 3) F0.t
  have ax4 := cell_of_heap (o := 4) F0.a rfl
  have bx4 := cell_of_heap (o := 4) F0.t rfl
  have cx4 := free_of_heap (o := 4) F0.a
  have dx4 := free_of_heap (o := 4) F0.t
  have ax5 := cell_of_heap (o := 5) F0.a rfl
  have bx5 := cell_of_heap (o := 5) F0.t rfl
  have cx5 := free_of_heap (o := 5) F0.a
  have dx5 := free_of_heap (o := 5) F0.t
  clear F0 HNUM
  unfold twoW at *
  go_enter Tryd.func44, Tryd.ntmps44
  go_wp2_with fail
  refine bodyPost_ret (v := .tuple #[.agg #[.int .i64 3, .int .i64 0, .int .i64 0, .string ⟨#[]⟩, .bool false, .bool false], .int .i64 0]) (by simp [results, Tryd.results44, go_sem]) rfl ?_
  exact ⟨⟨⟨3, 0, []⟩, 0, rfl, .inl ⟨HO.out, rfl⟩⟩, ((Below.refl _ _).alloc (Nat.le_refl _) _).alloc (by simp) _⟩

set_option maxRecDepth 100000 in
set_option maxHeartbeats 3200000 in
theorem chr_else_is (s : ByteArray) (p : Nat) (w : World) (hs : s.size ≤ 3000) (hp : p < s.size) (h48 : ((s[p].toNat : Int) == 48) = true) (hl : p + 1 < s.size) (h39 : ((s[p + 1].toNat : Int) == 39) = true) (h2 : p + 2 < s.size) (c1 : ((s[p + 2].toNat : Int) == 39) = false) (c2 : ((s[p + 2].toNat : Int) == 92) = false) (c3 : ((s[p + 2].toNat : Int) == 10) = false) :
    Calls Tryd.prog 44 #[.string s, .int .i64 p] w (AttPost w (numberT (s.data.toList.drop p))) := by
  have hd := drop_at s p hp
  have hd2 := drop_at s (p + 1) hl
  obtain ⟨y, hy⟩ : ∃ y, s[p] = y := ⟨_, rfl⟩
  obtain ⟨x, hx⟩ : ∃ x, s[p + 1] = x := ⟨_, rfl⟩
  rw [hy] at hd h48
  rw [hx] at hd2 h39
  obtain rfl : y = 48 := UInt8.toNat_inj.1 (by have := beq_iff_eq.1 h48; show y.toNat = 48; omega)
  obtain rfl : x = 39 := UInt8.toNat_inj.1 (by have := beq_iff_eq.1 h39; show x.toNat = 39; omega)
  rw [hd2] at hd
  have HNUM := Lib.hid (show numberT (s.data.toList.drop p) = charT (48 :: 39 :: s.data.toList.drop (p + 1 + 1)) by rw [hd]; rfl)
  clear hd hd2 h48 h39
  have hd3 := drop_at s (p + 2) h2
  obtain ⟨c, hc⟩ : ∃ c, s[p + 2] = c := ⟨_, rfl⟩
  rw [hc] at hd3 c1 c2 c3
  have ne : ∀ k : UInt8, ((c.toNat : Int) == (k.toNat : Int)) = false → c ≠ k := fun k h e => by rw [e] at h; simp at h
  have HO := Lib.hid (show numberT (s.data.toList.drop p) = some (⟨3, (c.toNat : Int), []⟩, 3) by rw [HNUM.out, show p + 1 + 1 = p + 2 from rfl, hd3]; exact chrT_else _ (ne 39 c1) (ne 92 c2) (ne 10 c3))
  have wr : wrap64 (c.toNat : Int) = (c.toNat : Int) := IntWalk.wrap64_in _ (by have := c.toNat_lt; omega)
  clear hd3 ne
  have F0 := two_facts w 0
  have z0 := cell_of_heap (o := 0) (two_zero w) rfl
  have zf0 := free_of_heap (o := 0) (two_zero w)
  have z1 := cell_of_heap (o := 1) (two_zero w) rfl
  have zf1 := free_of_heap (o := 1) (two_zero w)
  have z2 := cell_of_heap (o := 2) (two_zero w) rfl
  have zf2 := free_of_heap (o := 2) (two_zero w)
  have z3 := cell_of_heap (o := 3) (two_zero w) rfl
  have zf3 := free_of_heap (o := 3) (two_zero w)
  have z4 := cell_of_heap (o := 4) (two_zero w) rfl
  have zf4 := free_of_heap (o := 4) (two_zero w)
  have z5 := cell_of_heap (o := 5) (two_zero w) rfl
  have zf5 := free_of_heap (o := 5) (two_zero w)
  have ax0 := cell_of_heap (o := 0) F0.a rfl
  have bx0 := cell_of_heap (o := 0) F0.t rfl
  have cx0 := free_of_heap (o := 0) F0.a
  have dx0 := free_of_heap (o := 0) F0.t
  have ax1 := cell_of_heap (o := 1) F0.a rfl
  have bx1 := cell_of_heap (o := 1) F0.t rfl
  have cx1 := free_of_heap (o := 1) F0.a
  have dx1 := free_of_heap (o := 1) F0.t
  have ax2 := cell_of_heap (o := 2) F0.a rfl
  have bx2 := cell_of_heap (o := 2) F0.t rfl
  have cx2 := free_of_heap (o := 2) F0.a
  have dx2 := free_of_heap (o := 2) F0.t
  have ax3 := cell_of_heap (o := 3) F0.a rfl
  have bx3 := cell_of_heap (o := 3) F0.t rfl
  have cx3 := free_of_heap (o := 3) F0.a
  have dx3 := free_of_heap (o := 3) F0.t
  have ax4 := cell_of_heap (o := 4) F0.a rfl
  have bx4 := cell_of_heap (o := 4) F0.t rfl
  have cx4 := free_of_heap (o := 4) F0.a
  have dx4 := free_of_heap (o := 4) F0.t
  have ax5 := cell_of_heap (o := 5) F0.a rfl
  have bx5 := cell_of_heap (o := 5) F0.t rfl
  have cx5 := free_of_heap (o := 5) F0.a
  have dx5 := free_of_heap (o := 5) F0.t
  have FN := two_facts w c.toNat
  have an0 := cell_of_heap (o := 0) FN.a rfl
  have bn0 := cell_of_heap (o := 0) FN.t rfl
  have cn0 := free_of_heap (o := 0) FN.a
  have dn0 := free_of_heap (o := 0) FN.t
  have an1 := cell_of_heap (o := 1) FN.a rfl
  have bn1 := cell_of_heap (o := 1) FN.t rfl
  have cn1 := free_of_heap (o := 1) FN.a
  have dn1 := free_of_heap (o := 1) FN.t
  have an2 := cell_of_heap (o := 2) FN.a rfl
  have bn2 := cell_of_heap (o := 2) FN.t rfl
  have cn2 := free_of_heap (o := 2) FN.a
  have dn2 := free_of_heap (o := 2) FN.t
  have an3 := cell_of_heap (o := 3) FN.a rfl
  have bn3 := cell_of_heap (o := 3) FN.t rfl
  have cn3 := free_of_heap (o := 3) FN.a
  have dn3 := free_of_heap (o := 3) FN.t
  have an4 := cell_of_heap (o := 4) FN.a rfl
  have bn4 := cell_of_heap (o := 4) FN.t rfl
  have cn4 := free_of_heap (o := 4) FN.a
  have dn4 := free_of_heap (o := 4) FN.t
  have an5 := cell_of_heap (o := 5) FN.a rfl
  have bn5 := cell_of_heap (o := 5) FN.t rfl
  have cn5 := free_of_heap (o := 5) FN.a
  have dn5 := free_of_heap (o := 5) FN.t
  clear F0 FN HNUM
  unfold twoW at *
  go_enter Tryd.func44, Tryd.ntmps44
  go_wp2_with fail
  refine bodyPost_ret (v := .tuple #[.agg #[.int .i64 3, .int .i64 0, .int .i64 c.toNat, .string ⟨#[]⟩, .bool false, .bool false], .int .i64 3]) (by simp [results, Tryd.results44, go_sem]) rfl ?_
  exact ⟨⟨⟨3, c.toNat, []⟩, 3, rfl, .inr ⟨HO.out, by omega⟩⟩, ((Below.refl _ _).alloc (Nat.le_refl _) _).alloc (by simp) _⟩

end Go.Proofs.YtkbeaddbnnboaaaDoor
