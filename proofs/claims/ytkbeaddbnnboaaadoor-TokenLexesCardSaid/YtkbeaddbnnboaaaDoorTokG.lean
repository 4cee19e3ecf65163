/- Package token's character, number and the attempts that only call one: contracts. Conditions: the place stands in memory; its text has one to 5000 bytes; the library's variables hold what their text lays. -/
import Derived.Test.YtkbeaddbnnboaaaDoorTokF
namespace Go.Proofs.YtkbeaddbnnboaaaDoor
open Go Go.RowKit Go.Maps

def charO (z : Nat) : Option (List UInt8 × Nat) → Option (Tk × Nat)
  | some ([c], _) => some (⟨3, (c.toNat : Int), []⟩, 2 + z)
  | _ => none
theorem charT_o (l : List UInt8) : charT l = if (l.drop 2).length < charZ (l.drop 2) then none else charO (charZ (l.drop 2)) (getL 39 ((l.drop 2).take (charZ (l.drop 2)) ++ [39])) := rfl
set_option maxRecDepth 100000 in
set_option maxHeartbeats 1600000 in
theorem char_is (p : Nat) (s : ByteArray) (n : Int) (w : World) (h : PL w p s n) (hs : s.size ≤ 5000) (h2 : 2 ≤ s.size) (ht : Tab w) :
    Calls Tryd.prog 54 #[.pointer (some ⟨p, 0, none⟩)] w (AttPost w (charT s.data.toList)) := by
  have hb0 : Below w.heap.size w (w.alloc (.cells zero6 30)) := (Below.refl _ _).alloc (Nat.le_refl _) _
  obtain ⟨c0, _, _, _⟩ := (h.on hb0).cells
  have six : Six (w.alloc (.cells zero6 30)) w.heap.size := ⟨new_at _ _ rfl⟩
  obtain ⟨d0, d1, d2, d3, d4, d5, z0, z1, z2, z3, z4, z5⟩ := six.facts
  have SIX := Lib.hid six
  have HB0 := Lib.hid hb0
  have hl : (s.extract 2 s.size).data.toList = s.data.toList.drop 2 := by rw [Lib.extract_data, List.take_of_length_le (by rw [List.length_drop, Lib.size_eq]; omega)]
  have hsz : (s.extract 2 s.size).size = s.size - 2 := by rw [Lib.size_eq, hl, List.length_drop, ← Lib.size_eq]
  obtain ⟨S, hS⟩ : ∃ S, s.extract 2 s.size = S := ⟨_, rfl⟩
  rw [hS] at hl hsz
  have P1 := Lib.hid (fun w => Tryd.strings_HasPrefix S ⟨#[39]⟩ w)
  have P2 := Lib.hid (fun w => Tryd.strings_HasPrefix S ⟨#[92]⟩ w)
  obtain ⟨b1, hb1⟩ : ∃ b, Lib.hasPrefix S.data.toList (ByteArray.mk #[39]).data.toList = b := ⟨_, rfl⟩
  obtain ⟨b2, hb2⟩ : ∃ b, Lib.hasPrefix S.data.toList (ByteArray.mk #[92]).data.toList = b := ⟨_, rfl⟩
  rw [hb1] at P1
  rw [hb2] at P2
  obtain ⟨z, hz⟩ : ∃ z : Nat, z = if b1 = true then 2 else if b2 = true then 2 else 1 := ⟨_, rfl⟩
  have hzb : 1 ≤ z ∧ z ≤ 2 := by rw [hz]; cases b1 <;> cases b2 <;> simp
  have hcz : charZ (s.data.toList.drop 2) = z := by
    rw [hz, ← hb1, ← hb2, ← hl]
    rfl
  have HCZ := Lib.hid hcz
  have HL := Lib.hid hl
  have HS := Lib.hid hS
  have HT := Lib.hid (ht.on hb0)
  clear h hb0 six hl hb1 hb2 hcz ht
  unfold zero6 at *
  by_cases hlt : S.size < z
  · have HO := Lib.hid (show charT s.data.toList = none by rw [charT_o, HCZ.out, if_pos (by rw [← HL.out, ← Lib.size_eq]; exact hlt)])
    clear HT
    cases b1
    · cases b2
      · have hz1 : z = 1 := hz
        subst hz1
        clear hz
        go_enter Tryd.func54, Tryd.ntmps54
        go_wp2_with (first | (go_at_call_of 19 (Value.string S); first | (refine (P1.out _).mono ?_; rintro e w' ⟨rfl, rfl⟩) | (refine (P2.out _).mono ?_; rintro e w' ⟨rfl, rfl⟩)))
        refine bodyPost_ret (v := no6) (by simp [results, Tryd.results54, go_sem, d0, d1, d2, d3, d4, d5]) rfl ?_
        exact .no HO.out HB0.out
      · have hz1 : z = 2 := hz
        subst hz1
        clear hz
        go_enter Tryd.func54, Tryd.ntmps54
        go_wp2_with (first | (go_at_call_of 19 (Value.string S); first | (refine (P1.out _).mono ?_; rintro e w' ⟨rfl, rfl⟩) | (refine (P2.out _).mono ?_; rintro e w' ⟨rfl, rfl⟩)))
        refine bodyPost_ret (v := no6) (by simp [results, Tryd.results54, go_sem, d0, d1, d2, d3, d4, d5]) rfl ?_
        exact .no HO.out HB0.out
    · have hz1 : z = 2 := hz
      subst hz1
      clear hz P2
      go_enter Tryd.func54, Tryd.ntmps54
      go_wp2_with (first | (go_at_call_of 19 (Value.string S); first | (refine (P1.out _).mono ?_; rintro e w' ⟨rfl, rfl⟩) | (refine (P2.out _).mono ?_; rintro e w' ⟨rfl, rfl⟩)))
      refine bodyPost_ret (v := no6) (by simp [results, Tryd.results54, go_sem, d0, d1, d2, d3, d4, d5]) rfl ?_
      exact .no HO.out HB0.out
  have hg : (S.extract 0 z ++ ⟨#[39]⟩).data.toList = (s.data.toList.drop 2).take z ++ [39] := by
    rw [ByteArray.data_append, Array.toList_append, Lib.extract_data, List.drop_zero, Nat.sub_zero, HL.out]
  have G := Lib.hid (get_is (S.extract 0 z ++ ⟨#[39]⟩) 39 _ (by rw [Lib.size_eq, hg, List.length_append, List.length_take]; simp; omega) HT.out)
  rw [hg] at G
  obtain ⟨o, ho⟩ : ∃ o, getL 39 ((s.data.toList.drop 2).take z ++ [39]) = o := ⟨_, rfl⟩
  rw [ho] at G
  have HC := Lib.hid (show charT s.data.toList = charO z o by rw [charT_o, HCZ.out, if_neg (by rw [← HL.out, ← Lib.size_eq]; exact hlt), ho])
  clear ho hg HT
  rcases o with _ | ⟨b, m⟩
  · have HO := Lib.hid (show charT s.data.toList = none from HC.out)
    clear HC
    cases b1
    · cases b2
      · have hz1 : z = 1 := hz
        subst hz1
        clear hz
        go_enter Tryd.func54, Tryd.ntmps54
        go_wp2_with (first | (go_at_call_of 19 (Value.string S); first | (refine (P1.out _).mono ?_; rintro e w' ⟨rfl, rfl⟩) | (refine (P2.out _).mono ?_; rintro e w' ⟨rfl, rfl⟩)))
        refine G.out.mono ?_
        rintro e w5 ⟨rfl, b5⟩
        have S5 := SIX.out.on b5
        obtain ⟨d0, d1, d2, d3, d4, d5, z0, z1, z2, z3, z4, z5⟩ := S5.facts
        have HS5 := Lib.hid S5
        have HB := Lib.hid (HB0.out.trans (b5.mono HB0.out.size))
        clear b5 S5 SIX HB0
        go_wp2_with fail
        refine bodyPost_ret (v := no6) (by simp [results, Tryd.results54, go_sem, d0, d1, d2, d3, d4, d5]) rfl ?_
        exact .no HO.out (below6 HB.out _ _ _ _ _ _)
      · have hz1 : z = 2 := hz
        subst hz1
        clear hz
        go_enter Tryd.func54, Tryd.ntmps54
        go_wp2_with (first | (go_at_call_of 19 (Value.string S); first | (refine (P1.out _).mono ?_; rintro e w' ⟨rfl, rfl⟩) | (refine (P2.out _).mono ?_; rintro e w' ⟨rfl, rfl⟩)))
        refine G.out.mono ?_
        rintro e w5 ⟨rfl, b5⟩
        have S5 := SIX.out.on b5
        obtain ⟨d0, d1, d2, d3, d4, d5, z0, z1, z2, z3, z4, z5⟩ := S5.facts
        have HS5 := Lib.hid S5
        have HB := Lib.hid (HB0.out.trans (b5.mono HB0.out.size))
        clear b5 S5 SIX HB0
        go_wp2_with fail
        refine bodyPost_ret (v := no6) (by simp [results, Tryd.results54, go_sem, d0, d1, d2, d3, d4, d5]) rfl ?_
        exact .no HO.out (below6 HB.out _ _ _ _ _ _)
    · have hz1 : z = 2 := hz
      subst hz1
      clear hz P2
      go_enter Tryd.func54, Tryd.ntmps54
      go_wp2_with (first | (go_at_call_of 19 (Value.string S); first | (refine (P1.out _).mono ?_; rintro e w' ⟨rfl, rfl⟩) | (refine (P2.out _).mono ?_; rintro e w' ⟨rfl, rfl⟩)))
      refine G.out.mono ?_
      rintro e w5 ⟨rfl, b5⟩
      have S5 := SIX.out.on b5
      obtain ⟨d0, d1, d2, d3, d4, d5, z0, z1, z2, z3, z4, z5⟩ := S5.facts
      have HS5 := Lib.hid S5
      have HB := Lib.hid (HB0.out.trans (b5.mono HB0.out.size))
      clear b5 S5 SIX HB0
      go_wp2_with fail
      refine bodyPost_ret (v := no6) (by simp [results, Tryd.results54, go_sem, d0, d1, d2, d3, d4, d5]) rfl ?_
      exact .no HO.out (below6 HB.out _ _ _ _ _ _)
  rcases b with _ | ⟨c, _ | ⟨d, t⟩⟩
  · have HO := Lib.hid (show charT s.data.toList = none from HC.out)
    clear HC
    cases b1
    · cases b2
      · have hz1 : z = 1 := hz
        subst hz1
        clear hz
        go_enter Tryd.func54, Tryd.ntmps54
        go_wp2_with (first | (go_at_call_of 19 (Value.string S); first | (refine (P1.out _).mono ?_; rintro e w' ⟨rfl, rfl⟩) | (refine (P2.out _).mono ?_; rintro e w' ⟨rfl, rfl⟩)))
        refine G.out.mono ?_
        rintro e w5 ⟨rfl, b5⟩
        have S5 := SIX.out.on b5
        obtain ⟨d0, d1, d2, d3, d4, d5, z0, z1, z2, z3, z4, z5⟩ := S5.facts
        have HS5 := Lib.hid S5
        have HB := Lib.hid (HB0.out.trans (b5.mono HB0.out.size))
        clear b5 S5 SIX HB0
        go_wp2_with fail
        refine bodyPost_ret (v := no6) (by simp [results, Tryd.results54, go_sem, d0, d1, d2, d3, d4, d5]) rfl ?_
        exact .no HO.out (below6 HB.out _ _ _ _ _ _)
      · have hz1 : z = 2 := hz
        subst hz1
        clear hz
        go_enter Tryd.func54, Tryd.ntmps54
        go_wp2_with (first | (go_at_call_of 19 (Value.string S); first | (refine (P1.out _).mono ?_; rintro e w' ⟨rfl, rfl⟩) | (refine (P2.out _).mono ?_; rintro e w' ⟨rfl, rfl⟩)))
        refine G.out.mono ?_
        rintro e w5 ⟨rfl, b5⟩
        have S5 := SIX.out.on b5
        obtain ⟨d0, d1, d2, d3, d4, d5, z0, z1, z2, z3, z4, z5⟩ := S5.facts
        have HS5 := Lib.hid S5
        have HB := Lib.hid (HB0.out.trans (b5.mono HB0.out.size))
        clear b5 S5 SIX HB0
        go_wp2_with fail
        refine bodyPost_ret (v := no6) (by simp [results, Tryd.results54, go_sem, d0, d1, d2, d3, d4, d5]) rfl ?_
        exact .no HO.out (below6 HB.out _ _ _ _ _ _)
    · have hz1 : z = 2 := hz
      subst hz1
      clear hz P2
      go_enter Tryd.func54, Tryd.ntmps54
      go_wp2_with (first | (go_at_call_of 19 (Value.string S); first | (refine (P1.out _).mono ?_; rintro e w' ⟨rfl, rfl⟩) | (refine (P2.out _).mono ?_; rintro e w' ⟨rfl, rfl⟩)))
      refine G.out.mono ?_
      rintro e w5 ⟨rfl, b5⟩
      have S5 := SIX.out.on b5
      obtain ⟨d0, d1, d2, d3, d4, d5, z0, z1, z2, z3, z4, z5⟩ := S5.facts
      have HS5 := Lib.hid S5
      have HB := Lib.hid (HB0.out.trans (b5.mono HB0.out.size))
      clear b5 S5 SIX HB0
      go_wp2_with fail
      refine bodyPost_ret (v := no6) (by simp [results, Tryd.results54, go_sem, d0, d1, d2, d3, d4, d5]) rfl ?_
      exact .no HO.out (below6 HB.out _ _ _ _ _ _)
  · have HO := Lib.hid (show charT s.data.toList = some (⟨3, (c.toNat : Int), []⟩, 2 + z) from HC.out)
    have hw8 : wrap64 (c.toNat : Int) = (c.toNat : Int) := IntWalk.wrap64_in _ (by have := c.toNat_lt; omega)
    obtain ⟨B, hB⟩ : ∃ B : ByteArray, ⟨[c].toArray⟩ = B := ⟨_, rfl⟩
    have hBs : 0 < B.size := by rw [← hB]; exact Nat.one_pos
    have hB1 : ((B.size : Int) != 1) = false := by rw [← hB]; rfl
    have cx : B[0] = c := at_0 (t := []) (by rw [← hB]) hBs
    have G2 := G.out
    unfold GetPost at G2
    simp only [hB] at G2
    have G := Lib.hid G2
    clear HC G2 hB
    cases b1
    · cases b2
      · have hz1 : z = 1 := hz
        subst hz1
        clear hz
        go_enter Tryd.func54, Tryd.ntmps54
        go_wp2_with (first | (go_at_call_of 19 (Value.string S); first | (refine (P1.out _).mono ?_; rintro e w' ⟨rfl, rfl⟩) | (refine (P2.out _).mono ?_; rintro e w' ⟨rfl, rfl⟩)))
        refine G.out.mono ?_
        rintro e w5 ⟨rfl, b5⟩
        have S5 := SIX.out.on b5
        obtain ⟨d0, d1, d2, d3, d4, d5, z0, z1, z2, z3, z4, z5⟩ := S5.facts
        have HS5 := Lib.hid S5
        have HB := Lib.hid (HB0.out.trans (b5.mono HB0.out.size))
        clear b5 S5 SIX HB0
        go_wp2_with fail
        obtain ⟨q0, q1, q2, q3, q4, q5⟩ := six_cells HS5.out.h (.int .i64 3) (.int .i64 0) (.int .i64 (c.toNat : Int)) (.string ⟨#[]⟩) (.bool false) (.bool false)
        refine bodyPost_ret (v := .tuple #[.agg #[.int .i64 3, .int .i64 0, .int .i64 (c.toNat : Int), .string ⟨#[]⟩, .bool false, .bool false], .int .i64 3]) (by simp [results, Tryd.results54, go_sem, q0, q1, q2, q3, q4, q5, hw8]) rfl ?_
        exact .num (z := 3) HO.out (by omega) (below6 HB.out _ _ _ _ _ _)
      · have hz1 : z = 2 := hz
        subst hz1
        clear hz
        go_enter Tryd.func54, Tryd.ntmps54
        go_wp2_with (first | (go_at_call_of 19 (Value.string S); first | (refine (P1.out _).mono ?_; rintro e w' ⟨rfl, rfl⟩) | (refine (P2.out _).mono ?_; rintro e w' ⟨rfl, rfl⟩)))
        refine G.out.mono ?_
        rintro e w5 ⟨rfl, b5⟩
        have S5 := SIX.out.on b5
        obtain ⟨d0, d1, d2, d3, d4, d5, z0, z1, z2, z3, z4, z5⟩ := S5.facts
        have HS5 := Lib.hid S5
        have HB := Lib.hid (HB0.out.trans (b5.mono HB0.out.size))
        clear b5 S5 SIX HB0
        go_wp2_with fail
        obtain ⟨q0, q1, q2, q3, q4, q5⟩ := six_cells HS5.out.h (.int .i64 3) (.int .i64 0) (.int .i64 (c.toNat : Int)) (.string ⟨#[]⟩) (.bool false) (.bool false)
        refine bodyPost_ret (v := .tuple #[.agg #[.int .i64 3, .int .i64 0, .int .i64 (c.toNat : Int), .string ⟨#[]⟩, .bool false, .bool false], .int .i64 4]) (by simp [results, Tryd.results54, go_sem, q0, q1, q2, q3, q4, q5, hw8]) rfl ?_
        exact .num (z := 4) HO.out (by omega) (below6 HB.out _ _ _ _ _ _)
    · have hz1 : z = 2 := hz
      subst hz1
      clear hz P2
      go_enter Tryd.func54, Tryd.ntmps54
      go_wp2_with (first | (go_at_call_of 19 (Value.string S); first | (refine (P1.out _).mono ?_; rintro e w' ⟨rfl, rfl⟩) | (refine (P2.out _).mono ?_; rintro e w' ⟨rfl, rfl⟩)))
      refine G.out.mono ?_
      rintro e w5 ⟨rfl, b5⟩
      have S5 := SIX.out.on b5
      obtain ⟨d0, d1, d2, d3, d4, d5, z0, z1, z2, z3, z4, z5⟩ := S5.facts
      have HS5 := Lib.hid S5
      have HB := Lib.hid (HB0.out.trans (b5.mono HB0.out.size))
      clear b5 S5 SIX HB0
      go_wp2_with fail
      obtain ⟨q0, q1, q2, q3, q4, q5⟩ := six_cells HS5.out.h (.int .i64 3) (.int .i64 0) (.int .i64 (c.toNat : Int)) (.string ⟨#[]⟩) (.bool false) (.bool false)
      refine bodyPost_ret (v := .tuple #[.agg #[.int .i64 3, .int .i64 0, .int .i64 (c.toNat : Int), .string ⟨#[]⟩, .bool false, .bool false], .int .i64 4]) (by simp [results, Tryd.results54, go_sem, q0, q1, q2, q3, q4, q5, hw8]) rfl ?_
      exact .num (z := 4) HO.out (by omega) (below6 HB.out _ _ _ _ _ _)
  · have HO := Lib.hid (show charT s.data.toList = none from HC.out)
    obtain ⟨B, hB⟩ : ∃ B : ByteArray, ⟨(c :: d :: t).toArray⟩ = B := ⟨_, rfl⟩
    have hBs : 2 ≤ B.size := by rw [← hB, Lib.size_eq]; simp
    have hB1 : ((B.size : Int) != 1) = true := by simp [bne]; omega
    have G2 := G.out
    unfold GetPost at G2
    simp only [hB] at G2
    have G := Lib.hid G2
    clear HC G2 hB
    cases b1
    · cases b2
      · have hz1 : z = 1 := hz
        subst hz1
        clear hz
        go_enter Tryd.func54, Tryd.ntmps54
        go_wp2_with (first | (go_at_call_of 19 (Value.string S); first | (refine (P1.out _).mono ?_; rintro e w' ⟨rfl, rfl⟩) | (refine (P2.out _).mono ?_; rintro e w' ⟨rfl, rfl⟩)))
        refine G.out.mono ?_
        rintro e w5 ⟨rfl, b5⟩
        have S5 := SIX.out.on b5
        obtain ⟨d0, d1, d2, d3, d4, d5, z0, z1, z2, z3, z4, z5⟩ := S5.facts
        have HS5 := Lib.hid S5
        have HB := Lib.hid (HB0.out.trans (b5.mono HB0.out.size))
        clear b5 S5 SIX HB0
        go_wp2_with fail
        refine bodyPost_ret (v := no6) (by simp [results, Tryd.results54, go_sem, d0, d1, d2, d3, d4, d5]) rfl ?_
        exact .no HO.out (below6 HB.out _ _ _ _ _ _)
      · have hz1 : z = 2 := hz
        subst hz1
        clear hz
        go_enter Tryd.func54, Tryd.ntmps54
        go_wp2_with (first | (go_at_call_of 19 (Value.string S); first | (refine (P1.out _).mono ?_; rintro e w' ⟨rfl, rfl⟩) | (refine (P2.out _).mono ?_; rintro e w' ⟨rfl, rfl⟩)))
        refine G.out.mono ?_
        rintro e w5 ⟨rfl, b5⟩
        have S5 := SIX.out.on b5
        obtain ⟨d0, d1, d2, d3, d4, d5, z0, z1, z2, z3, z4, z5⟩ := S5.facts
        have HS5 := Lib.hid S5
        have HB := Lib.hid (HB0.out.trans (b5.mono HB0.out.size))
        clear b5 S5 SIX HB0
        go_wp2_with fail
        refine bodyPost_ret (v := no6) (by simp [results, Tryd.results54, go_sem, d0, d1, d2, d3, d4, d5]) rfl ?_
        exact .no HO.out (below6 HB.out _ _ _ _ _ _)
    · have hz1 : z = 2 := hz
      subst hz1
      clear hz P2
      go_enter Tryd.func54, Tryd.ntmps54
      go_wp2_with (first | (go_at_call_of 19 (Value.string S); first | (refine (P1.out _).mono ?_; rintro e w' ⟨rfl, rfl⟩) | (refine (P2.out _).mono ?_; rintro e w' ⟨rfl, rfl⟩)))
      refine G.out.mono ?_
      rintro e w5 ⟨rfl, b5⟩
      have S5 := SIX.out.on b5
      obtain ⟨d0, d1, d2, d3, d4, d5, z0, z1, z2, z3, z4, z5⟩ := S5.facts
      have HS5 := Lib.hid S5
      have HB := Lib.hid (HB0.out.trans (b5.mono HB0.out.size))
      clear b5 S5 SIX HB0
      go_wp2_with fail
      refine bodyPost_ret (v := no6) (by simp [results, Tryd.results54, go_sem, d0, d1, d2, d3, d4, d5]) rfl ?_
      exact .no HO.out (below6 HB.out _ _ _ _ _ _)
end Go.Proofs.YtkbeaddbnnboaaaDoor
