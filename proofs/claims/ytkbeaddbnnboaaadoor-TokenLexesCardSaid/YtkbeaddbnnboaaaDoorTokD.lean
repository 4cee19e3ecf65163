/- Package token's attempts: alone, letters, signs: contracts. Conditions: the place stands in memory; its text has one to 5000 bytes. -/
import Derived.Test.YtkbeaddbnnboaaaDoorTokC
namespace Go.Proofs.YtkbeaddbnnboaaaDoor
open Go Go.RowKit Go.Maps

abbrev retNo : Ending := .returned (.tuple #[.agg #[.int .i64 0, .int .i64 0, .int .i64 0, .string ⟨#[]⟩, .bool false, .bool false], .int .i64 0])
theorem AttPost.no {w w' : World} {o : Option (Tk × Nat)} (ho : o = none) (h : Below w.heap.size w w') : AttPost w o retNo w' := ⟨⟨⟨0, 0, []⟩, 0, rfl, .inl ⟨ho, rfl⟩⟩, h⟩
theorem AttPost.text {w w' : World} {o : Option (Tk × Nat)} {k : Int} {s : List UInt8} {z : Nat} (ho : o = some (⟨k, 0, s⟩, z)) (hz : 0 < z) (h : Below w.heap.size w w') :
    AttPost w o (.returned (.tuple #[.agg #[.int .i64 k, .int .i64 0, .int .i64 0, .string ⟨s.toArray⟩, .bool false, .bool false], .int .i64 z])) w' := ⟨⟨⟨k, 0, s⟩, z, rfl, .inr ⟨ho, hz⟩⟩, h⟩
theorem AttPost.num {w w' : World} {o : Option (Tk × Nat)} {k n : Int} {z : Nat} (ho : o = some (⟨k, n, []⟩, z)) (hz : 0 < z) (h : Below w.heap.size w w') :
    AttPost w o (.returned (.tuple #[.agg #[.int .i64 k, .int .i64 0, .int .i64 n, .string ⟨#[]⟩, .bool false, .bool false], .int .i64 z])) w' := ⟨⟨⟨k, n, []⟩, z, rfl, .inr ⟨ho, hz⟩⟩, h⟩

theorem cons_of {s : ByteArray} (hp : 0 < s.size) : ∃ c t, s.data.toList = c :: t := by
  have hz := Lib.size_eq s
  rcases hq : s.data.toList with _ | ⟨c, t⟩
  · rw [hq] at hz
    have : s.size = 0 := hz
    omega
  · exact ⟨c, t, rfl⟩

set_option maxRecDepth 100000 in
set_option maxHeartbeats 800000 in
theorem alone_is (p : Nat) (s : ByteArray) (n : Int) (sort kind : Int) (w : World) (h : PL w p s n) (hs : s.size ≤ 5000) (hp : 0 < s.size) :
    Calls Tryd.prog 52 #[.pointer (some ⟨p, 0, none⟩), .int .i64 sort, .int .i64 kind] w (AttPost w (aloneT sort kind s.data.toList)) := by
  obtain ⟨c, t, hl⟩ := cons_of hp
  have hb0 : Below w.heap.size w (w.alloc (.cells zero6 30)) := (Below.refl _ _).alloc (Nat.le_refl _) _
  obtain ⟨c0, _, _, _⟩ := (h.on hb0).cells
  have hc := at_0 hl hp
  have six : Six (w.alloc (.cells zero6 30)) w.heap.size := ⟨new_at _ _ rfl⟩
  obtain ⟨d0, d1, d2, d3, d4, d5, _⟩ := six.facts
  have SIX := Lib.hid six
  have HB0 := Lib.hid hb0
  have T := Lib.hid (text_is p s n kind 1 _ (h.on hb0) hs (by omega))
  have S := Lib.hid (fun w => sort_is (c.toNat : Int) w (by omega) (by have := c.toNat_lt; omega))
  obtain ⟨z, hz⟩ : ∃ z, sortZ (c.toNat : Int) = z := ⟨_, rfl⟩
  rw [hz] at S
  have HL := Lib.hid hl
  have HZ := Lib.hid hz
  clear h hl hz hb0 six
  unfold zero6 at *
  cases hq : (z == sort)
  · have hq2 : (z != sort) = true := by simp [bne, hq]
    have HO := Lib.hid (show aloneT sort kind s.data.toList = none by rw [HL.out]; simp [aloneT, HZ.out]; simpa using hq)
    clear hq
    go_enter Tryd.func52, Tryd.ntmps52
    go_wp2_with (go_at_call 26; refine (S.out _).mono ?_; rintro e w' ⟨rfl, rfl⟩)
    refine bodyPost_ret (v := .tuple #[.agg #[.int .i64 0, .int .i64 0, .int .i64 0, .string ⟨#[]⟩, .bool false, .bool false], .int .i64 0]) (by simp [results, Tryd.results52, go_sem, d0, d1, d2, d3, d4, d5]) rfl ?_
    exact .no HO.out HB0.out
  · have hq2 : (z != sort) = false := by simp [bne, hq]
    have HO := Lib.hid (show aloneT sort kind s.data.toList = some (⟨kind, 0, s.data.toList.take 1⟩, 1) by rw [HL.out]; simp [aloneT, HZ.out]; simpa using hq)
    clear hq
    go_enter Tryd.func52, Tryd.ntmps52
    go_wp2_with (go_at_call 26; refine (S.out _).mono ?_; rintro e w' ⟨rfl, rfl⟩)
    refine T.out.mono ?_
    rintro e w5 ⟨rfl, b1⟩
    have S5 := SIX.out.on b1
    obtain ⟨d0, d1, d2, d3, d4, d5, z0, z1, z2, z3, z4, z5⟩ := S5.facts
    have HS5 := Lib.hid S5
    have HB := Lib.hid (HB0.out.trans (b1.mono HB0.out.size))
    clear b1 S5 SIX HB0 T
    go_wp2
    obtain ⟨q0, q1, q2, q3, q4, q5⟩ := six_cells HS5.out.h (.int .i64 kind) (.int .i64 0) (.int .i64 0) (.string ⟨(s.data.toList.take 1).toArray⟩) (.bool false) (.bool false)
    refine bodyPost_ret (v := .tuple #[.agg #[.int .i64 kind, .int .i64 0, .int .i64 0, .string ⟨(s.data.toList.take 1).toArray⟩, .bool false, .bool false], .int .i64 1]) (by simp [results, Tryd.results52, go_sem, q0, q1, q2, q3, q4, q5]) rfl ?_
    exact .text (z := 1) HO.out Nat.one_pos (below6 HB.out _ _ _ _ _ _)

set_option maxRecDepth 100000 in
set_option maxHeartbeats 800000 in
theorem letters_is (p : Nat) (s : ByteArray) (n : Int) (sort kind : Int) (w : World) (h : PL w p s n) (hs : s.size ≤ 5000) (hp : 0 < s.size) (hw : wordS sort = true) :
    Calls Tryd.prog 48 #[.pointer (some ⟨p, 0, none⟩), .int .i64 sort, .int .i64 kind] w (AttPost w (lettersT sort kind s.data.toList)) := by
  obtain ⟨c, t, hl⟩ := cons_of hp
  have hb0 : Below w.heap.size w (w.alloc (.cells zero6 30)) := (Below.refl _ _).alloc (Nat.le_refl _) _
  obtain ⟨c0, _, _, _⟩ := (h.on hb0).cells
  have hc := at_0 hl hp
  have six : Six (w.alloc (.cells zero6 30)) w.heap.size := ⟨new_at _ _ rfl⟩
  obtain ⟨d0, d1, d2, d3, d4, d5, _⟩ := six.facts
  have SIX := Lib.hid six
  have HB0 := Lib.hid hb0
  obtain ⟨r, hr⟩ : ∃ r, runB letterZ s.data.toList = r := ⟨_, rfl⟩
  have hrs : r ≤ s.size := by rw [Lib.size_eq, ← hr]; exact runB_le _ _
  have T := Lib.hid (text_is p s n kind r _ (h.on hb0) hs hrs)
  have R := run_is 69 (.inl rfl) letterZ letter_is p s n _ (h.on hb0) hs
  rw [hr] at R
  have R' := Lib.hid R
  have S := Lib.hid (fun w => sort_is (c.toNat : Int) w (by omega) (by have := c.toNat_lt; omega))
  obtain ⟨z, hz⟩ : ∃ z, sortZ (c.toNat : Int) = z := ⟨_, rfl⟩
  rw [hz] at S
  have HL := Lib.hid hl
  have HZ := Lib.hid hz
  have HR := Lib.hid hr
  have HW := Lib.hid hw
  clear h hl hz hb0 six R hr hw
  unfold zero6 at *
  cases hq : (z == sort)
  · have hq2 : (z != sort) = true := by simp [bne, hq]
    have HO := Lib.hid (show lettersT sort kind s.data.toList = none by rw [HL.out]; simp [lettersT, HZ.out]; intro h; simp [h] at hq)
    clear hq
    go_enter Tryd.func48, Tryd.ntmps48
    go_wp2_with (go_at_call 26; refine (S.out _).mono ?_; rintro e w' ⟨rfl, rfl⟩)
    refine bodyPost_ret (v := .tuple #[.agg #[.int .i64 0, .int .i64 0, .int .i64 0, .string ⟨#[]⟩, .bool false, .bool false], .int .i64 0]) (by simp [results, Tryd.results48, go_sem, d0, d1, d2, d3, d4, d5]) rfl ?_
    exact .no HO.out HB0.out
  · have hq2 : (z != sort) = false := by simp [bne, hq]
    have HP : Hid (0 < r) := Lib.hid (by
      rw [← HR.out, HL.out, runB_yes]
      · omega
      · have : z = sort := by simpa using hq
        rw [letterZ, HZ.out, this]
        exact HW.out)
    have HO := Lib.hid (show lettersT sort kind s.data.toList = some (⟨kind, 0, s.data.toList.take r⟩, r) by
      have h0 := HP.out
      rw [HL.out, lettersT, HZ.out, if_pos hq, ← HL.out, HR.out, if_neg (by omega)])
    clear hq
    go_enter Tryd.func48, Tryd.ntmps48
    go_wp2_with (go_at_call 26; refine (S.out _).mono ?_; rintro e w' ⟨rfl, rfl⟩)
    refine R'.out.mono ?_
    rintro e w' ⟨rfl, rfl⟩
    go_wp2_with fail
    refine T.out.mono ?_
    rintro e w5 ⟨rfl, b1⟩
    have S5 := SIX.out.on b1
    obtain ⟨d0, d1, d2, d3, d4, d5, z0, z1, z2, z3, z4, z5⟩ := S5.facts
    have HS5 := Lib.hid S5
    have HB := Lib.hid (HB0.out.trans (b1.mono HB0.out.size))
    clear b1 S5 SIX HB0 T
    go_wp2
    obtain ⟨q0, q1, q2, q3, q4, q5⟩ := six_cells HS5.out.h (.int .i64 kind) (.int .i64 0) (.int .i64 0) (.string ⟨(s.data.toList.take r).toArray⟩) (.bool false) (.bool false)
    refine bodyPost_ret (v := .tuple #[.agg #[.int .i64 kind, .int .i64 0, .int .i64 0, .string ⟨(s.data.toList.take r).toArray⟩, .bool false, .bool false], .int .i64 r]) (by simp [results, Tryd.results48, go_sem, q0, q1, q2, q3, q4, q5]) rfl ?_
    exact .text HO.out HP.out (below6 HB.out _ _ _ _ _ _)

set_option maxRecDepth 100000 in
set_option maxHeartbeats 800000 in
theorem signs_is (p : Nat) (s : ByteArray) (n : Int) (w : World) (h : PL w p s n) (hs : s.size ≤ 5000) :
    Calls Tryd.prog 31 #[.pointer (some ⟨p, 0, none⟩)] w (AttPost w (signsT s.data.toList)) := by
  have hb0 : Below w.heap.size w (w.alloc (.cells zero6 30)) := (Below.refl _ _).alloc (Nat.le_refl _) _
  obtain ⟨c0, _, _, _⟩ := (h.on hb0).cells
  have six : Six (w.alloc (.cells zero6 30)) w.heap.size := ⟨new_at _ _ rfl⟩
  obtain ⟨d0, d1, d2, d3, d4, d5, _⟩ := six.facts
  have SIX := Lib.hid six
  have HB0 := Lib.hid hb0
  obtain ⟨r, hr⟩ : ∃ r, runB signZ s.data.toList = r := ⟨_, rfl⟩
  have hrs : r ≤ s.size := by rw [Lib.size_eq, ← hr]; exact runB_le _ _
  have T := Lib.hid (text_is p s n 1 r _ (h.on hb0) hs hrs)
  have R := run_is 51 (.inr rfl) signZ sign_is p s n _ (h.on hb0) hs
  rw [hr] at R
  have R' := Lib.hid R
  have P := Lib.hid (fun w => Tryd.strings_HasPrefix s ⟨#[47, 42]⟩ w)
  obtain ⟨b, hb⟩ : ∃ b, Lib.hasPrefix s.data.toList (ByteArray.mk #[47, 42]).data.toList = b := ⟨_, rfl⟩
  rw [hb] at P
  have HBF := Lib.hid hb
  have HR := Lib.hid hr
  clear h hb hb0 six R hr
  unfold zero6 at *
  cases b
  · go_enter Tryd.func31, Tryd.ntmps31
    go_wp2_with (go_at_call 19; refine (P.out _).mono ?_; rintro e w' ⟨rfl, rfl⟩)
    refine R'.out.mono ?_
    rintro e w' ⟨rfl, rfl⟩
    go_wp2_with fail
    refine T.out.mono ?_
    rintro e w5 ⟨rfl, b1⟩
    have S5 := SIX.out.on b1
    obtain ⟨d0, d1, d2, d3, d4, d5, z0, z1, z2, z3, z4, z5⟩ := S5.facts
    have HS5 := Lib.hid S5
    have HB := Lib.hid (HB0.out.trans (b1.mono HB0.out.size))
    clear b1 S5 SIX HB0 T
    go_wp2
    obtain ⟨q0, q1, q2, q3, q4, q5⟩ := six_cells HS5.out.h (.int .i64 1) (.int .i64 0) (.int .i64 0) (.string ⟨(s.data.toList.take r).toArray⟩) (.bool false) (.bool false)
    refine bodyPost_ret (v := .tuple #[.agg #[.int .i64 1, .int .i64 0, .int .i64 0, .string ⟨(s.data.toList.take r).toArray⟩, .bool false, .bool false], .int .i64 r]) (by simp [results, Tryd.results31, go_sem, q0, q1, q2, q3, q4, q5]) rfl ?_
    by_cases hr0 : r = 0
    · have hz : signsT s.data.toList = none := by
        unfold signsT
        rw [if_neg (by rw [show [47, 42] = (ByteArray.mk #[47, 42]).data.toList from rfl, HBF.out]; simp), HR.out, if_pos hr0]
      exact ⟨⟨⟨1, 0, s.data.toList.take r⟩, r, rfl, .inl ⟨hz, hr0⟩⟩, below6 HB.out _ _ _ _ _ _⟩
    · refine .text (z := r) ?_ (by omega) (below6 HB.out _ _ _ _ _ _)
      unfold signsT
      rw [if_neg (by rw [show [47, 42] = (ByteArray.mk #[47, 42]).data.toList from rfl, HBF.out]; simp), HR.out, if_neg hr0]
  · have HO := Lib.hid (show signsT s.data.toList = none by unfold signsT; rw [if_pos (by rw [show [47, 42] = (ByteArray.mk #[47, 42]).data.toList from rfl, HBF.out])])
    go_enter Tryd.func31, Tryd.ntmps31
    go_wp2_with (go_at_call 19; refine (P.out _).mono ?_; rintro e w' ⟨rfl, rfl⟩)
    refine bodyPost_ret (v := .tuple #[.agg #[.int .i64 0, .int .i64 0, .int .i64 0, .string ⟨#[]⟩, .bool false, .bool false], .int .i64 0]) (by simp [results, Tryd.results31, go_sem, d0, d1, d2, d3, d4, d5]) rfl ?_
    exact .no HO.out HB0.out

end Go.Proofs.YtkbeaddbnnboaaaDoor
