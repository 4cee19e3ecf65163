/- Joined texts: TokH TokI TokJ. Conditions: as each states. -/
import Derived.Test.YtkplokfcjjcpcaaGreatDoorPk06
import Derived.StillTailTactics
import Derived.Deep.QuietTactic
import Derived.Lib.CutLaws
section
namespace Go.Proofs.YtkplokfcjjcpcaaGreatDoor
open Go Go.RowKit Go.Maps
set_option maxRecDepth 100000 in
set_option maxHeartbeats 800000 in
theorem word_is (p : Nat) (s : ByteArray) (n : Int) (w : World) (h : PL w p s n) (hs : s.size ≤ 5000) (hp : 0 < s.size) :
    Calls Tryz.prog 80 #[.pointer (some ⟨p, 0, none⟩)] w (AttPost w (lettersT 2 1 s.data.toList)) := by
  have hb0 : Below w.heap.size w (w.alloc (.cells zero6 48)) := (Below.refl _ _).alloc (Nat.le_refl _) _
  obtain ⟨c0, _, _, _⟩ := (h.on hb0).cells
  have six : Six (w.alloc (.cells zero6 48)) w.heap.size := ⟨new_at _ _ rfl⟩
  have SIX := Lib.hid six
  have HB0 := Lib.hid hb0
  have C := Lib.hid (letters_is p s n 2 1 _ (h.on hb0) hs hp rfl)
  clear h hb0 six
  unfold zero6 at *
  go_enter Tryz.func80, Tryz.ntmps80
  go_wp2_with fail
  refine C.out.mono ?_
  rintro e w5 ⟨⟨t, m, rfl, ho⟩, b5⟩
  have S5 := SIX.out.on b5
  obtain ⟨d0, d1, d2, d3, d4, d5, z0, z1, z2, z3, z4, z5⟩ := S5.facts
  have HS5 := Lib.hid S5
  have HO := Lib.hid ho
  have HB := Lib.hid (HB0.out.trans (b5.mono HB0.out.size))
  clear b5 S5 SIX HB0 ho C
  go_wp2_with fail
  obtain ⟨q0, q1, q2, q3, q4, q5⟩ := six_cells HS5.out.h (.int .i64 t.k) (.int .i64 0) (.int .i64 t.n) (.string ⟨t.s.toArray⟩) (.bool false) (.bool false)
  refine bodyPost_ret (v := .tuple #[.agg #[.int .i64 t.k, .int .i64 0, .int .i64 t.n, .string ⟨t.s.toArray⟩, .bool false, .bool false], .int .i64 m]) (by simp [results, Tryz.results80, go_sem, q0, q1, q2, q3, q4, q5]) rfl ?_
  exact ⟨⟨t, m, rfl, HO.out⟩, below6 HB.out _ _ _ _ _ _⟩
set_option maxRecDepth 100000 in
set_option maxHeartbeats 800000 in
theorem named_is (p : Nat) (s : ByteArray) (n : Int) (w : World) (h : PL w p s n) (hs : s.size ≤ 5000) (hp : 0 < s.size) :
    Calls Tryz.prog 83 #[.pointer (some ⟨p, 0, none⟩)] w (AttPost w (lettersT 3 4 s.data.toList)) := by
  have hb0 : Below w.heap.size w (w.alloc (.cells zero6 48)) := (Below.refl _ _).alloc (Nat.le_refl _) _
  obtain ⟨c0, _, _, _⟩ := (h.on hb0).cells
  have six : Six (w.alloc (.cells zero6 48)) w.heap.size := ⟨new_at _ _ rfl⟩
  have SIX := Lib.hid six
  have HB0 := Lib.hid hb0
  have C := Lib.hid (letters_is p s n 3 4 _ (h.on hb0) hs hp rfl)
  clear h hb0 six
  unfold zero6 at *
  go_enter Tryz.func83, Tryz.ntmps83
  go_wp2_with fail
  refine C.out.mono ?_
  rintro e w5 ⟨⟨t, m, rfl, ho⟩, b5⟩
  have S5 := SIX.out.on b5
  obtain ⟨d0, d1, d2, d3, d4, d5, z0, z1, z2, z3, z4, z5⟩ := S5.facts
  have HS5 := Lib.hid S5
  have HO := Lib.hid ho
  have HB := Lib.hid (HB0.out.trans (b5.mono HB0.out.size))
  clear b5 S5 SIX HB0 ho C
  go_wp2_with fail
  obtain ⟨q0, q1, q2, q3, q4, q5⟩ := six_cells HS5.out.h (.int .i64 t.k) (.int .i64 0) (.int .i64 t.n) (.string ⟨t.s.toArray⟩) (.bool false) (.bool false)
  refine bodyPost_ret (v := .tuple #[.agg #[.int .i64 t.k, .int .i64 0, .int .i64 t.n, .string ⟨t.s.toArray⟩, .bool false, .bool false], .int .i64 m]) (by simp [results, Tryz.results83, go_sem, q0, q1, q2, q3, q4, q5]) rfl ?_
  exact ⟨⟨t, m, rfl, HO.out⟩, below6 HB.out _ _ _ _ _ _⟩
set_option maxRecDepth 100000 in
set_option maxHeartbeats 800000 in
theorem solo_is (p : Nat) (s : ByteArray) (n : Int) (w : World) (h : PL w p s n) (hs : s.size ≤ 5000) (hp : 0 < s.size) :
    Calls Tryz.prog 82 #[.pointer (some ⟨p, 0, none⟩)] w (AttPost w (aloneT 6 1 s.data.toList)) := by
  have hb0 : Below w.heap.size w (w.alloc (.cells zero6 48)) := (Below.refl _ _).alloc (Nat.le_refl _) _
  obtain ⟨c0, _, _, _⟩ := (h.on hb0).cells
  have six : Six (w.alloc (.cells zero6 48)) w.heap.size := ⟨new_at _ _ rfl⟩
  have SIX := Lib.hid six
  have HB0 := Lib.hid hb0
  have C := Lib.hid (alone_is p s n 6 1 _ (h.on hb0) hs hp)
  clear h hb0 six
  unfold zero6 at *
  go_enter Tryz.func82, Tryz.ntmps82
  go_wp2_with fail
  refine C.out.mono ?_
  rintro e w5 ⟨⟨t, m, rfl, ho⟩, b5⟩
  have S5 := SIX.out.on b5
  obtain ⟨d0, d1, d2, d3, d4, d5, z0, z1, z2, z3, z4, z5⟩ := S5.facts
  have HS5 := Lib.hid S5
  have HO := Lib.hid ho
  have HB := Lib.hid (HB0.out.trans (b5.mono HB0.out.size))
  clear b5 S5 SIX HB0 ho C
  go_wp2_with fail
  obtain ⟨q0, q1, q2, q3, q4, q5⟩ := six_cells HS5.out.h (.int .i64 t.k) (.int .i64 0) (.int .i64 t.n) (.string ⟨t.s.toArray⟩) (.bool false) (.bool false)
  refine bodyPost_ret (v := .tuple #[.agg #[.int .i64 t.k, .int .i64 0, .int .i64 t.n, .string ⟨t.s.toArray⟩, .bool false, .bool false], .int .i64 m]) (by simp [results, Tryz.results82, go_sem, q0, q1, q2, q3, q4, q5]) rfl ?_
  exact ⟨⟨t, m, rfl, HO.out⟩, below6 HB.out _ _ _ _ _ _⟩
set_option maxRecDepth 100000 in
set_option maxHeartbeats 800000 in
theorem punct_is (p : Nat) (s : ByteArray) (n : Int) (w : World) (h : PL w p s n) (hs : s.size ≤ 5000) (hp : 0 < s.size) :
    Calls Tryz.prog 87 #[.pointer (some ⟨p, 0, none⟩)] w (AttPost w (aloneT 7 6 s.data.toList)) := by
  have hb0 : Below w.heap.size w (w.alloc (.cells zero6 48)) := (Below.refl _ _).alloc (Nat.le_refl _) _
  obtain ⟨c0, _, _, _⟩ := (h.on hb0).cells
  have six : Six (w.alloc (.cells zero6 48)) w.heap.size := ⟨new_at _ _ rfl⟩
  have SIX := Lib.hid six
  have HB0 := Lib.hid hb0
  have C := Lib.hid (alone_is p s n 7 6 _ (h.on hb0) hs hp)
  clear h hb0 six
  unfold zero6 at *
  go_enter Tryz.func87, Tryz.ntmps87
  go_wp2_with fail
  refine C.out.mono ?_
  rintro e w5 ⟨⟨t, m, rfl, ho⟩, b5⟩
  have S5 := SIX.out.on b5
  obtain ⟨d0, d1, d2, d3, d4, d5, z0, z1, z2, z3, z4, z5⟩ := S5.facts
  have HS5 := Lib.hid S5
  have HO := Lib.hid ho
  have HB := Lib.hid (HB0.out.trans (b5.mono HB0.out.size))
  clear b5 S5 SIX HB0 ho C
  go_wp2_with fail
  obtain ⟨q0, q1, q2, q3, q4, q5⟩ := six_cells HS5.out.h (.int .i64 t.k) (.int .i64 0) (.int .i64 t.n) (.string ⟨t.s.toArray⟩) (.bool false) (.bool false)
  refine bodyPost_ret (v := .tuple #[.agg #[.int .i64 t.k, .int .i64 0, .int .i64 t.n, .string ⟨t.s.toArray⟩, .bool false, .bool false], .int .i64 m]) (by simp [results, Tryz.results87, go_sem, q0, q1, q2, q3, q4, q5]) rfl ?_
  exact ⟨⟨t, m, rfl, HO.out⟩, below6 HB.out _ _ _ _ _ _⟩
set_option maxRecDepth 100000 in
set_option maxHeartbeats 800000 in
theorem quoted_is (p : Nat) (s : ByteArray) (n : Int) (w : World) (h : PL w p s n) (hs : s.size ≤ 5000) (hp : 0 < s.size) (ht : Tab w) :
    Calls Tryz.prog 85 #[.pointer (some ⟨p, 0, none⟩)] w (AttPost w (withinT 39 2 s.data.toList)) := by
  have hb0 : Below w.heap.size w (w.alloc (.cells zero6 48)) := (Below.refl _ _).alloc (Nat.le_refl _) _
  obtain ⟨c0, _, _, _⟩ := (h.on hb0).cells
  have six : Six (w.alloc (.cells zero6 48)) w.heap.size := ⟨new_at _ _ rfl⟩
  have SIX := Lib.hid six
  have HB0 := Lib.hid hb0
  have C := Lib.hid (within_is p s n 39 2 _ (h.on hb0) hs hp (ht.on hb0))
  clear h hb0 six ht
  unfold zero6 at *
  go_enter Tryz.func85, Tryz.ntmps85
  go_wp2_with fail
  refine C.out.mono ?_
  rintro e w5 ⟨⟨t, m, rfl, ho⟩, b5⟩
  have S5 := SIX.out.on b5
  obtain ⟨d0, d1, d2, d3, d4, d5, z0, z1, z2, z3, z4, z5⟩ := S5.facts
  have HS5 := Lib.hid S5
  have HO := Lib.hid ho
  have HB := Lib.hid (HB0.out.trans (b5.mono HB0.out.size))
  clear b5 S5 SIX HB0 ho C
  go_wp2_with fail
  obtain ⟨q0, q1, q2, q3, q4, q5⟩ := six_cells HS5.out.h (.int .i64 t.k) (.int .i64 0) (.int .i64 t.n) (.string ⟨t.s.toArray⟩) (.bool false) (.bool false)
  refine bodyPost_ret (v := .tuple #[.agg #[.int .i64 t.k, .int .i64 0, .int .i64 t.n, .string ⟨t.s.toArray⟩, .bool false, .bool false], .int .i64 m]) (by simp [results, Tryz.results85, go_sem, q0, q1, q2, q3, q4, q5]) rfl ?_
  exact ⟨⟨t, m, rfl, HO.out⟩, below6 HB.out _ _ _ _ _ _⟩
set_option maxRecDepth 100000 in
set_option maxHeartbeats 800000 in
theorem codes_is (p : Nat) (s : ByteArray) (n : Int) (w : World) (h : PL w p s n) (hs : s.size ≤ 5000) (hp : 0 < s.size) (ht : Tab w) :
    Calls Tryz.prog 86 #[.pointer (some ⟨p, 0, none⟩)] w (AttPost w (withinT 34 5 s.data.toList)) := by
  have hb0 : Below w.heap.size w (w.alloc (.cells zero6 48)) := (Below.refl _ _).alloc (Nat.le_refl _) _
  obtain ⟨c0, _, _, _⟩ := (h.on hb0).cells
  have six : Six (w.alloc (.cells zero6 48)) w.heap.size := ⟨new_at _ _ rfl⟩
  have SIX := Lib.hid six
  have HB0 := Lib.hid hb0
  have C := Lib.hid (within_is p s n 34 5 _ (h.on hb0) hs hp (ht.on hb0))
  clear h hb0 six ht
  unfold zero6 at *
  go_enter Tryz.func86, Tryz.ntmps86
  go_wp2_with fail
  refine C.out.mono ?_
  rintro e w5 ⟨⟨t, m, rfl, ho⟩, b5⟩
  have S5 := SIX.out.on b5
  obtain ⟨d0, d1, d2, d3, d4, d5, z0, z1, z2, z3, z4, z5⟩ := S5.facts
  have HS5 := Lib.hid S5
  have HO := Lib.hid ho
  have HB := Lib.hid (HB0.out.trans (b5.mono HB0.out.size))
  clear b5 S5 SIX HB0 ho C
  go_wp2_with fail
  obtain ⟨q0, q1, q2, q3, q4, q5⟩ := six_cells HS5.out.h (.int .i64 t.k) (.int .i64 0) (.int .i64 t.n) (.string ⟨t.s.toArray⟩) (.bool false) (.bool false)
  refine bodyPost_ret (v := .tuple #[.agg #[.int .i64 t.k, .int .i64 0, .int .i64 t.n, .string ⟨t.s.toArray⟩, .bool false, .bool false], .int .i64 m]) (by simp [results, Tryz.results86, go_sem, q0, q1, q2, q3, q4, q5]) rfl ?_
  exact ⟨⟨t, m, rfl, HO.out⟩, below6 HB.out _ _ _ _ _ _⟩
theorem prefix_two {l : List UInt8} {a b : UInt8} (h : Lib.hasPrefix l [a, b] = true) : 2 ≤ l.length := by
  match l, h with
  | _ :: _ :: _, _ => simp
  | [x], h => simp [Lib.hasPrefix] at h
set_option maxRecDepth 100000 in
set_option maxHeartbeats 1600000 in
theorem numT_is (p : Nat) (s : ByteArray) (n : Int) (w : World) (h : PL w p s n) (hs : s.size ≤ 5000) (ht : Tab w) :
    Calls Tryz.prog 84 #[.pointer (some ⟨p, 0, none⟩)] w (AttPost w (numberT s.data.toList)) := by
  have hb0 : Below w.heap.size w (w.alloc (.cells zero6 48)) := (Below.refl _ _).alloc (Nat.le_refl _) _
  obtain ⟨c0, _, _, _⟩ := (h.on hb0).cells
  have six : Six (w.alloc (.cells zero6 48)) w.heap.size := ⟨new_at _ _ rfl⟩
  have SIX := Lib.hid six
  have HB0 := Lib.hid hb0
  have P1 := Lib.hid (fun w => Tryz.strings_HasPrefix s ⟨#[48, 120]⟩ w)
  obtain ⟨b1, hb1⟩ : ∃ b, Lib.hasPrefix s.data.toList (ByteArray.mk #[48, 120]).data.toList = b := ⟨_, rfl⟩
  rw [hb1] at P1
  have P2 := Lib.hid (fun w => Tryz.strings_HasPrefix s ⟨#[48, 111]⟩ w)
  obtain ⟨b2, hb2⟩ : ∃ b, Lib.hasPrefix s.data.toList (ByteArray.mk #[48, 111]).data.toList = b := ⟨_, rfl⟩
  rw [hb2] at P2
  have P3 := Lib.hid (fun w => Tryz.strings_HasPrefix s ⟨#[48, 98]⟩ w)
  obtain ⟨b3, hb3⟩ : ∃ b, Lib.hasPrefix s.data.toList (ByteArray.mk #[48, 98]).data.toList = b := ⟨_, rfl⟩
  rw [hb3] at P3
  have P4 := Lib.hid (fun w => Tryz.strings_HasPrefix s ⟨#[48, 39]⟩ w)
  obtain ⟨b4, hb4⟩ : ∃ b, Lib.hasPrefix s.data.toList (ByteArray.mk #[48, 39]).data.toList = b := ⟨_, rfl⟩
  rw [hb4] at P4
  have HN := Lib.hid (show numberT s.data.toList = if b1 = true then digitsT 2 16 s.data.toList else if b2 = true then digitsT 2 8 s.data.toList else if b3 = true then digitsT 2 2 s.data.toList else if b4 = true then charT s.data.toList else digitsT 0 10 s.data.toList by
    rw [← hb1, ← hb2, ← hb3, ← hb4]
    rfl)
  have hq := h.on hb0
  have hto := ht.on hb0
  cases b1
  rotate_left
  · have C := Lib.hid (digits_is p s n 2 16 _ hq hs (by rw [Lib.size_eq]; exact prefix_two hb1))
    clear h hb0 six hb1 hb2 hb3 hb4 hq ht hto
    unfold zero6 at *
    go_enter Tryz.func84, Tryz.ntmps84
    go_wp2_with (go_at_call 49; first | (refine (P1.out _).mono ?_; rintro e w' ⟨rfl, rfl⟩))
    refine C.out.mono ?_
    rintro e w5 ⟨⟨t, m, rfl, ho⟩, b5⟩
    have S5 := SIX.out.on b5
    obtain ⟨d0, d1, d2, d3, d4, d5, z0, z1, z2, z3, z4, z5⟩ := S5.facts
    have HS5 := Lib.hid S5
    have HO := Lib.hid ho
    have HB := Lib.hid (HB0.out.trans (b5.mono HB0.out.size))
    clear b5 S5 SIX HB0 ho C
    go_wp2_with fail
    obtain ⟨q0, q1, q2, q3, q4, q5⟩ := six_cells HS5.out.h (.int .i64 t.k) (.int .i64 0) (.int .i64 t.n) (.string ⟨t.s.toArray⟩) (.bool false) (.bool false)
    refine bodyPost_ret (v := .tuple #[.agg #[.int .i64 t.k, .int .i64 0, .int .i64 t.n, .string ⟨t.s.toArray⟩, .bool false, .bool false], .int .i64 m]) (by simp [results, Tryz.results84, go_sem, q0, q1, q2, q3, q4, q5]) rfl ?_
    exact ⟨⟨t, m, rfl, by rw [HN.out]; exact HO.out⟩, below6 HB.out _ _ _ _ _ _⟩
  cases b2
  rotate_left
  · have C := Lib.hid (digits_is p s n 2 8 _ hq hs (by rw [Lib.size_eq]; exact prefix_two hb2))
    clear h hb0 six hb1 hb2 hb3 hb4 hq ht hto
    unfold zero6 at *
    go_enter Tryz.func84, Tryz.ntmps84
    go_wp2_with (go_at_call 49; first | (refine (P1.out _).mono ?_; rintro e w' ⟨rfl, rfl⟩) | (refine (P2.out _).mono ?_; rintro e w' ⟨rfl, rfl⟩))
    refine C.out.mono ?_
    rintro e w5 ⟨⟨t, m, rfl, ho⟩, b5⟩
    have S5 := SIX.out.on b5
    obtain ⟨d0, d1, d2, d3, d4, d5, z0, z1, z2, z3, z4, z5⟩ := S5.facts
    have HS5 := Lib.hid S5
    have HO := Lib.hid ho
    have HB := Lib.hid (HB0.out.trans (b5.mono HB0.out.size))
    clear b5 S5 SIX HB0 ho C
    go_wp2_with fail
    obtain ⟨q0, q1, q2, q3, q4, q5⟩ := six_cells HS5.out.h (.int .i64 t.k) (.int .i64 0) (.int .i64 t.n) (.string ⟨t.s.toArray⟩) (.bool false) (.bool false)
    refine bodyPost_ret (v := .tuple #[.agg #[.int .i64 t.k, .int .i64 0, .int .i64 t.n, .string ⟨t.s.toArray⟩, .bool false, .bool false], .int .i64 m]) (by simp [results, Tryz.results84, go_sem, q0, q1, q2, q3, q4, q5]) rfl ?_
    exact ⟨⟨t, m, rfl, by rw [HN.out]; exact HO.out⟩, below6 HB.out _ _ _ _ _ _⟩
  cases b3
  rotate_left
  · have C := Lib.hid (digits_is p s n 2 2 _ hq hs (by rw [Lib.size_eq]; exact prefix_two hb3))
    clear h hb0 six hb1 hb2 hb3 hb4 hq ht hto
    unfold zero6 at *
    go_enter Tryz.func84, Tryz.ntmps84
    go_wp2_with (go_at_call 49; first | (refine (P1.out _).mono ?_; rintro e w' ⟨rfl, rfl⟩) | (refine (P2.out _).mono ?_; rintro e w' ⟨rfl, rfl⟩) | (refine (P3.out _).mono ?_; rintro e w' ⟨rfl, rfl⟩))
    refine C.out.mono ?_
    rintro e w5 ⟨⟨t, m, rfl, ho⟩, b5⟩
    have S5 := SIX.out.on b5
    obtain ⟨d0, d1, d2, d3, d4, d5, z0, z1, z2, z3, z4, z5⟩ := S5.facts
    have HS5 := Lib.hid S5
    have HO := Lib.hid ho
    have HB := Lib.hid (HB0.out.trans (b5.mono HB0.out.size))
    clear b5 S5 SIX HB0 ho C
    go_wp2_with fail
    obtain ⟨q0, q1, q2, q3, q4, q5⟩ := six_cells HS5.out.h (.int .i64 t.k) (.int .i64 0) (.int .i64 t.n) (.string ⟨t.s.toArray⟩) (.bool false) (.bool false)
    refine bodyPost_ret (v := .tuple #[.agg #[.int .i64 t.k, .int .i64 0, .int .i64 t.n, .string ⟨t.s.toArray⟩, .bool false, .bool false], .int .i64 m]) (by simp [results, Tryz.results84, go_sem, q0, q1, q2, q3, q4, q5]) rfl ?_
    exact ⟨⟨t, m, rfl, by rw [HN.out]; exact HO.out⟩, below6 HB.out _ _ _ _ _ _⟩
  cases b4
  rotate_left
  · have C := Lib.hid (char_is p s n _ hq hs (by rw [Lib.size_eq]; exact prefix_two hb4) hto)
    clear h hb0 six hb1 hb2 hb3 hb4 hq ht hto
    unfold zero6 at *
    go_enter Tryz.func84, Tryz.ntmps84
    go_wp2_with (go_at_call 49; first | (refine (P1.out _).mono ?_; rintro e w' ⟨rfl, rfl⟩) | (refine (P2.out _).mono ?_; rintro e w' ⟨rfl, rfl⟩) | (refine (P3.out _).mono ?_; rintro e w' ⟨rfl, rfl⟩) | (refine (P4.out _).mono ?_; rintro e w' ⟨rfl, rfl⟩))
    refine C.out.mono ?_
    rintro e w5 ⟨⟨t, m, rfl, ho⟩, b5⟩
    have S5 := SIX.out.on b5
    obtain ⟨d0, d1, d2, d3, d4, d5, z0, z1, z2, z3, z4, z5⟩ := S5.facts
    have HS5 := Lib.hid S5
    have HO := Lib.hid ho
    have HB := Lib.hid (HB0.out.trans (b5.mono HB0.out.size))
    clear b5 S5 SIX HB0 ho C
    go_wp2_with fail
    obtain ⟨q0, q1, q2, q3, q4, q5⟩ := six_cells HS5.out.h (.int .i64 t.k) (.int .i64 0) (.int .i64 t.n) (.string ⟨t.s.toArray⟩) (.bool false) (.bool false)
    refine bodyPost_ret (v := .tuple #[.agg #[.int .i64 t.k, .int .i64 0, .int .i64 t.n, .string ⟨t.s.toArray⟩, .bool false, .bool false], .int .i64 m]) (by simp [results, Tryz.results84, go_sem, q0, q1, q2, q3, q4, q5]) rfl ?_
    exact ⟨⟨t, m, rfl, by rw [HN.out]; exact HO.out⟩, below6 HB.out _ _ _ _ _ _⟩
  have C := Lib.hid (digits_is p s n 0 10 _ hq hs (by omega))
  clear h hb0 six hb1 hb2 hb3 hb4 hq ht hto
  unfold zero6 at *
  go_enter Tryz.func84, Tryz.ntmps84
  go_wp2_with (go_at_call 49; first | (refine (P1.out _).mono ?_; rintro e w' ⟨rfl, rfl⟩) | (refine (P2.out _).mono ?_; rintro e w' ⟨rfl, rfl⟩) | (refine (P3.out _).mono ?_; rintro e w' ⟨rfl, rfl⟩) | (refine (P4.out _).mono ?_; rintro e w' ⟨rfl, rfl⟩))
  refine C.out.mono ?_
  rintro e w5 ⟨⟨t, m, rfl, ho⟩, b5⟩
  have S5 := SIX.out.on b5
  obtain ⟨d0, d1, d2, d3, d4, d5, z0, z1, z2, z3, z4, z5⟩ := S5.facts
  have HS5 := Lib.hid S5
  have HO := Lib.hid ho
  have HB := Lib.hid (HB0.out.trans (b5.mono HB0.out.size))
  clear b5 S5 SIX HB0 ho C
  go_wp2_with fail
  obtain ⟨q0, q1, q2, q3, q4, q5⟩ := six_cells HS5.out.h (.int .i64 t.k) (.int .i64 0) (.int .i64 t.n) (.string ⟨t.s.toArray⟩) (.bool false) (.bool false)
  refine bodyPost_ret (v := .tuple #[.agg #[.int .i64 t.k, .int .i64 0, .int .i64 t.n, .string ⟨t.s.toArray⟩, .bool false, .bool false], .int .i64 m]) (by simp [results, Tryz.results84, go_sem, q0, q1, q2, q3, q4, q5]) rfl ?_
  exact ⟨⟨t, m, rfl, by rw [HN.out]; exact HO.out⟩, below6 HB.out _ _ _ _ _ _⟩
end Go.Proofs.YtkplokfcjjcpcaaGreatDoor
end
section
namespace Go.Proofs.YtkplokfcjjcpcaaGreatDoor
open Go Go.RowKit Go.Maps
def Lay (w : World) : Prop := Tab w ∧ ∃ m, w.cell? ⟨4, 0, none⟩ = some (.int .i64 m)
theorem Lay.on {w w' : World} (h : Lay w) (hb : Below w.heap.size w w') : Lay w' := ⟨h.1.on hb, h.2.elim fun m hm => ⟨m, cell_later hb hm⟩⟩
structure OnlyAt (p : Nat) (w w' : World) : Prop where
  below : ∀ H, H ≤ p → Below H w w'
  other : ∀ b, b ≠ p → b < w.heap.size → w'.heap[b]? = w.heap[b]?
set_option maxRecDepth 100000 in
set_option maxHeartbeats 1600000 in
theorem pass_is (p : Nat) (s : ByteArray) (n : Int) (z : Nat) (w : World) (h : PL w p s n) (hs : s.size ≤ 5000) (hz : z ≤ s.size) (hn : 0 ≤ n) (hn2 : n ≤ 20000) :
    Calls Tryz.prog 48 #[.pointer (some ⟨p, 0, none⟩), .int .i64 z] w fun e w' => e = .returned (.tuple #[]) ∧ PL w' p (s.extract z s.size) (n + nlC (s.data.toList.take z)) ∧ OnlyAt p w w' := by
  obtain ⟨c0, c1, f0, f1⟩ := h.cells
  have C := Lib.hid (fun w => Tryz.strings_Count_one (s.extract 0 z) 10 w)
  go_enter Tryz.func48, Tryz.ntmps48
  go_wp2_with (go_at_call 89; refine (C.out _).mono ?_; rintro e w' ⟨rfl, rfl⟩)
  go_still_tail 12, (by kernel_rfl)
  still_call (C.out _)
  repeat still_step
  refine wpStill_nil ?_
  change wpList _ _ _ _ _ w.drew
  have c0' : w.drew.cell? ⟨p, 0, none⟩ = some (.string s) := c0
  have c1' : w.drew.cell? ⟨p, 1, none⟩ = some (.int .i64 n) := c1
  have f0' : w.drew.frozen? ⟨p, 0, none⟩ = false := f0
  have f1' : w.drew.frozen? ⟨p, 1, none⟩ = false := f1
  have h' : PL w.drew p s n := h
  have hb : Below w.heap.size w w.drew := (Below.refl _ _).drew
  clear c0 c1 f0 f1
  generalize w.drew = w2 at *
  go_wp2
  refine bodyPost_end (v := .tuple #[]) (by simp [results, Tryz.results48, go_sem]) rfl ?_
  have hcnt : Lib.countByte (s.data.toList.take z) 10 ≤ 5000 := by
    have : Lib.countByte (s.data.toList.take z) 10 ≤ (s.data.toList.take z).length := by unfold Lib.countByte; exact List.count_le_length ..
    rw [List.length_take, ← Lib.size_eq] at this
    omega
  rw [show wrap64 (n + (Lib.countByte (s.data.toList.take z) 10 : Int)) = n + (nlC (s.data.toList.take z) : Int) from IntWalk.wrap64_in _ (by omega)]
  have e1 : _ = some (Obj.cells #[.string s, .int .i64 (n + (nlC (s.data.toList.take z) : Int))] 93 (0, 0)) := heap_set (o := 1) h' _
  have e2 : _ = some (Obj.cells #[.string (s.extract z s.size), .int .i64 (n + (nlC (s.data.toList.take z) : Int))] 93 (0, 0)) := heap_set (o := 0) e1 _
  refine ⟨rfl, e2, ⟨fun H hH => ?_, fun b hbp hbl => ?_⟩⟩
  · have a1 := (hb.mono (B' := H) (Nat.le_trans hH (Nat.le_of_lt (heap_lt h)))).setCell (p := ⟨p, 1, none⟩) hH (.int .i64 (n + (nlC (s.data.toList.take z) : Int)))
    exact a1.setCell (p := ⟨p, 0, none⟩) hH _
  · rw [heap_set_ne hbp, heap_set_ne hbp]
    exact hb.block b hbl
theorem gap_blank {c : UInt8} {t : List UInt8} (h : (sortZ (c.toNat : Int) == 1) = true) : gapN (c :: t) = 1 := by simp only [gapN]; rw [if_pos h]
theorem gap_37 {c : UInt8} {t : List UInt8} (h : (sortZ (c.toNat : Int) == 1) = false) (h2 : ((c.toNat : Int) == 37) = true) : gapN (c :: t) = (Lib.cut (c :: t) [10]).1.length := by
  simp only [gapN]; rw [if_neg (by rw [h]; simp), if_pos h2]
theorem gap_no {c : UInt8} {t : List UInt8} (h : (sortZ (c.toNat : Int) == 1) = false) (h2 : ((c.toNat : Int) == 37) = false) (h3 : Lib.hasPrefix (c :: t) [47, 42] = false) : gapN (c :: t) = 0 := by
  simp only [gapN]; rw [if_neg (by rw [h]; simp), if_neg (by rw [h2]; simp), if_neg (by rw [h3]; simp)]
theorem gap_yes {c : UInt8} {t : List UInt8} (h : (sortZ (c.toNat : Int) == 1) = false) (h2 : ((c.toNat : Int) == 37) = false) (h3 : Lib.hasPrefix (c :: t) [47, 42] = true) :
    gapN (c :: t) = if (Lib.cut (t.drop 1) [42, 47]).2.2 = true then 2 + (Lib.cut (t.drop 1) [42, 47]).1.length + 2 else 0 := by
  simp only [gapN]; rw [if_neg (by rw [h]; simp), if_neg (by rw [h2]; simp), if_pos h3]
theorem cut_len (s sep : List UInt8) : (Lib.cut s sep).1.length ≤ s.length := by
  unfold Lib.cut
  split
  · simp; omega
  · simp
set_option maxRecDepth 100000 in
set_option maxHeartbeats 1600000 in
theorem gap_is (p : Nat) (s : ByteArray) (n : Int) (w : World) (h : PL w p s n) (hs : s.size ≤ 5000) (ht : Lay w) :
    Calls Tryz.prog 88 #[.pointer (some ⟨p, 0, none⟩)] w fun e w' => e = .returned (.int .i64 (gapN s.data.toList)) ∧ ∃ k, w' = w.drewN k := by
  obtain ⟨c0, _, _, _⟩ := h.cells
  obtain ⟨m, hm⟩ := ht.2
  by_cases hp : 0 < s.size
  rotate_left
  · have hl : s.data.toList = [] := by apply List.eq_nil_of_length_eq_zero; rw [← Lib.size_eq]; omega
    have he : s.toList.isEmpty = true := by rw [Lib.toList_data, hl]; rfl
    have HO := Lib.hid (show gapN s.data.toList = 0 by rw [hl]; rfl)
    clear h ht hl
    go_enter Tryz.func88, Tryz.ntmps88
    go_wp2_with fail
    go_ret
    exact ⟨by rw [HO.out]; rfl, 0, rfl⟩
  obtain ⟨c, t, hl⟩ := cons_of hp
  have he : s.toList.isEmpty = false := by rw [Lib.toList_data, hl]; rfl
  have hc := at_0 hl hp
  have HL := Lib.hid hl
  have S := Lib.hid (fun w => sort_is (c.toNat : Int) w (by omega) (by have := c.toNat_lt; omega))
  obtain ⟨z, hz⟩ : ∃ z, sortZ (c.toNat : Int) = z := ⟨_, rfl⟩
  rw [hz] at S
  have HZ := Lib.hid hz
  have HM := Lib.hid hm
  clear h ht hl hz hm
  cases hq : (z == 1)
  rotate_left
  · have HO := Lib.hid (show gapN s.data.toList = 1 by rw [HL.out, gap_blank (by rw [HZ.out]; exact hq)])
    go_enter Tryz.func88, Tryz.ntmps88
    go_wp2_with (go_at_call 74; refine (S.out _).mono ?_; rintro e w' ⟨rfl, rfl⟩)
    go_ret
    exact ⟨by rw [HO.out]; rfl, 0, rfl⟩
  cases h37 : ((c.toNat : Int) == 37)
  rotate_left
  · have HO := Lib.hid (show gapN s.data.toList = (Lib.cut s.data.toList [10]).1.length by rw [HL.out, gap_37 (by rw [HZ.out]; exact hq) h37])
    have C := Lib.hid (Tryz.strings_Cut s ⟨#[10]⟩ m w (by omega) HM.out)
    obtain ⟨X, hX⟩ : ∃ X : ByteArray, (⟨(Lib.cut s.data.toList (ByteArray.mk #[10]).data.toList).1.toArray⟩ : ByteArray) = X := ⟨_, rfl⟩
    have hXs : X.size = (Lib.cut s.data.toList [10]).1.length := by rw [← hX, Lib.size_eq]
    rw [hX] at C
    have HX := Lib.hid hXs
    have hXb : X.size ≤ 5000 := by rw [hXs]; have := cut_len s.data.toList [10]; rw [← Lib.size_eq] at this; omega
    clear hX hXs
    go_enter Tryz.func88, Tryz.ntmps88
    go_wp2_with (go_at_call 74; refine (S.out _).mono ?_; rintro e w' ⟨rfl, rfl⟩)
    refine C.out.mono ?_
    rintro e w' ⟨rfl, k, rfl⟩
    go_wp2_with fail
    go_ret
    exact ⟨by rw [HO.out, ← HX.out]; rfl, k, rfl⟩
  have P := Lib.hid (fun w => Tryz.strings_HasPrefix s ⟨#[47, 42]⟩ w)
  obtain ⟨b, hb⟩ : ∃ b, Lib.hasPrefix s.data.toList (ByteArray.mk #[47, 42]).data.toList = b := ⟨_, rfl⟩
  rw [hb] at P
  have hb' : Lib.hasPrefix (c :: t) [47, 42] = b := by rw [← hb, HL.out]
  cases b
  · have HO := Lib.hid (show gapN s.data.toList = 0 by rw [HL.out, gap_no (by rw [HZ.out]; exact hq) h37 hb'])
    clear hb hb'
    go_enter Tryz.func88, Tryz.ntmps88
    go_wp2_with (first | (go_at_call 74; refine (S.out _).mono ?_; rintro e w' ⟨rfl, rfl⟩) | (go_at_call 49; refine (P.out _).mono ?_; rintro e w' ⟨rfl, rfl⟩))
    go_ret
    exact ⟨by rw [HO.out]; rfl, 0, rfl⟩
  have h2 : 2 ≤ s.size := by rw [Lib.size_eq]; exact prefix_two hb
  have HO := Lib.hid (show gapN s.data.toList = if (Lib.cut (s.data.toList.drop 2) [42, 47]).2.2 = true then 2 + (Lib.cut (s.data.toList.drop 2) [42, 47]).1.length + 2 else 0 by
    rw [HL.out, gap_yes (by rw [HZ.out]; exact hq) h37 hb', List.drop_succ_cons])
  have hd : (s.extract 2 s.size).data.toList = s.data.toList.drop 2 := by rw [Lib.extract_data, List.take_of_length_le (by rw [List.length_drop, Lib.size_eq]; omega)]
  have C := Tryz.strings_Cut (s.extract 2 s.size) ⟨#[42, 47]⟩ m w (by rw [Lib.size_eq, hd, List.length_drop, ← Lib.size_eq]; omega) HM.out
  rw [hd] at C
  obtain ⟨X, hX⟩ : ∃ X : ByteArray, (⟨(Lib.cut (s.data.toList.drop 2) (ByteArray.mk #[42, 47]).data.toList).1.toArray⟩ : ByteArray) = X := ⟨_, rfl⟩
  have hXs : X.size = (Lib.cut (s.data.toList.drop 2) [42, 47]).1.length := by rw [← hX, Lib.size_eq]
  rw [hX] at C
  obtain ⟨cl, hcl⟩ : ∃ cl, (Lib.cut (s.data.toList.drop 2) (ByteArray.mk #[42, 47]).data.toList).2.2 = cl := ⟨_, rfl⟩
  rw [hcl] at C
  have hXb : X.size ≤ 5000 := by rw [hXs]; have := cut_len (s.data.toList.drop 2) [42, 47]; rw [List.length_drop, ← Lib.size_eq] at this; omega
  have C' := Lib.hid C
  have HX := Lib.hid hXs
  have HCL := Lib.hid hcl
  clear hX hXs hb hb' hd C hcl
  cases cl
  · go_enter Tryz.func88, Tryz.ntmps88
    go_wp2_with (first | (go_at_call 74; refine (S.out _).mono ?_; rintro e w' ⟨rfl, rfl⟩) | (go_at_call 49; refine (P.out _).mono ?_; rintro e w' ⟨rfl, rfl⟩))
    refine C'.out.mono ?_
    rintro e w' ⟨rfl, k, rfl⟩
    go_wp2_with fail
    go_ret
    refine ⟨?_, k, rfl⟩
    rw [HO.out, if_neg (by rw [show [42, 47] = (ByteArray.mk #[42, 47]).data.toList from rfl, HCL.out]; simp)]
    rfl
  · go_enter Tryz.func88, Tryz.ntmps88
    go_wp2_with (first | (go_at_call 74; refine (S.out _).mono ?_; rintro e w' ⟨rfl, rfl⟩) | (go_at_call 49; refine (P.out _).mono ?_; rintro e w' ⟨rfl, rfl⟩))
    refine C'.out.mono ?_
    rintro e w' ⟨rfl, k, rfl⟩
    go_wp2_with fail
    go_ret
    refine ⟨?_, k, rfl⟩
    rw [HO.out, if_pos (by rw [show [42, 47] = (ByteArray.mk #[42, 47]).data.toList from rfl, HCL.out]), ← HX.out]
    go_num
end Go.Proofs.YtkplokfcjjcpcaaGreatDoor
end
section
namespace Go.Proofs.YtkplokfcjjcpcaaGreatDoor
open Go Go.RowKit Go.Maps
theorem cut_room {s sep : List UInt8} (h : (Lib.cut s sep).2.2 = true) : (Lib.cut s sep).1.length + sep.length ≤ s.length := by
  have hc := Lib.indexB_cases ⟨s.toArray⟩ ⟨sep.toArray⟩
  have he : Lib.indexB ⟨s.toArray⟩ ⟨sep.toArray⟩ = Lib.index s sep := rfl
  rw [he] at hc
  unfold Lib.cut at h ⊢
  split at h
  · rename_i h0
    rw [if_pos h0]
    rcases hc with hc | ⟨i, hi, hl⟩
    · omega
    · rw [Lib.size_eq, Lib.size_eq] at hl
      simp at hl ⊢
      omega
  · cases h
theorem gapN_le (l : List UInt8) : gapN l ≤ l.length := by
  rcases l with _ | ⟨c, t⟩
  · exact Nat.le_refl _
  · simp only [gapN]
    split
    · simp
    · split
      · exact cut_len _ _
      · split
        · rename_i hp
          split
          · rename_i h
            have := cut_room h
            have h2 := prefix_two hp
            simp at this h2 ⊢
            omega
          · simp
        · simp
theorem skipF_fuel : ∀ (f f' : Nat) (l : List UInt8), l.length < f → l.length < f' → skipF f l = skipF f' l
  | 0, _, _, h, _ => by omega
  | _, 0, _, _, h => by omega
  | f + 1, f' + 1, l, h, h' => by
    unfold skipF
    by_cases h0 : gapN l = 0
    · rw [if_pos h0, if_pos h0]
    · rw [if_neg h0, if_neg h0]
      have := gapN_le l
      rw [skipF_fuel f f' (l.drop (gapN l)) (by rw [List.length_drop]; omega) (by rw [List.length_drop]; omega)]
theorem skipN_0 {l : List UInt8} (h : gapN l = 0) : skipN l = 0 := by unfold skipN skipF; rw [if_pos h]
theorem skipN_on {l : List UInt8} (h : gapN l ≠ 0) : skipN l = gapN l + skipN (l.drop (gapN l)) := by
  have := gapN_le l
  rw [show skipN l = skipF (l.length + 1) l from rfl, skipF, if_neg h, skipF_fuel l.length ((l.drop (gapN l)).length + 1) _ (by rw [List.length_drop]; omega) (by omega)]
  rfl
theorem skipF_le : ∀ (f : Nat) (l : List UInt8), skipF f l ≤ l.length
  | 0, _ => Nat.zero_le _
  | f + 1, l => by
    unfold skipF
    split
    · exact Nat.zero_le _
    · have := skipF_le f (l.drop (gapN l))
      have h2 := gapN_le l
      rw [List.length_drop] at this
      omega
theorem skipN_le (l : List UInt8) : skipN l ≤ l.length := skipF_le _ _
theorem nlC_le (l : List UInt8) : nlC l ≤ l.length := by unfold nlC Lib.countByte; exact List.count_le_length ..
theorem OnlyAt.refl (p : Nat) (w : World) : OnlyAt p w w := ⟨fun _ _ => Below.refl _ _, fun _ _ _ => rfl⟩
theorem OnlyAt.drewN (p : Nat) (w : World) (k : Nat) : OnlyAt p w (w.drewN k) := ⟨fun _ _ => ⟨rfl, rfl, rfl, Nat.le_refl _, fun _ _ => rfl⟩, fun _ _ _ => rfl⟩
theorem OnlyAt.trans {p : Nat} {a b c : World} (h : OnlyAt p a b) (k : OnlyAt p b c) : OnlyAt p a c :=
  ⟨fun H hH => (h.below H hH).trans (k.below H hH), fun i hi hl => (k.other i hi (Nat.lt_of_lt_of_le hl (h.below 0 (Nat.zero_le _)).size)).trans (h.other i hi hl)⟩
theorem OnlyAt.of {p : Nat} {w w' : World} (h : Below w.heap.size w w') (hp : p < w.heap.size) : OnlyAt p w w' := ⟨fun H hH => h.mono (by omega), fun b _ hb => h.block b hb⟩
theorem Lay.at {p : Nat} {w w' : World} (h : Lay w) (hg : ∀ g ∈ [4, 7, 8, 9], g < p) (k : OnlyAt p w w') : Lay w' := by
  have hb := fun g hg' => k.other g (Nat.ne_of_lt (hg g hg'))
  have one : ∀ g ∈ [4, 7, 8, 9], ∀ o v, w.cell? ⟨g, o, none⟩ = some v → w'.cell? ⟨g, o, none⟩ = some v := by
    intro g hg' o v hv
    have hl := World.block_lt_of_cell? _ _ hv
    have := hb g hg' hl
    unfold World.cell? at hv ⊢
    simp only [this]
    exact hv
  obtain ⟨⟨h1, ⟨e2, h2, g2⟩, e3, h3, g3⟩, m, hm⟩ := h
  exact ⟨⟨one _ (by simp) _ _ h1, ⟨e2, one _ (by simp) _ _ h2, g2⟩, e3, one _ (by simp) _ _ h3, g3⟩, m, one _ (by simp) _ _ hm⟩
structure BtSt (p : Nat) (s : ByteArray) (n : Int) (w wr : World) (g : Nat) : Prop where
  ex : ∃ (S : ByteArray) (k : Nat), PL wr p S (n + nlC (s.data.toList.take k)) ∧ S.data.toList = s.data.toList.drop k ∧ k ≤ s.size ∧ g = gapN S.data.toList ∧ skipN s.data.toList = k + skipN S.data.toList
  only : OnlyAt p w wr
def measB (w : World) (p : Nat) : Nat := match w.cell? ⟨p, 0, none⟩ with | some (.string s) => s.size | _ => 0
theorem measB_PL {w : World} {p : Nat} {s : ByteArray} {n : Int} (h : PL w p s n) : measB w p = s.size := by
  unfold measB
  rw [h.cells.1]
set_option maxRecDepth 100000 in
set_option maxHeartbeats 1600000 in
theorem between_is (p : Nat) (s : ByteArray) (n : Int) (w : World) (h : PL w p s n) (hs : s.size ≤ 5000) (hn : 0 ≤ n) (hn2 : n ≤ 5002) (ht : Lay w)
    (hg : ∀ g ∈ [4, 7, 8, 9], g < p) :
    Calls Tryz.prog 46 #[.pointer (some ⟨p, 0, none⟩)] w fun e w' => e = .returned (.bool (decide (0 < skipN s.data.toList))) ∧
      PL w' p ⟨(s.data.toList.drop (skipN s.data.toList)).toArray⟩ (n + nlC (s.data.toList.take (skipN s.data.toList))) ∧ OnlyAt p w w' := by
  obtain ⟨c0, _, _, _⟩ := h.cells
  have G0 := Lib.hid (gap_is p s n w h hs ht)
  have HT := Lib.hid ht
  have HG := Lib.hid hg
  have hn00 : n + (nlC (s.data.toList.take 0) : Int) = n := by simp [nlC, Lib.countByte]
  have H0 := Lib.hid (fun k => (⟨⟨s, 0, by rw [hn00]; exact h, by simp, Nat.zero_le _, rfl, by simp⟩, OnlyAt.drewN p w k⟩ : BtSt p s n w (w.drewN k) (gapN s.data.toList)))
  have hgb := gapN_le s.data.toList
  rw [← Lib.size_eq] at hgb
  clear h ht hg hn00
  go_enter Tryz.func46, Tryz.ntmps46
  go_wp2_with fail
  refine G0.out.mono ?_
  rintro e w' ⟨rfl, k0, rfl⟩
  go_wp2_with fail
  go_loopw [4] (fun v wr => ∃ g : Nat, v = .int .i64 g ∧ Hid (BtSt p s n w wr g)) (fun _ wr => measB wr p)
  case atStart => exact ⟨_, rfl, H0.out k0⟩
  case round =>
    obtain ⟨g, rfl, HS⟩ := hrel
    obtain ⟨⟨S, k, h, hS, hk, hgS, hsk⟩, only⟩ := HS.out
    obtain ⟨d0, _, _, _⟩ := h.cells
    have hSz : S.size = s.size - k := by rw [Lib.size_eq, hS, List.length_drop, ← Lib.size_eq]
    have hSs : S.size ≤ 5000 := by omega
    have hgl : g ≤ S.size := by rw [hgS, Lib.size_eq]; exact gapN_le _
    by_cases hg0 : g = 0
    · subst hg0
      have hsk0 : skipN s.data.toList = k := by rw [hsk, skipN_0 hgS.symm]; omega
      have HP := Lib.hid (show PL wr p ⟨(s.data.toList.drop (skipN s.data.toList)).toArray⟩ (n + nlC (s.data.toList.take (skipN s.data.toList))) by rw [hsk0, ← bytes_eq hS]; exact h)
      have HO := Lib.hid only
      have HB := Lib.hid (show decide (S.size < s.size) = decide (0 < skipN s.data.toList) by rw [hsk0, hSz, decide_eq_decide]; omega)
      clear h hS hgS hsk HS only hsk0 hSz
      go_wp2_with fail
      go_ret
      exact ⟨by rw [← HB.out]; rfl, HP.out, HO.out⟩
    · have hn3 : n + nlC (s.data.toList.take k) ≤ 20000 := by
        have := nlC_le (s.data.toList.take k)
        have h2 := List.length_take_le k s.data.toList
        omega
      have PS := Lib.hid (pass_is p S _ g wr h hSs hgl (by omega) hn3)
      have HPL := Lib.hid h
      have HSV := Lib.hid hS
      have HSK := Lib.hid hsk
      have HGS := Lib.hid hgS
      have HO := Lib.hid only
      clear h hS hgS hsk HS only
      have hg1 : (0 : Int) < (g : Int) := by omega
      go_wp2_with fail
      refine PS.out.mono ?_
      rintro e w1 ⟨rfl, pl, only1⟩
      have hS2 : (S.extract g S.size).data.toList = s.data.toList.drop (k + g) := by
        rw [Lib.extract_data, List.take_of_length_le (by rw [List.length_drop, Lib.size_eq]; omega), HSV.out, List.drop_drop]
      have hS2z : (S.extract g S.size).size = S.size - g := by rw [Lib.size_eq, hS2, List.length_drop, ← Lib.size_eq]; omega
      have G1 := Lib.hid (gap_is p _ _ w1 pl (by omega) (HT.out.at HG.out (HO.out.trans only1)))
      have NX := Lib.hid (fun j => (⟨⟨S.extract g S.size, k + g, by
          have e1 : n + (nlC (s.data.toList.take k) : Int) + (nlC (S.data.toList.take g) : Int) = n + nlC (s.data.toList.take (k + g)) := by
            rw [List.take_add, nlC_app, HSV.out]
            omega
          rw [← e1]
          exact pl, hS2, by omega, rfl, by rw [HSK.out, skipN_on (by rw [← HGS.out]; exact hg0), ← HGS.out, hS2, HSV.out, List.drop_drop]; omega⟩, (HO.out.trans only1).trans (OnlyAt.drewN p w1 j)⟩ : BtSt p s n w (w1.drewN j) (gapN (S.extract g S.size).data.toList)))
      obtain ⟨gn, hgn⟩ : ∃ gn, gapN (S.extract g S.size).data.toList = gn := ⟨_, rfl⟩
      rw [hgn] at G1 NX
      have HM := Lib.hid (fun j => (show measB (w1.drewN j) p < measB wr p by
        rw [measB_PL HPL.out, measB_PL (show PL (w1.drewN j) p (S.extract g S.size) _ from pl)]; omega))
      clear pl only1 hS2 hS2z hgn
      go_wp2_with fail
      refine G1.out.mono ?_
      rintro e w2 ⟨rfl, j, rfl⟩
      go_wp2_with fail
      go_roundw
      case rel => exact ⟨_, rfl, NX.out j⟩
      case measure => exact HM.out j
end Go.Proofs.YtkplokfcjjcpcaaGreatDoor
end
