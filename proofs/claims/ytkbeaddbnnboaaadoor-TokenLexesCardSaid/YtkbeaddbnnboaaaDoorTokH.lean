/- Package token's number and the attempts that only call one: contracts. Conditions: the place stands in memory; its text has one to 5000 bytes; the library's variables hold what their text lays. -/
import Derived.Test.YtkbeaddbnnboaaaDoorTokG
namespace Go.Proofs.YtkbeaddbnnboaaaDoor
open Go Go.RowKit Go.Maps

set_option maxRecDepth 100000 in
set_option maxHeartbeats 800000 in
theorem word_is (p : Nat) (s : ByteArray) (n : Int) (w : World) (h : PL w p s n) (hs : s.size ≤ 5000) (hp : 0 < s.size) :
    Calls Tryd.prog 30 #[.pointer (some ⟨p, 0, none⟩)] w (AttPost w (lettersT 2 1 s.data.toList)) := by
  have hb0 : Below w.heap.size w (w.alloc (.cells zero6 30)) := (Below.refl _ _).alloc (Nat.le_refl _) _
  obtain ⟨c0, _, _, _⟩ := (h.on hb0).cells
  have six : Six (w.alloc (.cells zero6 30)) w.heap.size := ⟨new_at _ _ rfl⟩
  have SIX := Lib.hid six
  have HB0 := Lib.hid hb0
  have C := Lib.hid (letters_is p s n 2 1 _ (h.on hb0) hs hp rfl)
  clear h hb0 six
  unfold zero6 at *
  go_enter Tryd.func30, Tryd.ntmps30
  go_wp2_with fail
  refine C.out.mono ?_
  rintro e w5 ⟨⟨t, m, rfl, ho⟩, b5⟩
  have S5 := SIX.out.on b5
  obtain ⟨d0, d1, d2, d3, d4, d5, z0, z1, z2, z3, z4, z5⟩ := S5.facts
  have HS5 := Lib.hid S5
  have HO := Lib.hid ho
  have HB := Lib.hid (HB0.out.trans (b5.mono HB0.out.size))
  clear b5 S5 SIX HB0 ho C
  go_wp2_with fail
  obtain ⟨q0, q1, q2, q3, q4, q5⟩ := six_cells HS5.out.h (.int .i64 t.k) (.int .i64 0) (.int .i64 t.n) (.string ⟨t.s.toArray⟩) (.bool false) (.bool false)
  refine bodyPost_ret (v := .tuple #[.agg #[.int .i64 t.k, .int .i64 0, .int .i64 t.n, .string ⟨t.s.toArray⟩, .bool false, .bool false], .int .i64 m]) (by simp [results, Tryd.results30, go_sem, q0, q1, q2, q3, q4, q5]) rfl ?_
  exact ⟨⟨t, m, rfl, HO.out⟩, below6 HB.out _ _ _ _ _ _⟩

set_option maxRecDepth 100000 in
set_option maxHeartbeats 800000 in
theorem named_is (p : Nat) (s : ByteArray) (n : Int) (w : World) (h : PL w p s n) (hs : s.size ≤ 5000) (hp : 0 < s.size) :
    Calls Tryd.prog 33 #[.pointer (some ⟨p, 0, none⟩)] w (AttPost w (lettersT 3 4 s.data.toList)) := by
  have hb0 : Below w.heap.size w (w.alloc (.cells zero6 30)) := (Below.refl _ _).alloc (Nat.le_refl _) _
  obtain ⟨c0, _, _, _⟩ := (h.on hb0).cells
  have six : Six (w.alloc (.cells zero6 30)) w.heap.size := ⟨new_at _ _ rfl⟩
  have SIX := Lib.hid six
  have HB0 := Lib.hid hb0
  have C := Lib.hid (letters_is p s n 3 4 _ (h.on hb0) hs hp rfl)
  clear h hb0 six
  unfold zero6 at *
  go_enter Tryd.func33, Tryd.ntmps33
  go_wp2_with fail
  refine C.out.mono ?_
  rintro e w5 ⟨⟨t, m, rfl, ho⟩, b5⟩
  have S5 := SIX.out.on b5
  obtain ⟨d0, d1, d2, d3, d4, d5, z0, z1, z2, z3, z4, z5⟩ := S5.facts
  have HS5 := Lib.hid S5
  have HO := Lib.hid ho
  have HB := Lib.hid (HB0.out.trans (b5.mono HB0.out.size))
  clear b5 S5 SIX HB0 ho C
  go_wp2_with fail
  obtain ⟨q0, q1, q2, q3, q4, q5⟩ := six_cells HS5.out.h (.int .i64 t.k) (.int .i64 0) (.int .i64 t.n) (.string ⟨t.s.toArray⟩) (.bool false) (.bool false)
  refine bodyPost_ret (v := .tuple #[.agg #[.int .i64 t.k, .int .i64 0, .int .i64 t.n, .string ⟨t.s.toArray⟩, .bool false, .bool false], .int .i64 m]) (by simp [results, Tryd.results33, go_sem, q0, q1, q2, q3, q4, q5]) rfl ?_
  exact ⟨⟨t, m, rfl, HO.out⟩, below6 HB.out _ _ _ _ _ _⟩

set_option maxRecDepth 100000 in
set_option maxHeartbeats 800000 in
theorem solo_is (p : Nat) (s : ByteArray) (n : Int) (w : World) (h : PL w p s n) (hs : s.size ≤ 5000) (hp : 0 < s.size) :
    Calls Tryd.prog 32 #[.pointer (some ⟨p, 0, none⟩)] w (AttPost w (aloneT 6 1 s.data.toList)) := by
  have hb0 : Below w.heap.size w (w.alloc (.cells zero6 30)) := (Below.refl _ _).alloc (Nat.le_refl _) _
  obtain ⟨c0, _, _, _⟩ := (h.on hb0).cells
  have six : Six (w.alloc (.cells zero6 30)) w.heap.size := ⟨new_at _ _ rfl⟩
  have SIX := Lib.hid six
  have HB0 := Lib.hid hb0
  have C := Lib.hid (alone_is p s n 6 1 _ (h.on hb0) hs hp)
  clear h hb0 six
  unfold zero6 at *
  go_enter Tryd.func32, Tryd.ntmps32
  go_wp2_with fail
  refine C.out.mono ?_
  rintro e w5 ⟨⟨t, m, rfl, ho⟩, b5⟩
  have S5 := SIX.out.on b5
  obtain ⟨d0, d1, d2, d3, d4, d5, z0, z1, z2, z3, z4, z5⟩ := S5.facts
  have HS5 := Lib.hid S5
  have HO := Lib.hid ho
  have HB := Lib.hid (HB0.out.trans (b5.mono HB0.out.size))
  clear b5 S5 SIX HB0 ho C
  go_wp2_with fail
  obtain ⟨q0, q1, q2, q3, q4, q5⟩ := six_cells HS5.out.h (.int .i64 t.k) (.int .i64 0) (.int .i64 t.n) (.string ⟨t.s.toArray⟩) (.bool false) (.bool false)
  refine bodyPost_ret (v := .tuple #[.agg #[.int .i64 t.k, .int .i64 0, .int .i64 t.n, .string ⟨t.s.toArray⟩, .bool false, .bool false], .int .i64 m]) (by simp [results, Tryd.results32, go_sem, q0, q1, q2, q3, q4, q5]) rfl ?_
  exact ⟨⟨t, m, rfl, HO.out⟩, below6 HB.out _ _ _ _ _ _⟩

set_option maxRecDepth 100000 in
set_option maxHeartbeats 800000 in
theorem punct_is (p : Nat) (s : ByteArray) (n : Int) (w : World) (h : PL w p s n) (hs : s.size ≤ 5000) (hp : 0 < s.size) :
    Calls Tryd.prog 37 #[.pointer (some ⟨p, 0, none⟩)] w (AttPost w (aloneT 7 6 s.data.toList)) := by
  have hb0 : Below w.heap.size w (w.alloc (.cells zero6 30)) := (Below.refl _ _).alloc (Nat.le_refl _) _
  obtain ⟨c0, _, _, _⟩ := (h.on hb0).cells
  have six : Six (w.alloc (.cells zero6 30)) w.heap.size := ⟨new_at _ _ rfl⟩
  have SIX := Lib.hid six
  have HB0 := Lib.hid hb0
  have C := Lib.hid (alone_is p s n 7 6 _ (h.on hb0) hs hp)
  clear h hb0 six
  unfold zero6 at *
  go_enter Tryd.func37, Tryd.ntmps37
  go_wp2_with fail
  refine C.out.mono ?_
  rintro e w5 ⟨⟨t, m, rfl, ho⟩, b5⟩
  have S5 := SIX.out.on b5
  obtain ⟨d0, d1, d2, d3, d4, d5, z0, z1, z2, z3, z4, z5⟩ := S5.facts
  have HS5 := Lib.hid S5
  have HO := Lib.hid ho
  have HB := Lib.hid (HB0.out.trans (b5.mono HB0.out.size))
  clear b5 S5 SIX HB0 ho C
  go_wp2_with fail
  obtain ⟨q0, q1, q2, q3, q4, q5⟩ := six_cells HS5.out.h (.int .i64 t.k) (.int .i64 0) (.int .i64 t.n) (.string ⟨t.s.toArray⟩) (.bool false) (.bool false)
  refine bodyPost_ret (v := .tuple #[.agg #[.int .i64 t.k, .int .i64 0, .int .i64 t.n, .string ⟨t.s.toArray⟩, .bool false, .bool false], .int .i64 m]) (by simp [results, Tryd.results37, go_sem, q0, q1, q2, q3, q4, q5]) rfl ?_
  exact ⟨⟨t, m, rfl, HO.out⟩, below6 HB.out _ _ _ _ _ _⟩

set_option maxRecDepth 100000 in
set_option maxHeartbeats 800000 in
theorem quoted_is (p : Nat) (s : ByteArray) (n : Int) (w : World) (h : PL w p s n) (hs : s.size ≤ 5000) (hp : 0 < s.size) (ht : Tab w) :
    Calls Tryd.prog 35 #[.pointer (some ⟨p, 0, none⟩)] w (AttPost w (withinT 39 2 s.data.toList)) := by
  have hb0 : Below w.heap.size w (w.alloc (.cells zero6 30)) := (Below.refl _ _).alloc (Nat.le_refl _) _
  obtain ⟨c0, _, _, _⟩ := (h.on hb0).cells
  have six : Six (w.alloc (.cells zero6 30)) w.heap.size := ⟨new_at _ _ rfl⟩
  have SIX := Lib.hid six
  have HB0 := Lib.hid hb0
  have C := Lib.hid (within_is p s n 39 2 _ (h.on hb0) hs hp (ht.on hb0))
  clear h hb0 six ht
  unfold zero6 at *
  go_enter Tryd.func35, Tryd.ntmps35
  go_wp2_with fail
  refine C.out.mono ?_
  rintro e w5 ⟨⟨t, m, rfl, ho⟩, b5⟩
  have S5 := SIX.out.on b5
  obtain ⟨d0, d1, d2, d3, d4, d5, z0, z1, z2, z3, z4, z5⟩ := S5.facts
  have HS5 := Lib.hid S5
  have HO := Lib.hid ho
  have HB := Lib.hid (HB0.out.trans (b5.mono HB0.out.size))
  clear b5 S5 SIX HB0 ho C
  go_wp2_with fail
  obtain ⟨q0, q1, q2, q3, q4, q5⟩ := six_cells HS5.out.h (.int .i64 t.k) (.int .i64 0) (.int .i64 t.n) (.string ⟨t.s.toArray⟩) (.bool false) (.bool false)
  refine bodyPost_ret (v := .tuple #[.agg #[.int .i64 t.k, .int .i64 0, .int .i64 t.n, .string ⟨t.s.toArray⟩, .bool false, .bool false], .int .i64 m]) (by simp [results, Tryd.results35, go_sem, q0, q1, q2, q3, q4, q5]) rfl ?_
  exact ⟨⟨t, m, rfl, HO.out⟩, below6 HB.out _ _ _ _ _ _⟩

set_option maxRecDepth 100000 in
set_option maxHeartbeats 800000 in
theorem codes_is (p : Nat) (s : ByteArray) (n : Int) (w : World) (h : PL w p s n) (hs : s.size ≤ 5000) (hp : 0 < s.size) (ht : Tab w) :
    Calls Tryd.prog 36 #[.pointer (some ⟨p, 0, none⟩)] w (AttPost w (withinT 34 5 s.data.toList)) := by
  have hb0 : Below w.heap.size w (w.alloc (.cells zero6 30)) := (Below.refl _ _).alloc (Nat.le_refl _) _
  obtain ⟨c0, _, _, _⟩ := (h.on hb0).cells
  have six : Six (w.alloc (.cells zero6 30)) w.heap.size := ⟨new_at _ _ rfl⟩
  have SIX := Lib.hid six
  have HB0 := Lib.hid hb0
  have C := Lib.hid (within_is p s n 34 5 _ (h.on hb0) hs hp (ht.on hb0))
  clear h hb0 six ht
  unfold zero6 at *
  go_enter Tryd.func36, Tryd.ntmps36
  go_wp2_with fail
  refine C.out.mono ?_
  rintro e w5 ⟨⟨t, m, rfl, ho⟩, b5⟩
  have S5 := SIX.out.on b5
  obtain ⟨d0, d1, d2, d3, d4, d5, z0, z1, z2, z3, z4, z5⟩ := S5.facts
  have HS5 := Lib.hid S5
  have HO := Lib.hid ho
  have HB := Lib.hid (HB0.out.trans (b5.mono HB0.out.size))
  clear b5 S5 SIX HB0 ho C
  go_wp2_with fail
  obtain ⟨q0, q1, q2, q3, q4, q5⟩ := six_cells HS5.out.h (.int .i64 t.k) (.int .i64 0) (.int .i64 t.n) (.string ⟨t.s.toArray⟩) (.bool false) (.bool false)
  refine bodyPost_ret (v := .tuple #[.agg #[.int .i64 t.k, .int .i64 0, .int .i64 t.n, .string ⟨t.s.toArray⟩, .bool false, .bool false], .int .i64 m]) (by simp [results, Tryd.results36, go_sem, q0, q1, q2, q3, q4, q5]) rfl ?_
  exact ⟨⟨t, m, rfl, HO.out⟩, below6 HB.out _ _ _ _ _ _⟩

theorem prefix_two {l : List UInt8} {a b : UInt8} (h : Lib.hasPrefix l [a, b] = true) : 2 ≤ l.length := by
  match l, h with
  | _ :: _ :: _, _ => simp
  | [x], h => simp [Lib.hasPrefix] at h
set_option maxRecDepth 100000 in
set_option maxHeartbeats 1600000 in
theorem numT_is (p : Nat) (s : ByteArray) (n : Int) (w : World) (h : PL w p s n) (hs : s.size ≤ 5000) (ht : Tab w) :
    Calls Tryd.prog 34 #[.pointer (some ⟨p, 0, none⟩)] w (AttPost w (numberT s.data.toList)) := by
  have hb0 : Below w.heap.size w (w.alloc (.cells zero6 30)) := (Below.refl _ _).alloc (Nat.le_refl _) _
  obtain ⟨c0, _, _, _⟩ := (h.on hb0).cells
  have six : Six (w.alloc (.cells zero6 30)) w.heap.size := ⟨new_at _ _ rfl⟩
  have SIX := Lib.hid six
  have HB0 := Lib.hid hb0
  have P1 := Lib.hid (fun w => Tryd.strings_HasPrefix s ⟨#[48, 120]⟩ w)
  obtain ⟨b1, hb1⟩ : ∃ b, Lib.hasPrefix s.data.toList (ByteArray.mk #[48, 120]).data.toList = b := ⟨_, rfl⟩
  rw [hb1] at P1
  have P2 := Lib.hid (fun w => Tryd.strings_HasPrefix s ⟨#[48, 111]⟩ w)
  obtain ⟨b2, hb2⟩ : ∃ b, Lib.hasPrefix s.data.toList (ByteArray.mk #[48, 111]).data.toList = b := ⟨_, rfl⟩
  rw [hb2] at P2
  have P3 := Lib.hid (fun w => Tryd.strings_HasPrefix s ⟨#[48, 98]⟩ w)
  obtain ⟨b3, hb3⟩ : ∃ b, Lib.hasPrefix s.data.toList (ByteArray.mk #[48, 98]).data.toList = b := ⟨_, rfl⟩
  rw [hb3] at P3
  have P4 := Lib.hid (fun w => Tryd.strings_HasPrefix s ⟨#[48, 39]⟩ w)
  obtain ⟨b4, hb4⟩ : ∃ b, Lib.hasPrefix s.data.toList (ByteArray.mk #[48, 39]).data.toList = b := ⟨_, rfl⟩
  rw [hb4] at P4
  have HN := Lib.hid (show numberT s.data.toList = if b1 = true then digitsT 2 16 s.data.toList else if b2 = true then digitsT 2 8 s.data.toList else if b3 = true then digitsT 2 2 s.data.toList else if b4 = true then charT s.data.toList else digitsT 0 10 s.data.toList by
    rw [← hb1, ← hb2, ← hb3, ← hb4]
    rfl)
  have hq := h.on hb0
  have hto := ht.on hb0
  cases b1
  rotate_left
  · have C := Lib.hid (digits_is p s n 2 16 _ hq hs (by rw [Lib.size_eq]; exact prefix_two hb1))
    clear h hb0 six hb1 hb2 hb3 hb4 hq ht hto
    unfold zero6 at *
    go_enter Tryd.func34, Tryd.ntmps34
    go_wp2_with (go_at_call 19; first | (refine (P1.out _).mono ?_; rintro e w' ⟨rfl, rfl⟩))
    refine C.out.mono ?_
    rintro e w5 ⟨⟨t, m, rfl, ho⟩, b5⟩
    have S5 := SIX.out.on b5
    obtain ⟨d0, d1, d2, d3, d4, d5, z0, z1, z2, z3, z4, z5⟩ := S5.facts
    have HS5 := Lib.hid S5
    have HO := Lib.hid ho
    have HB := Lib.hid (HB0.out.trans (b5.mono HB0.out.size))
    clear b5 S5 SIX HB0 ho C
    go_wp2_with fail
    obtain ⟨q0, q1, q2, q3, q4, q5⟩ := six_cells HS5.out.h (.int .i64 t.k) (.int .i64 0) (.int .i64 t.n) (.string ⟨t.s.toArray⟩) (.bool false) (.bool false)
    refine bodyPost_ret (v := .tuple #[.agg #[.int .i64 t.k, .int .i64 0, .int .i64 t.n, .string ⟨t.s.toArray⟩, .bool false, .bool false], .int .i64 m]) (by simp [results, Tryd.results34, go_sem, q0, q1, q2, q3, q4, q5]) rfl ?_
    exact ⟨⟨t, m, rfl, by rw [HN.out]; exact HO.out⟩, below6 HB.out _ _ _ _ _ _⟩
  cases b2
  rotate_left
  · have C := Lib.hid (digits_is p s n 2 8 _ hq hs (by rw [Lib.size_eq]; exact prefix_two hb2))
    clear h hb0 six hb1 hb2 hb3 hb4 hq ht hto
    unfold zero6 at *
    go_enter Tryd.func34, Tryd.ntmps34
    go_wp2_with (go_at_call 19; first | (refine (P1.out _).mono ?_; rintro e w' ⟨rfl, rfl⟩) | (refine (P2.out _).mono ?_; rintro e w' ⟨rfl, rfl⟩))
    refine C.out.mono ?_
    rintro e w5 ⟨⟨t, m, rfl, ho⟩, b5⟩
    have S5 := SIX.out.on b5
    obtain ⟨d0, d1, d2, d3, d4, d5, z0, z1, z2, z3, z4, z5⟩ := S5.facts
    have HS5 := Lib.hid S5
    have HO := Lib.hid ho
    have HB := Lib.hid (HB0.out.trans (b5.mono HB0.out.size))
    clear b5 S5 SIX HB0 ho C
    go_wp2_with fail
    obtain ⟨q0, q1, q2, q3, q4, q5⟩ := six_cells HS5.out.h (.int .i64 t.k) (.int .i64 0) (.int .i64 t.n) (.string ⟨t.s.toArray⟩) (.bool false) (.bool false)
    refine bodyPost_ret (v := .tuple #[.agg #[.int .i64 t.k, .int .i64 0, .int .i64 t.n, .string ⟨t.s.toArray⟩, .bool false, .bool false], .int .i64 m]) (by simp [results, Tryd.results34, go_sem, q0, q1, q2, q3, q4, q5]) rfl ?_
    exact ⟨⟨t, m, rfl, by rw [HN.out]; exact HO.out⟩, below6 HB.out _ _ _ _ _ _⟩
  cases b3
  rotate_left
  · have C := Lib.hid (digits_is p s n 2 2 _ hq hs (by rw [Lib.size_eq]; exact prefix_two hb3))
    clear h hb0 six hb1 hb2 hb3 hb4 hq ht hto
    unfold zero6 at *
    go_enter Tryd.func34, Tryd.ntmps34
    go_wp2_with (go_at_call 19; first | (refine (P1.out _).mono ?_; rintro e w' ⟨rfl, rfl⟩) | (refine (P2.out _).mono ?_; rintro e w' ⟨rfl, rfl⟩) | (refine (P3.out _).mono ?_; rintro e w' ⟨rfl, rfl⟩))
    refine C.out.mono ?_
    rintro e w5 ⟨⟨t, m, rfl, ho⟩, b5⟩
    have S5 := SIX.out.on b5
    obtain ⟨d0, d1, d2, d3, d4, d5, z0, z1, z2, z3, z4, z5⟩ := S5.facts
    have HS5 := Lib.hid S5
    have HO := Lib.hid ho
    have HB := Lib.hid (HB0.out.trans (b5.mono HB0.out.size))
    clear b5 S5 SIX HB0 ho C
    go_wp2_with fail
    obtain ⟨q0, q1, q2, q3, q4, q5⟩ := six_cells HS5.out.h (.int .i64 t.k) (.int .i64 0) (.int .i64 t.n) (.string ⟨t.s.toArray⟩) (.bool false) (.bool false)
    refine bodyPost_ret (v := .tuple #[.agg #[.int .i64 t.k, .int .i64 0, .int .i64 t.n, .string ⟨t.s.toArray⟩, .bool false, .bool false], .int .i64 m]) (by simp [results, Tryd.results34, go_sem, q0, q1, q2, q3, q4, q5]) rfl ?_
    exact ⟨⟨t, m, rfl, by rw [HN.out]; exact HO.out⟩, below6 HB.out _ _ _ _ _ _⟩
  cases b4
  rotate_left
  · have C := Lib.hid (char_is p s n _ hq hs (by rw [Lib.size_eq]; exact prefix_two hb4) hto)
    clear h hb0 six hb1 hb2 hb3 hb4 hq ht hto
    unfold zero6 at *
    go_enter Tryd.func34, Tryd.ntmps34
    go_wp2_with (go_at_call 19; first | (refine (P1.out _).mono ?_; rintro e w' ⟨rfl, rfl⟩) | (refine (P2.out _).mono ?_; rintro e w' ⟨rfl, rfl⟩) | (refine (P3.out _).mono ?_; rintro e w' ⟨rfl, rfl⟩) | (refine (P4.out _).mono ?_; rintro e w' ⟨rfl, rfl⟩))
    refine C.out.mono ?_
    rintro e w5 ⟨⟨t, m, rfl, ho⟩, b5⟩
    have S5 := SIX.out.on b5
    obtain ⟨d0, d1, d2, d3, d4, d5, z0, z1, z2, z3, z4, z5⟩ := S5.facts
    have HS5 := Lib.hid S5
    have HO := Lib.hid ho
    have HB := Lib.hid (HB0.out.trans (b5.mono HB0.out.size))
    clear b5 S5 SIX HB0 ho C
    go_wp2_with fail
    obtain ⟨q0, q1, q2, q3, q4, q5⟩ := six_cells HS5.out.h (.int .i64 t.k) (.int .i64 0) (.int .i64 t.n) (.string ⟨t.s.toArray⟩) (.bool false) (.bool false)
    refine bodyPost_ret (v := .tuple #[.agg #[.int .i64 t.k, .int .i64 0, .int .i64 t.n, .string ⟨t.s.toArray⟩, .bool false, .bool false], .int .i64 m]) (by simp [results, Tryd.results34, go_sem, q0, q1, q2, q3, q4, q5]) rfl ?_
    exact ⟨⟨t, m, rfl, by rw [HN.out]; exact HO.out⟩, below6 HB.out _ _ _ _ _ _⟩
  have C := Lib.hid (digits_is p s n 0 10 _ hq hs (by omega))
  clear h hb0 six hb1 hb2 hb3 hb4 hq ht hto
  unfold zero6 at *
  go_enter Tryd.func34, Tryd.ntmps34
  go_wp2_with (go_at_call 19; first | (refine (P1.out _).mono ?_; rintro e w' ⟨rfl, rfl⟩) | (refine (P2.out _).mono ?_; rintro e w' ⟨rfl, rfl⟩) | (refine (P3.out _).mono ?_; rintro e w' ⟨rfl, rfl⟩) | (refine (P4.out _).mono ?_; rintro e w' ⟨rfl, rfl⟩))
  refine C.out.mono ?_
  rintro e w5 ⟨⟨t, m, rfl, ho⟩, b5⟩
  have S5 := SIX.out.on b5
  obtain ⟨d0, d1, d2, d3, d4, d5, z0, z1, z2, z3, z4, z5⟩ := S5.facts
  have HS5 := Lib.hid S5
  have HO := Lib.hid ho
  have HB := Lib.hid (HB0.out.trans (b5.mono HB0.out.size))
  clear b5 S5 SIX HB0 ho C
  go_wp2_with fail
  obtain ⟨q0, q1, q2, q3, q4, q5⟩ := six_cells HS5.out.h (.int .i64 t.k) (.int .i64 0) (.int .i64 t.n) (.string ⟨t.s.toArray⟩) (.bool false) (.bool false)
  refine bodyPost_ret (v := .tuple #[.agg #[.int .i64 t.k, .int .i64 0, .int .i64 t.n, .string ⟨t.s.toArray⟩, .bool false, .bool false], .int .i64 m]) (by simp [results, Tryd.results34, go_sem, q0, q1, q2, q3, q4, q5]) rfl ?_
  exact ⟨⟨t, m, rfl, by rw [HN.out]; exact HO.out⟩, below6 HB.out _ _ _ _ _ _⟩

end Go.Proofs.YtkbeaddbnnboaaaDoor
