/- The document's table of operators: priorities and sides. Conditions: as each states. -/
import Derived.Test.YtnnhpjpfmmlimaaDoorOpW
namespace Go.Proofs.YtnnhpjpfmmlimaaDoor
open Go Go.RowKit Go.Maps
open Go.WideMaps Go.WideElems

theorem fz_sides (L : List Df) (n : ByteArray) (s : Int) : sidesZ L n s = ((fz L n s).pri, (fz L n s).pri - lft (fz L n s).typ, (fz L n s).pri - rgt (fz L n s).typ) := by
  unfold sidesZ fz
  cases fnd L n s <;> rfl
theorem field0 (p t : Int) (x : ByteArray) (w : World) : (Instr.field 29 (.agg #[.int .i64 p, .int .i64 t, .string x]) 0).run Tryd.prog w = .ok (.int .i64 p) w := by kernel_rfl
structure FzFit (L : List Df) (n : ByteArray) (s : Int) (d : Df) : Prop where
  p0 : 0 ≤ d.pri
  p1 : d.pri ≤ 1200
  k : d.typ = 0 ∨ (s = 1 ∧ (d.typ = 4 ∨ d.typ = 5)) ∨ (s = 2 ∧ (d.typ = 1 ∨ d.typ = 2 ∨ d.typ = 3)) ∨ (s = 3 ∧ (d.typ = 6 ∨ d.typ = 7))
  any : decide (0 < d.pri) = (fnd L n s).isSome
theorem fz_fit {L : List Df} (hw : Wf L) (n : ByteArray) (s : Int) : FzFit L n s (fz L n s) := by
  unfold fz
  cases h : fnd L n s with
  | none => exact ⟨by decide, by decide, .inl rfl, by rw [h]; rfl⟩
  | some d =>
    obtain ⟨h1, h2, h3⟩ := fnd_mem h
    obtain ⟨f1, f2, f3, f4, _⟩ := hw.fit d h1
    show FzFit L n s d
    refine ⟨by omega, f2, .inr ?_, by rw [h]; simp; omega⟩
    unfold srt at h3
    split at h3
    · exact .inr (.inl ⟨h3.symm, by omega⟩)
    · split at h3
      · exact .inl ⟨h3.symm, by omega⟩
      · exact .inr (.inr ⟨h3.symm, by omega⟩)

set_option maxRecDepth 100000 in
set_option maxHeartbeats 1600000 in
theorem rprefix_is (b : Nat) (L : List Df) (n : ByteArray) (w : World) (h : Rt w b L) (hL : L.length ≤ 300) :
    Calls Tryd.prog 15 #[.pointer (some ⟨b, 0, none⟩), .string n] w fun e w' => e = .returned (.tuple #[.int .i64 (sidesZ L n 1).1, .int .i64 (sidesZ L n 1).2.2]) ∧ Below w.heap.size w w' := by
  have F := Lib.hid (rfind_is b L n 1 w h hL)
  have G := fz_fit h.wf n 1
  rw [fz_sides]
  obtain ⟨d, hd⟩ : ∃ d, fz L n 1 = d := ⟨_, rfl⟩
  rw [hd] at F G ⊢
  clear hd h
  obtain ⟨p, t, x⟩ := d
  obtain ⟨p0, p1, hk, _⟩ := G
  simp only at p0 p1 hk F ⊢
  have ht : t = 0 ∨ t = 4 ∨ t = 5 := by
    rcases hk with h | h | h | h
    · exact .inl h
    · exact .inr h.2
    · exact absurd h.1 (by decide)
    · exact absurd h.1 (by decide)
  clear hk
  go_enter Tryd.func15, Tryd.ntmps15
  go_wp2_with fail
  refine F.out.mono ?_
  rintro e w1 ⟨rfl, b1⟩
  have B1 := Lib.hid b1
  have N4 : (w1.alloc (.cells #[.int .i64 p, .int .i64 t, .string x] 29)).heap[w1.heap.size]? = some (.cells #[.int .i64 p, .int .i64 t, .string x] 29 (0, 0)) := new_at _ _ rfl
  obtain ⟨d0, d1, d2, _, _, _⟩ := (Three.mk N4).facts
  have BF := Lib.hid (b1.alloc b1.size (.cells #[.int .i64 p, .int .i64 t, .string x] 29))
  clear b1 N4
  rcases ht with rfl | rfl | rfl
  all_goals
    go_wp2_with fail
    go_quiet (fail)
    go_wp2_with fail
    go_ret2
    exact ⟨by simp [rgt], BF.out.trans ⟨rfl, rfl, rfl, Nat.le_of_eq (by simp), fun _ _ => rfl⟩⟩
set_option maxRecDepth 100000 in
set_option maxHeartbeats 1600000 in
theorem rpostfix_is (b : Nat) (L : List Df) (n : ByteArray) (w : World) (h : Rt w b L) (hL : L.length ≤ 300) :
    Calls Tryd.prog 19 #[.pointer (some ⟨b, 0, none⟩), .string n] w fun e w' => e = .returned (.tuple #[.int .i64 (sidesZ L n 3).1, .int .i64 (sidesZ L n 3).2.1]) ∧ Below w.heap.size w w' := by
  have F := Lib.hid (rfind_is b L n 3 w h hL)
  have G := fz_fit h.wf n 3
  rw [fz_sides]
  obtain ⟨d, hd⟩ : ∃ d, fz L n 3 = d := ⟨_, rfl⟩
  rw [hd] at F G ⊢
  clear hd h
  obtain ⟨p, t, x⟩ := d
  obtain ⟨p0, p1, hk, _⟩ := G
  simp only at p0 p1 hk F ⊢
  have ht : t = 0 ∨ t = 6 ∨ t = 7 := by
    rcases hk with h | h | h | h
    · exact .inl h
    · exact absurd h.1 (by decide)
    · exact absurd h.1 (by decide)
    · exact .inr h.2
  clear hk
  go_enter Tryd.func19, Tryd.ntmps19
  go_wp2_with fail
  refine F.out.mono ?_
  rintro e w1 ⟨rfl, b1⟩
  have B1 := Lib.hid b1
  have N4 : (w1.alloc (.cells #[.int .i64 p, .int .i64 t, .string x] 29)).heap[w1.heap.size]? = some (.cells #[.int .i64 p, .int .i64 t, .string x] 29 (0, 0)) := new_at _ _ rfl
  obtain ⟨d0, d1, d2, _, _, _⟩ := (Three.mk N4).facts
  have BF := Lib.hid (b1.alloc b1.size (.cells #[.int .i64 p, .int .i64 t, .string x] 29))
  clear b1 N4
  rcases ht with rfl | rfl | rfl
  all_goals
    go_wp2_with fail
    go_quiet (fail)
    go_wp2_with fail
    go_ret2
    exact ⟨by simp [lft], BF.out.trans ⟨rfl, rfl, rfl, Nat.le_of_eq (by simp), fun _ _ => rfl⟩⟩
set_option maxRecDepth 100000 in
set_option maxHeartbeats 1600000 in
theorem rinfix_is (b : Nat) (L : List Df) (n : ByteArray) (w : World) (h : Rt w b L) (hL : L.length ≤ 300) :
    Calls Tryd.prog 17 #[.pointer (some ⟨b, 0, none⟩), .string n] w fun e w' => e = .returned (.tuple #[.int .i64 (sidesZ L n 2).1, .int .i64 (sidesZ L n 2).2.1, .int .i64 (sidesZ L n 2).2.2]) ∧ Below w.heap.size w w' := by
  have F := Lib.hid (rfind_is b L n 2 w h hL)
  have G := fz_fit h.wf n 2
  rw [fz_sides]
  obtain ⟨d, hd⟩ : ∃ d, fz L n 2 = d := ⟨_, rfl⟩
  rw [hd] at F G ⊢
  clear hd h
  obtain ⟨p, t, x⟩ := d
  obtain ⟨p0, p1, hk, _⟩ := G
  simp only at p0 p1 hk F ⊢
  have ht : t = 0 ∨ t = 1 ∨ t = 2 ∨ t = 3 := by
    rcases hk with h | h | h | h
    · exact .inl h
    · exact absurd h.1 (by decide)
    · exact .inr h.2
    · exact absurd h.1 (by decide)
  clear hk
  go_enter Tryd.func17, Tryd.ntmps17
  go_wp2_with fail
  refine F.out.mono ?_
  rintro e w1 ⟨rfl, b1⟩
  have B1 := Lib.hid b1
  have N4 : (w1.alloc (.cells #[.int .i64 p, .int .i64 t, .string x] 29)).heap[w1.heap.size]? = some (.cells #[.int .i64 p, .int .i64 t, .string x] 29 (0, 0)) := new_at _ _ rfl
  obtain ⟨d0, d1, d2, _, _, _⟩ := (Three.mk N4).facts
  have BF := Lib.hid (b1.alloc b1.size (.cells #[.int .i64 p, .int .i64 t, .string x] 29))
  clear b1 N4
  rcases ht with rfl | rfl | rfl | rfl
  all_goals
    go_wp2_with fail
    go_quiet (fail)
    go_wp2_with fail
    go_ret3
    exact ⟨by simp [lft, rgt], BF.out.trans ⟨rfl, rfl, rfl, Nat.le_of_eq (by simp), fun _ _ => rfl⟩⟩

set_option maxRecDepth 100000 in
set_option maxHeartbeats 1600000 in
theorem ris_is (b : Nat) (L : List Df) (n : ByteArray) (w : World) (h : Rt w b L) (hL : L.length ≤ 300) :
    Calls Tryd.prog 21 #[.pointer (some ⟨b, 0, none⟩), .string n] w fun e w' => e = .returned (.bool (isZ L n)) ∧ Below w.heap.size w w' := by
  have F1 := Lib.hid (rfind_is b L n 1 w h hL)
  have F2 := Lib.hid (fun w1 (b' : Below w.heap.size w w1) => rfind_is b L n 2 w1 (h.on b') hL)
  have F3 := Lib.hid (fun w1 (b' : Below w.heap.size w w1) => rfind_is b L n 3 w1 (h.on b') hL)
  have G1 := (fz_fit h.wf n 1).any
  have G2 := (fz_fit h.wf n 2).any
  have G3 := (fz_fit h.wf n 3).any
  unfold isZ
  rw [← G1, ← G2, ← G3]
  obtain ⟨d1, hd1⟩ : ∃ d, fz L n 1 = d := ⟨_, rfl⟩
  obtain ⟨d2, hd2⟩ : ∃ d, fz L n 2 = d := ⟨_, rfl⟩
  obtain ⟨d3, hd3⟩ : ∃ d, fz L n 3 = d := ⟨_, rfl⟩
  rw [hd1] at F1 ⊢
  rw [hd2] at F2 ⊢
  rw [hd3] at F3 ⊢
  clear hd1 hd2 hd3 G1 G2 G3 h
  obtain ⟨p1, t1, x1⟩ := d1
  obtain ⟨p2, t2, x2⟩ := d2
  obtain ⟨p3, t3, x3⟩ := d3
  simp only at F1 F2 F3 ⊢
  have e1 := fun w => field0 p1 t1 x1 w
  have e2 := fun w => field0 p2 t2 x2 w
  have e3 := fun w => field0 p3 t3 x3 w
  cases q1 : decide (0 < p1)
  · cases q2 : decide (0 < p2)
    · obtain ⟨b3, q3⟩ : ∃ b, decide (0 < p3) = b := ⟨_, rfl⟩
      rw [q3]
      go_enter Tryd.func21, Tryd.ntmps21
      go_wp2_with fail
      refine F1.out.mono ?_
      rintro e w1 ⟨rfl, b1⟩
      have B1 := Lib.hid b1
      clear b1
      go_wp2_with fail
      refine (F2.out _ B1.out).mono ?_
      rintro e w2 ⟨rfl, b2⟩
      have B2 := Lib.hid (bt B1.out b2)
      clear b2
      go_wp2_with fail
      refine (F3.out _ B2.out).mono ?_
      rintro e w3 ⟨rfl, b3'⟩
      have B3 := Lib.hid (bt B2.out b3')
      clear b3'
      go_wp2_with fail
      go_ret
      exact ⟨rfl, B3.out⟩
    · go_enter Tryd.func21, Tryd.ntmps21
      go_wp2_with fail
      refine F1.out.mono ?_
      rintro e w1 ⟨rfl, b1⟩
      have B1 := Lib.hid b1
      clear b1
      go_wp2_with fail
      refine (F2.out _ B1.out).mono ?_
      rintro e w2 ⟨rfl, b2⟩
      have B2 := Lib.hid (bt B1.out b2)
      clear b2
      go_wp2_with fail
      go_ret
      exact ⟨rfl, B2.out⟩
  · go_enter Tryd.func21, Tryd.ntmps21
    go_wp2_with fail
    refine F1.out.mono ?_
    rintro e w1 ⟨rfl, b1⟩
    have B1 := Lib.hid b1
    clear b1
    go_wp2_with fail
    go_ret
    exact ⟨rfl, B1.out⟩

end Go.Proofs.YtnnhpjpfmmlimaaDoor
