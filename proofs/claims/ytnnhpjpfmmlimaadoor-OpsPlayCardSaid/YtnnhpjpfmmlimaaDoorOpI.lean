/- The program's table of operators: Op where it makes. Conditions: the listed variables read as the text lays them; the name has at most 2000 bytes; the operators are at most 300. -/
import Derived.Test.YtnnhpjpfmmlimaaDoorOpH
namespace Go.Proofs.YtnnhpjpfmmlimaaDoor
open Go Go.RowKit Go.Maps
open Go.WideMaps Go.WideElems

/-- Op as far as the test on the other sort -/
structure OpIn (w W1 : World) (a m : Nat) (L : List Df) (n : ByteArray) (s : Int) : Prop where
  box : w.alloc (.cells #[.string n, .int .i64 s] 71) = W1
  below : Below w.heap.size w W1
  tab : Tb W1 a m L
  lay : Lay W1
  row : W1.heap[w.heap.size]? = some (.cells #[.string n, .int .i64 s] 71 (0, 0))
theorem op_in {a m : Nat} {L : List Df} (n : ByteArray) (s : Int) {w : World} (hl : Lay w) (hT : Tb w a m L) : ∃ W1, OpIn w W1 a m L n s := by
  have hW : Below w.heap.size w (w.alloc (.cells #[.string n, .int .i64 s] 71)) := (Below.refl _ _).alloc (Nat.le_refl _) _
  exact ⟨_, rfl, hW, hT.on hW, hl.on hW, new_at _ _ rfl⟩

set_option maxRecDepth 100000 in
set_option maxHeartbeats 1600000 in
theorem op_rival (a m : Nat) (L : List Df) (p t : Int) (n : ByteArray) (w : World) (hl : Lay w) (hT : Tb w a m L) (h : ArgOK p t n) (hf : fixedB n = false) (hp : ¬ p = 0) (hr : (fnd L n (rivZ (srt t))).isSome = true) :
    Calls Tryd.prog 10 #[.pointer (some ⟨a, 0, none⟩), .int .i64 p, .int .i64 t, .string n] w fun e w' => e = .returned (.int .i64 15) ∧ Below w.heap.size w w' := by
  obtain ⟨k, rfl⟩ := Int.eq_ofNat_of_zero_le (by have := h.t0; omega : 0 ≤ t)
  obtain ⟨j, rfl⟩ := Int.eq_ofNat_of_zero_le h.p0
  have h1 : ¬ 1200 < (j : Int) := by have := h.p1; omega
  have h3 : ¬ (k : Int) < 1 := by have := h.t0; omega
  have h4 : ¬ 7 < (k : Int) := by have := h.t1; omega
  have h5 : ¬ 1000 < n.size := by have := h.n0; omega
  have h6 : decide ((1000 : Int) < (n.size : Int)) = false := by simp; omega
  have h7 : ((j : Int) == 0) = false := by rw [beq_eq_false_iff_ne]; exact hp
  have i0 : (0 : Int) ≤ (k : Int) := by omega
  have i1 : (k : Int) < 8 := by omega
  have F := fixed_is n w
  rw [show (n.toList == [44] || n.toList == [124] || n.toList == [91, 93] || n.toList == [123, 125]) = false from hf] at F
  have HF := Lib.hid F
  have s0 := sort_cell hl (k := k) (by omega) (by omega)
  obtain ⟨s, hs⟩ : ∃ s, srt (k : Int) = s := ⟨_, rfl⟩
  have hs3 := srt_in (k : Int)
  rw [hs] at s0 hs3 hr
  obtain ⟨W1, X⟩ := op_in n s hl hT
  have RV := Lib.hid (rival_is n s W1 X.lay hs3)
  have HAS := Lib.hid (fun w2 (b : Below W1.heap.size W1 w2) => by
    have := has_is a m L n (rivZ s) w2 (X.tab.on b) (small (by omega)) (by rcases hs3 with rfl | rfl | rfl <;> decide)
    rwa [hr] at this)
  have HW1 := Lib.hid X.box
  have HB := Lib.hid X.below
  obtain ⟨c0, c1, _, _⟩ := two_facts X.row
  obtain ⟨rv, hrv⟩ : ∃ rv, rivZ s = rv := ⟨_, rfl⟩
  rw [hrv] at RV HAS
  clear F hf h hl hT hs hs3 X hr hrv
  go_enter Tryd.func10, Tryd.ntmps10
  go_wp2_with fail
  refine HF.out.mono ?_
  rintro e w' ⟨rfl, hw⟩
  obtain rfl := hw.symm
  go_wp2_with fail
  rw [HW1.out]
  refine RV.out.mono ?_
  rintro e w2 ⟨rfl, b2⟩
  have B2 := Lib.hid b2
  clear b2
  go_wp2_with fail
  refine (HAS.out _ B2.out).mono ?_
  rintro e w3 ⟨rfl, b3⟩
  have B3 := Lib.hid (HB.out.trans ((bt B2.out b3).mono HB.out.size))
  clear b3
  go_wp2_with fail
  go_ret
  exact ⟨rfl, B3.out⟩

end Go.Proofs.YtnnhpjpfmmlimaaDoor
