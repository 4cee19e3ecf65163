/- How far numbers are from 0, and products: contracts over the translated text. Conditions: the arguments fit int64. -/
import Derived.Test.YtppohopockieiaaDoorNumA
import Derived.Test.YtppohopockieiaaDoorNumM
import Derived.Test.YtppohopockieiaaDoorShelf
import Derived.Lib.Hide
import Derived.Deep.QuietTactic
import Derived.BigQuiet
namespace Go.Proofs.YtppohopockieiaaDoor
open Go Go.RowKit

theorem ret_int {k : IntKind} {a b : Int} (h : a = b) : Ending.returned (.int k a) = .returned (.int k b) := by rw [h]
theorem ret_two {a b c d : Int} (h : a = b) (g : c = d) : ret a c = ret b d := by rw [h, g]

/-- how far a number is from 0 -/
def magZ (a : Int) : Int := a.natAbs

set_option maxHeartbeats 400000 in
theorem magnitude_is (a : Int) (w : World) (ha : inR a) :
    Calls Tryd.prog 54 #[.int .i64 a] w fun e w' => e = .returned (.int .u64 (magZ a)) ∧ w' = w := by
  unfold magZ
  obtain ⟨h1, h2⟩ := ha
  by_cases h : a < 0
  · have hz : (a.natAbs : Int) = IntKind.u64.wrap (-IntKind.u64.wrap a) := by rw [IntKind.wrap_u64, IntKind.wrap_u64]; omega
    rw [hz]
    clear hz
    go_enter Tryd.func54, Tryd.ntmps54
    go_wp2
    go_ret
    exact ⟨rfl, rfl⟩
  · have hz : (a.natAbs : Int) = a := by omega
    rw [hz]
    clear hz
    go_enter Tryd.func54, Tryd.ntmps54
    go_wp2
    go_ret
    exact ⟨rfl, rfl⟩

set_option maxHeartbeats 400000 in
theorem signed_is (far : Int) (below : Bool) (w : World) (h1 : 0 ≤ far) (h2 : far ≤ 18446744073709551615) :
    Calls Tryd.prog 55 #[.int .u64 far, .bool below] w fun e w' => e = ret (clip (if below = true then -far else far)).1 (clip (if below = true then -far else far)).2 ∧ w' = w := by
  cases below
  · simp only [Bool.false_eq_true, if_false]
    by_cases h : far < 9223372036854775808
    · rw [clip_in (by unfold inR; omega)]
      go_enter Tryd.func55, Tryd.ntmps55
      go_wp2
      go_ret2
      exact ⟨rfl, rfl⟩
    · rw [clip_out (by unfold inR; omega)]
      go_enter Tryd.func55, Tryd.ntmps55
      go_wp2
      go_ret2
      exact ⟨rfl, rfl⟩
  · simp only [if_true]
    by_cases h : far ≤ 9223372036854775808
    · rw [clip_in (by unfold inR; omega)]
      have hz : -far = wrap64 (IntKind.u64.wrap (-far)) := by rw [IntKind.wrap_u64]; unfold wrap64; omega
      rw [hz]
      clear hz
      go_enter Tryd.func55, Tryd.ntmps55
      go_wp2
      go_ret2
      exact ⟨rfl, rfl⟩
    · rw [clip_out (by unfold inR; omega)]
      go_enter Tryd.func55, Tryd.ntmps55
      go_wp2
      go_ret2
      exact ⟨rfl, rfl⟩

theorem below_drewN (w : World) (n : Nat) {B : Nat} : Below B w (w.drewN n) := ⟨rfl, rfl, rfl, Nat.le_refl _, fun _ _ => rfl⟩
theorem product_math (a b : Int) : a * b = if (decide (a < 0) != decide (b < 0)) = true then -((a.natAbs * b.natAbs : Nat) : Int) else ((a.natAbs * b.natAbs : Nat) : Int) := by
  have h := Int.natAbs_mul a b
  rw [← h]
  by_cases h1 : a < 0 <;> by_cases h2 : b < 0
  · have := Int.mul_nonneg_of_nonpos_of_nonpos (show a ≤ 0 by omega) (show b ≤ 0 by omega)
    simp [h1, h2]; omega
  · have := Int.mul_nonpos_of_nonpos_of_nonneg (show a ≤ 0 by omega) (show 0 ≤ b by omega)
    simp [h1, h2]; omega
  · have := Int.mul_nonpos_of_nonneg_of_nonpos (show 0 ≤ a by omega) (show b ≤ 0 by omega)
    simp [h1, h2]; omega
  · have := Int.mul_nonneg (show 0 ≤ a by omega) (show 0 ≤ b by omega)
    simp [h1, h2]; omega

set_option maxHeartbeats 800000 in
theorem product_is (a b : Int) (w : World) (ha : inR a) (hb : inR b) :
    Calls Tryd.prog 33 #[.agg #[.int .i64 a, .int .i64 b]] w fun e w' => e = ret (clip (a * b)).1 (clip (a * b)).2 ∧ Below w.heap.size w w' := by
  obtain ⟨far, hfar⟩ : ∃ far : Nat, far = a.natAbs * b.natAbs := ⟨_, rfl⟩
  obtain ⟨neg, hneg⟩ : ∃ neg : Bool, neg = (decide (a < 0) != decide (b < 0)) := ⟨_, rfl⟩
  have hm := product_math a b
  rw [← hfar, ← hneg] at hm
  have c3 := fun w => Tryd.bits_Mul64 a.natAbs b.natAbs (by unfold inR at ha; omega) (by unfold inR at hb; omega) w
  rw [← hfar] at c3
  have c3' : ∀ w, Calls Tryd.prog 53 #[.int .u64 (magZ a), .int .u64 (magZ b)] w fun e w' => e = .returned (.tuple #[.int .u64 ((far / 18446744073709551616 : Nat) : Int), .int .u64 ((far % 18446744073709551616 : Nat) : Int)]) ∧ w' = w := c3
  have C3 := Lib.hid c3'
  clear c3 c3'
  have HN := Lib.hid hneg
  clear hneg
  by_cases hhi : far < 18446744073709551616
  · have e1 : far / 18446744073709551616 = 0 := Nat.div_eq_of_lt hhi
    have e2 : far % 18446744073709551616 = far := Nat.mod_eq_of_lt hhi
    rw [e1, e2] at C3
    have C4 := Lib.hid (fun w => signed_is (far : Int) neg w (by omega) (by omega))
    rw [hm]
    generalize clip (if neg = true then -(far : Int) else (far : Int)) = r at *
    obtain ⟨rn, rq⟩ := r
    clear hm hfar e1 e2 hhi
    have ha' := ha
    have hb' := hb
    obtain ⟨g1, g2⟩ := ha'
    obtain ⟨g3, g4⟩ := hb'
    cases h1 : decide (a < 0)
    all_goals
      cases h2 : decide (b < 0)
    all_goals
      have hn := HN.out
      rw [h1, h2] at hn
      simp at hn
      subst hn
      clear HN
      go_enter Tryd.func33, Tryd.ntmps33
      go_wp2_with fail
      go_quiet ((first | (go_at_call 54; exact Calls.quiet_of_same (magnitude_is _ _ (by assumption))) | (go_at_call 53; exact Calls.quiet_of_same (C3.out _))))
      go_wp2_with (go_at_call 55; refine (C4.out _).mono ?_; rintro e w' ⟨rfl, rfl⟩)
      go_ret2
      exact ⟨rfl, ((Below.refl _ _).alloc (Nat.le_refl _) _).trans (below_drewN _ _)⟩
  · have e1 : far / 18446744073709551616 ≠ 0 := by omega
    generalize hh : far / 18446744073709551616 = hi at *
    generalize hl : far % 18446744073709551616 = lo at *
    have e2 : ((hi : Int) == 0) = false := by
      have : (hi : Int) ≠ 0 := by omega
      simpa using this
    have e3 : ((hi : Int) != 0) = true := by
      have : (hi : Int) ≠ 0 := by omega
      simpa using this
    rw [clip_out (by rw [hm]; unfold inR; split <;> omega)]
    clear hm hfar hh hl HN hhi e1
    have ha' := ha
    have hb' := hb
    obtain ⟨g1, g2⟩ := ha'
    obtain ⟨g3, g4⟩ := hb'
    go_enter Tryd.func33, Tryd.ntmps33
    go_wp2_with fail
    go_quiet ((first | (go_at_call 54; exact Calls.quiet_of_same (magnitude_is _ _ (by assumption))) | (go_at_call 53; exact Calls.quiet_of_same (C3.out _))))
    go_wp2_with fail
    go_ret2
    exact ⟨rfl, ((Below.refl _ _).alloc (Nat.le_refl _) _).trans (below_drewN _ _)⟩

end Go.Proofs.YtppohopockieiaaDoor
