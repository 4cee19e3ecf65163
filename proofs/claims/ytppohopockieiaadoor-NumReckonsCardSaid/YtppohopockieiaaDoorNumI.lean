/- Powers of package num: a contract over the translated text. Conditions: the arguments fit int64. -/
import Derived.Test.YtppohopockieiaaDoorNumH
namespace Go.Proofs.YtppohopockieiaaDoor
open Go Go.RowKit

theorem and_one (b : Int) : bits .and .i64 b 1 = b % 2 := by
  rw [and_bv, BitVec.toInt_eq_toNat_cond, BitVec.toNat_and, BitVec.toNat_ofInt, show (BitVec.ofInt 64 1).toNat = 1 from by decide, Nat.and_one_is_mod]
  split <;> omega

/-- what a power comes to -/
def powR (a b : Int) : Int × Int :=
  if a = 1 ∨ b = 0 then (1, 0) else if a = -1 then (1 - 2 * (b % 2), 0) else if a = 0 then (if b < 0 then (0, 10) else (0, 0)) else if b < 0 ∨ 63 < b then (0, 11) else repR a b.toNat

set_option maxHeartbeats 800000 in
theorem power_is (a b : Int) (w : World) (ha : inR a) (hb : inR b) :
    Calls Tryd.prog 45 #[.agg #[.int .i64 a, .int .i64 b]] w fun e w' => e = ret (powR a b).1 (powR a b).2 ∧ Below w.heap.size w w' := by
  unfold powR
  by_cases c1 : a = 1
  · subst c1
    rw [if_pos (Or.inl rfl)]
    clear ha
    obtain ⟨g3, g4⟩ := hb
    go_enter Tryd.func45, Tryd.ntmps45
    go_wp2
    go_ret2
    exact ⟨rfl, (Below.refl _ _).alloc (Nat.le_refl _) _⟩
  have e1 : (a == 1) = false := by simpa using c1
  by_cases c2 : b = 0
  · subst c2
    rw [if_pos (Or.inr rfl)]
    clear hb c1
    obtain ⟨g1, g2⟩ := ha
    go_enter Tryd.func45, Tryd.ntmps45
    go_wp2
    go_ret2
    exact ⟨rfl, (Below.refl _ _).alloc (Nat.le_refl _) _⟩
  have e2 : (b == 0) = false := by simpa using c2
  rw [if_neg (by omega)]
  by_cases c3 : a = -1
  · subst c3
    rw [if_pos rfl, ← and_one]
    have h1 := Int.emod_nonneg b (show (2 : Int) ≠ 0 by omega)
    have h2 := Int.emod_lt_of_pos b (show (0 : Int) < 2 by omega)
    rw [← and_one] at h1 h2
    clear c1 c2 ha e1
    obtain ⟨g3, g4⟩ := hb
    go_enter Tryd.func45, Tryd.ntmps45
    go_wp2
    go_ret2
    exact ⟨rfl, (Below.refl _ _).alloc (Nat.le_refl _) _⟩
  have e3 : (a == -1) = false := by simpa using c3
  rw [if_neg c3]
  by_cases c4 : a = 0
  · subst c4
    rw [if_pos rfl]
    clear c1 c2 c3 ha e1 e3
    obtain ⟨g3, g4⟩ := hb
    by_cases c5 : b < 0
    · rw [if_pos c5]
      go_enter Tryd.func45, Tryd.ntmps45
      go_wp2
      go_ret2
      exact ⟨rfl, (Below.refl _ _).alloc (Nat.le_refl _) _⟩
    · rw [if_neg c5]
      go_enter Tryd.func45, Tryd.ntmps45
      go_wp2
      go_ret2
      exact ⟨rfl, (Below.refl _ _).alloc (Nat.le_refl _) _⟩
  have e4 : (a == 0) = false := by simpa using c4
  rw [if_neg c4]
  by_cases c5 : b < 0 ∨ 63 < b
  · rw [if_pos c5]
    clear c1 c2 c3 c4
    obtain ⟨g3, g4⟩ := hb
    obtain ⟨g1, g2⟩ := ha
    rcases c5 with c5 | c5
    all_goals
      go_enter Tryd.func45, Tryd.ntmps45
      go_wp2
      go_ret2
      exact ⟨rfl, (Below.refl _ _).alloc (Nat.le_refl _) _⟩
  · rw [if_neg c5]
    have g5 : 0 ≤ b := by omega
    have g6 : b ≤ 63 := by omega
    have C := Lib.hid (fun w => repeated_is a b w ha g5 g6)
    generalize repR a b.toNat = r at *
    obtain ⟨rn, rq⟩ := r
    clear c1 c2 c3 c4 c5
    obtain ⟨g1, g2⟩ := ha
    go_enter Tryd.func45, Tryd.ntmps45
    go_wp2_with (go_at_call 57; refine (C.out _).mono ?_; rintro e w' ⟨rfl, hbl⟩)
    go_ret2
    exact ⟨rfl, ((Below.refl _ _).alloc (Nat.le_refl _) _).trans (hbl.mono (by simp))⟩

end Go.Proofs.YtppohopockieiaaDoor
