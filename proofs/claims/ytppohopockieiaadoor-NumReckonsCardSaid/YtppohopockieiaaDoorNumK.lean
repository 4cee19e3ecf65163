/- The document's own answers for package num: contracts over the translated text. Conditions: the arguments fit int64. -/
import Derived.Test.YtppohopockieiaaDoorNumJ
namespace Go.Proofs.YtppohopockieiaaDoor
open Go Go.RowKit Go.Maps Go.Shelf

abbrev retB (n : Int) (v : Bool) : Ending := .returned (.tuple #[.int .i64 n, .bool v])

set_option maxHeartbeats 400000 in
theorem told_true (n : Int) (w : World) : Calls Tryd.prog 20 #[.int .i64 n, .bool true] w fun e w' => e = ret n 0 ∧ w' = w := by
  go_enter Tryd.func20, Tryd.ntmps20
  go_wp2
  go_ret2
  exact ⟨rfl, rfl⟩
set_option maxHeartbeats 400000 in
theorem told_false (n : Int) (w : World) : Calls Tryd.prog 20 #[.int .i64 n, .bool false] w fun e w' => e = ret 0 11 ∧ w' = w := by
  go_enter Tryd.func20, Tryd.ntmps20
  go_wp2
  go_ret2
  exact ⟨rfl, rfl⟩
set_option maxHeartbeats 400000 in
theorem radd_in (a b : Int) (w : World) (ha : inR a) (hb : inR b) (h : inR (a + b)) :
    Calls Tryd.prog 21 #[.int .i64 a, .int .i64 b] w fun e w' => e = retB (a + b) true ∧ w' = w := by
  obtain ⟨h1, h2⟩ := ha
  obtain ⟨h3, h4⟩ := hb
  obtain ⟨h5, h6⟩ := h
  by_cases c1 : 0 < b
  · have c2 : decide (9223372036854775807 - b < a) = false := decide_eq_false (by omega)
    go_enter Tryd.func21, Tryd.ntmps21
    go_wp2
    go_ret2
    exact ⟨rfl, rfl⟩
  by_cases c3 : b < 0
  · have c2 : decide (a < -9223372036854775808 - b) = false := decide_eq_false (by omega)
    go_enter Tryd.func21, Tryd.ntmps21
    go_wp2
    go_ret2
    exact ⟨rfl, rfl⟩
  · obtain rfl : b = 0 := by omega
    clear h3 h4 c1 c3
    go_enter Tryd.func21, Tryd.ntmps21
    go_wp2
    go_ret2
    exact ⟨by simp, rfl⟩
set_option maxHeartbeats 400000 in
theorem radd_out (a b : Int) (w : World) (ha : inR a) (hb : inR b) (h : ¬ inR (a + b)) :
    Calls Tryd.prog 21 #[.int .i64 a, .int .i64 b] w fun e w' => e = retB 0 false ∧ w' = w := by
  have h5 : (0 < b ∧ 9223372036854775807 - b < a) ∨ (b < 0 ∧ a < -9223372036854775808 - b) := by unfold inR at *; omega
  obtain ⟨h1, h2⟩ := ha
  obtain ⟨h3, h4⟩ := hb
  clear h
  rcases h5 with ⟨c1, c2⟩ | ⟨c1, c2⟩
  all_goals
    go_enter Tryd.func21, Tryd.ntmps21
    go_wp2
    go_ret2
    exact ⟨rfl, rfl⟩

theorem mul_back {a b : Int} (hb : inR b) (h0 : b ≠ 0) (h : ¬ inR (a * b)) : (wrap64 (a * b)).tdiv b ≠ a := by
  intro e
  apply h
  have h1 := Int.mul_tdiv_add_tmod (wrap64 (a * b)) b
  have h2 := Int.natAbs_tmod (wrap64 (a * b)) b
  have h3 : (wrap64 (a * b)).natAbs % b.natAbs < b.natAbs := Nat.mod_lt _ (by omega)
  rw [e, Int.mul_comm b a] at h1
  generalize (wrap64 (a * b)).tmod b = r at *
  generalize (wrap64 (a * b)).natAbs % b.natAbs = rn at *
  generalize a * b = x at *
  unfold wrap64 at h1
  unfold inR at *
  omega

set_option maxHeartbeats 800000 in
theorem rmul_in (a b : Int) (w : World) (ha : inR a) (hb : inR b) (h : inR (a * b)) :
    Calls Tryd.prog 22 #[.int .i64 a, .int .i64 b] w fun e w' => e = retB (a * b) true ∧ w' = w := by
  obtain ⟨g1, g2⟩ := ha
  obtain ⟨g3, g4⟩ := hb
  by_cases c1 : a = 0
  · subst c1
    clear h g1 g2
    go_enter Tryd.func22, Tryd.ntmps22
    go_wp2
    go_ret2
    exact ⟨by simp, rfl⟩
  have e1 : (a == 0) = false := by simpa using c1
  by_cases c2 : b = 0
  · subst c2
    clear h g3 g4 c1
    go_enter Tryd.func22, Tryd.ntmps22
    go_wp2
    go_ret2
    exact ⟨by simp, rfl⟩
  have e2 : (b == 0) = false := by simpa using c2
  by_cases c3 : a = -1
  · subst c3
    have e3 : (b != -9223372036854775808) = true := by simp; unfold inR at h; omega
    have g5 : -9223372036854775808 ≤ -b := by unfold inR at h; omega
    have g6 : -b ≤ 9223372036854775807 := by unfold inR at h; omega
    have e4 : (-1 : Int) * b = -b := by omega
    rw [e4]
    clear h g1 g2 c1 c2 e4 e1
    go_enter Tryd.func22, Tryd.ntmps22
    go_wp2
    go_ret2
    exact ⟨by simp, rfl⟩
  have e3 : (a == -1) = false := by simpa using c3
  by_cases c4 : b = -1
  · subst c4
    have e4 : (a != -9223372036854775808) = true := by simp; unfold inR at h; omega
    have g5 : -9223372036854775808 ≤ -a := by unfold inR at h; omega
    have g6 : -a ≤ 9223372036854775807 := by unfold inR at h; omega
    have e5 : a * (-1 : Int) = -a := by omega
    rw [e5]
    clear h g3 g4 c1 c2 c3 e5 e2
    go_enter Tryd.func22, Tryd.ntmps22
    go_wp2
    go_ret2
    exact ⟨by simp, rfl⟩
  have e4 : (b == -1) = false := by simpa using c4
  have e5 : (a * b).tdiv b = a := Int.mul_tdiv_cancel a c2
  have e6 : ((a * b).tdiv b != a) = false := by rw [e5]; simp
  have g5 : -9223372036854775808 ≤ (a * b).tdiv b := by rw [e5]; exact g1
  have g6 : (a * b).tdiv b ≤ 9223372036854775807 := by rw [e5]; exact g2
  obtain ⟨g7, g8⟩ := h
  clear c1 c3 c4 e5
  go_enter Tryd.func22, Tryd.ntmps22
  go_wp2
  go_ret2
  exact ⟨rfl, rfl⟩

set_option maxHeartbeats 800000 in
theorem rmul_out (a b : Int) (w : World) (ha : inR a) (hb : inR b) (h : ¬ inR (a * b)) :
    Calls Tryd.prog 22 #[.int .i64 a, .int .i64 b] w fun e w' => (∃ x, e = retB x false) ∧ w' = w := by
  have c1 : a ≠ 0 := by intro c; subst c; apply h; rw [Int.zero_mul]; unfold inR; omega
  have c2 : b ≠ 0 := by intro c; subst c; apply h; rw [Int.mul_zero]; unfold inR; omega
  have hw := mul_back (a := a) hb c2 h
  have e1 : (a == 0) = false := by simpa using c1
  have e2 : (b == 0) = false := by simpa using c2
  by_cases c3 : a = -1
  · subst c3
    obtain rfl : b = -9223372036854775808 := by
      have e4 : (-1 : Int) * b = -b := by omega
      rw [e4] at h
      unfold inR at *; omega
    clear h ha hb hw c1 c2 e1 e2
    go_enter Tryd.func22, Tryd.ntmps22
    go_wp2
    go_ret2
    exact ⟨⟨_, rfl⟩, rfl⟩
  have e3 : (a == -1) = false := by simpa using c3
  by_cases c4 : b = -1
  · subst c4
    obtain rfl : a = -9223372036854775808 := by
      have e4 : a * (-1 : Int) = -a := by omega
      rw [e4] at h
      unfold inR at *; omega
    clear h ha hb hw c1 c2 e1 e2 c3 e3
    go_enter Tryd.func22, Tryd.ntmps22
    go_wp2
    go_ret2
    exact ⟨⟨_, rfl⟩, rfl⟩
  have e4 : (b == -1) = false := by simpa using c4
  have e6 : ((wrap64 (a * b)).tdiv b != a) = true := by simpa using hw
  have hd : inR ((wrap64 (a * b)).tdiv b) := tdiv_in (by unfold inR wrap64; omega) hb c4
  obtain ⟨g5, g6⟩ := hd
  clear c1 c3 c4 hw h ha hb
  go_enter Tryd.func22, Tryd.ntmps22
  go_wp2
  go_ret2
  exact ⟨⟨_, rfl⟩, rfl⟩

end Go.Proofs.YtppohopockieiaaDoor
