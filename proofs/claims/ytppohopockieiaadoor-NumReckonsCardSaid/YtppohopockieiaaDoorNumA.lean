/- What the operators of package num come to, function by function: contracts over the translated text. Conditions: the arguments fit int64. -/
import Derived.Test.YtppohopockieiaaDoorRows
import Derived.WalkKit
import Derived.WalkSpells
import Derived.WalkLawsBesides
namespace Go.Proofs.YtppohopockieiaaDoor
open Go.RowKit

/-- two results of Go: a number and an error's number -/
abbrev ret (n e : Int) : Ending := .returned (.tuple #[.int .i64 n, .int .i64 e])

/-- a number that fits, or that it is too great -/
def clip (n : Int) : Int × Int := if -9223372036854775808 ≤ n ∧ n ≤ 9223372036854775807 then (n, 0) else (0, 11)
def inR (n : Int) : Prop := -9223372036854775808 ≤ n ∧ n ≤ 9223372036854775807
theorem clip_in {n : Int} (h : inR n) : clip n = (n, 0) := if_pos h
theorem clip_out {n : Int} (h : ¬ inR n) : clip n = (0, 11) := if_neg h
theorem wrap_lo {a b : Int} (h1 : inR a) (h2 : inR b) (h : 9223372036854775807 < a + b) : wrap64 (a + b) < a := by
  unfold inR at *; unfold wrap64; omega
theorem wrap_hi {a b : Int} (h1 : inR a) (h2 : inR b) (h : a + b < -9223372036854775808) : a < wrap64 (a + b) := by
  unfold inR at *; unfold wrap64; omega
theorem wrap_lo' {a b : Int} (h1 : inR a) (h2 : inR b) (h : 9223372036854775807 < a - b) : wrap64 (a - b) < a := by
  unfold inR at *; unfold wrap64; omega
theorem wrap_hi' {a b : Int} (h1 : inR a) (h2 : inR b) (h : a - b < -9223372036854775808) : a < wrap64 (a - b) := by
  unfold inR at *; unfold wrap64; omega

set_option maxHeartbeats 400000 in
theorem sum_is (a b : Int) (w : World) (ha : inR a) (hb : inR b) :
    Calls Tryd.prog 31 #[.agg #[.int .i64 a, .int .i64 b]] w fun e w' => e = ret (clip (a + b)).1 (clip (a + b)).2 ∧ Below w.heap.size w w' := by
  have ha' := ha
  have hb' := hb
  obtain ⟨h1, h2⟩ := ha'
  obtain ⟨h3, h4⟩ := hb'
  by_cases h : inR (a + b)
  · rw [clip_in h]
    obtain ⟨h5, h6⟩ := h
    clear ha hb
    by_cases hb : 0 < b
    · have h7 : a < a + b := by omega
      go_enter Tryd.func31, Tryd.ntmps31
      go_wp2
      go_ret2
      exact ⟨rfl, (Below.refl _ _).alloc (Nat.le_refl _) _⟩
    · have h7 : ¬ a < a + b := by omega
      go_enter Tryd.func31, Tryd.ntmps31
      go_wp2
      go_ret2
      exact ⟨rfl, (Below.refl _ _).alloc (Nat.le_refl _) _⟩
  · rw [clip_out h]
    by_cases h6 : 9223372036854775807 < a + b
    · have h7 : decide (a < wrap64 (a + b)) = false := decide_eq_false (by have := wrap_lo ha hb h6; omega)
      have h8 : 0 < b := by omega
      clear ha hb h
      go_enter Tryd.func31, Tryd.ntmps31
      go_wp2
      go_ret2
      exact ⟨rfl, (Below.refl _ _).alloc (Nat.le_refl _) _⟩
    · have h5 : a + b < -9223372036854775808 := by unfold inR at h; omega
      have h7 := wrap_hi ha hb h5
      have h8 : ¬ 0 < b := by omega
      clear ha hb h
      go_enter Tryd.func31, Tryd.ntmps31
      go_wp2
      go_ret2
      exact ⟨rfl, (Below.refl _ _).alloc (Nat.le_refl _) _⟩

set_option maxHeartbeats 400000 in
theorem difference_is (a b : Int) (w : World) (ha : inR a) (hb : inR b) :
    Calls Tryd.prog 32 #[.agg #[.int .i64 a, .int .i64 b]] w fun e w' => e = ret (clip (a - b)).1 (clip (a - b)).2 ∧ Below w.heap.size w w' := by
  have ha' := ha
  have hb' := hb
  obtain ⟨h1, h2⟩ := ha'
  obtain ⟨h3, h4⟩ := hb'
  by_cases h : inR (a - b)
  · rw [clip_in h]
    obtain ⟨h5, h6⟩ := h
    clear ha hb
    by_cases hb : 0 < b
    · have h7 : a - b < a := by omega
      go_enter Tryd.func32, Tryd.ntmps32
      go_wp2
      go_ret2
      exact ⟨rfl, (Below.refl _ _).alloc (Nat.le_refl _) _⟩
    · have h7 : ¬ a - b < a := by omega
      go_enter Tryd.func32, Tryd.ntmps32
      go_wp2
      go_ret2
      exact ⟨rfl, (Below.refl _ _).alloc (Nat.le_refl _) _⟩
  · rw [clip_out h]
    by_cases h6 : 9223372036854775807 < a - b
    · have h7 := wrap_lo' ha hb h6
      have h8 : ¬ 0 < b := by omega
      clear ha hb h
      go_enter Tryd.func32, Tryd.ntmps32
      go_wp2
      go_ret2
      exact ⟨rfl, (Below.refl _ _).alloc (Nat.le_refl _) _⟩
    · have h5 : a - b < -9223372036854775808 := by unfold inR at h; omega
      have h7 : decide (wrap64 (a - b) < a) = false := decide_eq_false (by have := wrap_hi' ha hb h5; omega)
      have h8 : 0 < b := by omega
      clear ha hb h
      go_enter Tryd.func32, Tryd.ntmps32
      go_wp2
      go_ret2
      exact ⟨rfl, (Below.refl _ _).alloc (Nat.le_refl _) _⟩

/-- quotients and rests, or the error -/
def quoR (a b : Int) : Int × Int := if b = 0 then (0, 10) else clip (a.tdiv b)
def remR (a b : Int) : Int × Int := if b = 0 then (0, 10) else (a.tmod b, 0)
def divR (a b : Int) : Int × Int := if b = 0 then (0, 10) else clip (a.fdiv b)
def modR (a b : Int) : Int × Int := if b = 0 then (0, 10) else (a.fmod b, 0)
def unlikeB (a b : Int) : Bool := a.tmod b != 0 && (decide (a.tmod b < 0) != decide (b < 0))

theorem bcell {W w1 : World} (hb : Below W.heap.size W w1) : (∀ b o, b < W.heap.size → w1.cell? ⟨b, o, none⟩ = W.cell? ⟨b, o, none⟩) ∧ (∀ b o, b < W.heap.size → w1.frozen? ⟨b, o, none⟩ = W.frozen? ⟨b, o, none⟩) :=
  ⟨fun b o h => hb.cell (p := ⟨b, o, none⟩) h, fun b o h => hb.frozen (p := ⟨b, o, none⟩) h⟩
theorem tdiv_in {a b : Int} (ha : inR a) (hb : inR b) (h : b ≠ -1) : inR (a.tdiv b) := by
  unfold inR at *
  have h1 := Int.natAbs_tdiv a b
  by_cases h2 : b.natAbs ≤ 1
  · have : b = 0 ∨ b = 1 := by omega
    rcases this with rfl | rfl <;> simp <;> omega
  · have h3 : a.natAbs / b.natAbs ≤ a.natAbs / 2 := Nat.div_le_div_left (by omega) (by omega)
    have h4 : a.natAbs.div b.natAbs = a.natAbs / b.natAbs := rfl
    omega
theorem tmod_in {a b : Int} (ha : inR a) : inR (a.tmod b) := by
  unfold inR at *
  have h1 := Int.natAbs_tmod a b
  have h2 : a.natAbs % b.natAbs ≤ a.natAbs := Nat.mod_le _ _
  by_cases h : 0 ≤ a
  · have := Int.tmod_nonneg b h
    omega
  · have h3 := Int.tmod_nonneg b (show 0 ≤ -a by omega)
    rw [Int.neg_tmod] at h3
    omega

set_option maxHeartbeats 400000 in
theorem negated_is (a : Int) (w : World) (ha : inR a) :
    Calls Tryd.prog 47 #[.int .i64 a] w fun e w' => e = ret (clip (-a)).1 (clip (-a)).2 ∧ Below w.heap.size w w' := by
  have h0 : inR 0 := by unfold inR; omega
  go_enter Tryd.func47, Tryd.ntmps47
  go_wp2_with (go_at_call 32; refine (difference_is _ _ _ h0 ha).mono ?_; rintro e w' ⟨rfl, hb⟩)
  go_ret2
  exact ⟨rfl, hb⟩

set_option maxHeartbeats 400000 in
theorem quotient_is (a b : Int) (w : World) (ha : inR a) (hb : inR b) :
    Calls Tryd.prog 34 #[.agg #[.int .i64 a, .int .i64 b]] w fun e w' => e = ret (quoR a b).1 (quoR a b).2 ∧ Below w.heap.size w w' := by
  unfold quoR
  by_cases h0 : b = 0
  · subst h0
    rw [if_pos rfl]
    clear ha hb
    go_enter Tryd.func34, Tryd.ntmps34
    go_wp2
    go_ret2
    exact ⟨rfl, (Below.refl _ _).alloc (Nat.le_refl _) _⟩
  · rw [if_neg h0]
    by_cases h1 : b = -1
    · subst h1
      have e1 : a.tdiv (-1) = -a := by rw [Int.tdiv_neg, Int.tdiv_one]
      rw [e1]
      clear e1
      go_enter Tryd.func34, Tryd.ntmps34
      go_wp2_with (go_at_call 47; refine (negated_is _ _ ha).mono ?_; rintro e w' ⟨rfl, hbl⟩)
      go_ret2
      exact ⟨rfl, ((Below.refl _ _).alloc (Nat.le_refl _) _).trans (hbl.mono (by simp))⟩
    · have e2 : inR (a.tdiv b) := tdiv_in ha hb h1
      rw [clip_in e2]
      obtain ⟨g1, g2⟩ := ha
      obtain ⟨g3, g4⟩ := hb
      obtain ⟨g5, g6⟩ := e2
      go_enter Tryd.func34, Tryd.ntmps34
      go_wp2
      go_ret2
      exact ⟨rfl, (Below.refl _ _).alloc (Nat.le_refl _) _⟩

set_option maxHeartbeats 400000 in
theorem rest_is (a b : Int) (w : World) (ha : inR a) (hb : inR b) :
    Calls Tryd.prog 35 #[.agg #[.int .i64 a, .int .i64 b]] w fun e w' => e = ret (remR a b).1 (remR a b).2 ∧ Below w.heap.size w w' := by
  unfold remR
  by_cases h0 : b = 0
  · subst h0
    rw [if_pos rfl]
    clear ha hb
    go_enter Tryd.func35, Tryd.ntmps35
    go_wp2
    go_ret2
    exact ⟨rfl, (Below.refl _ _).alloc (Nat.le_refl _) _⟩
  · rw [if_neg h0]
    have e2 : inR (a.tmod b) := tmod_in ha
    obtain ⟨g1, g2⟩ := ha
    obtain ⟨g3, g4⟩ := hb
    obtain ⟨g5, g6⟩ := e2
    go_enter Tryd.func35, Tryd.ntmps35
    go_wp2
    go_ret2
    exact ⟨rfl, (Below.refl _ _).alloc (Nat.le_refl _) _⟩

set_option maxHeartbeats 400000 in
theorem unlike_is (a b : Int) (w : World) (ha : inR a) (hb : inR b) (h0 : b ≠ 0) :
    Calls Tryd.prog 56 #[.agg #[.int .i64 a, .int .i64 b]] w fun e w' => e = .returned (.bool (unlikeB a b)) ∧ Below w.heap.size w w' := by
  have e1 : remR a b = (a.tmod b, 0) := if_neg h0
  have c : ∀ w, Calls Tryd.prog 35 #[.agg #[.int .i64 a, .int .i64 b]] w fun e w' => e = ret (a.tmod b) 0 ∧ Below w.heap.size w w' := fun w => by
    have := rest_is a b w ha hb
    rw [e1] at this
    exact this
  have fin : ∀ v, unlikeB a b = v → Ending.returned (.bool v) = Ending.returned (.bool (unlikeB a b)) := fun v h => by rw [h]
  generalize hv : unlikeB a b = v at fin ⊢
  unfold unlikeB at hv
  generalize a.tmod b = r at *
  clear ha hb h0 e1
  by_cases hr : r = 0
  · subst hr
    obtain rfl : v = false := by rw [← hv]; rfl
    clear hv
    go_enter Tryd.func56, Tryd.ntmps56
    go_wp2_with (go_at_call 35; refine (c _).mono ?_; rintro e w' ⟨rfl, hbl⟩)
    go_ret
    exact ⟨rfl, ((Below.refl _ _).alloc (Nat.le_refl _) _).trans (hbl.mono (by simp))⟩
  · have e2 : (r != 0) = true := by simpa using hr
    by_cases h1 : r < 0
    all_goals
      have h3 : 0 < r ∨ r < 0 := by omega
      by_cases h2 : b < 0
      all_goals
        rw [e2] at hv
        simp only [h1, h2, decide_true, decide_false, bne_self_eq_false, Bool.and_false, Bool.true_and] at hv
        subst hv
        go_enter Tryd.func56, Tryd.ntmps56
        go_wp2_with (go_at_call 35; refine (c _).mono ?_; rintro e w' ⟨rfl, hbl⟩; obtain ⟨hc, hf⟩ := bcell hbl)
        go_ret
        exact ⟨by simp [h1, h2] <;> omega, ((Below.refl _ _).alloc (Nat.le_refl _) _).trans (hbl.mono (by simp))⟩

theorem tdiv_fdiv {a b : Int} (h0 : b ≠ 0) : a.fdiv b = if unlikeB a b = true then a.tdiv b - 1 else a.tdiv b := by
  have h2 : 0 ≤ a → 0 ≤ a.tmod b := fun h => Int.tmod_nonneg b h
  have h3 : a ≤ 0 → a.tmod b ≤ 0 := fun h => by
    have := Int.tmod_nonneg b (show 0 ≤ -a by omega)
    rw [Int.neg_tmod] at this
    omega
  rw [Int.fdiv_eq_tdiv]
  by_cases hd : b ∣ a
  · have hr : a.tmod b = 0 := Int.tmod_eq_zero_of_dvd hd
    simp [hd, hr, unlikeB]
  · have hr : a.tmod b ≠ 0 := fun h => hd (Int.dvd_of_tmod_eq_zero h)
    rw [if_neg hd]
    unfold unlikeB
    generalize a.tmod b = r at *
    have e2 : (r != 0) = true := by simpa using hr
    rw [e2]
    by_cases ha : 0 ≤ a
    · have r0 : ¬ r < 0 := by have := h2 ha; omega
      by_cases hb : 0 ≤ b
      · have b0 : ¬ b < 0 := by omega
        simp [ha, hb, r0, b0]
      · have b0 : b < 0 := by omega
        simp [ha, hb, r0, b0]
    · have r0 : r < 0 := by have := h3 (by omega); omega
      by_cases hb : 0 ≤ b
      · have b0 : ¬ b < 0 := by omega
        have : b.sign = 1 := Int.sign_eq_one_of_pos (by omega)
        simp [ha, hb, r0, b0, this]
      · have b0 : b < 0 := by omega
        have : b.sign = -1 := Int.sign_eq_neg_one_of_neg b0
        simp [ha, hb, r0, b0, this]
theorem tmod_fmod {a b : Int} (h0 : b ≠ 0) : a.fmod b = if unlikeB a b = true then a.tmod b + b else a.tmod b := by
  have h1 := Int.mul_tdiv_add_tmod a b
  have h2 := Int.mul_fdiv_add_fmod a b
  rw [tdiv_fdiv h0] at h2
  split at h2
  · rw [if_pos ‹_›, Int.mul_sub] at *
    omega
  · rw [if_neg ‹_›]
    omega

theorem unlike_one (a : Int) : (if unlikeB a (-1) = true then a.tdiv (-1) - 1 else a.tdiv (-1)) = a.tdiv (-1) := by
  have h : a.tmod (-1) = 0 := by rw [Int.tmod_neg, Int.tmod_one]
  simp [unlikeB, h]
theorem fdiv_in {a b : Int} (ha : inR a) (hb : inR b) (h0 : b ≠ 0) (h : b ≠ -1) : inR (a.fdiv b) := by
  have h1 := tdiv_in ha hb h
  rw [tdiv_fdiv h0]
  split
  · rename_i hu
    have h2 := Int.natAbs_tdiv a b
    have h3 : a.natAbs.div b.natAbs = a.natAbs / b.natAbs := rfl
    by_cases h4 : b = 1
    · subst h4
      simp [unlikeB] at hu
    · have h5 : a.natAbs / b.natAbs ≤ a.natAbs / 2 := Nat.div_le_div_left (by omega) (by omega)
      unfold inR at *
      omega
  · exact h1
theorem fmod_in {a b : Int} (hb : inR b) (h0 : b ≠ 0) : inR (a.fmod b) := by
  unfold inR at *
  by_cases h : 0 < b
  · have := Int.fmod_nonneg_of_pos a h
    have := Int.fmod_lt_of_pos a h
    omega
  · have h2 : 0 < -b := by omega
    have h3 := Int.fmod_nonneg_of_pos (-a) h2
    have h4 := Int.fmod_lt_of_pos (-a) h2
    have h5 : (-a).fmod (-b) = -(a.fmod b) := Int.neg_fmod_neg a b
    omega

set_option maxHeartbeats 400000 in
theorem floor_is (a b : Int) (w : World) (ha : inR a) (hb : inR b) :
    Calls Tryd.prog 36 #[.agg #[.int .i64 a, .int .i64 b]] w fun e w' => e = ret (divR a b).1 (divR a b).2 ∧ Below w.heap.size w w' := by
  unfold divR
  have c1 := fun w => quotient_is a b w ha hb
  unfold quoR at c1
  by_cases h0 : b = 0
  · subst h0
    simp only [if_true] at c1 ⊢
    clear ha hb
    go_enter Tryd.func36, Tryd.ntmps36
    go_wp2_with (go_at_call 34; refine (c1 _).mono ?_; rintro e w' ⟨rfl, hbl⟩; obtain ⟨hc, hf⟩ := bcell hbl)
    go_ret2
    exact ⟨rfl, ((Below.refl _ _).alloc (Nat.le_refl _) _).trans (hbl.mono (by simp))⟩
  · simp only [if_neg h0] at c1 ⊢
    have c2 := fun w => unlike_is a b w ha hb h0
    have hu := tdiv_fdiv (a := a) h0
    by_cases hq : inR (a.tdiv b)
    · have hf : inR (a.fdiv b) := by
        by_cases h1 : b = -1
        · rw [hu, h1, unlike_one]
          rw [h1] at hq
          exact hq
        · exact fdiv_in ha hb h0 h1
      rw [clip_in hf]
      simp only [clip_in hq] at c1
      rw [hu] at hf ⊢
      clear hu ha hb h0
      by_cases u : unlikeB a b = true
      · simp only [u, if_true] at *
        clear u
        generalize a.tdiv b = q at *
        obtain ⟨g1, g2⟩ := hf
        obtain ⟨g3, g4⟩ := hq
        go_enter Tryd.func36, Tryd.ntmps36
        go_wp2_with (first | (go_at_call 34; refine (c1 _).mono ?_; rintro e w1 ⟨rfl, hbl⟩; obtain ⟨hc, hf⟩ := bcell hbl) | (go_at_call 56; refine (c2 _).mono ?_; rintro e w2 ⟨rfl, hbm⟩))
        go_ret2
        exact ⟨rfl, (((Below.refl _ _).alloc (Nat.le_refl _) _).trans (hbl.mono (by simp))).trans (hbm.mono (by have := hbl.size; simp at this; omega))⟩
      · simp only [Bool.not_eq_true] at u
        simp only [u, Bool.false_eq_true, if_false] at *
        clear u
        generalize a.tdiv b = q at *
        obtain ⟨g1, g2⟩ := hf
        clear hq
        go_enter Tryd.func36, Tryd.ntmps36
        go_wp2_with (first | (go_at_call 34; refine (c1 _).mono ?_; rintro e w1 ⟨rfl, hbl⟩; obtain ⟨hc, hf⟩ := bcell hbl) | (go_at_call 56; refine (c2 _).mono ?_; rintro e w2 ⟨rfl, hbm⟩))
        go_ret2
        exact ⟨rfl, (((Below.refl _ _).alloc (Nat.le_refl _) _).trans (hbl.mono (by simp))).trans (hbm.mono (by have := hbl.size; simp at this; omega))⟩
    · have h1 : b = -1 := by
        apply Classical.byContradiction
        intro h1
        exact hq (tdiv_in ha hb h1)
      have hf : ¬ inR (a.fdiv b) := by
        rw [hu, h1, unlike_one]
        rw [h1] at hq
        exact hq
      rw [clip_out hf]
      simp only [clip_out hq] at c1
      clear hu ha hb h0 hq hf h1 c2
      go_enter Tryd.func36, Tryd.ntmps36
      go_wp2_with (go_at_call 34; refine (c1 _).mono ?_; rintro e w' ⟨rfl, hbl⟩; obtain ⟨hc, hf⟩ := bcell hbl)
      go_ret2
      exact ⟨rfl, ((Below.refl _ _).alloc (Nat.le_refl _) _).trans (hbl.mono (by simp))⟩

set_option maxHeartbeats 400000 in
theorem modulus_is (a b : Int) (w : World) (ha : inR a) (hb : inR b) :
    Calls Tryd.prog 37 #[.agg #[.int .i64 a, .int .i64 b]] w fun e w' => e = ret (modR a b).1 (modR a b).2 ∧ Below w.heap.size w w' := by
  unfold modR
  have c1 := fun w => rest_is a b w ha hb
  unfold remR at c1
  by_cases h0 : b = 0
  · subst h0
    simp only [if_true] at c1 ⊢
    clear ha hb
    go_enter Tryd.func37, Tryd.ntmps37
    go_wp2_with (go_at_call 35; refine (c1 _).mono ?_; rintro e w' ⟨rfl, hbl⟩; obtain ⟨hc, hf⟩ := bcell hbl)
    go_ret2
    exact ⟨rfl, ((Below.refl _ _).alloc (Nat.le_refl _) _).trans (hbl.mono (by simp))⟩
  · simp only [if_neg h0] at c1 ⊢
    have c2 := fun w => unlike_is a b w ha hb h0
    have hu := tmod_fmod (a := a) h0
    have hf : inR (a.fmod b) := fmod_in hb h0
    rw [hu] at hf ⊢
    clear hu ha hb h0
    by_cases u : unlikeB a b = true
    · simp only [u, if_true] at *
      clear u
      generalize a.tmod b = q at *
      obtain ⟨g1, g2⟩ := hf
      go_enter Tryd.func37, Tryd.ntmps37
      go_wp2_with (first | (go_at_call 35; refine (c1 _).mono ?_; rintro e w1 ⟨rfl, hbl⟩; obtain ⟨hc, hf⟩ := bcell hbl; have hz : w.heap.size < w1.heap.size := (by have := hbl.size; simp at this; omega)) | (go_at_call 56; refine (c2 _).mono ?_; rintro e w2 ⟨rfl, hbm⟩; obtain ⟨hc2, hf2⟩ := bcell hbm))
      go_ret2
      exact ⟨rfl, (((Below.refl _ _).alloc (Nat.le_refl _) _).trans (hbl.mono (by simp))).trans (hbm.mono (by have := hbl.size; simp at this; omega))⟩
    · simp only [Bool.not_eq_true] at u
      simp only [u, Bool.false_eq_true, if_false] at *
      clear u
      generalize a.tmod b = q at *
      obtain ⟨g1, g2⟩ := hf
      go_enter Tryd.func37, Tryd.ntmps37
      go_wp2_with (first | (go_at_call 35; refine (c1 _).mono ?_; rintro e w1 ⟨rfl, hbl⟩; obtain ⟨hc, hf⟩ := bcell hbl) | (go_at_call 56; refine (c2 _).mono ?_; rintro e w2 ⟨rfl, hbm⟩))
      go_ret2
      exact ⟨rfl, (((Below.refl _ _).alloc (Nat.le_refl _) _).trans (hbl.mono (by simp))).trans (hbm.mono (by have := hbl.size; simp at this; omega))⟩

end Go.Proofs.YtppohopockieiaaDoor
