/- Shifts and powers of package num: contracts over the translated text. Conditions: the arguments fit int64. -/
import Derived.Test.YtppohopockieiaaDoorNumF
import Derived.Test.YtppohopockieiaaDoorNumG
namespace Go.Proofs.YtppohopockieiaaDoor
open Go Go.RowKit

def leftR (a b : Int) : Int × Int := if b < 0 ∨ 63 < b then (0, 11) else clip (a * 2 ^ b.toNat)
def rightR (a b : Int) : Int × Int := if b < 0 then (0, 11) else (a / 2 ^ (min b 63).toNat, 0)

set_option maxHeartbeats 400000 in
theorem distance_is (a : Int) (w : World) (ha : inR a) :
    Calls Tryd.prog 49 #[.int .i64 a] w fun e w' => e = ret (clip (magZ a)).1 (clip (magZ a)).2 ∧ w' = w := by
  have c2 := fun w => signed_is (magZ a) false w (by unfold magZ; omega) (by unfold magZ; unfold inR at ha; omega)
  simp only [Bool.false_eq_true, if_false] at c2
  have C2 := Lib.hid c2
  clear c2
  go_enter Tryd.func49, Tryd.ntmps49
  go_wp2_with (first | (go_at_call 54; refine (magnitude_is _ _ ha).mono ?_; rintro e w' ⟨rfl, rfl⟩) | (go_at_call 55; refine (C2.out _).mono ?_; rintro e w' ⟨rfl, rfl⟩))
  go_ret2
  exact ⟨rfl, rfl⟩

set_option maxHeartbeats 400000 in
theorem right_is (a b : Int) (w : World) (ha : inR a) (hb : inR b) :
    Calls Tryd.prog 44 #[.agg #[.int .i64 a, .int .i64 b]] w fun e w' => e = ret (rightR a b).1 (rightR a b).2 ∧ Below w.heap.size w w' := by
  unfold rightR
  obtain ⟨g1, g2⟩ := ha
  obtain ⟨g3, g4⟩ := hb
  by_cases h0 : b < 0
  · rw [if_pos h0]
    go_enter Tryd.func44, Tryd.ntmps44
    go_wp2
    go_ret2
    exact ⟨rfl, (Below.refl _ _).alloc (Nat.le_refl _) _⟩
  · rw [if_neg h0]
    go_enter Tryd.func44, Tryd.ntmps44
    go_wp2
    go_ret2
    exact ⟨rfl, (Below.refl _ _).alloc (Nat.le_refl _) _⟩

theorem shift_back (a : Int) (k : Nat) (hk : k ≤ 63) (h : ¬ inR (a * 2 ^ k)) : wrap64 (a * 2 ^ k) / 2 ^ k ≠ a := by
  intro e
  apply h
  have hp : (0 : Int) < 2 ^ k := Int.pow_pos (by omega)
  have hle : (2 : Int) ^ k ≤ 9223372036854775808 := by
    have h1 : (2 : Nat) ^ k ≤ 2 ^ 63 := Nat.pow_le_pow_right (by omega) hk
    have h2 : ((2 ^ k : Nat) : Int) = (2 : Int) ^ k := by simp
    have h3 : (2 : Nat) ^ 63 = 9223372036854775808 := by decide
    omega
  have h1 := Int.mul_ediv_add_emod (wrap64 (a * 2 ^ k)) (2 ^ k)
  rw [e, Int.mul_comm] at h1
  have h2 := Int.emod_nonneg (wrap64 (a * 2 ^ k)) (show (2 : Int) ^ k ≠ 0 by omega)
  have h3 := Int.emod_lt_of_pos (wrap64 (a * 2 ^ k)) hp
  generalize wrap64 (a * 2 ^ k) % 2 ^ k = r at *
  generalize a * 2 ^ k = x at *
  generalize (2 : Int) ^ k = y at *
  unfold wrap64 at h1
  unfold inR
  omega

set_option maxHeartbeats 400000 in
theorem left_is (a b : Int) (w : World) (ha : inR a) (hb : inR b) :
    Calls Tryd.prog 43 #[.agg #[.int .i64 a, .int .i64 b]] w fun e w' => e = ret (leftR a b).1 (leftR a b).2 ∧ Below w.heap.size w w' := by
  unfold leftR
  obtain ⟨g1, g2⟩ := ha
  obtain ⟨g3, g4⟩ := hb
  by_cases h0 : b < 0
  · rw [if_pos (Or.inl h0)]
    go_enter Tryd.func43, Tryd.ntmps43
    go_wp2
    go_ret2
    exact ⟨rfl, (Below.refl _ _).alloc (Nat.le_refl _) _⟩
  by_cases h1 : 63 < b
  · rw [if_pos (Or.inr h1)]
    go_enter Tryd.func43, Tryd.ntmps43
    go_wp2
    go_ret2
    exact ⟨rfl, (Below.refl _ _).alloc (Nat.le_refl _) _⟩
  · rw [if_neg (by omega)]
    by_cases h : inR (a * 2 ^ b.toNat)
    · rw [clip_in h]
      obtain ⟨g5, g6⟩ := h
      have hp : (a * 2 ^ b.toNat / 2 ^ b.toNat != a) = false := by
        have : (2 : Int) ^ b.toNat ≠ 0 := by
          have : (0 : Int) < 2 ^ b.toNat := Int.pow_pos (by omega)
          omega
        rw [Int.mul_ediv_cancel _ this]
        simp
      go_enter Tryd.func43, Tryd.ntmps43
      go_wp2
      go_ret2
      exact ⟨rfl, (Below.refl _ _).alloc (Nat.le_refl _) _⟩
    · rw [clip_out h]
      have hp : (wrap64 (a * 2 ^ b.toNat) / 2 ^ b.toNat != a) = true := by
        have := shift_back a b.toNat (by omega) h
        simpa using this
      clear h
      go_enter Tryd.func43, Tryd.ntmps43
      go_wp2
      go_ret2
      exact ⟨rfl, (Below.refl _ _).alloc (Nat.le_refl _) _⟩

/-- a power, as far as it isn't too great: b times -/
def repR (a : Int) : Nat → Int × Int
  | 0 => (1, 0)
  | k + 1 => if (repR a k).2 = 0 then clip ((repR a k).1 * a) else (0, 11)
theorem repR_or (a : Int) : ∀ k, (repR a k).2 = 0 ∨ repR a k = (0, 11)
  | 0 => Or.inl rfl
  | k + 1 => by
    unfold repR
    split
    · unfold clip
      split
      · exact Or.inl rfl
      · exact Or.inr rfl
    · exact Or.inr rfl
theorem repR_in (a : Int) : ∀ k, inR (repR a k).1
  | 0 => by unfold repR inR; omega
  | k + 1 => by
    unfold repR
    split
    · unfold clip
      split
      · assumption
      · unfold inR; omega
    · unfold inR; omega
theorem repR_over (a : Int) (k : Nat) (h : repR a k = (0, 11)) : ∀ n, k ≤ n → repR a n = (0, 11)
  | 0, hn => by
    obtain rfl : k = 0 := by omega
    exact h
  | n + 1, hn => by
    by_cases e : k = n + 1
    · subst e; exact h
    · have := repR_over a k h n (by omega)
      unfold repR
      rw [this]
      simp

set_option maxHeartbeats 800000 in
theorem repeated_is (a b : Int) (w : World) (ha : inR a) (hb0 : 0 ≤ b) (hb : b ≤ 63) :
    Calls Tryd.prog 57 #[.agg #[.int .i64 a, .int .i64 b]] w fun e w' => e = ret (repR a b.toNat).1 (repR a b.toNat).2 ∧ Below w.heap.size w w' := by
  obtain ⟨bn, rfl⟩ := Int.eq_ofNat_of_zero_le hb0
  rw [Int.toNat_natCast]
  obtain ⟨⟨rn, rq⟩, hr⟩ : ∃ r, repR a bn = r := ⟨_, rfl⟩
  rw [hr]
  show Calls Tryd.prog 57 #[.agg #[.int .i64 a, .int .i64 bn]] w fun e w' => e = ret rn rq ∧ Below w.heap.size w w'
  have HR := Lib.hid hr
  clear hr
  go_enter Tryd.func57, Tryd.ntmps57
  go_wp2
  go_loopw [4, 9] (fun n i wr => ∃ k : Nat, k ≤ bn ∧ i = .int .i64 k ∧ n = .int .i64 (repR a k).1 ∧ Hid ((repR a k).2 = 0) ∧ Below w.heap.size w wr ∧ w.heap.size < wr.heap.size ∧ wr.cell? ⟨w.heap.size, 0, none⟩ = some (.int .i64 a)) (fun _ i _ => bn - (intOf i).toNat)
  case atStart => exact ⟨0, Nat.zero_le _, rfl, rfl, rfl, (Below.refl _ _).alloc (Nat.le_refl _) _, by simp, by go_simp⟩
  case round =>
    obtain ⟨k, hk, rfl, rfl, hz, hbl, hsz, hcell⟩ := hrel
    by_cases hlt : k < bn
    · have hin := repR_in a k
      have hnext : Hid (repR a (k + 1) = clip ((repR a k).1 * a)) := by
        show _ = _
        rw [repR, if_pos hz.out]
      by_cases hc : (clip ((repR a k).1 * a)).2 = 0
      · have c1 := fun w => product_is (repR a k).1 a w hin ha
        have hn2 : Hid ((repR a (k + 1)).2 = 0) := by
          show _ = _
          rw [hnext.out]; exact hc
        have hn1 : Hid ((repR a (k + 1)).1 = (clip ((repR a k).1 * a)).1) := by
          show _ = _
          rw [hnext.out]
        generalize (repR a k).1 = m at *
        rw [hc] at c1
        generalize (clip (m * a)).1 = m2 at *
        have C1 := Lib.hid c1
        clear c1 hc hin
        go_wp2_with (go_at_call 33; refine (C1.out _).mono ?_; rintro e w1 ⟨rfl, hb1⟩; obtain ⟨hc, hf⟩ := bcell hb1)
        go_roundw
        case rel => exact ⟨k + 1, by omega, by go_num, by rw [hn1.out], hn2, hbl.trans (hb1.mono (by omega)), Nat.lt_of_lt_of_le hsz hb1.size, by rw [hc _ _ hsz]; exact hcell⟩
        case measure => simp [intOf]; omega
      · have hov : clip ((repR a k).1 * a) = (0, 11) := by
          unfold clip at hc ⊢
          split
          · rename_i h
            rw [if_pos h] at hc
            exact absurd rfl hc
          · rfl
        have c1 := fun w => product_is (repR a k).1 a w hin ha
        have hres : Hid ((rn, rq) = (0, 11)) := by
          show _ = _
          rw [← HR.out]
          exact repR_over a (k + 1) (by rw [hnext.out, hov]) bn (by omega)
        rw [hov] at c1
        generalize (repR a k).1 = m at *
        have C1 := Lib.hid c1
        clear c1 hc hin hov
        go_wp2_with (go_at_call 33; refine (C1.out _).mono ?_; rintro e w1 ⟨rfl, hb1⟩; obtain ⟨hc, hf⟩ := bcell hb1)
        go_ret2
        cases hres.out
        exact ⟨rfl, hbl.trans (hb1.mono (by omega))⟩
    · obtain rfl : k = bn := by omega
      have h1 := HR.out
      rw [h1] at hz ⊢
      cases hz.out
      go_wp2
      go_ret2
      exact ⟨rfl, hbl⟩

end Go.Proofs.YtppohopockieiaaDoor
