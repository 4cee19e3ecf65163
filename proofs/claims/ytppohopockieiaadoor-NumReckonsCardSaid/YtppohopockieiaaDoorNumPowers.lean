/- The law NumPowers returns true for every input: a power is the one less, times the number; its walk. Conditions: the arguments fit their kinds; the library's table of powers of ten holds what its text lays. -/
import Derived.Test.YtppohopockieiaaDoorNumBits
namespace Go.Proofs.YtppohopockieiaaDoor
open Go Go.RowKit Go.Maps Go.Shelf

theorem repR_pow (a : Int) : ∀ n, (repR a n).2 = 0 → (repR a n).1 = a ^ n
  | 0, _ => by simp [repR]
  | n + 1, h => by
    rcases repR_or a n with h0 | h0
    · unfold repR at h ⊢
      rw [if_pos h0] at h ⊢
      have ih := repR_pow a n h0
      unfold clip at h ⊢
      split
      · rw [Int.pow_succ, ← ih]
      · rename_i hn
        rw [if_neg hn] at h
        cases h
    · rw [repR_over a n h0 (n + 1) (by omega)] at h
      cases h
/-- how powers stand to one another -/
def Step (x e f z g : Int) : Prop := (e = 0 ∧ f = 0 ∧ g = 0 ∧ z = x) ∨ (e = 11 ∧ (f != 0) = true) ∨ (e = 11 ∧ f = 0 ∧ (g != 0) = true)
theorem powR_big {a k : Int} (h1 : a ≠ 1) (h2 : k ≠ 0) (h3 : a ≠ -1) (h4 : a ≠ 0) : powR a k = if k < 0 ∨ 63 < k then (0, 11) else repR a k.toNat := by
  unfold powR
  rw [if_neg (by omega), if_neg h3, if_neg h4]
theorem pow_step (a j : Int) (ha : inR a) (hj : 0 ≤ j) : Step (powR a (j + 1)).1 (powR a (j + 1)).2 (powR a j).2 (clip ((powR a j).1 * a)).1 (clip ((powR a j).1 * a)).2 := by
  by_cases h1 : a = 1
  · subst h1
    have e1 : powR 1 (j + 1) = (1, 0) := if_pos (Or.inl rfl)
    have e2 : powR 1 j = (1, 0) := if_pos (Or.inl rfl)
    rw [e1, e2]
    exact Or.inl ⟨rfl, rfl, rfl, rfl⟩
  by_cases h3 : a = -1
  · subst h3
    have e1 : powR (-1) (j + 1) = (1 - 2 * ((j + 1) % 2), 0) := by
      unfold powR
      rw [if_neg (by omega), if_pos rfl]
    have e2 : powR (-1) j = (1 - 2 * (j % 2), 0) := by
      unfold powR
      by_cases h0 : j = 0
      · subst h0; rfl
      · rw [if_neg (by omega), if_pos rfl]
    rw [e1, e2]
    refine Or.inl ⟨rfl, rfl, ?_⟩
    show (clip ((1 - 2 * (j % 2)) * -1)).2 = 0 ∧ (clip ((1 - 2 * (j % 2)) * -1)).1 = 1 - 2 * ((j + 1) % 2)
    rw [clip_in (by unfold inR; omega)]
    exact ⟨rfl, by show (1 - 2 * (j % 2)) * -1 = _; omega⟩
  by_cases h4 : a = 0
  · subst h4
    have e1 : powR 0 (j + 1) = (0, 0) := by
      unfold powR
      rw [if_neg (by omega), if_neg (by omega), if_pos rfl, if_neg (by omega)]
    rw [e1]
    by_cases h0 : j = 0
    · subst h0
      exact Or.inl ⟨rfl, rfl, rfl, rfl⟩
    · have e2 : powR 0 j = (0, 0) := by
        unfold powR
        rw [if_neg (by omega), if_neg (by omega), if_pos rfl, if_neg (by omega)]
      rw [e2]
      exact Or.inl ⟨rfl, rfl, rfl, rfl⟩
  have e1 := powR_big h1 (show j + 1 ≠ 0 by omega) h3 h4
  rw [e1]
  by_cases h0 : j = 0
  · subst h0
    have e2 : powR a 0 = (1, 0) := if_pos (Or.inr rfl)
    rw [e2, if_neg (by omega)]
    have e3 : repR a (0 + 1 : Int).toNat = (a, 0) := by
      show repR a 1 = (a, 0)
      simp only [repR]
      rw [if_pos trivial, Int.one_mul, clip_in ha]
    rw [e3]
    refine Or.inl ⟨rfl, rfl, ?_⟩
    show (clip (1 * a)).2 = 0 ∧ (clip (1 * a)).1 = a
    rw [Int.one_mul, clip_in ha]
    exact ⟨rfl, rfl⟩
  have e2 := powR_big h1 h0 h3 h4
  rw [e2]
  obtain ⟨n, rfl⟩ := Int.eq_ofNat_of_zero_le hj
  by_cases h5 : (n : Int) ≤ 62
  · rw [if_neg (by omega), if_neg (by omega)]
    have e3 : ((n : Int) + 1).toNat = n + 1 := by omega
    have e4 : (n : Int).toNat = n := by omega
    rw [e3, e4]
    have e5 : repR a (n + 1) = if (repR a n).2 = 0 then clip ((repR a n).1 * a) else (0, 11) := by rw [repR]
    rw [e5]
    rcases repR_or a n with h6 | h6
    · rw [if_pos h6]
      rcases (by unfold clip; split <;> simp : (clip ((repR a n).1 * a)).2 = 0 ∨ (clip ((repR a n).1 * a)).2 = 11) with h7 | h7
      · exact Or.inl ⟨h7, h6, h7, rfl⟩
      · exact Or.inr (Or.inr ⟨h7, h6, by rw [h7]; rfl⟩)
    · rw [h6]
      exact Or.inr (Or.inl ⟨rfl, rfl⟩)
  · rw [if_pos (by omega)]
    by_cases h6 : (n : Int) = 63
    · obtain rfl : n = 63 := by omega
      rw [if_neg (by omega)]
      show Step 0 11 (repR a 63).2 (clip ((repR a 63).1 * a)).1 (clip ((repR a 63).1 * a)).2
      rcases repR_or a 63 with h7 | h7
      · have h8 := repR_pow a 63 h7
        refine Or.inr (Or.inr ⟨rfl, h7, ?_⟩)
        have h9 : ¬ inR ((repR a 63).1 * a) := by
          rw [h8, ← Int.pow_succ]
          have h10 : (a ^ (63 + 1)).natAbs = a.natAbs ^ 64 := Int.natAbs_pow a 64
          have h11 : 2 ^ 64 ≤ a.natAbs ^ 64 := Nat.pow_le_pow_left (by omega) 64
          have h12 : (2 : Nat) ^ 64 = 18446744073709551616 := by decide
          have h13 : a ^ Nat.succ 63 = a ^ (63 + 1) := rfl
          rw [h13]
          unfold inR
          omega
        rw [clip_out h9]
        rfl
      · rw [h7]
        exact Or.inr (Or.inl ⟨rfl, rfl⟩)
    · rw [if_pos (by omega)]
      exact Or.inr (Or.inl ⟨rfl, rfl⟩)
theorem powR_in (a k : Int) (hk : 0 ≤ k) : inR (powR a k).1 := by
  unfold powR
  split
  · unfold inR; omega
  · split
    · show inR (1 - 2 * (k % 2))
      unfold inR; omega
    · split
      · split <;> (unfold inR; omega)
      · split
        · unfold inR; omega
        · exact repR_in a _

set_option maxHeartbeats 1600000 in
theorem powers_walk (a b : Int) (w : World) (ha : inR a) (hb0 : 0 ≤ b) (hb1 : b ≤ 255) (htab : Tab w) :
    Calls Tryd.prog 9 #[.int .i64 a, .int .u8 b] w fun e w' => e = .returned (.bool true) ∧ Below w.heap.size w w' := by
  have k0 : 0 ≤ b % 70 := Int.emod_nonneg b (by omega)
  have k1 : b % 70 ≤ 69 := by have := Int.emod_lt_of_pos b (show (0 : Int) < 70 by omega); omega
  have kr : inR (b % 70) := by unfold inR; omega
  have kr1 : inR (b % 70 + 1) := by unfold inR; omega
  have hs := pow_step a (b % 70) ha k0
  have hy := powR_in a (b % 70) k0
  have c1 := two_power a (b % 70 + 1) (powR a (b % 70 + 1)).1 (powR a (b % 70 + 1)).2 ha kr1 rfl
  have c2 := two_hat a (b % 70) (powR a (b % 70)).1 (powR a (b % 70)).2 ha kr rfl
  have c3 := two_product (powR a (b % 70)).1 a (clip ((powR a (b % 70)).1 * a)).1 (clip ((powR a (b % 70)).1 * a)).2 hy ha rfl
  generalize powR a (b % 70 + 1) = px at *
  generalize powR a (b % 70) = py at *
  generalize hpz : clip (py.1 * a) = pz at *
  clear hpz
  obtain ⟨x, e⟩ := px
  obtain ⟨y, f⟩ := py
  obtain ⟨z, g⟩ := pz
  have C1 := Lib.hid c1
  have C2 := Lib.hid c2
  have C3 := Lib.hid c3
  clear c1 c2 c3 hy
  have hs' : (e = 0 ∧ f = 0 ∧ g = 0 ∧ z = x) ∨ (e = 11 ∧ (f != 0) = true) ∨ (e = 11 ∧ f = 0 ∧ (g != 0) = true) := hs
  clear hs
  by_cases hcmp : a ≤ b % 70 + 1
  · have C4 := Lib.hid (two_least a (b % 70 + 1) a 0 ha kr1 (by unfold minZ; rw [if_pos hcmp]))
    have C5 := Lib.hid (two_greatest a (b % 70 + 1) (b % 70 + 1) 0 ha kr1 (by
      unfold maxZ
      by_cases h2 : a < b % 70 + 1
      · rw [if_pos h2]
      · rw [if_neg h2]; congr 1; omega))
    clear kr kr1 ha
    rcases hs' with ⟨rfl, rfl, rfl, rfl⟩ | ⟨rfl, hf⟩ | ⟨rfl, rfl, hg⟩
    all_goals
      go_enter Tryd.func9, Tryd.ntmps9
      go_wp2_with fail
      refine (alive_is _ htab).mono ?_
      rintro e w1 ⟨rfl, b1⟩
      go_wp2_with fail
      refine (C1.out _).mono ?_
      rintro e w2 ⟨rfl, b2⟩
      go_wp2_with fail
      refine (C2.out _).mono ?_
      rintro e w3 ⟨rfl, b3⟩
      go_wp2_with fail
      refine (C3.out _).mono ?_
      rintro e w4 ⟨rfl, b4⟩
      go_wp2_with fail
      refine (C4.out _).mono ?_
      rintro e w5 ⟨rfl, b5⟩
      go_wp2_with fail
      refine (C5.out _).mono ?_
      rintro e w6 ⟨rfl, b6⟩
      go_wp2_with fail
      all_goals
        go_ret
        exact ⟨rfl, bt (bt (bt (bt (bt b1 b2) b3) b4) b5) b6⟩
  · have C4 := Lib.hid (two_least a (b % 70 + 1) (b % 70 + 1) 0 ha kr1 (by unfold minZ; rw [if_neg hcmp]))
    have C5 := Lib.hid (two_greatest a (b % 70 + 1) a 0 ha kr1 (by unfold maxZ; rw [if_neg (by omega)]))
    have t1 : (b % 70 + 1 != a) = true := by simp; omega
    have t4 : (wrap64 (b % 70 + 1 + a) != wrap64 (a + (b % 70 + 1))) = false := by
      rw [Int.add_comm a]; simp
    clear kr kr1 ha
    rcases hs' with ⟨rfl, rfl, rfl, rfl⟩ | ⟨rfl, hf⟩ | ⟨rfl, rfl, hg⟩
    all_goals
      go_enter Tryd.func9, Tryd.ntmps9
      go_wp2_with fail
      refine (alive_is _ htab).mono ?_
      rintro e w1 ⟨rfl, b1⟩
      go_wp2_with fail
      refine (C1.out _).mono ?_
      rintro e w2 ⟨rfl, b2⟩
      go_wp2_with fail
      refine (C2.out _).mono ?_
      rintro e w3 ⟨rfl, b3⟩
      go_wp2_with fail
      refine (C3.out _).mono ?_
      rintro e w4 ⟨rfl, b4⟩
      go_wp2_with fail
      refine (C4.out _).mono ?_
      rintro e w5 ⟨rfl, b5⟩
      go_wp2_with fail
      refine (C5.out _).mono ?_
      rintro e w6 ⟨rfl, b6⟩
      go_wp2_with fail
      all_goals
        go_ret
        exact ⟨rfl, bt (bt (bt (bt (bt b1 b2) b3) b4) b5) b6⟩

end Go.Proofs.YtppohopockieiaaDoor
