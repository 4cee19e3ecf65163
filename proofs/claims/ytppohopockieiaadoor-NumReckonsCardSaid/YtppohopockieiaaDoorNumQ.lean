/- The document's own answer Two at shifts and powers, and where no operator is found; its answer One: contracts over the translated text. Conditions: the arguments fit int64. -/
import Derived.Test.YtppohopockieiaaDoorNumO
namespace Go.Proofs.YtppohopockieiaaDoor
open Go Go.RowKit Go.Maps Go.Shelf

theorem far_out {y : Int} (t : Nat) (h : ¬ inR y) : ¬ inR (y * 2 ^ t) := by
  have hp : (0 : Int) < 2 ^ t := Int.pow_pos (by omega)
  intro h2
  apply h
  unfold inR at *
  generalize (2 : Int) ^ t = p at *
  by_cases h3 : 0 ≤ y
  · have := Int.mul_le_mul_of_nonneg_left (show 1 ≤ p by omega) h3
    omega
  · have := Int.mul_le_mul_of_nonneg_left (show 1 ≤ p by omega) (show 0 ≤ -y by omega)
    have h4 : -y * p = -(y * p) := Int.neg_mul y p
    omega
theorem pow_split (a : Int) (j x : Nat) : a * 2 ^ (j + x) = a * 2 ^ j * 2 ^ x := by rw [Int.pow_add, Int.mul_assoc]

set_option maxRecDepth 100000 in
set_option maxHeartbeats 1600000 in
theorem rtwo_left (a b n q : Int) (ha : inR a) (hb : inR b) (h : leftR a b = (n, q)) (w : World) :
    Calls Tryd.prog 12 #[.string { data := #[60, 60] }, .int .i64 a, .int .i64 b] w fun e w' => e = ret n q ∧ w' = w := by
  unfold leftR at h
  obtain ⟨g3, g4⟩ := hb
  by_cases h0 : b < 0
  · rw [if_pos (Or.inl h0)] at h
    cases h
    clear ha
    go_enter Tryd.func12, Tryd.ntmps12
    go_wp2
    go_ret2
    exact ⟨rfl, rfl⟩
  by_cases h1 : 63 < b
  · rw [if_pos (Or.inr h1)] at h
    cases h
    clear ha
    go_enter Tryd.func12, Tryd.ntmps12
    go_wp2
    go_ret2
    exact ⟨rfl, rfl⟩
  rw [if_neg (by omega)] at h
  obtain ⟨B, rfl⟩ := Int.eq_ofNat_of_zero_le (show 0 ≤ b by omega)
  rw [Int.toNat_natCast] at h
  have H := Lib.hid h
  have h2 : (B : Int) ≤ 63 := by omega
  clear h h1 h0
  go_enter Tryd.func12, Tryd.ntmps12
  go_wp2
  go_loop [1, 2] (fun v b => ∃ j x : Nat, Hid (j + x = B) ∧ b = .int .i64 x ∧ (x : Int) ≤ 63 ∧ v = .int .i64 (a * 2 ^ j) ∧ Hid (inR (a * 2 ^ j))) (fun _ b => (intOf b).toNat)
  case atStart => exact ⟨0, B, Nat.zero_add _, rfl, h2, by simp, by show inR (a * 2 ^ 0); rw [Int.pow_zero, Int.mul_one]; exact ha⟩
  case round =>
    obtain ⟨j, x, hjx, rfl, hx, rfl, hin⟩ := hrel
    cases x with
    | zero =>
      have h3 := H.out
      have h4 : j = B := hjx.out
      subst h4
      rw [clip_in hin.out] at h3
      generalize a * 2 ^ j = m at *
      cases h3
      go_wp2
      go_ret2
      exact ⟨rfl, rfl⟩
    | succ x =>
      have hnext : a * 2 ^ j + a * 2 ^ j = a * 2 ^ (j + 1) := by rw [Int.pow_succ, ← Int.mul_assoc]; omega
      by_cases hc : inR (a * 2 ^ j + a * 2 ^ j)
      · have C := Lib.hid (fun w => radd_in (a * 2 ^ j) (a * 2 ^ j) w hin.out hin.out hc)
        have hn1 := Lib.hid hnext
        rw [hnext] at hc
        have hn2 := Lib.hid hc
        have hjx' : Hid (j + 1 + x = B) := by
          show _ = _
          have := hjx.out
          omega
        clear hnext hc
        generalize hm : a * 2 ^ j = m at *
        clear hm
        go_wp2_with (go_at_call 21; refine (C.out _).mono ?_; rintro e w' ⟨rfl, rfl⟩)
        go_round
        case rel => exact ⟨j + 1, x, hjx', by go_num, by omega, by rw [← hn1.out], hn2⟩
        case measure => simp [intOf]
      · have C := Lib.hid (fun w => radd_out (a * 2 ^ j) (a * 2 ^ j) w hin.out hin.out hc)
        have hres : Hid ((n, q) = (0, 11)) := by
          show _ = _
          have h5 : j + 1 + x = B := by have := hjx.out; omega
          rw [← H.out, ← h5, pow_split, clip_out]
          rw [hnext] at hc
          exact far_out x hc
        clear hnext hc
        generalize hm : a * 2 ^ j = m at *
        clear hm
        go_wp2_with (go_at_call 21; refine (C.out _).mono ?_; rintro e w' ⟨rfl, rfl⟩)
        go_ret2
        cases hres.out
        exact ⟨rfl, rfl⟩

theorem div_in (a : Int) (j : Nat) (ha : inR a) : inR (a / 2 ^ j) := by
  have hp : (0 : Int) < 2 ^ j := Int.pow_pos (by omega)
  unfold inR at *
  constructor
  · have := Int.le_ediv_of_mul_le hp (a := -9223372036854775808) (b := a) (by
      have h1 := Int.mul_le_mul_of_nonneg_left (show 1 ≤ (2 : Int) ^ j by omega) (show (0 : Int) ≤ 9223372036854775808 by omega)
      omega)
    exact this
  · by_cases h : 0 ≤ a
    · have := Int.ediv_le_self (2 ^ j) h
      omega
    · have := Int.ediv_nonpos_of_nonpos_of_neg (show a ≤ 0 by omega) hp
      omega
theorem div_next (a : Int) (j : Nat) : (a / 2 ^ j).fdiv 2 = a / 2 ^ (j + 1) := by
  rw [Int.fdiv_eq_ediv_of_nonneg _ (by omega), Int.pow_succ, Int.ediv_ediv_of_nonneg (by have : (0 : Int) < 2 ^ j := Int.pow_pos (by omega); omega)]

set_option maxRecDepth 100000 in
set_option maxHeartbeats 1600000 in
theorem rtwo_right (a b n q : Int) (ha : inR a) (hb : inR b) (h : rightR a b = (n, q)) (w : World) :
    Calls Tryd.prog 12 #[.string { data := #[62, 62] }, .int .i64 a, .int .i64 b] w fun e w' => e = ret n q ∧ w' = w := by
  unfold rightR at h
  obtain ⟨g3, g4⟩ := hb
  by_cases h0 : b < 0
  · rw [if_pos h0] at h
    cases h
    clear ha
    go_enter Tryd.func12, Tryd.ntmps12
    go_wp2
    go_ret2
    exact ⟨rfl, rfl⟩
  rw [if_neg h0] at h
  obtain ⟨B, hB⟩ := Int.eq_ofNat_of_zero_le (show 0 ≤ min b 63 by omega)
  have h2 : (B : Int) ≤ 63 := by omega
  rw [hB, Int.toNat_natCast] at h
  have HB := Lib.hid hB
  cases h
  clear hB
  go_enter Tryd.func12, Tryd.ntmps12
  go_wp2
  go_loop [1, 2] (fun v b => ∃ j x : Nat, Hid (j + x = B) ∧ b = .int .i64 x ∧ (x : Int) ≤ 63 ∧ v = .int .i64 (a / 2 ^ j)) (fun _ b => (intOf b).toNat)
  case atStart => exact ⟨0, B, Nat.zero_add _, by rw [HB.out], h2, by simp⟩
  case round =>
    obtain ⟨j, x, hjx, rfl, hx, rfl⟩ := hrel
    cases x with
    | zero =>
      have h4 : j = B := hjx.out
      subst h4
      go_wp2
      go_ret2
      exact ⟨rfl, rfl⟩
    | succ x =>
      have hnext := div_next a j
      have hin := div_in a j ha
      have hin2 := div_in a (j + 1) ha
      rw [← hnext] at hin2
      have C := Lib.hid (fun w => rdown_in (a / 2 ^ j) 2 w hin (by unfold inR; omega) (by omega) hin2)
      have hn1 := Lib.hid hnext
      have hjx' : Hid (j + 1 + x = B) := by
        show _ = _
        have := hjx.out
        omega
      clear hnext hin hin2
      generalize hm : a / 2 ^ j = m at *
      generalize hm2 : m.fdiv 2 = m2 at *
      clear hm hm2
      go_wp2_with (go_at_call 24; refine (C.out _).mono ?_; rintro e w' ⟨rfl, rfl⟩)
      go_round
      case rel => exact ⟨j + 1, x, hjx', by go_num, by omega, by rw [← hn1.out]⟩
      case measure => simp [intOf]

theorem powR_or (a b : Int) (hb : 0 ≤ b) : (powR a b).2 = 0 ∨ powR a b = (0, 11) := by
  unfold powR
  split
  · exact Or.inl rfl
  · split
    · exact Or.inl rfl
    · split
      · rw [if_neg (by omega)]
        exact Or.inl rfl
      · split
        · exact Or.inr rfl
        · exact repR_or a _

set_option maxRecDepth 100000 in
set_option maxHeartbeats 1600000 in
theorem rtwo_power (a b n q : Int) (ha : inR a) (hb : inR b) (h : powR a b = (n, q)) (w : World) :
    Calls Tryd.prog 12 #[.string { data := #[42, 42] }, .int .i64 a, .int .i64 b] w fun e w' => e = ret n q ∧ w' = w := by
  by_cases h0 : 0 ≤ b
  · obtain ⟨B, rfl⟩ := Int.eq_ofNat_of_zero_le h0
    have c := fun w => rpower_is a B w ha hb.2
    rw [h] at c
    have hq := powR_or a B h0
    rw [h] at hq
    clear h ha hb
    rcases hq with hq | hq
    · simp only at hq
      subst hq
      have C := Lib.hid c
      clear c
      go_enter Tryd.func12, Tryd.ntmps12
      go_wp2_with (first | (go_at_call 26; refine (C.out _).mono ?_; rintro e w' ⟨rfl, rfl⟩) | (go_at_call 20; refine (told_true _ _).mono ?_; rintro e w' ⟨rfl, rfl⟩))
      go_ret2
      exact ⟨rfl, rfl⟩
    · cases hq
      have C := Lib.hid c
      clear c
      go_enter Tryd.func12, Tryd.ntmps12
      go_wp2_with (first | (go_at_call 26; refine (C.out _).mono ?_; rintro e w' ⟨rfl, rfl⟩) | (go_at_call 20; refine (told_false _ _).mono ?_; rintro e w' ⟨rfl, rfl⟩))
      go_ret2
      exact ⟨rfl, rfl⟩
  · have h1 : b < 0 := by omega
    unfold powR at h
    by_cases c1 : a = 1
    · subst c1
      rw [if_pos (Or.inl rfl)] at h
      cases h
      clear ha h0
      obtain ⟨g1, g2⟩ := hb
      go_enter Tryd.func12, Tryd.ntmps12
      go_wp2
      go_ret2
      exact ⟨rfl, rfl⟩
    rw [if_neg (by omega)] at h
    have e1 : (a == 1) = false := by simpa using c1
    by_cases c2 : a = -1
    · subst c2
      rw [if_pos rfl] at h
      cases h
      clear ha h0 c1
      obtain ⟨g1, g2⟩ := hb
      have hm : b.tmod 2 = 0 ∧ b % 2 = 0 ∨ b.tmod 2 = -1 ∧ b % 2 = 1 := by
        obtain ⟨u, rfl⟩ : ∃ u : Nat, b = -(u : Int) := ⟨b.natAbs, by omega⟩
        rw [Int.neg_tmod, Int.tmod_eq_emod_of_nonneg (by omega)]
        omega
      rcases hm with ⟨m1, m2⟩ | ⟨m1, m2⟩
      all_goals
        rw [m2]
        generalize hx : b.tmod 2 = x at *
        subst m1
        clear m2
        go_enter Tryd.func12, Tryd.ntmps12
        go_wp2
        go_ret2
        exact ⟨rfl, rfl⟩
    rw [if_neg c2] at h
    have e2 : (a == -1) = false := by simpa using c2
    by_cases c3 : a = 0
    · subst c3
      rw [if_pos rfl, if_pos h1] at h
      cases h
      clear ha h0 c1 c2
      obtain ⟨g1, g2⟩ := hb
      go_enter Tryd.func12, Tryd.ntmps12
      go_wp2
      go_ret2
      exact ⟨rfl, rfl⟩
    rw [if_neg c3, if_pos (Or.inl h1)] at h
    cases h
    have e3 : (a == 0) = false := by simpa using c3
    clear c1 c2 c3 ha h0
    obtain ⟨g1, g2⟩ := hb
    go_enter Tryd.func12, Tryd.ntmps12
    go_wp2
    go_ret2
    exact ⟨rfl, rfl⟩

set_option maxRecDepth 100000 in
set_option maxHeartbeats 1600000 in
theorem rtwo_hat (a b n q : Int) (ha : inR a) (hb : inR b) (h : powR a b = (n, q)) (w : World) :
    Calls Tryd.prog 12 #[.string { data := #[94] }, .int .i64 a, .int .i64 b] w fun e w' => e = ret n q ∧ w' = w := by
  by_cases h0 : 0 ≤ b
  · obtain ⟨B, rfl⟩ := Int.eq_ofNat_of_zero_le h0
    have c := fun w => rpower_is a B w ha hb.2
    rw [h] at c
    have hq := powR_or a B h0
    rw [h] at hq
    clear h ha hb
    rcases hq with hq | hq
    · simp only at hq
      subst hq
      have C := Lib.hid c
      clear c
      go_enter Tryd.func12, Tryd.ntmps12
      go_wp2_with (first | (go_at_call 26; refine (C.out _).mono ?_; rintro e w' ⟨rfl, rfl⟩) | (go_at_call 20; refine (told_true _ _).mono ?_; rintro e w' ⟨rfl, rfl⟩))
      go_ret2
      exact ⟨rfl, rfl⟩
    · cases hq
      have C := Lib.hid c
      clear c
      go_enter Tryd.func12, Tryd.ntmps12
      go_wp2_with (first | (go_at_call 26; refine (C.out _).mono ?_; rintro e w' ⟨rfl, rfl⟩) | (go_at_call 20; refine (told_false _ _).mono ?_; rintro e w' ⟨rfl, rfl⟩))
      go_ret2
      exact ⟨rfl, rfl⟩
  · have h1 : b < 0 := by omega
    unfold powR at h
    by_cases c1 : a = 1
    · subst c1
      rw [if_pos (Or.inl rfl)] at h
      cases h
      clear ha h0
      obtain ⟨g1, g2⟩ := hb
      go_enter Tryd.func12, Tryd.ntmps12
      go_wp2
      go_ret2
      exact ⟨rfl, rfl⟩
    rw [if_neg (by omega)] at h
    have e1 : (a == 1) = false := by simpa using c1
    by_cases c2 : a = -1
    · subst c2
      rw [if_pos rfl] at h
      cases h
      clear ha h0 c1
      obtain ⟨g1, g2⟩ := hb
      have hm : b.tmod 2 = 0 ∧ b % 2 = 0 ∨ b.tmod 2 = -1 ∧ b % 2 = 1 := by
        obtain ⟨u, rfl⟩ : ∃ u : Nat, b = -(u : Int) := ⟨b.natAbs, by omega⟩
        rw [Int.neg_tmod, Int.tmod_eq_emod_of_nonneg (by omega)]
        omega
      rcases hm with ⟨m1, m2⟩ | ⟨m1, m2⟩
      all_goals
        rw [m2]
        generalize hx : b.tmod 2 = x at *
        subst m1
        clear m2
        go_enter Tryd.func12, Tryd.ntmps12
        go_wp2
        go_ret2
        exact ⟨rfl, rfl⟩
    rw [if_neg c2] at h
    have e2 : (a == -1) = false := by simpa using c2
    by_cases c3 : a = 0
    · subst c3
      rw [if_pos rfl, if_pos h1] at h
      cases h
      clear ha h0 c1 c2
      obtain ⟨g1, g2⟩ := hb
      go_enter Tryd.func12, Tryd.ntmps12
      go_wp2
      go_ret2
      exact ⟨rfl, rfl⟩
    rw [if_neg c3, if_pos (Or.inl h1)] at h
    cases h
    have e3 : (a == 0) = false := by simpa using c3
    clear c1 c2 c3 ha h0
    obtain ⟨g1, g2⟩ := hb
    go_enter Tryd.func12, Tryd.ntmps12
    go_wp2
    go_ret2
    exact ⟨rfl, rfl⟩

end Go.Proofs.YtppohopockieiaaDoor
