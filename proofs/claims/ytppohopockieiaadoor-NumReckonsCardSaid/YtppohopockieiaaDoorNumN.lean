/- The document's own answers for package num, bit by bit: contracts over the translated text. Conditions: the arguments fit int64. -/
import Derived.Test.YtppohopockieiaaDoorNumL
namespace Go.Proofs.YtppohopockieiaaDoor
open Go Go.RowKit Go.Maps Go.Shelf

theorem bit_bv (a : Int) (i : Nat) (hi : i < 64) (ha : inR a) : a / 2 ^ i % 2 = if (BitVec.ofInt 64 a).getLsbD i = true then 1 else 0 := by
  obtain ⟨u, hu⟩ : ∃ u : Nat, (u : Int) = a + 18446744073709551616 := ⟨(a + 18446744073709551616).toNat, by unfold inR at ha; omega⟩
  have hp : (18446744073709551616 : Int) = 2 ^ i * (2 * 2 ^ (63 - i)) := by
    rw [← Int.pow_succ', ← Int.pow_add, show i + (63 - i + 1) = 64 by omega]
    rfl
  have h1 : (u : Int) / 2 ^ i = a / 2 ^ i + 2 * 2 ^ (63 - i) := by
    rw [hu, hp, Int.add_mul_ediv_left _ _ (by have : (0 : Int) < 2 ^ i := Int.pow_pos (by omega); omega)]
  have h2 : ((u / 2 ^ i : Nat) : Int) = (u : Int) / 2 ^ i := by simp
  have h3 : (BitVec.ofInt 64 a).toNat = u % 2 ^ 64 := by
    rw [BitVec.toNat_ofInt]
    have : (2 : Nat) ^ 64 = 18446744073709551616 := by decide
    omega
  have h4 : (BitVec.ofInt 64 a).getLsbD i = u.testBit i := by
    rw [BitVec.getLsbD, h3, Nat.testBit_mod_two_pow]
    simp [hi]
  rw [h4, Nat.testBit_eq_decide_div_mod_eq]
  generalize (2 : Int) ^ (63 - i) = y at *
  generalize a / 2 ^ i = z at *
  generalize u / 2 ^ i = v at *
  by_cases h5 : v % 2 = 1
  · simp [h5]; omega
  · simp [h5]; omega

set_option maxHeartbeats 400000 in
theorem rbit_is (a : Int) (i : Nat) (w : World) (ha : inR a) (hi : (i : Int) < 64) :
    Calls Tryd.prog 46 #[.int .i64 a, .int .i64 i] w fun e w' => e = .returned (.int .i64 (if (BitVec.ofInt 64 a).getLsbD i = true then 1 else 0)) ∧ w' = w := by
  have hb := bit_bv a i (by omega) ha
  rw [← hb, ← and_one]
  obtain ⟨h1, h2⟩ := ha
  clear hb
  go_enter Tryd.func46, Tryd.ntmps46
  go_wp2
  go_ret
  exact ⟨rfl, rfl⟩

theorem set_bit (r : BitVec 64) (i : Nat) (hi : i < 64) (h : r.getLsbD i = true) : bits .or .u64 ((r.toNat % 2 ^ i : Nat) : Int) ((2 ^ i : Nat) : Int) = ((r.toNat % 2 ^ (i + 1) : Nat) : Int) := by
  have h1 : 2 ^ i < 2 ^ 64 := Nat.pow_lt_pow_right (by omega) hi
  have h2 : (2 : Nat) ^ 64 = 18446744073709551616 := by decide
  have h3 : r.toNat % 2 ^ i < 2 ^ i := Nat.mod_lt _ (Nat.two_pow_pos i)
  rw [bits_or_u64_nat _ _ (by omega) (by omega)]
  congr 1
  have h4 : r.toNat.testBit i = true := h
  rw [Nat.testBit_eq_decide_div_mod_eq, decide_eq_true_eq] at h4
  have h5 := Nat.two_pow_add_eq_or_of_lt h3 1
  rw [Nat.mod_pow_succ, h4, Nat.or_comm]
  rw [Nat.mul_one] at h5 ⊢
  rw [← h5, Nat.add_comm]
theorem no_bit (r : BitVec 64) (i : Nat) (h : r.getLsbD i = false) : r.toNat % 2 ^ i = r.toNat % 2 ^ (i + 1) := by
  have h4 : r.toNat.testBit i = false := h
  rw [Nat.testBit_eq_decide_div_mod_eq, decide_eq_false_iff_not] at h4
  have h5 : r.toNat / 2 ^ i % 2 = 0 := by omega
  rw [Nat.mod_pow_succ, h5, Nat.mul_zero, Nat.add_zero]

/-- the lowest bits -/
def low (r : BitVec 64) (k : Nat) : Int := ((r.toNat % 2 ^ k : Nat) : Int)
theorem low_zero (r : BitVec 64) : low r 0 = 0 := by unfold low; rw [Nat.pow_zero, Nat.mod_one]; rfl
theorem low_bd (r : BitVec 64) (k : Nat) : 0 ≤ low r k ∧ low r k ≤ 18446744073709551615 := by
  unfold low
  have h1 := Nat.mod_le r.toNat (2 ^ k)
  have := r.isLt
  omega
theorem low_set (r : BitVec 64) (i : Nat) (hi : i < 64) (h : r.getLsbD i = true) : bits .or .u64 (low r i) (IntKind.u64.wrap (2 ^ i)) = low r (i + 1) := by
  have := set_bit r i hi h
  have e : IntKind.u64.wrap (2 ^ i) = ((2 ^ i : Nat) : Int) := by
    have h1 : (2 : Nat) ^ i < 2 ^ 64 := Nat.pow_lt_pow_right (by omega) hi
    have h2 : (2 : Nat) ^ 64 = 18446744073709551616 := by decide
    have h3 : ((2 ^ i : Nat) : Int) = (2 : Int) ^ i := by simp
    rw [IntKind.wrap_u64, ← h3]
    omega
  rw [e]
  unfold low
  rw [← this]
theorem low_none (r : BitVec 64) (i : Nat) (h : r.getLsbD i = false) : low r i = low r (i + 1) := by
  unfold low
  rw [no_bit r i h]
theorem low_all (r : BitVec 64) : wrap64 (low r 64) = r.toInt := by
  unfold low
  rw [Nat.mod_eq_of_lt r.isLt, ← bv_int, IntKind.wrap_i64, wrap64]

set_option maxRecDepth 100000 in
set_option maxHeartbeats 1600000 in
theorem rbits_and (a b : Int) (r : BitVec 64) (w : World) (ha : inR a) (hb : inR b)
    (hr : ∀ i, i < 64 → r.getLsbD i = ((BitVec.ofInt 64 a).getLsbD i && (BitVec.ofInt 64 b).getLsbD i)) :
    Calls Tryd.prog 25 #[.string { data := #[47, 92] }, .int .i64 a, .int .i64 b] w fun e w' => e = .returned (.int .i64 r.toInt) ∧ w' = w := by
  have H := Lib.hid hr
  rw [← low_all r]
  clear hr
  go_enter Tryd.func25, Tryd.ntmps25
  go_wp2
  go_loop [7, 8] (fun n i => ∃ k : Nat, k ≤ 64 ∧ i = .int .i64 k ∧ n = .int .u64 (low r k)) (fun _ i => 64 - (intOf i).toNat)
  case atStart => exact ⟨0, Nat.zero_le _, rfl, by rw [low_zero]⟩
  case round =>
    obtain ⟨k, hk, rfl, rfl⟩ := hrel
    by_cases hlt : k < 64
    · have hki : (k : Int) < 64 := by omega
      have hbit := H.out k hlt
      have c1 := fun w => rbit_is a k w ha hki
      have c2 := fun w => rbit_is b k w hb hki
      have hset := low_set r k hlt
      have hnone := low_none r k
      obtain ⟨m0, m1⟩ := low_bd r k
      generalize (BitVec.ofInt 64 a).getLsbD k = x at *
      generalize (BitVec.ofInt 64 b).getLsbD k = y at *
      cases x
      all_goals
        cases y
      all_goals
        simp only [Bool.false_eq_true, if_false, if_true] at c1 c2
        have C1 := Lib.hid c1
        have C2 := Lib.hid c2
        first
        | (have HB := Lib.hid (hnone hbit)
           clear c1 c2 hset hnone hbit ha hb
           go_wp2_with fail
           refine (C1.out _).mono ?_
           rintro e w' ⟨rfl, rfl⟩
           go_wp2_with fail
           refine (C2.out _).mono ?_
           rintro e w' ⟨rfl, rfl⟩
           go_wp2_with fail
           go_round
           case rel => exact ⟨k + 1, by omega, by go_num, by rw [HB.out]⟩
           case measure => simp [intOf]; omega)
        | (have HB := Lib.hid (hset hbit)
           clear c1 c2 hset hnone hbit ha hb
           go_wp2_with fail
           refine (C1.out _).mono ?_
           rintro e w' ⟨rfl, rfl⟩
           go_wp2_with fail
           refine (C2.out _).mono ?_
           rintro e w' ⟨rfl, rfl⟩
           go_wp2_with fail
           go_round
           case rel => exact ⟨k + 1, by omega, by go_num, by rw [HB.out]⟩
           case measure => simp [intOf]; omega)
    · obtain rfl : k = 64 := by omega
      obtain ⟨m0, m1⟩ := low_bd r 64
      go_wp2
      go_ret
      exact ⟨rfl, rfl⟩

set_option maxRecDepth 100000 in
set_option maxHeartbeats 1600000 in
theorem rbits_or (a b : Int) (r : BitVec 64) (w : World) (ha : inR a) (hb : inR b)
    (hr : ∀ i, i < 64 → r.getLsbD i = ((BitVec.ofInt 64 a).getLsbD i || (BitVec.ofInt 64 b).getLsbD i)) :
    Calls Tryd.prog 25 #[.string { data := #[92, 47] }, .int .i64 a, .int .i64 b] w fun e w' => e = .returned (.int .i64 r.toInt) ∧ w' = w := by
  have H := Lib.hid hr
  rw [← low_all r]
  clear hr
  go_enter Tryd.func25, Tryd.ntmps25
  go_wp2
  go_loop [7, 8] (fun n i => ∃ k : Nat, k ≤ 64 ∧ i = .int .i64 k ∧ n = .int .u64 (low r k)) (fun _ i => 64 - (intOf i).toNat)
  case atStart => exact ⟨0, Nat.zero_le _, rfl, by rw [low_zero]⟩
  case round =>
    obtain ⟨k, hk, rfl, rfl⟩ := hrel
    by_cases hlt : k < 64
    · have hki : (k : Int) < 64 := by omega
      have hbit := H.out k hlt
      have c1 := fun w => rbit_is a k w ha hki
      have c2 := fun w => rbit_is b k w hb hki
      have hset := low_set r k hlt
      have hnone := low_none r k
      obtain ⟨m0, m1⟩ := low_bd r k
      generalize (BitVec.ofInt 64 a).getLsbD k = x at *
      generalize (BitVec.ofInt 64 b).getLsbD k = y at *
      cases x
      all_goals
        cases y
      all_goals
        simp only [Bool.false_eq_true, if_false, if_true] at c1 c2
        have C1 := Lib.hid c1
        have C2 := Lib.hid c2
        first
        | (have HB := Lib.hid (hnone hbit)
           clear c1 c2 hset hnone hbit ha hb
           go_wp2_with fail
           refine (C1.out _).mono ?_
           rintro e w' ⟨rfl, rfl⟩
           go_wp2_with fail
           refine (C2.out _).mono ?_
           rintro e w' ⟨rfl, rfl⟩
           go_wp2_with fail
           go_round
           case rel => exact ⟨k + 1, by omega, by go_num, by rw [HB.out]⟩
           case measure => simp [intOf]; omega)
        | (have HB := Lib.hid (hset hbit)
           clear c1 c2 hset hnone hbit ha hb
           go_wp2_with fail
           refine (C1.out _).mono ?_
           rintro e w' ⟨rfl, rfl⟩
           go_wp2_with fail
           refine (C2.out _).mono ?_
           rintro e w' ⟨rfl, rfl⟩
           go_wp2_with fail
           go_round
           case rel => exact ⟨k + 1, by omega, by go_num, by rw [HB.out]⟩
           case measure => simp [intOf]; omega)
    · obtain rfl : k = 64 := by omega
      obtain ⟨m0, m1⟩ := low_bd r 64
      go_wp2
      go_ret
      exact ⟨rfl, rfl⟩

set_option maxRecDepth 100000 in
set_option maxHeartbeats 1600000 in
theorem rbits_xor (a b : Int) (r : BitVec 64) (w : World) (ha : inR a) (hb : inR b)
    (hr : ∀ i, i < 64 → r.getLsbD i = ((BitVec.ofInt 64 a).getLsbD i ^^ (BitVec.ofInt 64 b).getLsbD i)) :
    Calls Tryd.prog 25 #[.string { data := #[120, 111, 114] }, .int .i64 a, .int .i64 b] w fun e w' => e = .returned (.int .i64 r.toInt) ∧ w' = w := by
  have H := Lib.hid hr
  rw [← low_all r]
  clear hr
  go_enter Tryd.func25, Tryd.ntmps25
  go_wp2
  go_loop [7, 8] (fun n i => ∃ k : Nat, k ≤ 64 ∧ i = .int .i64 k ∧ n = .int .u64 (low r k)) (fun _ i => 64 - (intOf i).toNat)
  case atStart => exact ⟨0, Nat.zero_le _, rfl, by rw [low_zero]⟩
  case round =>
    obtain ⟨k, hk, rfl, rfl⟩ := hrel
    by_cases hlt : k < 64
    · have hki : (k : Int) < 64 := by omega
      have hbit := H.out k hlt
      have c1 := fun w => rbit_is a k w ha hki
      have c2 := fun w => rbit_is b k w hb hki
      have hset := low_set r k hlt
      have hnone := low_none r k
      obtain ⟨m0, m1⟩ := low_bd r k
      generalize (BitVec.ofInt 64 a).getLsbD k = x at *
      generalize (BitVec.ofInt 64 b).getLsbD k = y at *
      cases x
      all_goals
        cases y
      all_goals
        simp only [Bool.false_eq_true, if_false, if_true] at c1 c2
        have C1 := Lib.hid c1
        have C2 := Lib.hid c2
        first
        | (have HB := Lib.hid (hnone hbit)
           clear c1 c2 hset hnone hbit ha hb
           go_wp2_with fail
           refine (C1.out _).mono ?_
           rintro e w' ⟨rfl, rfl⟩
           go_wp2_with fail
           refine (C2.out _).mono ?_
           rintro e w' ⟨rfl, rfl⟩
           go_wp2_with fail
           go_round
           case rel => exact ⟨k + 1, by omega, by go_num, by rw [HB.out]⟩
           case measure => simp [intOf]; omega)
        | (have HB := Lib.hid (hset hbit)
           clear c1 c2 hset hnone hbit ha hb
           go_wp2_with fail
           refine (C1.out _).mono ?_
           rintro e w' ⟨rfl, rfl⟩
           go_wp2_with fail
           refine (C2.out _).mono ?_
           rintro e w' ⟨rfl, rfl⟩
           go_wp2_with fail
           go_round
           case rel => exact ⟨k + 1, by omega, by go_num, by rw [HB.out]⟩
           case measure => simp [intOf]; omega)
    · obtain rfl : k = 64 := by omega
      obtain ⟨m0, m1⟩ := low_bd r 64
      go_wp2
      go_ret
      exact ⟨rfl, rfl⟩

end Go.Proofs.YtppohopockieiaaDoor
