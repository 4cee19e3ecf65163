/- The law NumBack returns true for every input: a number is read as it was printed; added and taken away it is the same; its walk. Conditions: the arguments fit int64; the library's table of powers of ten holds what its text lays. -/
import Derived.Test.YtppohopockieiaaDoorNumBits
namespace Go.Proofs.YtppohopockieiaaDoor
open Go Go.RowKit Go.Maps Go.Shelf

theorem digit_byte {k : Nat} (h : k < 10) : digitZ ((UInt8.ofNat (48 + k)).toNat : Int) = k := by
  have h1 : (UInt8.ofNat (48 + k)).toNat = 48 + k := by
    rw [UInt8.toNat_ofNat']
    omega
  rw [h1]
  unfold digitZ
  rw [if_pos (by omega)]
  omega
theorem fold_digits : ∀ (n u : Nat), u ≤ n → u < 9223372036854775808 → foldP 10 (Lib.decDigits u) = ((u : Int), false) ∧ digitsB 10 (Lib.decDigits u) = true ∧ Lib.decDigits u ≠ [] := by
  intro n
  induction n with
  | zero =>
    intro u hu h
    obtain rfl : u = 0 := by omega
    rw [decDigits_small (by omega)]
    exact ⟨by decide +kernel, by decide +kernel, by simp⟩
  | succ n ih =>
    intro u hu h
    by_cases h1 : u < 10
    · rw [decDigits_small h1]
      refine ⟨?_, ?_, by simp⟩
      · have e1 : foldP 10 [UInt8.ofNat (48 + u)] = stepP 10 (0, false) (UInt8.ofNat (48 + u)) := rfl
        rw [e1]
        unfold stepP
        rw [digit_byte h1]
        rw [IntKind.wrap_u64, IntKind.wrap_u64]
        simp
        omega
      · unfold digitsB
        simp only [List.all_cons, List.all_nil, Bool.and_true]
        rw [digit_byte h1]
        simp
        omega
    · rw [decDigits_big h1]
      obtain ⟨g1, g2, g3⟩ := ih (u / 10) (by omega) (by omega)
      have h2 : u % 10 < 10 := Nat.mod_lt _ (by omega)
      refine ⟨?_, ?_, by simp⟩
      · rw [foldP_snoc, g1]
        unfold stepP
        rw [digit_byte h2, IntKind.wrap_u64, IntKind.wrap_u64]
        simp
        omega
      · unfold digitsB at g2 ⊢
        rw [List.all_append, g2]
        simp only [List.all_cons, List.all_nil, Bool.and_true, Bool.true_and]
        rw [digit_byte h2]
        simp
        omega
theorem parse_print (a : Int) (h0 : 0 ≤ a) (h1 : a ≤ 9223372036854775807) : parseR 10 (Lib.itoa a) = (a, 0) := by
  obtain ⟨u, rfl⟩ := Int.eq_ofNat_of_zero_le h0
  obtain ⟨g1, g2, g3⟩ := fold_digits u u (Nat.le_refl _) (by omega)
  unfold Lib.itoa
  rw [if_neg (by omega), Int.toNat_natCast]
  unfold parseR
  rw [if_neg (by omega), if_neg g3, g2, if_neg (by simp), g1]
  simp
  unfold wrap64
  omega
theorem decDigits_length : ∀ (n u : Nat), u < 10 ^ (n + 1) → (Lib.decDigits u).length ≤ n + 1
  | 0, u, h => by
    rw [decDigits_small (by simpa using h)]
    simp
  | n + 1, u, h => by
    by_cases h1 : u < 10
    · rw [decDigits_small h1]
      simp
    · rw [decDigits_big h1, List.length_append]
      have := decDigits_length n (u / 10) (by rw [Nat.pow_succ] at h; omega)
      simp
      omega
theorem itoa_size (a : Int) (h : inR a) : (ByteArray.mk (Lib.itoa a).toArray).size ≤ 21 := by
  show (Lib.itoa a).toArray.size ≤ 21
  have e : (10 : Nat) ^ (19 + 1) = 100000000000000000000 := by decide
  unfold inR at h
  unfold Lib.itoa
  split
  · have := decDigits_length 19 a.natAbs (by rw [e]; omega)
    simp
    omega
  · have := decDigits_length 19 a.toNat (by rw [e]; omega)
    simp
    omega

theorem print_parse (a : Int) (ha : inR a) (h0 : 0 ≤ a) : ∃ str : ByteArray,
    (∀ w, Tab w → Calls Tryd.prog 17 #[.int .i64 a] w fun e w' => e = .returned (.string str) ∧ Below w.heap.size w w') ∧
    (∀ w, Calls Tryd.prog 15 #[.string str, .int .i64 10] w fun e w' => e = ret a 0 ∧ w' = w) := by
  refine ⟨⟨(Lib.itoa a).toArray⟩, fun w h => print_is a w ha h, fun w => ?_⟩
  have h1 := parse_is ⟨(Lib.itoa a).toArray⟩ 10 w (by have := itoa_size a ha; unfold maxLen; omega)
  have h2 : parseR 10 (ByteArray.mk (Lib.itoa a).toArray).data.toList = (a, 0) := parse_print a h0 ha.2
  rw [h2] at h1
  exact h1

set_option maxHeartbeats 800000 in
theorem back_in (a b : Int) (w : World) (ha : inR a) (hb : inR b) (htab : Tab w) (h : inR (a + b)) :
    Calls Tryd.prog 6 #[.int .i64 a, .int .i64 b] w fun e w' => e = .returned (.bool true) ∧ Below w.heap.size w w' := by
  have C1 := Lib.hid (two_sum a b (a + b) 0 ha hb (clip_in h))
  have C2 := Lib.hid (two_difference (a + b) b a 0 h hb (by rw [show a + b - b = a by omega, clip_in ha]))
  have C3 := Lib.hid (two_sum b a (a + b) 0 hb ha (by rw [Int.add_comm b a, clip_in h]))
  clear h hb
  generalize a + b = t at *
  by_cases h0 : 0 ≤ a
  · obtain ⟨str, cp, cq⟩ := print_parse a ha h0
    have CP := Lib.hid cp
    have CQ := Lib.hid cq
    clear cp cq ha
    go_enter Tryd.func6, Tryd.ntmps6
    go_wp2_with fail
    refine (alive_is _ htab).mono ?_
    rintro e w1 ⟨rfl, b1⟩
    go_wp2_with fail
    refine (CP.out _ (htab.on b1)).mono ?_
    rintro e w2 ⟨rfl, b2⟩
    go_wp2_with fail
    refine (CQ.out _).mono ?_
    rintro e w3 ⟨rfl, rfl⟩
    go_wp2_with fail
    refine (C1.out _).mono ?_
    rintro e w4 ⟨rfl, b4⟩
    go_wp2_with fail
    refine (C2.out _).mono ?_
    rintro e w5 ⟨rfl, b5⟩
    go_wp2_with fail
    refine (C3.out _).mono ?_
    rintro e w6 ⟨rfl, b6⟩
    go_wp2_with fail
    go_ret
    exact ⟨rfl, bt (bt (bt (bt b1 b2) b4) b5) b6⟩
  · clear ha
    go_enter Tryd.func6, Tryd.ntmps6
    go_wp2_with fail
    refine (alive_is _ htab).mono ?_
    rintro e w1 ⟨rfl, b1⟩
    go_wp2_with fail
    refine (C1.out _).mono ?_
    rintro e w4 ⟨rfl, b4⟩
    go_wp2_with fail
    refine (C2.out _).mono ?_
    rintro e w5 ⟨rfl, b5⟩
    go_wp2_with fail
    refine (C3.out _).mono ?_
    rintro e w6 ⟨rfl, b6⟩
    go_wp2_with fail
    go_ret
    exact ⟨rfl, bt (bt (bt b1 b4) b5) b6⟩

set_option maxHeartbeats 800000 in
theorem back_out (a b : Int) (w : World) (ha : inR a) (hb : inR b) (htab : Tab w) (h : ¬ inR (a + b)) :
    Calls Tryd.prog 6 #[.int .i64 a, .int .i64 b] w fun e w' => e = .returned (.bool true) ∧ Below w.heap.size w w' := by
  have C1 := Lib.hid (two_sum a b 0 11 ha hb (clip_out h))
  by_cases h0 : 0 ≤ a
  · obtain ⟨str, cp, cq⟩ := print_parse a ha h0
    have CP := Lib.hid cp
    have CQ := Lib.hid cq
    have s1 : decide (a < 0) = false := by simp; omega
    have s2 : decide (b < 0) = false := by simp; unfold inR at *; omega
    clear cp cq ha hb h
    go_enter Tryd.func6, Tryd.ntmps6
    go_wp2_with fail
    refine (alive_is _ htab).mono ?_
    rintro e w1 ⟨rfl, b1⟩
    go_wp2_with fail
    refine (CP.out _ (htab.on b1)).mono ?_
    rintro e w2 ⟨rfl, b2⟩
    go_wp2_with fail
    refine (CQ.out _).mono ?_
    rintro e w3 ⟨rfl, rfl⟩
    go_wp2_with fail
    refine (C1.out _).mono ?_
    rintro e w4 ⟨rfl, b4⟩
    go_wp2_with fail
    go_ret
    exact ⟨rfl, bt (bt b1 b2) b4⟩
  · have s1 : decide (a < 0) = true := by simp; omega
    have s2 : decide (b < 0) = true := by simp; unfold inR at *; omega
    clear ha hb h
    go_enter Tryd.func6, Tryd.ntmps6
    go_wp2_with fail
    refine (alive_is _ htab).mono ?_
    rintro e w1 ⟨rfl, b1⟩
    go_wp2_with fail
    refine (C1.out _).mono ?_
    rintro e w4 ⟨rfl, b4⟩
    go_wp2_with fail
    go_ret
    exact ⟨rfl, bt b1 b4⟩

theorem back_walk (a b : Int) (w : World) (ha : inR a) (hb : inR b) (htab : Tab w) :
    Calls Tryd.prog 6 #[.int .i64 a, .int .i64 b] w fun e w' => e = .returned (.bool true) ∧ Below w.heap.size w w' := by
  by_cases h : inR (a + b)
  · exact back_in a b w ha hb htab h
  · exact back_out a b w ha hb htab h

end Go.Proofs.YtppohopockieiaaDoor
