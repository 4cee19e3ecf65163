/- The law NumDivides returns true for every input: a is b times the quotient, and the rest; its walk. Conditions: the arguments fit int64; the library's table of powers of ten holds what its text lays. -/
import Derived.Test.YtppohopockieiaaDoorNumE
namespace Go.Proofs.YtppohopockieiaaDoor
open Go Go.RowKit Go.Maps Go.Shelf

theorem trans5 {w w1 w2 w3 w4 w5 : World} (b1 : Below w.heap.size w w1) (b2 : Below w1.heap.size w1 w2) (b3 : Below w2.heap.size w2 w3) (b4 : Below w3.heap.size w3 w4) (b5 : Below w4.heap.size w4 w5) : Below w.heap.size w w5 :=
  (((b1.trans (b2.mono b1.size)).trans (b3.mono (Nat.le_trans b1.size b2.size))).trans (b4.mono (Nat.le_trans (Nat.le_trans b1.size b2.size) b3.size))).trans (b5.mono (Nat.le_trans (Nat.le_trans (Nat.le_trans b1.size b2.size) b3.size) b4.size))

theorem wrap_add (x y : Int) : wrap64 (wrap64 x + y) = wrap64 (x + y) := by unfold wrap64; omega

set_option maxHeartbeats 800000 in
theorem divides_walk (a b : Int) (w : World) (ha : inR a) (hb : inR b) (htab : Tab w) :
    Calls Tryd.prog 5 #[.int .i64 a, .int .i64 b] w fun e w' => e = .returned (.bool true) ∧ Below w.heap.size w w' := by
  by_cases h0 : b = 0
  · subst h0
    have C1 := Lib.hid (two_quotient a 0 0 10 ha hb rfl)
    have C2 := Lib.hid (two_rest a 0 0 10 ha hb rfl)
    have C3 := Lib.hid (two_floor a 0 0 10 ha hb rfl)
    have C4 := Lib.hid (two_modulus a 0 0 10 ha hb rfl)
    clear ha hb
    go_enter Tryd.func5, Tryd.ntmps5
    go_wp2_with fail
    refine (alive_is _ htab).mono ?_
    rintro e w1 ⟨rfl, b1⟩
    go_wp2_with fail
    refine (C1.out _).mono ?_
    rintro e w2 ⟨rfl, b2⟩
    go_wp2_with fail
    refine (C2.out _).mono ?_
    rintro e w3 ⟨rfl, b3⟩
    go_wp2_with fail
    refine (C3.out _).mono ?_
    rintro e w4 ⟨rfl, b4⟩
    go_wp2_with fail
    refine (C4.out _).mono ?_
    rintro e w5 ⟨rfl, b5⟩
    go_wp2_with fail
    go_ret
    exact ⟨rfl, trans5 b1 b2 b3 b4 b5⟩
  · have e0 : (b == 0) = false := by simpa using h0
    by_cases hq : inR (a.tdiv b)
    · have hd : inR (a.fdiv b) := by
        by_cases h1 : b = -1
        · rw [tdiv_fdiv h0, h1, unlike_one]
          rw [h1] at hq
          exact hq
        · exact fdiv_in ha hb h0 h1
      have hr : inR (a.tmod b) := tmod_in ha
      have hm : inR (a.fmod b) := fmod_in hb h0
      have C1 := Lib.hid (two_quotient a b (a.tdiv b) 0 ha hb (by unfold quoR; rw [if_neg h0, clip_in hq]))
      have C2 := Lib.hid (two_rest a b (a.tmod b) 0 ha hb (by unfold remR; rw [if_neg h0]))
      have C3 := Lib.hid (two_floor a b (a.fdiv b) 0 ha hb (by unfold divR; rw [if_neg h0, clip_in hd]))
      have C4 := Lib.hid (two_modulus a b (a.fmod b) 0 ha hb (by unfold modR; rw [if_neg h0]))
      have k1 := Int.mul_tdiv_add_tmod a b
      have k2 := Int.mul_fdiv_add_fmod a b
      have s1 : a.tmod b = 0 ∨ ((a.tmod b != 0) = true ∧ decide (a.tmod b < 0) = false ∧ decide (a < 0) = false) ∨ ((a.tmod b != 0) = true ∧ decide (a.tmod b < 0) = true ∧ decide (a < 0) = true) := by
        simp only [decide_eq_true_eq, decide_eq_false_iff_not, bne_iff_ne]
        by_cases h : 0 ≤ a
        · have := Int.tmod_nonneg b h
          omega
        · have h3 := Int.tmod_nonneg b (show 0 ≤ -a by omega)
          rw [Int.neg_tmod] at h3
          omega
      have s2 : a.fmod b = 0 ∨ ((a.fmod b != 0) = true ∧ decide (a.fmod b < 0) = false ∧ decide (b < 0) = false) ∨ ((a.fmod b != 0) = true ∧ decide (a.fmod b < 0) = true ∧ decide (b < 0) = true) := by
        simp only [decide_eq_true_eq, decide_eq_false_iff_not, bne_iff_ne]
        by_cases h : 0 < b
        · have := Int.fmod_nonneg_of_pos a h
          omega
        · have h2 : 0 < -b := by omega
          have h3 := Int.fmod_nonneg_of_pos (-a) h2
          have h5 : (-a).fmod (-b) = -(a.fmod b) := Int.neg_fmod_neg a b
          omega
      have p1 : inR (b * a.tdiv b) := by
        have h1 := Int.natAbs_mul b (a.tdiv b)
        have h2 := Int.natAbs_tdiv a b
        have h3 : a.natAbs.div b.natAbs = a.natAbs / b.natAbs := rfl
        rw [h2, h3] at h1
        have h4 := Nat.mul_div_le a.natAbs b.natAbs
        unfold inR at *
        omega
      generalize a.tdiv b = q at *
      generalize a.tmod b = r at *
      generalize a.fdiv b = d at *
      generalize a.fmod b = m at *
      obtain ⟨p2, p3⟩ := p1
      have v1 : (b * q + r == a) = true := by simpa using k1
      have v2 : (wrap64 (wrap64 (b * d) + m) == a) = true := by
        have : wrap64 (wrap64 (b * d) + m) = a := by
          rw [wrap_add, k2]
          unfold inR at ha
          unfold wrap64
          omega
        simpa using this
      have p4 : -9223372036854775808 ≤ b * q + r := by unfold inR at ha; omega
      have p5 : b * q + r ≤ 9223372036854775807 := by unfold inR at ha; omega
      clear k1 k2 hq hd hr hm hb h0
      obtain ⟨a1, a2⟩ := ha
      rcases s1 with s1 | ⟨s1, s3, s5⟩ | ⟨s1, s3, s5⟩
      all_goals
        rcases s2 with s2 | ⟨s2, s4, s6⟩ | ⟨s2, s4, s6⟩
      all_goals
        try subst s1
        try subst s2
        try simp only [Int.add_zero] at v1
        try simp only [Int.add_zero] at v2
        go_enter Tryd.func5, Tryd.ntmps5
        go_wp2_with fail
        refine (alive_is _ htab).mono ?_
        rintro e w1 ⟨rfl, b1⟩
        go_wp2_with fail
        refine (C1.out _).mono ?_
        rintro e w2 ⟨rfl, b2⟩
        go_wp2_with fail
        refine (C2.out _).mono ?_
        rintro e w3 ⟨rfl, b3⟩
        go_wp2_with fail
        refine (C3.out _).mono ?_
        rintro e w4 ⟨rfl, b4⟩
        go_wp2_with fail
        refine (C4.out _).mono ?_
        rintro e w5 ⟨rfl, b5⟩
        go_wp2_with fail
        go_ret
        exact ⟨rfl, trans5 b1 b2 b3 b4 b5⟩
    · have h1 : b = -1 := by
        apply Classical.byContradiction
        intro h1
        exact hq (tdiv_in ha hb h1)
      subst h1
      have e2 : a = -9223372036854775808 := by
        rw [Int.tdiv_neg, Int.tdiv_one] at hq
        unfold inR at *
        omega
      subst e2
      have C1 := Lib.hid (two_quotient (-9223372036854775808) (-1) 0 11 ha hb (by decide))
      have C2 := Lib.hid (two_rest (-9223372036854775808) (-1) 0 0 ha hb (by decide))
      have C3 := Lib.hid (two_floor (-9223372036854775808) (-1) 0 11 ha hb (by decide))
      have C4 := Lib.hid (two_modulus (-9223372036854775808) (-1) 0 0 ha hb (by decide))
      clear ha hb hq e0 h0
      go_enter Tryd.func5, Tryd.ntmps5
      go_wp2_with fail
      refine (alive_is _ htab).mono ?_
      rintro e w1 ⟨rfl, b1⟩
      go_wp2_with fail
      refine (C1.out _).mono ?_
      rintro e w2 ⟨rfl, b2⟩
      go_wp2_with fail
      refine (C2.out _).mono ?_
      rintro e w3 ⟨rfl, b3⟩
      go_wp2_with fail
      refine (C3.out _).mono ?_
      rintro e w4 ⟨rfl, b4⟩
      go_wp2_with fail
      refine (C4.out _).mono ?_
      rintro e w5 ⟨rfl, b5⟩
      go_wp2_with fail
      go_ret
      exact ⟨rfl, trans5 b1 b2 b3 b4 b5⟩

end Go.Proofs.YtppohopockieiaaDoor
