/- The document's own answers for package num: quotients, powers, bits: contracts over the translated text. Conditions: the arguments fit int64. -/
import Derived.Test.YtppohopockieiaaDoorNumK
import Derived.Test.YtppohopockieiaaDoorNumPowers
import Derived.Laws.Bits64b
namespace Go.Proofs.YtppohopockieiaaDoor
open Go Go.RowKit Go.Maps Go.Shelf

set_option maxHeartbeats 400000 in
theorem rquo_in (a b : Int) (w : World) (ha : inR a) (hb : inR b) (h0 : b ≠ 0) (h : inR (a.tdiv b)) :
    Calls Tryd.prog 23 #[.int .i64 a, .int .i64 b] w fun e w' => e = retB (a.tdiv b) true ∧ w' = w := by
  by_cases h1 : b = -1
  · subst h1
    have e1 : a.tdiv (-1) = a * (-1) := by rw [Int.tdiv_neg, Int.tdiv_one]; omega
    rw [e1] at h ⊢
    have C := Lib.hid (fun w => rmul_in a (-1) w ha hb h)
    generalize a * (-1) = r at *
    clear h e1 ha hb h0
    go_enter Tryd.func23, Tryd.ntmps23
    go_wp2_with (go_at_call 22; refine (C.out _).mono ?_; rintro e w' ⟨rfl, rfl⟩)
    go_ret2
    exact ⟨rfl, rfl⟩
  · have e1 : (b == -1) = false := by simpa using h1
    obtain ⟨g1, g2⟩ := h
    obtain ⟨g3, g4⟩ := ha
    obtain ⟨g5, g6⟩ := hb
    go_enter Tryd.func23, Tryd.ntmps23
    go_wp2
    go_ret2
    exact ⟨rfl, rfl⟩
set_option maxHeartbeats 400000 in
theorem rquo_out (a b : Int) (w : World) (ha : inR a) (hb : inR b) (h : ¬ inR (a.tdiv b)) :
    Calls Tryd.prog 23 #[.int .i64 a, .int .i64 b] w fun e w' => (∃ x, e = retB x false) ∧ w' = w := by
  have h1 : b = -1 := by
    apply Classical.byContradiction
    intro h1
    exact h (tdiv_in ha hb h1)
  subst h1
  have e1 : a.tdiv (-1) = a * (-1) := by rw [Int.tdiv_neg, Int.tdiv_one]; omega
  rw [e1] at h
  have C := Lib.hid (fun w => rmul_out a (-1) w ha hb h)
  clear h e1 ha hb
  go_enter Tryd.func23, Tryd.ntmps23
  go_wp2_with (go_at_call 22; refine (C.out _).mono ?_; rintro e w' ⟨⟨x, rfl⟩, rfl⟩)
  go_ret2
  exact ⟨⟨_, rfl⟩, rfl⟩

theorem unlike_alt (a b : Int) : unlikeB a b = (a.tmod b != 0 && (decide (a < 0) != decide (b < 0))) := by
  unfold unlikeB
  have s1 : a.tmod b = 0 ∨ (0 < a.tmod b ∧ 0 ≤ a) ∨ (a.tmod b < 0 ∧ a < 0) := by
    by_cases h : 0 ≤ a
    · have := Int.tmod_nonneg b h
      omega
    · have h3 := Int.tmod_nonneg b (show 0 ≤ -a by omega)
      rw [Int.neg_tmod] at h3
      omega
  generalize a.tmod b = r at *
  rcases s1 with rfl | ⟨h1, h2⟩ | ⟨h1, h2⟩
  · rfl
  · rw [decide_eq_false (show ¬ r < 0 by omega), decide_eq_false (show ¬ a < 0 by omega)]
  · rw [decide_eq_true h1, decide_eq_true h2]

set_option maxHeartbeats 1600000 in
theorem rdown_in (a b : Int) (w : World) (ha : inR a) (hb : inR b) (h0 : b ≠ 0) (h : inR (a.fdiv b)) :
    Calls Tryd.prog 24 #[.int .i64 a, .int .i64 b] w fun e w' => e = retB (a.fdiv b) true ∧ w' = w := by
  have hu := tdiv_fdiv (a := a) h0
  by_cases h1 : b = -1
  · subst h1
    rw [unlike_one] at hu
    rw [hu] at h ⊢
    have C := Lib.hid (fun w => rquo_in a (-1) w ha hb h0 h)
    clear hu h h0
    generalize a.tdiv (-1) = r at *
    clear ha hb
    go_enter Tryd.func24, Tryd.ntmps24
    go_wp2_with (go_at_call 23; refine (C.out _).mono ?_; rintro e w' ⟨rfl, rfl⟩)
    go_ret2
    exact ⟨rfl, rfl⟩
  · have e1 : (b != -1) = true := by simpa using h1
    have C := Lib.hid (fun w => rquo_in a b w ha hb h0 (tdiv_in ha hb h1))
    have hr : inR (a.tmod b) := tmod_in ha
    rw [unlike_alt] at hu
    generalize a.tdiv b = q at *
    generalize hf : a.fdiv b = d at *
    clear hf
    obtain ⟨g1, g2⟩ := h
    obtain ⟨g3, g4⟩ := hr
    obtain ⟨g5, g6⟩ := ha
    obtain ⟨g7, g8⟩ := hb
    cases e2 : (a.tmod b != 0)
    · rw [e2] at hu
      have hd : d = q := by rw [hu]; rfl
      subst hd
      clear hu
      go_enter Tryd.func24, Tryd.ntmps24
      go_wp2_with (go_at_call 23; refine (C.out _).mono ?_; rintro e w' ⟨rfl, rfl⟩)
      go_ret2
      exact ⟨rfl, rfl⟩
    · cases e3 : decide (a < 0)
      all_goals
        cases e4 : decide (b < 0)
      all_goals
        rw [e2, e3, e4] at hu
        simp at hu
        subst hu
        go_enter Tryd.func24, Tryd.ntmps24
        go_wp2_with (go_at_call 23; refine (C.out _).mono ?_; rintro e w' ⟨rfl, rfl⟩)
        go_ret2
        exact ⟨rfl, rfl⟩
set_option maxHeartbeats 400000 in
theorem rdown_out (a b : Int) (w : World) (ha : inR a) (hb : inR b) (h0 : b ≠ 0) (h : ¬ inR (a.fdiv b)) :
    Calls Tryd.prog 24 #[.int .i64 a, .int .i64 b] w fun e w' => (∃ x, e = retB x false) ∧ w' = w := by
  have hu := tdiv_fdiv (a := a) h0
  have h1 : b = -1 := by
    apply Classical.byContradiction
    intro h1
    exact h (fdiv_in ha hb h0 h1)
  subst h1
  rw [unlike_one] at hu
  rw [hu] at h
  have C := Lib.hid (fun w => rquo_out a (-1) w ha hb h)
  clear h hu ha hb h0
  go_enter Tryd.func24, Tryd.ntmps24
  go_wp2_with (go_at_call 23; refine (C.out _).mono ?_; rintro e w' ⟨⟨x, rfl⟩, rfl⟩)
  go_ret2
  exact ⟨⟨_, rfl⟩, rfl⟩

theorem repR_64 {a : Int} (h1 : a ≠ 1) (h2 : a ≠ -1) (h3 : a ≠ 0) : repR a 64 = (0, 11) := by
  rcases repR_or a 64 with h | h
  · have h4 := repR_pow a 64 h
    have h5 := repR_in a 64
    rw [h4] at h5
    have h10 : (a ^ 64).natAbs = a.natAbs ^ 64 := Int.natAbs_pow a 64
    have h11 : 2 ^ 64 ≤ a.natAbs ^ 64 := Nat.pow_le_pow_left (by omega) 64
    have h12 : (2 : Nat) ^ 64 = 18446744073709551616 := by decide
    unfold inR at h5
    omega
  · exact h
theorem powR_rep {a : Int} (B : Nat) (h1 : a ≠ 1) (h2 : a ≠ -1) (h3 : a ≠ 0) : powR a B = repR a B := by
  by_cases h0 : B = 0
  · subst h0
    show powR a 0 = (1, 0)
    unfold powR
    rw [if_pos (Or.inr rfl)]
  · rw [powR_big h1 (by omega) h2 h3]
    split
    · have h4 := repR_64 h1 h2 h3
      exact (repR_over a 64 h4 B (by omega)).symm
    · rw [Int.toNat_natCast]

set_option maxHeartbeats 1600000 in
theorem rpower_is (a : Int) (B : Nat) (w : World) (ha : inR a) (hb : (B : Int) ≤ 9223372036854775807) :
    Calls Tryd.prog 26 #[.int .i64 a, .int .i64 B] w fun e w' => e = retB (powR a B).1 ((powR a B).2 == 0) ∧ w' = w := by
  by_cases c1 : a = 1
  · subst c1
    have h : powR 1 B = (1, 0) := if_pos (Or.inl rfl)
    rw [h]
    clear h ha
    by_cases c2 : B = 0
    · subst c2
      go_enter Tryd.func26, Tryd.ntmps26
      go_wp2
      go_ret2
      exact ⟨rfl, rfl⟩
    · have e2 : ((B : Int) == 0) = false := beq_eq_false_iff_ne.2 (by omega)
      clear c2
      go_enter Tryd.func26, Tryd.ntmps26
      go_wp2
      go_ret2
      exact ⟨rfl, rfl⟩
  have e1 : (a == 1) = false := by simpa using c1
  by_cases c3 : a = 0
  · subst c3
    clear c1 ha e1
    by_cases c2 : B = 0
    · subst c2
      go_enter Tryd.func26, Tryd.ntmps26
      go_wp2
      go_ret2
      exact ⟨rfl, rfl⟩
    · have e2 : ((B : Int) == 0) = false := beq_eq_false_iff_ne.2 (by omega)
      have h : powR 0 B = (0, 0) := by
        unfold powR
        rw [if_neg (by omega), if_neg (by omega), if_pos rfl, if_neg (by omega)]
      rw [h]
      clear c2 h
      go_enter Tryd.func26, Tryd.ntmps26
      go_wp2
      go_ret2
      exact ⟨rfl, rfl⟩
  have e3 : (a == 0) = false := by simpa using c3
  by_cases c4 : a = -1
  · subst c4
    clear c1 c3 ha e1 e3
    by_cases c2 : B = 0
    · subst c2
      go_enter Tryd.func26, Tryd.ntmps26
      go_wp2
      go_ret2
      exact ⟨rfl, rfl⟩
    · have e2 : ((B : Int) == 0) = false := beq_eq_false_iff_ne.2 (by omega)
      have h : powR (-1) B = (1 - 2 * ((B : Int) % 2), 0) := by
        unfold powR
        rw [if_neg (by omega), if_pos rfl]
      rw [h]
      clear h
      by_cases c5 : (B : Int) % 2 = 0
      · rw [c5]
        have e5 : ((B : Int) % 2 == 0) = true := by simpa using c5
        clear c2 c5
        go_enter Tryd.func26, Tryd.ntmps26
        go_wp2
        go_ret2
        exact ⟨rfl, rfl⟩
      · have c6 : (B : Int) % 2 = 1 := by omega
        rw [c6]
        have e5 : ((B : Int) % 2 == 0) = false := by simpa using c5
        clear c2 c5 c6
        go_enter Tryd.func26, Tryd.ntmps26
        go_wp2
        go_ret2
        exact ⟨rfl, rfl⟩
  have e4 : (a == -1) = false := by simpa using c4
  have HP := Lib.hid (powR_rep B c1 c4 c3)
  clear c1 c3 c4
  generalize powR a B = r at *
  obtain ⟨rn, rq⟩ := r
  go_enter Tryd.func26, Tryd.ntmps26
  go_wp2
  go_loop [6, 1] (fun n b => ∃ j x : Nat, Hid (j + x = B) ∧ b = .int .i64 x ∧ (x : Int) ≤ 9223372036854775807 ∧ n = .int .i64 (repR a j).1 ∧ Hid ((repR a j).2 = 0)) (fun _ b => (intOf b).toNat)
  case atStart => exact ⟨0, B, Nat.zero_add _, rfl, hb, rfl, rfl⟩
  case round =>
    obtain ⟨j, x, hjx, rfl, hx, rfl, hz⟩ := hrel
    cases x with
    | zero =>
      have h1 := HP.out
      have h2 : j = B := hjx.out
      subst h2
      have h3 := hz.out
      rw [← h1] at h3 ⊢
      simp only at h3
      subst h3
      go_wp2
      go_ret2
      exact ⟨rfl, rfl⟩
    | succ x =>
      have hin := repR_in a j
      have hnext : repR a (j + 1) = clip ((repR a j).1 * a) := by rw [repR, if_pos hz.out]
      by_cases hc : inR ((repR a j).1 * a)
      · have C := Lib.hid (fun w => rmul_in (repR a j).1 a w hin ha hc)
        rw [clip_in hc] at hnext
        have hn1 : Hid ((repR a (j + 1)).1 = (repR a j).1 * a) := by
          show _ = _
          rw [hnext]
        have hn2 : Hid ((repR a (j + 1)).2 = 0) := by
          show _ = _
          rw [hnext]
        have hjx' : Hid (j + 1 + x = B) := by
          show _ = _
          have := hjx.out
          omega
        generalize (repR a j).1 * a = m at *
        clear hnext hc
        go_wp2_with (go_at_call 22; refine (C.out _).mono ?_; rintro e w' ⟨rfl, rfl⟩)
        go_round
        case rel => exact ⟨j + 1, x, hjx', by go_num, by omega, by rw [hn1.out], hn2⟩
        case measure => simp [intOf]
      · have C := Lib.hid (fun w => rmul_out (repR a j).1 a w hin ha hc)
        rw [clip_out hc] at hnext
        have hres : Hid ((rn, rq) = (0, 11)) := by
          show _ = _
          rw [HP.out]
          have := hjx.out
          exact repR_over a (j + 1) hnext B (by omega)
        clear hnext hc
        go_wp2_with (go_at_call 22; refine (C.out _).mono ?_; rintro e w' ⟨⟨y, rfl⟩, rfl⟩)
        go_ret2
        cases hres.out
        exact ⟨rfl, rfl⟩

end Go.Proofs.YtppohopockieiaaDoor
