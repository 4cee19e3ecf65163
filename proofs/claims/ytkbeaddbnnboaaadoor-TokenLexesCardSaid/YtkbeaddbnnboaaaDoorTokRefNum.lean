/- The document's reading of numbers: a contract. Conditions: the text fits. -/
import Derived.Test.YtkbeaddbnnboaaaDoorTokNum
import Derived.Deep.QuietTactic
import Derived.BigQuiet
namespace Go.Proofs.YtkbeaddbnnboaaaDoor
open Go Go.RowKit Go.Maps

def digitQ (c : Int) : Int := if 48 ≤ c ∧ c ≤ 57 then c - 48 else if 97 ≤ c ∧ c ≤ 122 then c - 97 + 10 else if 65 ≤ c ∧ c ≤ 90 then c - 65 + 10 else 99
theorem digitQ_lt {c base : Int} (hb : base ≤ 36) : (digitQ c < base ↔ digitZ c < base) ∧ (digitZ c < base → digitQ c = digitZ c) := by
  unfold digitQ digitZ
  split
  · simp
  · split
    · simp
    · split
      · simp
      · omega
theorem digitQ_bd (c : Int) : 0 ≤ digitQ c ∧ digitQ c ≤ 99 := by unfold digitQ; repeat' split; all_goals omega

set_option maxHeartbeats 400000 in
theorem refn_digit (c : Int) (w : World) (h0 : 0 ≤ c) (h1 : c ≤ 255) :
    Calls Tryd.prog 75 #[.int .u8 c] w fun e w' => e = .returned (.int .i64 (digitQ c)) ∧ w' = w := by
  obtain ⟨r, hr⟩ : ∃ r, digitQ c = r := ⟨_, rfl⟩
  rw [hr]
  unfold digitQ at hr
  by_cases c1 : c < 48
  · rw [if_neg (by omega), if_neg (by omega), if_neg (by omega)] at hr
    subst hr
    go_enter Tryd.func75, Tryd.ntmps75
    go_wp2
    go_ret
    exact ⟨rfl, rfl⟩
  by_cases c2 : c ≤ 57
  · rw [if_pos (by omega)] at hr
    subst hr
    go_enter Tryd.func75, Tryd.ntmps75
    go_wp2
    go_ret
    exact ⟨rfl, rfl⟩
  by_cases c3 : c < 65
  · rw [if_neg (by omega), if_neg (by omega), if_neg (by omega)] at hr
    subst hr
    go_enter Tryd.func75, Tryd.ntmps75
    go_wp2
    go_ret
    exact ⟨rfl, rfl⟩
  by_cases c4 : c ≤ 90
  · rw [if_neg (by omega), if_neg (by omega), if_pos (by omega)] at hr
    subst hr
    go_enter Tryd.func75, Tryd.ntmps75
    go_wp2
    go_ret
    exact ⟨rfl, rfl⟩
  by_cases c5 : c < 97
  · rw [if_neg (by omega), if_neg (by omega), if_neg (by omega)] at hr
    subst hr
    go_enter Tryd.func75, Tryd.ntmps75
    go_wp2
    go_ret
    exact ⟨rfl, rfl⟩
  by_cases c6 : c ≤ 122
  · rw [if_neg (by omega), if_pos (by omega)] at hr
    subst hr
    go_enter Tryd.func75, Tryd.ntmps75
    go_wp2
    go_ret
    exact ⟨rfl, rfl⟩
  · rw [if_neg (by omega), if_neg (by omega), if_neg (by omega)] at hr
    subst hr
    go_enter Tryd.func75, Tryd.ntmps75
    go_wp2
    go_ret
    exact ⟨rfl, rfl⟩

theorem foldP_stays (base : Int) : ∀ (l : List UInt8) (st : Int × Bool), st.2 = true → (l.foldl (stepP base) st).2 = true
  | [], _, h => h
  | c :: l, st, h => foldP_stays base l _ (by unfold stepP; rw [h]; rfl)
theorem foldP_true (base : Int) (l l2 : List UInt8) (h : (foldP base l).2 = true) : (foldP base (l ++ l2)).2 = true := by
  unfold foldP at *
  rw [List.foldl_append]
  exact foldP_stays base l2 _ h

set_option maxHeartbeats 1600000 in
theorem ref_parse (s : ByteArray) (base : Int) (w : World) (hs : s.size ≤ maxLen) :
    Calls Tryd.prog 62 #[.string s, .int .i64 base] w fun e w' => e = ret (parseR base s.data.toList).1 (parseR base s.data.toList).2 ∧ w' = w := by
  unfold maxLen at hs
  obtain ⟨⟨rn, rq⟩, hr⟩ : ∃ r, parseR base s.data.toList = r := ⟨_, rfl⟩
  rw [hr]
  show Calls Tryd.prog 62 #[.string s, .int .i64 base] w fun e w' => e = ret rn rq ∧ w' = w
  by_cases hb1 : base < 2
  · have hp : parseR base s.data.toList = (0, 2) := by unfold parseR; rw [if_pos (Or.inl hb1)]
    rw [hp] at hr
    cases hr
    clear hp
    go_enter Tryd.func62, Tryd.ntmps62
    go_wp2
    go_ret2
    exact ⟨rfl, rfl⟩
  by_cases hb2 : 36 < base
  · have hp : parseR base s.data.toList = (0, 2) := by unfold parseR; rw [if_pos (Or.inr hb2)]
    rw [hp] at hr
    cases hr
    clear hp
    go_enter Tryd.func62, Tryd.ntmps62
    go_wp2
    go_ret2
    exact ⟨rfl, rfl⟩
  have hb : 2 ≤ base ∧ base ≤ 36 := by omega
  have hno : ¬ (base < 2 ∨ 36 < base) := by omega
  have hb1' : 2 ≤ base := hb.1
  have hb2' : base ≤ 36 := hb.2
  have HR := Lib.hid hr
  clear hr
  have HP := Lib.hid (show s.data.toList ≠ [] → parseR base s.data.toList = if digitsB base s.data.toList = false then (0, 6) else if (foldP base s.data.toList).2 = true then (0, 11) else (wrap64 (foldP base s.data.toList).1, 0) by
    intro h0
    unfold parseR; rw [if_neg hno, if_neg h0])
  clear hb1 hb2 hno
  go_enter Tryd.func62, Tryd.ntmps62
  go_wp2
  go_loop [6] (fun i => ∃ k : Nat, k ≤ s.size ∧ i = .int .i64 k ∧ Hid (digitsB base (s.data.toList.take k) = true)) (fun i => s.size - (intOf i).toNat)
  case atStart => exact ⟨0, Nat.zero_le _, rfl, rfl⟩
  case round =>
    obtain ⟨k, hk, rfl, hall⟩ := hrel
    by_cases hlt : k < s.size
    · have hc0 : (0 : Int) ≤ (s[k].toNat : Int) := by omega
      have hc1 : (s[k].toNat : Int) ≤ 255 := by have := s[k].toNat_lt; omega
      have hq := (digitQ_lt (c := (s[k].toNat : Int)) hb2').1
      have hne : s.data.toList ≠ [] := fun h => by have := byte_mem s k hlt; rw [h] at this; cases this
      by_cases hd2 : base ≤ digitQ (s[k].toNat : Int)
      · have hp : Hid ((rn, rq) = (0, 6)) := by
          show (rn, rq) = (0, 6)
          rw [← HR.out, HP.out hne, if_pos]
          unfold digitsB
          rw [List.all_eq_false]
          exact ⟨s[k], byte_mem s k hlt, by simp; omega⟩
        clear hq hne
        go_wp2_with (go_at_call 75; refine (refn_digit _ _ hc0 hc1).mono ?_; rintro e w' ⟨rfl, rfl⟩)
        go_ret2
        cases hp.out
        exact ⟨rfl, rfl⟩
      · have hd3 : digitQ (s[k].toNat : Int) < base := by omega
        have hall' : Hid (digitsB base (s.data.toList.take (k + 1)) = true) := by
          show digitsB base (s.data.toList.take (k + 1)) = true
          rw [take_snoc s k hlt]
          unfold digitsB
          have h1 : (s.data.toList.take k).all (fun c => decide (digitZ (c.toNat : Int) < base)) = true := hall.out
          rw [List.all_append, h1]
          simp
          omega
        clear hq hne
        go_wp2_with (go_at_call 75; refine (refn_digit _ _ hc0 hc1).mono ?_; rintro e w' ⟨rfl, rfl⟩)
        go_round
        case rel => exact ⟨k + 1, by omega, by go_num, hall'⟩
        case measure => simp [intOf]; omega
    · have hfull : s.data.toList.take k = s.data.toList := List.take_of_length_le (by simp; omega)
      rw [hfull] at hall
      obtain rfl : k = s.size := by omega
      by_cases hz : s.size = 0
      · have he : s.data.toList = [] := List.eq_nil_of_length_eq_zero (by simpa using hz)
        have hp : Hid ((rn, rq) = (0, 6)) := by
          show (rn, rq) = (0, 6)
          rw [← HR.out]
          unfold parseR
          rw [if_neg (by omega), if_pos he]
        have z1 : ((s.size : Int) == 0) = true := beq_iff_eq.2 (by omega)
        clear he hz hall hfull
        go_wp2
        go_ret2
        cases hp.out
        exact ⟨rfl, rfl⟩
      · have hne : s.data.toList ≠ [] := fun h => hz (by have := congrArg List.length h; simpa using this)
        have HP2 := HP.out hne
        rw [hall.out, if_neg (by simp), HR.out] at HP2
        have HQ := Lib.hid HP2
        clear HP2 HP HR hfull hne
        have z1 : ((s.size : Int) == 0) = false := beq_eq_false_iff_ne.2 (by omega)
        clear hz
        go_wp2
        go_loop [7, 8] (fun n i => ∃ k : Nat, k ≤ s.size ∧ i = .int .i64 k ∧ n = .int .u64 (foldP base (s.data.toList.take k)).1 ∧ Hid ((foldP base (s.data.toList.take k)).2 = false)) (fun _ i => s.size - (intOf i).toNat)
        case atStart => exact ⟨0, Nat.zero_le _, rfl, rfl, rfl⟩
        case round =>
          obtain ⟨k, hk, rfl, rfl, hov⟩ := hrel
          have hbd := foldP_bd base (s.data.toList.take k)
          obtain ⟨hm0, hm1⟩ := hbd
          by_cases hlt : k < s.size
          · have hst := foldP_snoc base (s.data.toList.take k) s[k]
            rw [← take_snoc s k hlt] at hst
            have hc0 : (0 : Int) ≤ (s[k].toNat : Int) := by omega
            have hc1 : (s[k].toNat : Int) ≤ 255 := by have := s[k].toNat_lt; omega
            have hdz : digitZ (s[k].toNat : Int) < base := by
              have h1 := hall.out
              unfold digitsB at h1
              have := List.all_eq_true.1 h1 s[k] (byte_mem s k hlt)
              simpa using this
            have hdq := (digitQ_lt (c := (s[k].toNat : Int)) hb2').2 hdz
            have hd0 := (digitZ_bd (s[k].toNat : Int)).1
            have hd1 : digitZ (s[k].toNat : Int) ≤ 35 := by omega
            have c1 := fun w => refn_digit (s[k].toNat : Int) w hc0 hc1
            rw [hdq] at c1
            have C1 := Lib.hid c1
            clear c1 hdq
            have HS := Lib.hid hst
            clear hst
            have hov' := hov.out
            generalize hfo : foldP base (s.data.toList.take k) = st at *
            obtain ⟨m, v⟩ := st
            simp only at hov' hm0 hm1
            subst hov'
            clear hfo hov
            have e1 : Hid ((foldP base (s.data.toList.take (k + 1))).1 = (IntKind.u64.wrap (IntKind.u64.wrap (m * base) + digitZ (s[k].toNat : Int)))) := by
              show _ = _
              rw [HS.out]; rfl
            have e2 : Hid ((foldP base (s.data.toList.take (k + 1))).2 = decide ((9223372036854775808 - digitZ (s[k].toNat : Int)) / base < m)) := by
              show _ = _
              rw [HS.out]; simp [stepP]
            cases hcmp : decide ((9223372036854775808 - digitZ (s[k].toNat : Int)) / base < m)
            · rw [hcmp] at e2
              go_wp2_with (go_at_call 75; refine (C1.out _).mono ?_; rintro e w' ⟨rfl, rfl⟩)
              go_round
              case rel => exact ⟨k + 1, by omega, by go_num, by rw [e1.out], e2⟩
              case measure => simp [intOf]; omega
            · rw [hcmp] at e2
              have hp : Hid ((rn, rq) = (0, 11)) := by
                show (rn, rq) = (0, 11)
                have h1 := foldP_true base _ (s.data.toList.drop (k + 1)) e2.out
                rw [List.take_append_drop] at h1
                rw [HQ.out, if_pos h1]
              go_wp2_with (go_at_call 75; refine (C1.out _).mono ?_; rintro e w' ⟨rfl, rfl⟩)
              go_ret2
              cases hp.out
              exact ⟨rfl, rfl⟩
          · have hfull : s.data.toList.take k = s.data.toList := List.take_of_length_le (by simp; omega)
            rw [hfull] at hm0 hm1 hov ⊢
            have hq2 := HQ.out
            rw [hov.out, if_neg (by simp)] at hq2
            have hp : Hid ((rn, rq) = (wrap64 (foldP base s.data.toList).1, 0)) := hq2
            clear hq2 hov hfull
            generalize (foldP base s.data.toList).1 = m at *
            go_wp2
            go_ret2
            cases hp.out
            exact ⟨rfl, rfl⟩

end Go.Proofs.YtkbeaddbnnboaaaDoor
