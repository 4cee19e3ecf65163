/- The law NumTexts returns true for every input: any number's digits, and the number of any digits; its walk. Conditions: the arguments fit their kinds; the library's table of powers of ten holds what its text lays. -/
import Derived.Test.YtppohopockieiaaDoorNumBack
import Derived.Deep.QuietTactic
import Derived.BigQuiet
namespace Go.Proofs.YtppohopockieiaaDoor
open Go Go.RowKit Go.Maps Go.Shelf

theorem dig_at : ∀ k : Fin 10, (ByteArray.mk #[48, 49, 50, 51, 52, 53, 54, 55, 56, 57]).extract k.val (k.val + 1) = ⟨#[UInt8.ofNat (48 + k.val)]⟩ := by decide +kernel

theorem itoa_neg {d : Nat} (h : 0 < d) (h2 : d < 10) : Lib.itoa (-(d : Int)) = [45, UInt8.ofNat (48 + d)] := by
  unfold Lib.itoa
  rw [if_pos (by omega), show (-(d : Int)).natAbs = d by omega, decDigits_small h2]
theorem itoa_pos {d : Nat} (h2 : d < 10) : Lib.itoa (d : Int) = [UInt8.ofNat (48 + d)] := by
  unfold Lib.itoa
  rw [if_neg (by omega), Int.toNat_natCast, decDigits_small h2]
theorem itoa_big {n : Int} (h : 10 ≤ n) : Lib.itoa n = Lib.itoa (n / 10) ++ Lib.itoa (n % 10) := by
  obtain ⟨u, rfl⟩ := Int.eq_ofNat_of_zero_le (show 0 ≤ n by omega)
  have h1 : ((u : Int) / 10) = ((u / 10 : Nat) : Int) := by omega
  have h2 : ((u : Int) % 10) = ((u % 10 : Nat) : Int) := by omega
  rw [h1, h2, itoa_pos (Nat.mod_lt _ (by omega))]
  unfold Lib.itoa
  rw [if_neg (by omega), if_neg (by omega), Int.toNat_natCast, Int.toNat_natCast, decDigits_big (by omega)]
theorem itoa_low {n : Int} (h : n ≤ -10) : Lib.itoa n = Lib.itoa (n.tdiv 10) ++ [UInt8.ofNat (48 + (-n.tmod 10).toNat)] := by
  obtain ⟨u, rfl⟩ : ∃ u : Nat, n = -(u : Int) := ⟨n.natAbs, by omega⟩
  have h1 : (-(u : Int)).tdiv 10 = -((u / 10 : Nat) : Int) := by
    rw [Int.neg_tdiv, Int.tdiv_eq_ediv_of_nonneg (by omega)]
    omega
  have h2 : (-(u : Int)).tmod 10 = -((u % 10 : Nat) : Int) := by
    rw [Int.neg_tmod, Int.tmod_eq_emod_of_nonneg (by omega)]
    omega
  rw [h1, h2]
  unfold Lib.itoa
  rw [if_pos (by omega), if_pos (by omega), show (-(u : Int)).natAbs = u by omega, show (-((u / 10 : Nat) : Int)).natAbs = u / 10 by omega, decDigits_big (by omega), show (-(-((u % 10 : Nat) : Int))).toNat = u % 10 by omega]
  rfl

/-- numbers of one digit: walked one by one -/
def Prints (n : Int) : Prop := ∀ w : World, Calls Tryd.prog 18 #[.int .i64 n] w fun e w' => e = .returned (.string ⟨(Lib.itoa n).toArray⟩) ∧ w' = w
set_option maxHeartbeats 4000000 in
theorem ref_small (n : Int) (h1 : -10 < n) (h2 : n < 10) : Prints n := by
  intro w
  have hc : n = -9 ∨ n = -8 ∨ n = -7 ∨ n = -6 ∨ n = -5 ∨ n = -4 ∨ n = -3 ∨ n = -2 ∨ n = -1 ∨ n = 0 ∨ n = 1 ∨ n = 2 ∨ n = 3 ∨ n = 4 ∨ n = 5 ∨ n = 6 ∨ n = 7 ∨ n = 8 ∨ n = 9 := by omega
  rcases hc with rfl | rfl | rfl | rfl | rfl | rfl | rfl | rfl | rfl | rfl | rfl | rfl | rfl | rfl | rfl | rfl | rfl | rfl | rfl
  · rw [show Lib.itoa (-9) = [45, 57] from itoa_neg (d := 9) (by decide) (by decide)]
    go_enter Tryd.func18, Tryd.ntmps18
    go_wp2_with fail
    go_ret
    exact ⟨rfl, rfl⟩
  · rw [show Lib.itoa (-8) = [45, 56] from itoa_neg (d := 8) (by decide) (by decide)]
    go_enter Tryd.func18, Tryd.ntmps18
    go_wp2_with fail
    go_ret
    exact ⟨rfl, rfl⟩
  · rw [show Lib.itoa (-7) = [45, 55] from itoa_neg (d := 7) (by decide) (by decide)]
    go_enter Tryd.func18, Tryd.ntmps18
    go_wp2_with fail
    go_ret
    exact ⟨rfl, rfl⟩
  · rw [show Lib.itoa (-6) = [45, 54] from itoa_neg (d := 6) (by decide) (by decide)]
    go_enter Tryd.func18, Tryd.ntmps18
    go_wp2_with fail
    go_ret
    exact ⟨rfl, rfl⟩
  · rw [show Lib.itoa (-5) = [45, 53] from itoa_neg (d := 5) (by decide) (by decide)]
    go_enter Tryd.func18, Tryd.ntmps18
    go_wp2_with fail
    go_ret
    exact ⟨rfl, rfl⟩
  · rw [show Lib.itoa (-4) = [45, 52] from itoa_neg (d := 4) (by decide) (by decide)]
    go_enter Tryd.func18, Tryd.ntmps18
    go_wp2_with fail
    go_ret
    exact ⟨rfl, rfl⟩
  · rw [show Lib.itoa (-3) = [45, 51] from itoa_neg (d := 3) (by decide) (by decide)]
    go_enter Tryd.func18, Tryd.ntmps18
    go_wp2_with fail
    go_ret
    exact ⟨rfl, rfl⟩
  · rw [show Lib.itoa (-2) = [45, 50] from itoa_neg (d := 2) (by decide) (by decide)]
    go_enter Tryd.func18, Tryd.ntmps18
    go_wp2_with fail
    go_ret
    exact ⟨rfl, rfl⟩
  · rw [show Lib.itoa (-1) = [45, 49] from itoa_neg (d := 1) (by decide) (by decide)]
    go_enter Tryd.func18, Tryd.ntmps18
    go_wp2_with fail
    go_ret
    exact ⟨rfl, rfl⟩
  · rw [show Lib.itoa 0 = [48] from itoa_pos (d := 0) (by decide)]
    go_enter Tryd.func18, Tryd.ntmps18
    go_wp2_with fail
    go_ret
    exact ⟨rfl, rfl⟩
  · rw [show Lib.itoa 1 = [49] from itoa_pos (d := 1) (by decide)]
    go_enter Tryd.func18, Tryd.ntmps18
    go_wp2_with fail
    go_ret
    exact ⟨rfl, rfl⟩
  · rw [show Lib.itoa 2 = [50] from itoa_pos (d := 2) (by decide)]
    go_enter Tryd.func18, Tryd.ntmps18
    go_wp2_with fail
    go_ret
    exact ⟨rfl, rfl⟩
  · rw [show Lib.itoa 3 = [51] from itoa_pos (d := 3) (by decide)]
    go_enter Tryd.func18, Tryd.ntmps18
    go_wp2_with fail
    go_ret
    exact ⟨rfl, rfl⟩
  · rw [show Lib.itoa 4 = [52] from itoa_pos (d := 4) (by decide)]
    go_enter Tryd.func18, Tryd.ntmps18
    go_wp2_with fail
    go_ret
    exact ⟨rfl, rfl⟩
  · rw [show Lib.itoa 5 = [53] from itoa_pos (d := 5) (by decide)]
    go_enter Tryd.func18, Tryd.ntmps18
    go_wp2_with fail
    go_ret
    exact ⟨rfl, rfl⟩
  · rw [show Lib.itoa 6 = [54] from itoa_pos (d := 6) (by decide)]
    go_enter Tryd.func18, Tryd.ntmps18
    go_wp2_with fail
    go_ret
    exact ⟨rfl, rfl⟩
  · rw [show Lib.itoa 7 = [55] from itoa_pos (d := 7) (by decide)]
    go_enter Tryd.func18, Tryd.ntmps18
    go_wp2_with fail
    go_ret
    exact ⟨rfl, rfl⟩
  · rw [show Lib.itoa 8 = [56] from itoa_pos (d := 8) (by decide)]
    go_enter Tryd.func18, Tryd.ntmps18
    go_wp2_with fail
    go_ret
    exact ⟨rfl, rfl⟩
  · rw [show Lib.itoa 9 = [57] from itoa_pos (d := 9) (by decide)]
    go_enter Tryd.func18, Tryd.ntmps18
    go_wp2_with fail
    go_ret
    exact ⟨rfl, rfl⟩

theorem itoa_len (n : Int) (h : inR n) : (Lib.itoa n).length ≤ 21 := by
  have := itoa_size n h
  show (Lib.itoa n).toArray.size ≤ 21
  exact this

set_option maxHeartbeats 800000 in
theorem ref_print (k : Nat) : ∀ (n : Int) (w : World), n.natAbs ≤ k → inR n →
    Calls Tryd.prog 18 #[.int .i64 n] w fun e w' => e = .returned (.string ⟨(Lib.itoa n).toArray⟩) ∧ ∃ q, w' = w.drewN q := by
  induction k with
  | zero =>
    intro n w h hn
    exact (ref_small n (by omega) (by omega) w).mono fun e w' ⟨he, hw⟩ => ⟨he, 0, hw⟩
  | succ k ih =>
    intro n w h hn
    by_cases hs : -10 < n ∧ n < 10
    · exact (ref_small n hs.1 hs.2 w).mono fun e w' ⟨he, hw⟩ => ⟨he, 0, hw⟩
    have hn' := hn
    obtain ⟨g1, g2⟩ := hn'
    obtain ⟨sn, hsn⟩ : ∃ s : ByteArray, s = ⟨(Lib.itoa n).toArray⟩ := ⟨_, rfl⟩
    rw [← hsn]
    by_cases h1 : 0 ≤ n
    · have h2 : 10 ≤ n := by omega
      have i1 : inR (n / 10) := by unfold inR; omega
      have c1 := fun w => ih (n / 10) w (by omega) i1
      have c2 := ref_small (n % 10) (by omega) (by omega)
      unfold Prints at c2
      have l1 := itoa_len (n / 10) i1
      have l2 := itoa_len (n % 10) (by unfold inR; omega)
      obtain ⟨s1, hs1⟩ : ∃ s : ByteArray, s = ⟨(Lib.itoa (n / 10)).toArray⟩ := ⟨_, rfl⟩
      obtain ⟨s2, hs2⟩ : ∃ s : ByteArray, s = ⟨(Lib.itoa (n % 10)).toArray⟩ := ⟨_, rfl⟩
      rw [← hs1] at c1
      rw [← hs2] at c2
      have l3 : (s1.size : Int) ≤ 8388608 := by
        have : s1.size = (Lib.itoa (n / 10)).length := by rw [hs1]; rfl
        omega
      have l4 : (s2.size : Int) ≤ 8388608 := by
        have : s2.size = (Lib.itoa (n % 10)).length := by rw [hs2]; rfl
        omega
      have l5 : s1.size + s2.size ≤ 9223372036854775807 := by omega
      have HF := Lib.hid (show s1 ++ s2 = sn by
        rw [hs1, hs2, hsn, itoa_big h2]
        apply Go.WideShapes.bytes_inj
        simp)
      have C1 := Lib.hid c1
      have C2 := Lib.hid c2
      have H1 : ¬ n < 0 := by omega
      have H2 : ¬ n < 10 := by omega
      clear ih c1 c2 hs1 hs2 hsn hn i1 l1 l2 hs h
      go_enter Tryd.func18, Tryd.ntmps18
      go_wp2_with fail
      refine (C1.out _).mono ?_
      rintro e w' ⟨rfl, q, rfl⟩
      go_wp2_with fail
      refine (C2.out _).mono ?_
      rintro e w' ⟨rfl, rfl⟩
      go_wp2_with fail
      go_ret
      exact ⟨by rw [← HF.out]; rfl, q, rfl⟩
    · have h2 : n ≤ -10 := by omega
      have d1 : 0 ≤ -n.tmod 10 ∧ -n.tmod 10 ≤ 9 := by
        obtain ⟨u, rfl⟩ : ∃ u : Nat, n = -(u : Int) := ⟨n.natAbs, by omega⟩
        rw [Int.neg_tmod, Int.tmod_eq_emod_of_nonneg (by omega)]
        omega
      have d2 : n.tdiv 10 < 0 ∧ -922337203685477580 ≤ n.tdiv 10 ∧ (n.tdiv 10).natAbs < n.natAbs := by
        obtain ⟨u, rfl⟩ : ∃ u : Nat, n = -(u : Int) := ⟨n.natAbs, by omega⟩
        rw [Int.neg_tdiv, Int.tdiv_eq_ediv_of_nonneg (by omega)]
        omega
      have i1 : inR (n.tdiv 10) := by unfold inR; omega
      have c1 := fun w => ih (n.tdiv 10) w (by omega) i1
      have l1 := itoa_len (n.tdiv 10) i1
      obtain ⟨s1, hs1⟩ : ∃ s : ByteArray, s = ⟨(Lib.itoa (n.tdiv 10)).toArray⟩ := ⟨_, rfl⟩
      rw [← hs1] at c1
      have l3 : (s1.size : Int) ≤ 8388608 := by
        have : s1.size = (Lib.itoa (n.tdiv 10)).length := by rw [hs1]; rfl
        omega
      have HF := Lib.hid (show s1 ++ (ByteArray.mk #[48, 49, 50, 51, 52, 53, 54, 55, 56, 57]).extract (-n.tmod 10).toNat (1 - n.tmod 10).toNat = sn by
        obtain ⟨d, hd⟩ : ∃ d : Nat, d = (-n.tmod 10).toNat := ⟨_, rfl⟩
        have e1 : (1 - n.tmod 10).toNat = d + 1 := by omega
        have e2 : d < 10 := by omega
        have e3 := dig_at ⟨d, e2⟩
        rw [e1, ← hd, e3, hs1, hsn, itoa_low h2, ← hd]
        apply Go.WideShapes.bytes_inj
        simp)
      have C1 := Lib.hid c1
      have H1 : n < 0 := by omega
      have H2 : ¬ -10 < n := by omega
      obtain ⟨d3, d4⟩ := d1
      obtain ⟨d5, d6, _⟩ := d2
      clear ih c1 hs1 hsn hn i1 l1 hs h
      go_enter Tryd.func18, Tryd.ntmps18
      go_wp2_with fail
      go_quiet ((go_at_call 18; exact Calls.quiet_of (C1.out _)))
      go_wp2_with fail
      go_ret
      exact ⟨by rw [← HF.out]; rfl, _, rfl⟩

/-- what a byte counts in the document's answer -/
def digitQ (c : Int) : Int := if 48 ≤ c ∧ c ≤ 57 then c - 48 else if 97 ≤ c ∧ c ≤ 122 then c - 97 + 10 else if 65 ≤ c ∧ c ≤ 90 then c - 65 + 10 else 99
theorem digitQ_lt {c base : Int} (hb : base ≤ 36) : (digitQ c < base ↔ digitZ c < base) ∧ (digitZ c < base → digitQ c = digitZ c) := by
  unfold digitQ digitZ
  split
  · simp
  · split
    · simp
    · split
      · simp
      · omega
theorem digitQ_bd (c : Int) : 0 ≤ digitQ c ∧ digitQ c ≤ 99 := by unfold digitQ; repeat' split; all_goals omega

set_option maxHeartbeats 400000 in
theorem ref_digit (c : Int) (w : World) (h0 : 0 ≤ c) (h1 : c ≤ 255) :
    Calls Tryd.prog 29 #[.int .u8 c] w fun e w' => e = .returned (.int .i64 (digitQ c)) ∧ w' = w := by
  obtain ⟨r, hr⟩ : ∃ r, digitQ c = r := ⟨_, rfl⟩
  rw [hr]
  unfold digitQ at hr
  by_cases c1 : c < 48
  · rw [if_neg (by omega), if_neg (by omega), if_neg (by omega)] at hr
    subst hr
    go_enter Tryd.func29, Tryd.ntmps29
    go_wp2
    go_ret
    exact ⟨rfl, rfl⟩
  by_cases c2 : c ≤ 57
  · rw [if_pos (by omega)] at hr
    subst hr
    go_enter Tryd.func29, Tryd.ntmps29
    go_wp2
    go_ret
    exact ⟨rfl, rfl⟩
  by_cases c3 : c < 65
  · rw [if_neg (by omega), if_neg (by omega), if_neg (by omega)] at hr
    subst hr
    go_enter Tryd.func29, Tryd.ntmps29
    go_wp2
    go_ret
    exact ⟨rfl, rfl⟩
  by_cases c4 : c ≤ 90
  · rw [if_neg (by omega), if_neg (by omega), if_pos (by omega)] at hr
    subst hr
    go_enter Tryd.func29, Tryd.ntmps29
    go_wp2
    go_ret
    exact ⟨rfl, rfl⟩
  by_cases c5 : c < 97
  · rw [if_neg (by omega), if_neg (by omega), if_neg (by omega)] at hr
    subst hr
    go_enter Tryd.func29, Tryd.ntmps29
    go_wp2
    go_ret
    exact ⟨rfl, rfl⟩
  by_cases c6 : c ≤ 122
  · rw [if_neg (by omega), if_pos (by omega)] at hr
    subst hr
    go_enter Tryd.func29, Tryd.ntmps29
    go_wp2
    go_ret
    exact ⟨rfl, rfl⟩
  · rw [if_neg (by omega), if_neg (by omega), if_neg (by omega)] at hr
    subst hr
    go_enter Tryd.func29, Tryd.ntmps29
    go_wp2
    go_ret
    exact ⟨rfl, rfl⟩

theorem foldP_stays (base : Int) : ∀ (l : List UInt8) (st : Int × Bool), st.2 = true → (l.foldl (stepP base) st).2 = true
  | [], _, h => h
  | c :: l, st, h => foldP_stays base l _ (by unfold stepP; rw [h]; rfl)
theorem foldP_true (base : Int) (l l2 : List UInt8) (h : (foldP base l).2 = true) : (foldP base (l ++ l2)).2 = true := by
  unfold foldP at *
  rw [List.foldl_append]
  exact foldP_stays base l2 _ h

set_option maxHeartbeats 1600000 in
theorem ref_parse (s : ByteArray) (base : Int) (w : World) (hs : s.size ≤ maxLen) :
    Calls Tryd.prog 16 #[.string s, .int .i64 base] w fun e w' => e = ret (parseR base s.data.toList).1 (parseR base s.data.toList).2 ∧ w' = w := by
  unfold maxLen at hs
  obtain ⟨⟨rn, rq⟩, hr⟩ : ∃ r, parseR base s.data.toList = r := ⟨_, rfl⟩
  rw [hr]
  show Calls Tryd.prog 16 #[.string s, .int .i64 base] w fun e w' => e = ret rn rq ∧ w' = w
  by_cases hb1 : base < 2
  · have hp : parseR base s.data.toList = (0, 2) := by unfold parseR; rw [if_pos (Or.inl hb1)]
    rw [hp] at hr
    cases hr
    clear hp
    go_enter Tryd.func16, Tryd.ntmps16
    go_wp2
    go_ret2
    exact ⟨rfl, rfl⟩
  by_cases hb2 : 36 < base
  · have hp : parseR base s.data.toList = (0, 2) := by unfold parseR; rw [if_pos (Or.inr hb2)]
    rw [hp] at hr
    cases hr
    clear hp
    go_enter Tryd.func16, Tryd.ntmps16
    go_wp2
    go_ret2
    exact ⟨rfl, rfl⟩
  have hb : 2 ≤ base ∧ base ≤ 36 := by omega
  have hno : ¬ (base < 2 ∨ 36 < base) := by omega
  have hb1' : 2 ≤ base := hb.1
  have hb2' : base ≤ 36 := hb.2
  have HR := Lib.hid hr
  clear hr
  have HP := Lib.hid (show s.data.toList ≠ [] → parseR base s.data.toList = if digitsB base s.data.toList = false then (0, 6) else if (foldP base s.data.toList).2 = true then (0, 11) else (wrap64 (foldP base s.data.toList).1, 0) by
    intro h0
    unfold parseR; rw [if_neg hno, if_neg h0])
  clear hb1 hb2 hno
  go_enter Tryd.func16, Tryd.ntmps16
  go_wp2
  go_loop [6] (fun i => ∃ k : Nat, k ≤ s.size ∧ i = .int .i64 k ∧ Hid (digitsB base (s.data.toList.take k) = true)) (fun i => s.size - (intOf i).toNat)
  case atStart => exact ⟨0, Nat.zero_le _, rfl, rfl⟩
  case round =>
    obtain ⟨k, hk, rfl, hall⟩ := hrel
    by_cases hlt : k < s.size
    · have hc0 : (0 : Int) ≤ (s[k].toNat : Int) := by omega
      have hc1 : (s[k].toNat : Int) ≤ 255 := by have := s[k].toNat_lt; omega
      have hq := (digitQ_lt (c := (s[k].toNat : Int)) hb2').1
      have hne : s.data.toList ≠ [] := fun h => by have := byte_mem s k hlt; rw [h] at this; cases this
      by_cases hd2 : base ≤ digitQ (s[k].toNat : Int)
      · have hp : Hid ((rn, rq) = (0, 6)) := by
          show (rn, rq) = (0, 6)
          rw [← HR.out, HP.out hne, if_pos]
          unfold digitsB
          rw [List.all_eq_false]
          exact ⟨s[k], byte_mem s k hlt, by simp; omega⟩
        clear hq hne
        go_wp2_with (go_at_call 29; refine (ref_digit _ _ hc0 hc1).mono ?_; rintro e w' ⟨rfl, rfl⟩)
        go_ret2
        cases hp.out
        exact ⟨rfl, rfl⟩
      · have hd3 : digitQ (s[k].toNat : Int) < base := by omega
        have hall' : Hid (digitsB base (s.data.toList.take (k + 1)) = true) := by
          show digitsB base (s.data.toList.take (k + 1)) = true
          rw [take_snoc s k hlt]
          unfold digitsB
          have h1 : (s.data.toList.take k).all (fun c => decide (digitZ (c.toNat : Int) < base)) = true := hall.out
          rw [List.all_append, h1]
          simp
          omega
        clear hq hne
        go_wp2_with (go_at_call 29; refine (ref_digit _ _ hc0 hc1).mono ?_; rintro e w' ⟨rfl, rfl⟩)
        go_round
        case rel => exact ⟨k + 1, by omega, by go_num, hall'⟩
        case measure => simp [intOf]; omega
    · have hfull : s.data.toList.take k = s.data.toList := List.take_of_length_le (by simp; omega)
      rw [hfull] at hall
      obtain rfl : k = s.size := by omega
      by_cases hz : s.size = 0
      · have he : s.data.toList = [] := List.eq_nil_of_length_eq_zero (by simpa using hz)
        have hp : Hid ((rn, rq) = (0, 6)) := by
          show (rn, rq) = (0, 6)
          rw [← HR.out]
          unfold parseR
          rw [if_neg (by omega), if_pos he]
        have z1 : ((s.size : Int) == 0) = true := beq_iff_eq.2 (by omega)
        clear he hz hall hfull
        go_wp2
        go_ret2
        cases hp.out
        exact ⟨rfl, rfl⟩
      · have hne : s.data.toList ≠ [] := fun h => hz (by have := congrArg List.length h; simpa using this)
        have HP2 := HP.out hne
        rw [hall.out, if_neg (by simp), HR.out] at HP2
        have HQ := Lib.hid HP2
        clear HP2 HP HR hfull hne
        have z1 : ((s.size : Int) == 0) = false := beq_eq_false_iff_ne.2 (by omega)
        clear hz
        go_wp2
        go_loop [7, 8] (fun n i => ∃ k : Nat, k ≤ s.size ∧ i = .int .i64 k ∧ n = .int .u64 (foldP base (s.data.toList.take k)).1 ∧ Hid ((foldP base (s.data.toList.take k)).2 = false)) (fun _ i => s.size - (intOf i).toNat)
        case atStart => exact ⟨0, Nat.zero_le _, rfl, rfl, rfl⟩
        case round =>
          obtain ⟨k, hk, rfl, rfl, hov⟩ := hrel
          have hbd := foldP_bd base (s.data.toList.take k)
          obtain ⟨hm0, hm1⟩ := hbd
          by_cases hlt : k < s.size
          · have hst := foldP_snoc base (s.data.toList.take k) s[k]
            rw [← take_snoc s k hlt] at hst
            have hc0 : (0 : Int) ≤ (s[k].toNat : Int) := by omega
            have hc1 : (s[k].toNat : Int) ≤ 255 := by have := s[k].toNat_lt; omega
            have hdz : digitZ (s[k].toNat : Int) < base := by
              have h1 := hall.out
              unfold digitsB at h1
              have := List.all_eq_true.1 h1 s[k] (byte_mem s k hlt)
              simpa using this
            have hdq := (digitQ_lt (c := (s[k].toNat : Int)) hb2').2 hdz
            have hd0 := (digitZ_bd (s[k].toNat : Int)).1
            have hd1 : digitZ (s[k].toNat : Int) ≤ 35 := by omega
            have c1 := fun w => ref_digit (s[k].toNat : Int) w hc0 hc1
            rw [hdq] at c1
            have C1 := Lib.hid c1
            clear c1 hdq
            have HS := Lib.hid hst
            clear hst
            have hov' := hov.out
            generalize hfo : foldP base (s.data.toList.take k) = st at *
            obtain ⟨m, v⟩ := st
            simp only at hov' hm0 hm1
            subst hov'
            clear hfo hov
            have e1 : Hid ((foldP base (s.data.toList.take (k + 1))).1 = (IntKind.u64.wrap (IntKind.u64.wrap (m * base) + digitZ (s[k].toNat : Int)))) := by
              show _ = _
              rw [HS.out]; rfl
            have e2 : Hid ((foldP base (s.data.toList.take (k + 1))).2 = decide ((9223372036854775808 - digitZ (s[k].toNat : Int)) / base < m)) := by
              show _ = _
              rw [HS.out]; simp [stepP]
            cases hcmp : decide ((9223372036854775808 - digitZ (s[k].toNat : Int)) / base < m)
            · rw [hcmp] at e2
              go_wp2_with (go_at_call 29; refine (C1.out _).mono ?_; rintro e w' ⟨rfl, rfl⟩)
              go_round
              case rel => exact ⟨k + 1, by omega, by go_num, by rw [e1.out], e2⟩
              case measure => simp [intOf]; omega
            · rw [hcmp] at e2
              have hp : Hid ((rn, rq) = (0, 11)) := by
                show (rn, rq) = (0, 11)
                have h1 := foldP_true base _ (s.data.toList.drop (k + 1)) e2.out
                rw [List.take_append_drop] at h1
                rw [HQ.out, if_pos h1]
              go_wp2_with (go_at_call 29; refine (C1.out _).mono ?_; rintro e w' ⟨rfl, rfl⟩)
              go_ret2
              cases hp.out
              exact ⟨rfl, rfl⟩
          · have hfull : s.data.toList.take k = s.data.toList := List.take_of_length_le (by simp; omega)
            rw [hfull] at hm0 hm1 hov ⊢
            have hq2 := HQ.out
            rw [hov.out, if_neg (by simp)] at hq2
            have hp : Hid ((rn, rq) = (wrap64 (foldP base s.data.toList).1, 0)) := hq2
            clear hq2 hov hfull
            generalize (foldP base s.data.toList).1 = m at *
            go_wp2
            go_ret2
            cases hp.out
            exact ⟨rfl, rfl⟩

set_option maxHeartbeats 800000 in
theorem texts_walk (n : Int) (s : ByteArray) (base : Int) (w : World) (hn : inR n) (hs : s.size ≤ maxLen) (_hb : inR base) (htab : Tab w) :
    Calls Tryd.prog 4 #[.int .i64 n, .string s, .int .i64 base] w fun e w' => e = .returned (.bool true) ∧ Below w.heap.size w w' := by
  have C1 := Lib.hid (fun w => parse_is s base w hs)
  have C2 := Lib.hid (fun w => ref_parse s base w hs)
  generalize parseR base s.data.toList = r at *
  obtain ⟨rn, rq⟩ := r
  have c3 := fun w h => print_is n w hn h
  have c4 := fun w => ref_print n.natAbs n w (Nat.le_refl _) hn
  generalize (ByteArray.mk (Lib.itoa n).toArray) = str at *
  have C3 := Lib.hid c3
  have C4 := Lib.hid c4
  clear c3 c4
  unfold maxLen at hs
  by_cases hl : 1000 < s.size
  · go_enter Tryd.func4, Tryd.ntmps4
    go_wp2_with fail
    refine (alive_is _ htab).mono ?_
    rintro e w1 ⟨rfl, b1⟩
    go_wp2_with fail
    go_ret
    exact ⟨rfl, b1⟩
  · go_enter Tryd.func4, Tryd.ntmps4
    go_wp2_with fail
    refine (alive_is _ htab).mono ?_
    rintro e w1 ⟨rfl, b1⟩
    go_wp2_with fail
    refine (C1.out _).mono ?_
    rintro e w2 ⟨rfl, rfl⟩
    go_wp2_with fail
    refine (C2.out _).mono ?_
    rintro e w3 ⟨rfl, rfl⟩
    go_wp2_with fail
    refine (C3.out _ (htab.on b1)).mono ?_
    rintro e w4 ⟨rfl, b4⟩
    go_wp2_with fail
    refine (C4.out _).mono ?_
    rintro e w5 ⟨rfl, q, rfl⟩
    go_wp2_with fail
    go_ret
    exact ⟨rfl, (bt b1 b4).trans (below_drewN _ _)⟩

end Go.Proofs.YtppohopockieiaaDoor
