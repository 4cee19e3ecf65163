/- The document's answer: whether an atom may be written as it is. Conditions: the text has at most 4000 bytes. -/
import Derived.Test.YtnkkenchabcpoaaDoorNameB
import Derived.Test.YtnkkenchabcpoaaDoorNamePlainM
import Derived.Test.YtnkkenchabcpoaaDoorNameK
namespace Go.Proofs.YtnkkenchabcpoaaDoor
open Go Go.RowKit

theorem ref_sort_at (c k : Int) (h : sortZ c = k) (w : World) (h0 : 0 ≤ c) (h1 : c ≤ 255) :
    Calls Tryd.prog 11 #[.int .u8 c] w fun e w' => e = .returned (.int .i64 k) ∧ w' = w := by
  subst h
  exact ref_sort c w h0 h1

set_option maxHeartbeats 3200000 in
theorem ref_word (s : ByteArray) (w : World) (hs : s.size ≤ 4000) (e1 : (s.toList == [91, 93]) = false) (e2 : (s.toList == [33]) = false) (e3 : (s.toList == [59]) = false) (e4 : (s.toList == [123, 125]) = false) (e5 : s.toList.isEmpty = false) (e6 : (s.toList == [46]) = false)
    (hpos : 0 < s.size) (c : UInt8) (hc : s[0] = c)
    (hg : decide ((2 : Int) ≤ (s.size : Int)) = false ∨ decide ((2 : Int) ≤ (s.size : Int)) = true ∧ ((c.toNat : Int) == 47) = false ∨ decide ((2 : Int) ≤ (s.size : Int)) = true ∧ ((c.toNat : Int) == 47) = true ∧ ∃ h : 1 < s.size, ((s[1].toNat : Int) == 42) = false)
    (C : Hid (∀ w, Calls Tryd.prog 11 #[.int .u8 (c.toNat : Int)] w fun e w' => e = .returned (.int .i64 2) ∧ w' = w)) (r : Bool) (HR : Hid (s.data.toList.all wordB = r)) :
    Calls Tryd.prog 13 #[.string s] w fun e w' => e = .returned (.bool r) ∧ w' = w := by
  rcases hg with g1 | ⟨g1, g2⟩ | ⟨g1, g2, g3, g4⟩
  all_goals
    go_enter Tryd.func13, Tryd.ntmps13
    go_wp2_with fail
    refine (C.out _).mono ?_
    rintro e w1 ⟨rfl, hw⟩
    obtain rfl := hw.symm
    clear hw
    go_wp2_with fail
    go_loop [4, 5] (fun i _ => ∃ k : Nat, k ≤ s.size ∧ i = .int .i64 k ∧ Hid ((s.data.toList.take k).all wordB = true)) (fun i _ => s.size - (intOf i).toNat)
    case atStart => exact ⟨0, Nat.zero_le _, rfl, rfl⟩
    case round =>
      obtain ⟨k, hk, rfl, hall⟩ := hrel
      by_cases hlt : k < s.size
      · have hst := all_snoc wordB (s.data.toList.take k) s[k]
        rw [← take_snoc s k hlt, hall.out, Bool.true_and] at hst
        have HS := Lib.hid hst
        clear hst
        obtain ⟨d, hd⟩ : ∃ d, s[k] = d := ⟨_, rfl⟩
        have hmem : d ∈ s.data.toList := by rw [← hd]; exact byte_mem s k hlt
        rw [hd] at HS
        have hd0 : (0 : Int) ≤ (d.toNat : Int) := by omega
        have hd1 : (d.toNat : Int) ≤ 255 := by have := d.toNat_lt; omega
        obtain ⟨q, hq⟩ : ∃ q, sortZ (d.toNat : Int) = q := ⟨_, rfl⟩
        have D := Lib.hid (fun w => ref_sort_at _ q hq w hd0 hd1)
        have hpq : wordB d = wordS q := by unfold wordB; rw [hq]
        rw [hpq] at HS
        have HPQ := Lib.hid hpq
        have HM := Lib.hid hmem
        clear hq hpq hmem
        by_cases q2 : q = 2
        · subst q2
          have HS' := Lib.hid (show (s.data.toList.take (k + 1)).all wordB = true from HS.out)
          clear HS
          go_wp2_with (go_at_call 11; refine (D.out _).mono ?_; rintro e w1 ⟨rfl, hw⟩; obtain rfl := hw.symm; clear hw)
          go_round
          case rel => exact ⟨k + 1, by omega, by go_num, HS'⟩
          case measure => simp [intOf]; omega
        by_cases q3 : q = 3
        · subst q3
          have HS' := Lib.hid (show (s.data.toList.take (k + 1)).all wordB = true from HS.out)
          clear HS
          go_wp2_with (go_at_call 11; refine (D.out _).mono ?_; rintro e w1 ⟨rfl, hw⟩; obtain rfl := hw.symm; clear hw)
          go_round
          case rel => exact ⟨k + 1, by omega, by go_num, HS'⟩
          case measure => simp [intOf]; omega
        by_cases q4 : q = 4
        · subst q4
          have HS' := Lib.hid (show (s.data.toList.take (k + 1)).all wordB = true from HS.out)
          clear HS
          go_wp2_with (go_at_call 11; refine (D.out _).mono ?_; rintro e w1 ⟨rfl, hw⟩; obtain rfl := hw.symm; clear hw)
          go_round
          case rel => exact ⟨k + 1, by omega, by go_num, HS'⟩
          case measure => simp [intOf]; omega
        have f2 : (q == 2) = false := beq_eq_false_iff_ne.2 q2
        have n2 : (q != 2) = true := bne_iff_ne.2 q2
        have f3 : (q == 3) = false := beq_eq_false_iff_ne.2 q3
        have n3 : (q != 3) = true := bne_iff_ne.2 q3
        have f4 : (q == 4) = false := beq_eq_false_iff_ne.2 q4
        have n4 : (q != 4) = true := bne_iff_ne.2 q4
        have hq0 : wordS q = false := by unfold wordS; simp [f2, f3, f4]
        have hp := Lib.hid (show false = r by
          rw [← HR.out]
          exact (List.all_eq_false.2 ⟨d, HM.out, by rw [HPQ.out, hq0]; simp⟩).symm)
        clear HS HM HPQ hq0 q2 q3 q4
        go_wp2_with (go_at_call 11; refine (D.out _).mono ?_; rintro e w1 ⟨rfl, hw⟩; obtain rfl := hw.symm; clear hw)
        go_ret
        cases hp.out
        exact ⟨rfl, rfl⟩
      · have hfull : s.data.toList.take k = s.data.toList := List.take_of_length_le (by rw [← Lib.size_eq]; omega)
        have hp := Lib.hid (show true = r by rw [← HR.out, ← hfull]; exact hall.out.symm)
        clear hfull hall
        go_wp2_with fail
        go_ret
        cases hp.out
        exact ⟨rfl, rfl⟩

set_option maxHeartbeats 3200000 in
theorem ref_signs (s : ByteArray) (w : World) (hs : s.size ≤ 4000) (e1 : (s.toList == [91, 93]) = false) (e2 : (s.toList == [33]) = false) (e3 : (s.toList == [59]) = false) (e4 : (s.toList == [123, 125]) = false) (e5 : s.toList.isEmpty = false) (e6 : (s.toList == [46]) = false)
    (hpos : 0 < s.size) (c : UInt8) (hc : s[0] = c)
    (hg : decide ((2 : Int) ≤ (s.size : Int)) = false ∨ decide ((2 : Int) ≤ (s.size : Int)) = true ∧ ((c.toNat : Int) == 47) = false ∨ decide ((2 : Int) ≤ (s.size : Int)) = true ∧ ((c.toNat : Int) == 47) = true ∧ ∃ h : 1 < s.size, ((s[1].toNat : Int) == 42) = false)
    (C : Hid (∀ w, Calls Tryd.prog 11 #[.int .u8 (c.toNat : Int)] w fun e w' => e = .returned (.int .i64 5) ∧ w' = w)) (r : Bool) (HR : Hid (s.data.toList.all signB = r)) :
    Calls Tryd.prog 13 #[.string s] w fun e w' => e = .returned (.bool r) ∧ w' = w := by
  rcases hg with g1 | ⟨g1, g2⟩ | ⟨g1, g2, g3, g4⟩
  all_goals
    go_enter Tryd.func13, Tryd.ntmps13
    go_wp2_with fail
    refine (C.out _).mono ?_
    rintro e w1 ⟨rfl, hw⟩
    obtain rfl := hw.symm
    clear hw
    go_wp2_with fail
    go_loop [4, 5] (fun i _ => ∃ k : Nat, k ≤ s.size ∧ i = .int .i64 k ∧ Hid ((s.data.toList.take k).all signB = true)) (fun i _ => s.size - (intOf i).toNat)
    case atStart => exact ⟨0, Nat.zero_le _, rfl, rfl⟩
    case round =>
      obtain ⟨k, hk, rfl, hall⟩ := hrel
      by_cases hlt : k < s.size
      · have hst := all_snoc signB (s.data.toList.take k) s[k]
        rw [← take_snoc s k hlt, hall.out, Bool.true_and] at hst
        have HS := Lib.hid hst
        clear hst
        obtain ⟨d, hd⟩ : ∃ d, s[k] = d := ⟨_, rfl⟩
        have hmem : d ∈ s.data.toList := by rw [← hd]; exact byte_mem s k hlt
        rw [hd] at HS
        have hd0 : (0 : Int) ≤ (d.toNat : Int) := by omega
        have hd1 : (d.toNat : Int) ≤ 255 := by have := d.toNat_lt; omega
        obtain ⟨q, hq⟩ : ∃ q, sortZ (d.toNat : Int) = q := ⟨_, rfl⟩
        have D := Lib.hid (fun w => ref_sort_at _ q hq w hd0 hd1)
        have hpq : signB d = signS q := by unfold signB; rw [hq]
        rw [hpq] at HS
        have HPQ := Lib.hid hpq
        have HM := Lib.hid hmem
        clear hq hpq hmem
        by_cases q5 : q = 5
        · subst q5
          have HS' := Lib.hid (show (s.data.toList.take (k + 1)).all signB = true from HS.out)
          clear HS
          go_wp2_with (go_at_call 11; refine (D.out _).mono ?_; rintro e w1 ⟨rfl, hw⟩; obtain rfl := hw.symm; clear hw)
          go_round
          case rel => exact ⟨k + 1, by omega, by go_num, HS'⟩
          case measure => simp [intOf]; omega
        have f5 : (q == 5) = false := beq_eq_false_iff_ne.2 q5
        have n5 : (q != 5) = true := bne_iff_ne.2 q5
        have hq0 : signS q = false := by unfold signS; simp [f5]
        have hp := Lib.hid (show false = r by
          rw [← HR.out]
          exact (List.all_eq_false.2 ⟨d, HM.out, by rw [HPQ.out, hq0]; simp⟩).symm)
        clear HS HM HPQ hq0 q5
        go_wp2_with (go_at_call 11; refine (D.out _).mono ?_; rintro e w1 ⟨rfl, hw⟩; obtain rfl := hw.symm; clear hw)
        go_ret
        cases hp.out
        exact ⟨rfl, rfl⟩
      · have hfull : s.data.toList.take k = s.data.toList := List.take_of_length_le (by rw [← Lib.size_eq]; omega)
        have hp := Lib.hid (show true = r by rw [← HR.out, ← hfull]; exact hall.out.symm)
        clear hfull hall
        go_wp2_with fail
        go_ret
        cases hp.out
        exact ⟨rfl, rfl⟩

set_option maxHeartbeats 3200000 in
theorem ref_other (s : ByteArray) (w : World) (hs : s.size ≤ 4000) (e1 : (s.toList == [91, 93]) = false) (e2 : (s.toList == [33]) = false) (e3 : (s.toList == [59]) = false) (e4 : (s.toList == [123, 125]) = false) (e5 : s.toList.isEmpty = false) (e6 : (s.toList == [46]) = false)
    (hpos : 0 < s.size) (c : UInt8) (hc : s[0] = c)
    (hg : decide ((2 : Int) ≤ (s.size : Int)) = false ∨ decide ((2 : Int) ≤ (s.size : Int)) = true ∧ ((c.toNat : Int) == 47) = false ∨ decide ((2 : Int) ≤ (s.size : Int)) = true ∧ ((c.toNat : Int) == 47) = true ∧ ∃ h : 1 < s.size, ((s[1].toNat : Int) == 42) = false) (K : Int) (k2 : (K == 2) = false) (k5 : (K == 5) = false)
    (C : Hid (∀ w, Calls Tryd.prog 11 #[.int .u8 (c.toNat : Int)] w fun e w' => e = .returned (.int .i64 K) ∧ w' = w)) :
    Calls Tryd.prog 13 #[.string s] w fun e w' => e = .returned (.bool false) ∧ w' = w := by
  rcases hg with g1 | ⟨g1, g2⟩ | ⟨g1, g2, g3, g4⟩
  all_goals
    go_enter Tryd.func13, Tryd.ntmps13
    go_wp2_with fail
    refine (C.out _).mono ?_
    rintro e w1 ⟨rfl, hw⟩
    obtain rfl := hw.symm
    clear hw
    go_wp2_with fail
    go_loop [4, 5] (fun i _ => ∃ k : Nat, k ≤ s.size ∧ i = .int .i64 k) (fun i _ => s.size - (intOf i).toNat)
    case atStart => exact ⟨0, Nat.zero_le _, rfl⟩
    case round =>
      obtain ⟨k, hk, rfl⟩ := hrel
      by_cases hlt : k < s.size
      · obtain ⟨d, hd⟩ : ∃ d, s[k] = d := ⟨_, rfl⟩
        have hd0 : (0 : Int) ≤ (d.toNat : Int) := by omega
        have hd1 : (d.toNat : Int) ≤ 255 := by have := d.toNat_lt; omega
        have D := Lib.hid (fun w => ref_sort_at _ _ rfl w hd0 hd1)
        go_wp2_with (go_at_call 11; refine (D.out _).mono ?_; rintro e w1 ⟨rfl, hw⟩; obtain rfl := hw.symm; clear hw)
        go_round
        case rel => exact ⟨k + 1, by omega, by first | rfl | go_num⟩
        case measure => simp [intOf]; omega
      · go_wp2_with fail
        go_ret
        exact ⟨rfl, rfl⟩

set_option maxHeartbeats 800000 in
theorem ref_early (s : ByteArray) (w : World) (x1 x2 x3 x4 x5 x6 : Bool) (e1 : (s.toList == [91, 93]) = x1) (e2 : (s.toList == [33]) = x2) (e3 : (s.toList == [59]) = x3) (e4 : (s.toList == [123, 125]) = x4) (e5 : s.toList.isEmpty = x5) (e6 : (s.toList == [46]) = x6)
    (r : Bool) (hr : x1 = true ∧ r = true ∨ x1 = false ∧ x2 = true ∧ r = true ∨ x1 = false ∧ x2 = false ∧ x3 = true ∧ r = true ∨ x1 = false ∧ x2 = false ∧ x3 = false ∧ x4 = true ∧ r = true ∨ x1 = false ∧ x2 = false ∧ x3 = false ∧ x4 = false ∧ x5 = true ∧ r = false ∨ x1 = false ∧ x2 = false ∧ x3 = false ∧ x4 = false ∧ x5 = false ∧ x6 = true ∧ r = false) :
    Calls Tryd.prog 13 #[.string s] w fun e w' => e = .returned (.bool r) ∧ w' = w := by
  rcases hr with ⟨rfl, rfl⟩ | ⟨rfl, rfl, rfl⟩ | ⟨rfl, rfl, rfl, rfl⟩ | ⟨rfl, rfl, rfl, rfl, rfl⟩ | ⟨rfl, rfl, rfl, rfl, rfl, rfl⟩ | ⟨rfl, rfl, rfl, rfl, rfl, rfl, rfl⟩
  all_goals
    go_enter Tryd.func13, Tryd.ntmps13
    go_wp2_with fail
    go_ret
    exact ⟨rfl, rfl⟩

set_option maxHeartbeats 800000 in
theorem ref_comment (s : ByteArray) (w : World) (hs : s.size ≤ 4000) (e1 : (s.toList == [91, 93]) = false) (e2 : (s.toList == [33]) = false) (e3 : (s.toList == [59]) = false) (e4 : (s.toList == [123, 125]) = false) (e5 : s.toList.isEmpty = false) (e6 : (s.toList == [46]) = false)
    (h : 1 < s.size) (h0 : s[0] = 47) (h1 : s[1] = 42) : Calls Tryd.prog 13 #[.string s] w fun e w' => e = .returned (.bool false) ∧ w' = w := by
  have g1 : decide ((2 : Int) ≤ (s.size : Int)) = true := by simp; omega
  go_enter Tryd.func13, Tryd.ntmps13
  go_wp2_with fail
  go_ret
  exact ⟨rfl, rfl⟩

theorem tl_eq (a : ByteArray) (l : List UInt8) : (a.toList == l) = (a.data.toList == l) := by rw [Lib.toList_data]
theorem ref_plain (s : ByteArray) (w : World) (hs : s.size ≤ 4000) :
    Calls Tryd.prog 13 #[.string s] w fun e w' => e = .returned (.bool (plainB s.data.toList)) ∧ w' = w := by
  obtain ⟨r, hr⟩ : ∃ r, plainB s.data.toList = r := ⟨_, rfl⟩
  rw [hr]
  unfold plainB at hr
  rw [← tl_eq, ← tl_eq, ← tl_eq, ← tl_eq, ← tl_eq, show s.data.toList.isEmpty = s.toList.isEmpty by rw [Lib.toList_data]] at hr
  cases e1 : s.toList == [91, 93]
  case true => rw [e1, if_pos rfl] at hr; exact ref_early s w _ _ _ _ _ _ e1 rfl rfl rfl rfl rfl r (.inl ⟨rfl, hr.symm⟩)
  cases e2 : s.toList == [33]
  case true => rw [e1, e2, if_neg (by simp), if_pos rfl] at hr; exact ref_early s w _ _ _ _ _ _ e1 e2 rfl rfl rfl rfl r (.inr (.inl ⟨rfl, rfl, hr.symm⟩))
  cases e3 : s.toList == [59]
  case true => rw [e1, e2, e3, if_neg (by simp), if_neg (by simp), if_pos rfl] at hr; exact ref_early s w _ _ _ _ _ _ e1 e2 e3 rfl rfl rfl r (.inr (.inr (.inl ⟨rfl, rfl, rfl, hr.symm⟩)))
  cases e4 : s.toList == [123, 125]
  case true => rw [e1, e2, e3, e4, if_neg (by simp), if_neg (by simp), if_neg (by simp), if_pos rfl] at hr; exact ref_early s w _ _ _ _ _ _ e1 e2 e3 e4 rfl rfl r (.inr (.inr (.inr (.inl ⟨rfl, rfl, rfl, rfl, hr.symm⟩))))
  rw [e1, e2, e3, e4, if_neg (by simp), if_neg (by simp), if_neg (by simp), if_neg (by simp)] at hr
  cases e5 : s.toList.isEmpty
  case true => rw [e5, if_pos rfl] at hr; exact ref_early s w _ _ _ _ _ _ e1 e2 e3 e4 e5 rfl r (.inr (.inr (.inr (.inr (.inl ⟨rfl, rfl, rfl, rfl, rfl, hr.symm⟩)))))
  cases e6 : s.toList == [46]
  case true => rw [e5, e6, if_neg (by simp), if_pos rfl] at hr; exact ref_early s w _ _ _ _ _ _ e1 e2 e3 e4 e5 e6 r (.inr (.inr (.inr (.inr (.inr ⟨rfl, rfl, rfl, rfl, rfl, rfl, hr.symm⟩)))))
  rw [e5, e6, if_neg (by simp), if_neg (by simp)] at hr
  have hne : s.data.toList ≠ [] := by
    intro h
    rw [Lib.toList_data, h] at e5
    cases e5
  have hpos : 0 < s.size := by rw [Lib.size_eq]; exact List.length_pos_iff.2 hne
  have hd := head_at s hpos
  have hc0 : (0 : Int) ≤ (s[0].toNat : Int) := by omega
  have hc1 : (s[0].toNat : Int) ≤ 255 := by have := s[0].toNat_lt; omega
  rw [hd] at hr
  have hx : (∃ h : 1 < s.size, s[0] = 47 ∧ s[1] = 42) ∨ (Lib.hasPrefix s.data.toList [47, 42] = false ∧
      (decide ((2 : Int) ≤ (s.size : Int)) = false ∨ decide ((2 : Int) ≤ (s.size : Int)) = true ∧ ((s[0].toNat : Int) == 47) = false ∨ decide ((2 : Int) ≤ (s.size : Int)) = true ∧ ((s[0].toNat : Int) == 47) = true ∧ ∃ h : 1 < s.size, ((s[1].toNat : Int) == 42) = false)) := by
    rcases hl : s.data.toList with _ | ⟨a, _ | ⟨b, t⟩⟩
    · exact absurd hl hne
    · have hz : s.size = 1 := by rw [Lib.size_eq, hl]; rfl
      refine .inr ⟨?_, .inl (by simp; omega)⟩
      show (47 == a && false) = false
      rw [Bool.and_false]
    · have hz : 1 < s.size := by rw [Lib.size_eq, hl]; simp
      have a0 := at_0 hl hpos
      have a1 := at_1 hl hz
      have hpx : Lib.hasPrefix (a :: b :: t) [47, 42] = ((a.toNat : Int) == 47 && (b.toNat : Int) == 42) := by
        show (47 == a && (42 == b && true)) = _
        rw [Bool.and_true, flip_beq 47 a, flip_beq 42 b, beq_int a 47, beq_int b 42]
        rfl
      have g1 : decide ((2 : Int) ≤ (s.size : Int)) = true := by simp; omega
      cases h47 : ((a.toNat : Int) == 47)
      · exact .inr ⟨by rw [hpx, h47]; rfl, .inr (.inl ⟨g1, by rw [a0]; exact h47⟩)⟩
      · cases h42 : ((b.toNat : Int) == 42)
        · exact .inr ⟨by rw [hpx, h47, h42]; rfl, .inr (.inr ⟨g1, by rw [a0]; exact h47, hz, by rw [a1]; exact h42⟩)⟩
        · refine .inl ⟨hz, ?_, ?_⟩
          · rw [a0]; exact UInt8.toNat_inj.1 (by have := beq_iff_eq.1 h47; show _ = 47; omega)
          · rw [a1]; exact UInt8.toNat_inj.1 (by have := beq_iff_eq.1 h42; show _ = 42; omega)
  rcases hx with ⟨hz, h47, h42⟩ | ⟨hpre, hg⟩
  · have hrf : r = false := by
      have hpx : Lib.hasPrefix s.data.toList [47, 42] = true := by
        rcases hl : s.data.toList with _ | ⟨a, _ | ⟨b, t⟩⟩
        · exact absurd hl hne
        · rw [Lib.size_eq, hl] at hz; simp at hz
        · rw [← at_0 hl hpos, ← at_1 hl hz, h47, h42]; rfl
      rw [h47, if_neg (by decide), hpx] at hr
      rw [← hr]
      simp
    rw [hrf]
    exact ref_comment s w hs e1 e2 e3 e4 e5 e6 hz h47 h42
  · rw [hpre] at hr
    by_cases k2 : sortZ (s[0].toNat : Int) = 2
    · rw [if_pos k2] at hr
      exact ref_word s w hs e1 e2 e3 e4 e5 e6 hpos s[0] rfl hg (Lib.hid fun w => ref_sort_at _ _ k2 w hc0 hc1) r (Lib.hid hr)
    · rw [if_neg k2, Bool.not_false, Bool.and_true] at hr
      by_cases k5 : sortZ (s[0].toNat : Int) = 5
      · exact ref_signs s w hs e1 e2 e3 e4 e5 e6 hpos s[0] rfl hg (Lib.hid fun w => ref_sort_at _ _ k5 w hc0 hc1) r (Lib.hid hr)
      · have hrf : r = false := by
          rw [← hr]
          refine List.all_eq_false.2 ⟨s[0], byte_mem s 0 hpos, ?_⟩
          unfold signB signS
          rw [beq_eq_false_iff_ne.2 k5]
          simp
        rw [hrf]
        exact ref_other s w hs e1 e2 e3 e4 e5 e6 hpos s[0] rfl hg _ (beq_eq_false_iff_ne.2 k2) (beq_eq_false_iff_ne.2 k5) (Lib.hid fun w => ref_sort_at _ _ rfl w hc0 hc1)

end Go.Proofs.YtnkkenchabcpoaaDoor
