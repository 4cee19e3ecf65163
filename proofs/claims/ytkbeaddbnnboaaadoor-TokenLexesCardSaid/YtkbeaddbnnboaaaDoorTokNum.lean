/- num.Parse and the document's own: contracts. Conditions: the text's length is an int. -/
import Derived.Test.YtkbeaddbnnboaaaDoorNameA
import Derived.Lib.Hide
import Derived.Lib.Strings
namespace Go.Proofs.YtkbeaddbnnboaaaDoor
open Go Go.RowKit

abbrev ret (n e : Int) : Ending := .returned (.tuple #[.int .i64 n, .int .i64 e])

/-- what a byte counts as a digit -/
def digitZ (c : Int) : Int := if 48 ≤ c ∧ c ≤ 57 then c - 48 else if 97 ≤ c ∧ c ≤ 122 then c - 97 + 10 else if 65 ≤ c ∧ c ≤ 90 then c - 65 + 10 else 36
theorem digitZ_bd (c : Int) : 0 ≤ digitZ c ∧ digitZ c ≤ 36 := by unfold digitZ; repeat' split; all_goals omega

set_option maxHeartbeats 400000 in
theorem digit_is (c : Int) (w : World) (h0 : 0 ≤ c) (h1 : c ≤ 255) :
    Calls Tryd.prog 81 #[.int .u8 c] w fun e w' => e = .returned (.int .i64 (digitZ c)) ∧ w' = w := by
  by_cases c1 : c < 48
  · have : digitZ c = 36 := by unfold digitZ; rw [if_neg (by omega), if_neg (by omega), if_neg (by omega)]
    rw [this]; clear this
    go_enter Tryd.func81, Tryd.ntmps81
    go_wp2
    go_ret
    exact ⟨rfl, rfl⟩
  by_cases c2 : c ≤ 57
  · have : digitZ c = c - 48 := by unfold digitZ; rw [if_pos (by omega)]
    rw [this]; clear this
    go_enter Tryd.func81, Tryd.ntmps81
    go_wp2
    go_ret
    exact ⟨rfl, rfl⟩
  by_cases c3 : c < 65
  · have : digitZ c = 36 := by unfold digitZ; rw [if_neg (by omega), if_neg (by omega), if_neg (by omega)]
    rw [this]; clear this
    go_enter Tryd.func81, Tryd.ntmps81
    go_wp2
    go_ret
    exact ⟨rfl, rfl⟩
  by_cases c4 : c ≤ 90
  · have : digitZ c = c - 65 + 10 := by unfold digitZ; rw [if_neg (by omega), if_neg (by omega), if_pos (by omega)]
    rw [this]; clear this
    go_enter Tryd.func81, Tryd.ntmps81
    go_wp2
    go_ret
    exact ⟨rfl, rfl⟩
  by_cases c5 : c < 97
  · have : digitZ c = 36 := by unfold digitZ; rw [if_neg (by omega), if_neg (by omega), if_neg (by omega)]
    rw [this]; clear this
    go_enter Tryd.func81, Tryd.ntmps81
    go_wp2
    go_ret
    exact ⟨rfl, rfl⟩
  by_cases c6 : c ≤ 122
  · have : digitZ c = c - 97 + 10 := by unfold digitZ; rw [if_neg (by omega), if_pos (by omega)]
    rw [this]; clear this
    go_enter Tryd.func81, Tryd.ntmps81
    go_wp2
    go_ret
    exact ⟨rfl, rfl⟩
  · have : digitZ c = 36 := by unfold digitZ; rw [if_neg (by omega), if_neg (by omega), if_neg (by omega)]
    rw [this]; clear this
    go_enter Tryd.func81, Tryd.ntmps81
    go_wp2
    go_ret
    exact ⟨rfl, rfl⟩

/-- one digit more: the number as uint64 has it, and whether it was too great -/
def stepP (base : Int) (st : Int × Bool) (c : UInt8) : Int × Bool :=
  (IntKind.u64.wrap (IntKind.u64.wrap (st.1 * base) + digitZ (c.toNat : Int)), st.2 || decide ((9223372036854775808 - digitZ (c.toNat : Int)) / base < st.1))
def foldP (base : Int) (l : List UInt8) : Int × Bool := l.foldl (stepP base) (0, false)
theorem foldP_snoc (base : Int) (l : List UInt8) (c : UInt8) : foldP base (l ++ [c]) = stepP base (foldP base l) c := by
  unfold foldP
  rw [List.foldl_append]
  rfl
theorem u64_bd (x : Int) : 0 ≤ IntKind.u64.wrap x ∧ IntKind.u64.wrap x ≤ 18446744073709551615 := by
  rw [IntKind.wrap_u64]
  omega
theorem foldP_bd (base : Int) (l : List UInt8) : 0 ≤ (foldP base l).1 ∧ (foldP base l).1 ≤ 18446744073709551615 := by
  rcases List.eq_nil_or_concat l with rfl | ⟨l', c, rfl⟩
  · exact ⟨Int.le_refl 0, by show (0 : Int) ≤ _; omega⟩
  · rw [List.concat_eq_append, foldP_snoc]
    exact u64_bd _
def digitsB (base : Int) (l : List UInt8) : Bool := l.all fun c => decide (digitZ (c.toNat : Int) < base)
/-- what Parse comes to -/
def parseR (base : Int) (l : List UInt8) : Int × Int :=
  if base < 2 ∨ 36 < base then (0, 2) else if l = [] then (0, 6) else if digitsB base l = false then (0, 6) else if (foldP base l).2 = true then (0, 11) else (wrap64 (foldP base l).1, 0)

set_option maxHeartbeats 400000 in
theorem parse_is (s : ByteArray) (base : Int) (w : World) (hs : s.size ≤ maxLen) :
    Calls Tryd.prog 71 #[.string s, .int .i64 base] w fun e w' => e = ret (parseR base s.data.toList).1 (parseR base s.data.toList).2 ∧ w' = w := by
  unfold maxLen at hs
  obtain ⟨⟨rn, rq⟩, hr⟩ : ∃ r, parseR base s.data.toList = r := ⟨_, rfl⟩
  rw [hr]
  show Calls Tryd.prog 71 #[.string s, .int .i64 base] w fun e w' => e = ret rn rq ∧ w' = w
  by_cases hb1 : base < 2
  · have hp : parseR base s.data.toList = (0, 2) := by unfold parseR; rw [if_pos (Or.inl hb1)]
    rw [hp] at hr
    cases hr
    clear hp
    go_enter Tryd.func71, Tryd.ntmps71
    go_wp2
    go_ret2
    exact ⟨rfl, rfl⟩
  by_cases hb2 : 36 < base
  · have hp : parseR base s.data.toList = (0, 2) := by unfold parseR; rw [if_pos (Or.inr hb2)]
    rw [hp] at hr
    cases hr
    clear hp
    go_enter Tryd.func71, Tryd.ntmps71
    go_wp2
    go_ret2
    exact ⟨rfl, rfl⟩
  have hb : 2 ≤ base ∧ base ≤ 36 := by omega
  have hno : ¬ (base < 2 ∨ 36 < base) := by omega
  by_cases h0 : s.data.toList = []
  · have hp : parseR base s.data.toList = (0, 6) := by unfold parseR; rw [if_neg hno, if_pos h0]
    rw [hp] at hr
    cases hr
    have he : s.toList.isEmpty = true := by rw [Lib.toList_data, h0]; rfl
    clear hp hno h0
    go_enter Tryd.func71, Tryd.ntmps71
    go_wp2
    go_ret2
    exact ⟨rfl, rfl⟩
  have he : s.toList.isEmpty = false := by
    rw [Lib.toList_data]
    cases hl : s.data.toList with
    | nil => exact absurd hl h0
    | cons _ _ => rfl
  have HP := Lib.hid (show parseR base s.data.toList = if digitsB base s.data.toList = false then (0, 6) else if (foldP base s.data.toList).2 = true then (0, 11) else (wrap64 (foldP base s.data.toList).1, 0) by
    unfold parseR; rw [if_neg hno, if_neg h0])
  rw [hr] at HP
  clear hr
  have hb1' : 2 ≤ base := hb.1
  have hb2' : base ≤ 36 := hb.2
  clear hb1 hb2 hno h0
  go_enter Tryd.func71, Tryd.ntmps71
  go_wp2
  go_loop [6, 7, 20] (fun n o i => ∃ k : Nat, k ≤ s.size ∧ i = .int .i64 k ∧ n = .int .u64 (foldP base (s.data.toList.take k)).1 ∧ o = .bool (foldP base (s.data.toList.take k)).2 ∧ Hid (digitsB base (s.data.toList.take k) = true)) (fun _ _ i => s.size - (intOf i).toNat)
  case atStart => exact ⟨0, Nat.zero_le _, rfl, rfl, rfl, rfl⟩
  case round =>
    obtain ⟨k, hk, rfl, rfl, rfl, hall⟩ := hrel
    have hbd := foldP_bd base (s.data.toList.take k)
    obtain ⟨hm0, hm1⟩ := hbd
    by_cases hlt : k < s.size
    · have hst := foldP_snoc base (s.data.toList.take k) s[k]
      rw [← take_snoc s k hlt] at hst
      have hc0 : (0 : Int) ≤ (s[k].toNat : Int) := by omega
      have hc1 : (s[k].toNat : Int) ≤ 255 := by have := s[k].toNat_lt; omega
      have hd := digitZ_bd (s[k].toNat : Int)
      have HS := Lib.hid hst
      clear hst
      by_cases hd2 : base ≤ digitZ (s[k].toNat : Int)
      · have hp : Hid ((rn, rq) = (0, 6)) := by
          show (rn, rq) = (0, 6)
          rw [HP.out, if_pos]
          unfold digitsB
          rw [List.all_eq_false]
          exact ⟨s[k], byte_mem s k hlt, by simpa using hd2⟩
        generalize foldP base (s.data.toList.take k) = st at *
        obtain ⟨m, v⟩ := st
        go_wp2_with (go_at_call 81; refine (digit_is _ _ hc0 hc1).mono ?_; rintro e w' ⟨rfl, rfl⟩)
        go_ret2
        cases hp.out
        exact ⟨rfl, rfl⟩
      · have hd3 : digitZ (s[k].toNat : Int) < base := by omega
        have hall' : Hid (digitsB base (s.data.toList.take (k + 1)) = true) := by
          show digitsB base (s.data.toList.take (k + 1)) = true
          rw [take_snoc s k hlt]
          unfold digitsB
          have h1 : (s.data.toList.take k).all (fun c => decide (digitZ (c.toNat : Int) < base)) = true := hall.out
          rw [List.all_append, h1]
          simpa using hd3
        generalize foldP base (s.data.toList.take k) = st at *
        obtain ⟨m, v⟩ := st
        have e1 : Hid ((foldP base (s.data.toList.take (k + 1))).1 = (IntKind.u64.wrap (IntKind.u64.wrap (m * base) + digitZ (s[k].toNat : Int)))) := by
          show _ = _
          rw [HS.out]; rfl
        have e2 : Hid ((foldP base (s.data.toList.take (k + 1))).2 = (v || decide ((9223372036854775808 - digitZ (s[k].toNat : Int)) / base < m))) := by
          show _ = _
          rw [HS.out]; rfl
        cases v
        all_goals
          go_wp2_with (go_at_call 81; refine (digit_is _ _ hc0 hc1).mono ?_; rintro e w' ⟨rfl, rfl⟩)
          go_round
          case rel => exact ⟨k + 1, by omega, by go_num, by rw [e1.out], by rw [e2.out]; simp, hall'⟩
          case measure => simp [intOf]; omega
    · have hfull : s.data.toList.take k = s.data.toList := List.take_of_length_le (by simp; omega)
      have hall2 : digitsB base s.data.toList = true := by rw [← hfull]; exact hall.out
      rw [hfull] at hm0 hm1 ⊢
      rw [hall2, if_neg (by simp)] at HP
      clear hfull hall2 hall
      generalize foldP base s.data.toList = st at *
      obtain ⟨m, v⟩ := st
      cases v
      · have hp : Hid ((rn, rq) = (wrap64 m, 0)) := HP.out
        go_wp2
        go_ret2
        cases hp.out
        exact ⟨rfl, rfl⟩
      · have hp : Hid ((rn, rq) = (0, 11)) := HP.out
        go_wp2
        go_ret2
        cases hp.out
        exact ⟨rfl, rfl⟩
end Go.Proofs.YtkbeaddbnnboaaaDoor
