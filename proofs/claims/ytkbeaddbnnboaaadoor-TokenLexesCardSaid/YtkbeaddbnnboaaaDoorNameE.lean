/- strconv.ParseUint at base 16 and 8 into 8 bits, as package name calls it: a number of at most 255, or an error. Conditions: the text has at most 20000 bytes; for the errors: the library's two error variables hold something. -/
import Derived.Test.YtkbeaddbnnboaaaDoorNameC
import Derived.Test.YtkbeaddbnnboaaaDoorShelf
import Derived.Lib.ConvBytes
import Derived.Lib.ParseIntBMem
import Derived.Lib.Hide
import Derived.Laws.Strings3
import Derived.Laws.Closers25
import Derived.Laws.Closers25b
import Derived.BigCall
import Derived.BigGuard
namespace Go.Proofs.YtkbeaddbnnboaaaDoor
open Go Go.RowKit

/-- what a byte counts as a digit -/
def hexZ (c : Int) : Int := if 48 ≤ c ∧ c ≤ 57 then c - 48 else if 97 ≤ c ∧ c ≤ 122 then c - 97 + 10 else if 65 ≤ c ∧ c ≤ 90 then c - 65 + 10 else 99
/-- digits behind digits that came to a; none: no digit, or above 255 -/
def numF (base : Int) : Int → List UInt8 → Option Int
  | a, [] => some a
  | a, c :: t => if hexZ (c.toNat : Int) < base ∧ a * base + hexZ (c.toNat : Int) ≤ 255 then numF base (a * base + hexZ (c.toNat : Int)) t else none
def numR (base : Int) (l : List UInt8) : Option Int := if l = [] then none else numF base 0 l
/-- the inner package's answer -/
def PU (o : Option Int) (e : Ending) : Prop := match o with
  | some n => e = .returned (.tuple #[.int .u64 n, .nilIface])
  | none => ∃ n q : Int, (q = 1 ∨ q = 2) ∧ e = .returned (.tuple #[.int .u64 n, .iface 112 (.int .i64 q)])

theorem or_lower : ∀ k : Fin 256, 97 ≤ k.val ∧ k.val ≤ 122 → bits .or .u8 (k.val : Int) 32 = (k.val : Int) := by decide +kernel
theorem or_upper : ∀ k : Fin 256, 65 ≤ k.val ∧ k.val ≤ 90 → bits .or .u8 (k.val : Int) 32 = (k.val : Int) + 32 := by decide +kernel
theorem or_else : ∀ k : Fin 256, ¬ (97 ≤ k.val ∧ k.val ≤ 122) → ¬ (65 ≤ k.val ∧ k.val ≤ 90) → bits .or .u8 (k.val : Int) 32 < 97 ∨ 122 < bits .or .u8 (k.val : Int) 32 := by decide +kernel
theorem or_bd : ∀ k : Fin 256, 0 ≤ bits .or .u8 (k.val : Int) 32 ∧ bits .or .u8 (k.val : Int) 32 ≤ 255 := by decide +kernel
theorem lower_at (c x : Int) (h : bits .or .u8 c 32 = x) (w : World) : Calls Tryd.prog 101 #[.int .u8 c] w fun e w' => e = .returned (.int .u8 x) ∧ w' = w := by
  subst h
  exact Tryd.internal_strconv_lower c w

set_option maxHeartbeats 8000000 in
set_option maxRecDepth 100000 in
theorem inner_16 (t : ByteArray) (hs : t.size ≤ 20000) (w : World) :
    Calls Tryd.prog 99 #[.string t, .int .i64 16, .int .i64 8] w fun e w' => PU (numR 16 t.data.toList) e ∧ Below w.heap.size w w' := by
  obtain ⟨o, ho⟩ : ∃ o, numR 16 t.data.toList = o := ⟨_, rfl⟩
  rw [ho]
  have HO := Lib.hid ho
  clear ho
  by_cases hz : t.size = 0
  · have hemp : t.toList.isEmpty = true := by
      rw [Lib.toList_data, show t.data.toList = [] from List.eq_nil_of_length_eq_zero (by simpa using hz)]
      rfl
    have hp : Hid (o = none) := by
      show o = none
      rw [← HO.out]
      unfold numR
      rw [if_pos (List.eq_nil_of_length_eq_zero (by simpa using hz))]
    clear hz HO
    go_enter Tryd.func99, Tryd.ntmps99
    go_wp2_with fail
    go_ret2
    cases hp.out
    exact ⟨⟨0, 2, Or.inr rfl, rfl⟩, Below.refl _ _⟩
  have hemp : t.toList.isEmpty = false := by
    rw [Lib.toList_data]
    cases hl : t.data.toList with
    | nil => exact absurd (by simpa using congrArg List.length hl) hz
    | cons _ _ => rfl
  have HN0 := Lib.hid (show numF 16 0 t.data.toList = o by
    rw [← HO.out]
    unfold numR
    rw [if_neg (fun h => hz (by simpa using congrArg List.length h))])
  clear HO hz
  have hcv := Lib.run_convert_string_bytes (P := Tryd.prog) w 9 38 5 t (u := .string) Tryd.underlying9 Tryd.underlying38 Tryd.underlying5
  have hB : ∀ j, j < t.size → (Lib.bytesWorld w 5 t).cell? ⟨w.heap.size, j, none⟩ = some (.int .u8 (t.data.toList.getD j 0).toNat) := fun j hj => Lib.bytesWorld_cell w 5 t j hj
  have hBel := Lib.bytesWorld_below w 5 t
  obtain ⟨W1, hW1⟩ : ∃ W1, W1 = Lib.bytesWorld w 5 t := ⟨_, rfl⟩
  rw [← hW1] at hcv hB hBel
  clear hW1
  have HBel := Lib.hid hBel
  clear hBel
  obtain ⟨bs, hL⟩ : ∃ bs, bs = t.data.toList := ⟨_, rfl⟩
  have hLn : bs.length = t.size := by rw [hL, Lib.size_eq]
  rw [← hL] at hB HN0
  clear hL
  have hmv : IntKind.u64.wrap (IntKind.u64.wrap 256 - 1) = 255 := by
    rw [IntKind.wrap_u64, IntKind.wrap_u64]
    decide
  go_enter Tryd.func99, Tryd.ntmps99
  go_wp2_with fail
  go_loop [12, 13, 101] (fun vu vn vi => ∃ (k : Nat) (a : Int), vu = .bool false ∧ vn = .int .u64 a ∧ vi = .int .i64 k ∧ k ≤ t.size ∧ 0 ≤ a ∧ a ≤ 255 ∧ Hid (numF 16 a (bs.drop k) = o))
    (fun _ _ vi => t.size - (intOf vi).toNat)
  case atStart => exact ⟨0, 0, rfl, rfl, rfl, by omega, by omega, by omega, HN0⟩
  case round =>
    obtain ⟨k, a, rfl, rfl, rfl, hk, a0, a1, hh⟩ := hrel
    by_cases hkn : k < t.size
    · have hc := hB k hkn
      have hdrop : bs.drop k = bs[k]'(by omega) :: bs.drop (k + 1) := List.drop_eq_getElem_cons (by omega)
      have hget : bs.getD k 0 = bs[k]'(by omega) := by simp [List.getD, List.getElem?_eq_getElem (show k < bs.length by omega)]
      rw [hdrop] at hh
      rw [hget] at hc
      generalize bs[k]'(by omega) = c at hc hh
      have hc256 : c.toNat < 256 := c.toNat_lt
      obtain ⟨rest, hrest⟩ : ∃ r, bs.drop (k + 1) = r := ⟨_, rfl⟩
      have HREST := Lib.hid hrest
      rw [hrest] at hh
      clear hB hdrop hget hLn hrest
      have hstep := hh.out
      unfold numF at hstep
      by_cases q1 : 48 ≤ c.toNat ∧ c.toNat ≤ 57
      · have hd : hexZ (c.toNat : Int) = (c.toNat : Int) - 48 := by unfold hexZ; rw [if_pos (by omega)]
        obtain ⟨q1, q2⟩ := q1
        rw [hd] at hstep
        by_cases g1 : 16 ≤ (c.toNat : Int) - 48
        · rw [if_neg (by omega)] at hstep
          have hp := Lib.hid hstep.symm
          clear hstep hh hd
          go_wp2_with fail
          all_goals
            go_ret2
            cases hp.out
            exact ⟨⟨0, 2, Or.inr rfl, rfl⟩, HBel.out⟩
        by_cases g2 : 255 < a * 16 + ((c.toNat : Int) - 48)
        · rw [if_neg (by omega)] at hstep
          have hp := Lib.hid hstep.symm
          clear hstep hh hd
          go_wp2_with fail
          all_goals
            go_ret2
            cases hp.out
            exact ⟨⟨255, 1, Or.inl rfl, rfl⟩, HBel.out⟩
        · have g3 : a * 16 + ((c.toNat : Int) - 48) ≤ 255 := by omega
          have g4 : 0 ≤ a * 16 + ((c.toNat : Int) - 48) := by omega
          have g5 : (c.toNat : Int) - 48 < 16 := by omega
          rw [if_pos (by omega)] at hstep
          have HS := Lib.hid hstep
          clear hstep hh hd g1 g2
          go_wp2_with fail
          all_goals
           refine ⟨⟨k + 1, a * 16 + ((c.toNat : Int) - 48), rfl, (by first | rfl | (congr 1; omega)), (by first | rfl | (congr 1; omega)), by omega, g4, g3, by rw [HREST.out]; exact HS⟩, by simp [intOf]; omega⟩
      by_cases q2 : 97 ≤ c.toNat ∧ c.toNat ≤ 122
      · have hd : hexZ (c.toNat : Int) = (c.toNat : Int) - 97 + 10 := by unfold hexZ; rw [if_neg (by omega), if_pos (by omega)]
        have C := Lib.hid (fun w => lower_at (c.toNat : Int) (c.toNat : Int) (or_lower ⟨c.toNat, hc256⟩ q2) w)
        obtain ⟨q2, q3⟩ := q2
        rw [hd] at hstep
        have q1' : 57 < c.toNat := by omega
        clear q1
        by_cases g1 : 16 ≤ (c.toNat : Int) - 97 + 10
        · rw [if_neg (by omega)] at hstep
          have hp := Lib.hid hstep.symm
          clear hstep hh hd
          go_wp2_with (go_at_call 101; refine (C.out _).mono ?_; rintro e w' ⟨rfl, rfl⟩)
          all_goals
            go_ret2
            cases hp.out
            exact ⟨⟨0, 2, Or.inr rfl, rfl⟩, HBel.out⟩
        by_cases g2 : 255 < a * 16 + ((c.toNat : Int) - 97 + 10)
        · rw [if_neg (by omega)] at hstep
          have hp := Lib.hid hstep.symm
          clear hstep hh hd
          go_wp2_with (go_at_call 101; refine (C.out _).mono ?_; rintro e w' ⟨rfl, rfl⟩)
          all_goals
            go_ret2
            cases hp.out
            exact ⟨⟨255, 1, Or.inl rfl, rfl⟩, HBel.out⟩
        · have g3 : a * 16 + ((c.toNat : Int) - 97 + 10) ≤ 255 := by omega
          have g4 : 0 ≤ a * 16 + ((c.toNat : Int) - 97 + 10) := by omega
          have g5 : (c.toNat : Int) - 97 + 10 < 16 := by omega
          rw [if_pos (by omega)] at hstep
          have HS := Lib.hid hstep
          clear hstep hh hd g1 g2
          go_wp2_with (go_at_call 101; refine (C.out _).mono ?_; rintro e w' ⟨rfl, rfl⟩)
          all_goals
           refine ⟨⟨k + 1, a * 16 + ((c.toNat : Int) - 97 + 10), rfl, (by first | rfl | (congr 1; omega)), (by first | rfl | (congr 1; omega)), by omega, g4, g3, by rw [HREST.out]; exact HS⟩, by simp [intOf]; omega⟩
      by_cases q3 : 65 ≤ c.toNat ∧ c.toNat ≤ 90
      · have hd : hexZ (c.toNat : Int) = (c.toNat : Int) + 32 - 97 + 10 := by unfold hexZ; rw [if_neg (by omega), if_neg (by omega), if_pos (by omega)]; omega
        have C := Lib.hid (fun w => lower_at (c.toNat : Int) ((c.toNat : Int) + 32) (or_upper ⟨c.toNat, hc256⟩ q3) w)
        obtain ⟨q3, q4⟩ := q3
        rw [hd] at hstep
        have q1' : 57 < c.toNat := by omega
        clear q1 q2
        by_cases g1 : 16 ≤ (c.toNat : Int) + 32 - 97 + 10
        · rw [if_neg (by omega)] at hstep
          have hp := Lib.hid hstep.symm
          clear hstep hh hd
          go_wp2_with (go_at_call 101; refine (C.out _).mono ?_; rintro e w' ⟨rfl, rfl⟩)
          all_goals
            go_ret2
            cases hp.out
            exact ⟨⟨0, 2, Or.inr rfl, rfl⟩, HBel.out⟩
        by_cases g2 : 255 < a * 16 + ((c.toNat : Int) + 32 - 97 + 10)
        · rw [if_neg (by omega)] at hstep
          have hp := Lib.hid hstep.symm
          clear hstep hh hd
          go_wp2_with (go_at_call 101; refine (C.out _).mono ?_; rintro e w' ⟨rfl, rfl⟩)
          all_goals
            go_ret2
            cases hp.out
            exact ⟨⟨255, 1, Or.inl rfl, rfl⟩, HBel.out⟩
        · have g3 : a * 16 + ((c.toNat : Int) + 32 - 97 + 10) ≤ 255 := by omega
          have g4 : 0 ≤ a * 16 + ((c.toNat : Int) + 32 - 97 + 10) := by omega
          have g5 : (c.toNat : Int) + 32 - 97 + 10 < 16 := by omega
          rw [if_pos (by omega)] at hstep
          have HS := Lib.hid hstep
          clear hstep hh hd g1 g2
          go_wp2_with (go_at_call 101; refine (C.out _).mono ?_; rintro e w' ⟨rfl, rfl⟩)
          all_goals
           refine ⟨⟨k + 1, a * 16 + ((c.toNat : Int) + 32 - 97 + 10), rfl, (by first | rfl | (congr 1; omega)), (by first | rfl | (congr 1; omega)), by omega, g4, g3, by rw [HREST.out]; exact HS⟩, by simp [intOf]; omega⟩
      · have hd : hexZ (c.toNat : Int) = 99 := by unfold hexZ; rw [if_neg (by omega), if_neg (by omega), if_neg (by omega)]
        rw [hd, if_neg (by omega)] at hstep
        have hp := Lib.hid hstep.symm
        by_cases h95 : c.toNat = 95
        · obtain rfl : c = 95 := UInt8.toNat_inj.1 (by simpa using h95)
          have C := Lib.hid (fun w => lower_at 95 127 (by decide +kernel) w)
          clear hstep hh hd q1 q2 q3 h95
          go_wp2_with (go_at_call 101; refine (C.out _).mono ?_; rintro e w' ⟨rfl, rfl⟩)
          go_ret2
          cases hp.out
          exact ⟨⟨0, 2, Or.inr rfl, rfl⟩, HBel.out⟩
        have h95' : ((c.toNat : Int) == 95) = false := beq_eq_false_iff_ne.2 (by omega)
        obtain ⟨x, hx⟩ : ∃ x, bits .or .u8 (c.toNat : Int) 32 = x := ⟨_, rfl⟩
        have C := Lib.hid (fun w => lower_at (c.toNat : Int) x hx w)
        have hx1 := or_else ⟨c.toNat, hc256⟩ q2 q3
        have hx2 := or_bd ⟨c.toNat, hc256⟩
        simp only [hx] at hx1 hx2
        obtain ⟨hx2, hx3⟩ := hx2
        clear hstep hh hd hx q2 q3 h95
        have q1' : c.toNat < 48 ∨ 57 < c.toNat := by omega
        clear q1
        rcases q1' with q1 | q1 <;> rcases hx1 with hx1 | hx1
        all_goals
          go_wp2_with (go_at_call 101; refine (C.out _).mono ?_; rintro e w' ⟨rfl, rfl⟩)
          all_goals
            go_ret2
            cases hp.out
            exact ⟨⟨0, 2, Or.inr rfl, rfl⟩, HBel.out⟩
    · obtain rfl : k = t.size := by omega
      have h1 : bs.drop t.size = [] := List.drop_eq_nil_of_le (by omega)
      rw [h1] at hh
      have hp := Lib.hid (show o = some a from hh.out.symm)
      clear hh h1 hB
      go_wp2_with fail
      go_ret2
      cases hp.out
      exact ⟨rfl, HBel.out⟩

set_option maxHeartbeats 8000000 in
set_option maxRecDepth 100000 in
theorem inner_8 (t : ByteArray) (hs : t.size ≤ 20000) (w : World) :
    Calls Tryd.prog 99 #[.string t, .int .i64 8, .int .i64 8] w fun e w' => PU (numR 8 t.data.toList) e ∧ Below w.heap.size w w' := by
  obtain ⟨o, ho⟩ : ∃ o, numR 8 t.data.toList = o := ⟨_, rfl⟩
  rw [ho]
  have HO := Lib.hid ho
  clear ho
  by_cases hz : t.size = 0
  · have hemp : t.toList.isEmpty = true := by
      rw [Lib.toList_data, show t.data.toList = [] from List.eq_nil_of_length_eq_zero (by simpa using hz)]
      rfl
    have hp : Hid (o = none) := by
      show o = none
      rw [← HO.out]
      unfold numR
      rw [if_pos (List.eq_nil_of_length_eq_zero (by simpa using hz))]
    clear hz HO
    go_enter Tryd.func99, Tryd.ntmps99
    go_wp2_with fail
    go_ret2
    cases hp.out
    exact ⟨⟨0, 2, Or.inr rfl, rfl⟩, Below.refl _ _⟩
  have hemp : t.toList.isEmpty = false := by
    rw [Lib.toList_data]
    cases hl : t.data.toList with
    | nil => exact absurd (by simpa using congrArg List.length hl) hz
    | cons _ _ => rfl
  have HN0 := Lib.hid (show numF 8 0 t.data.toList = o by
    rw [← HO.out]
    unfold numR
    rw [if_neg (fun h => hz (by simpa using congrArg List.length h))])
  clear HO hz
  have hcv := Lib.run_convert_string_bytes (P := Tryd.prog) w 9 38 5 t (u := .string) Tryd.underlying9 Tryd.underlying38 Tryd.underlying5
  have hB : ∀ j, j < t.size → (Lib.bytesWorld w 5 t).cell? ⟨w.heap.size, j, none⟩ = some (.int .u8 (t.data.toList.getD j 0).toNat) := fun j hj => Lib.bytesWorld_cell w 5 t j hj
  have hBel := Lib.bytesWorld_below w 5 t
  obtain ⟨W1, hW1⟩ : ∃ W1, W1 = Lib.bytesWorld w 5 t := ⟨_, rfl⟩
  rw [← hW1] at hcv hB hBel
  clear hW1
  have HBel := Lib.hid hBel
  clear hBel
  obtain ⟨bs, hL⟩ : ∃ bs, bs = t.data.toList := ⟨_, rfl⟩
  have hLn : bs.length = t.size := by rw [hL, Lib.size_eq]
  rw [← hL] at hB HN0
  clear hL
  have hmv : IntKind.u64.wrap (IntKind.u64.wrap 256 - 1) = 255 := by
    rw [IntKind.wrap_u64, IntKind.wrap_u64]
    decide
  go_enter Tryd.func99, Tryd.ntmps99
  go_wp2_with fail
  go_loop [12, 13, 101] (fun vu vn vi => ∃ (k : Nat) (a : Int), vu = .bool false ∧ vn = .int .u64 a ∧ vi = .int .i64 k ∧ k ≤ t.size ∧ 0 ≤ a ∧ a ≤ 255 ∧ Hid (numF 8 a (bs.drop k) = o))
    (fun _ _ vi => t.size - (intOf vi).toNat)
  case atStart => exact ⟨0, 0, rfl, rfl, rfl, by omega, by omega, by omega, HN0⟩
  case round =>
    obtain ⟨k, a, rfl, rfl, rfl, hk, a0, a1, hh⟩ := hrel
    by_cases hkn : k < t.size
    · have hc := hB k hkn
      have hdrop : bs.drop k = bs[k]'(by omega) :: bs.drop (k + 1) := List.drop_eq_getElem_cons (by omega)
      have hget : bs.getD k 0 = bs[k]'(by omega) := by simp [List.getD, List.getElem?_eq_getElem (show k < bs.length by omega)]
      rw [hdrop] at hh
      rw [hget] at hc
      generalize bs[k]'(by omega) = c at hc hh
      have hc256 : c.toNat < 256 := c.toNat_lt
      obtain ⟨rest, hrest⟩ : ∃ r, bs.drop (k + 1) = r := ⟨_, rfl⟩
      have HREST := Lib.hid hrest
      rw [hrest] at hh
      clear hB hdrop hget hLn hrest
      have hstep := hh.out
      unfold numF at hstep
      by_cases q1 : 48 ≤ c.toNat ∧ c.toNat ≤ 57
      · have hd : hexZ (c.toNat : Int) = (c.toNat : Int) - 48 := by unfold hexZ; rw [if_pos (by omega)]
        obtain ⟨q1, q2⟩ := q1
        rw [hd] at hstep
        by_cases g1 : 8 ≤ (c.toNat : Int) - 48
        · rw [if_neg (by omega)] at hstep
          have hp := Lib.hid hstep.symm
          clear hstep hh hd
          go_wp2_with fail
          all_goals
            go_ret2
            cases hp.out
            exact ⟨⟨0, 2, Or.inr rfl, rfl⟩, HBel.out⟩
        by_cases g2 : 255 < a * 8 + ((c.toNat : Int) - 48)
        · rw [if_neg (by omega)] at hstep
          have hp := Lib.hid hstep.symm
          clear hstep hh hd
          go_wp2_with fail
          all_goals
            go_ret2
            cases hp.out
            exact ⟨⟨255, 1, Or.inl rfl, rfl⟩, HBel.out⟩
        · have g3 : a * 8 + ((c.toNat : Int) - 48) ≤ 255 := by omega
          have g4 : 0 ≤ a * 8 + ((c.toNat : Int) - 48) := by omega
          have g5 : (c.toNat : Int) - 48 < 8 := by omega
          rw [if_pos (by omega)] at hstep
          have HS := Lib.hid hstep
          clear hstep hh hd g1 g2
          go_wp2_with fail
          all_goals
           refine ⟨⟨k + 1, a * 8 + ((c.toNat : Int) - 48), rfl, (by first | rfl | (congr 1; omega)), (by first | rfl | (congr 1; omega)), by omega, g4, g3, by rw [HREST.out]; exact HS⟩, by simp [intOf]; omega⟩
      by_cases q2 : 97 ≤ c.toNat ∧ c.toNat ≤ 122
      · have hd : hexZ (c.toNat : Int) = (c.toNat : Int) - 97 + 10 := by unfold hexZ; rw [if_neg (by omega), if_pos (by omega)]
        have C := Lib.hid (fun w => lower_at (c.toNat : Int) (c.toNat : Int) (or_lower ⟨c.toNat, hc256⟩ q2) w)
        obtain ⟨q2, q3⟩ := q2
        rw [hd] at hstep
        have q1' : 57 < c.toNat := by omega
        clear q1
        by_cases g1 : 8 ≤ (c.toNat : Int) - 97 + 10
        · rw [if_neg (by omega)] at hstep
          have hp := Lib.hid hstep.symm
          clear hstep hh hd
          go_wp2_with (go_at_call 101; refine (C.out _).mono ?_; rintro e w' ⟨rfl, rfl⟩)
          all_goals
            go_ret2
            cases hp.out
            exact ⟨⟨0, 2, Or.inr rfl, rfl⟩, HBel.out⟩
        by_cases g2 : 255 < a * 8 + ((c.toNat : Int) - 97 + 10)
        · rw [if_neg (by omega)] at hstep
          have hp := Lib.hid hstep.symm
          clear hstep hh hd
          go_wp2_with (go_at_call 101; refine (C.out _).mono ?_; rintro e w' ⟨rfl, rfl⟩)
          all_goals
            go_ret2
            cases hp.out
            exact ⟨⟨255, 1, Or.inl rfl, rfl⟩, HBel.out⟩
        · have g3 : a * 8 + ((c.toNat : Int) - 97 + 10) ≤ 255 := by omega
          have g4 : 0 ≤ a * 8 + ((c.toNat : Int) - 97 + 10) := by omega
          have g5 : (c.toNat : Int) - 97 + 10 < 8 := by omega
          rw [if_pos (by omega)] at hstep
          have HS := Lib.hid hstep
          clear hstep hh hd g1 g2
          go_wp2_with (go_at_call 101; refine (C.out _).mono ?_; rintro e w' ⟨rfl, rfl⟩)
          all_goals
           refine ⟨⟨k + 1, a * 8 + ((c.toNat : Int) - 97 + 10), rfl, (by first | rfl | (congr 1; omega)), (by first | rfl | (congr 1; omega)), by omega, g4, g3, by rw [HREST.out]; exact HS⟩, by simp [intOf]; omega⟩
      by_cases q3 : 65 ≤ c.toNat ∧ c.toNat ≤ 90
      · have hd : hexZ (c.toNat : Int) = (c.toNat : Int) + 32 - 97 + 10 := by unfold hexZ; rw [if_neg (by omega), if_neg (by omega), if_pos (by omega)]; omega
        have C := Lib.hid (fun w => lower_at (c.toNat : Int) ((c.toNat : Int) + 32) (or_upper ⟨c.toNat, hc256⟩ q3) w)
        obtain ⟨q3, q4⟩ := q3
        rw [hd] at hstep
        have q1' : 57 < c.toNat := by omega
        clear q1 q2
        by_cases g1 : 8 ≤ (c.toNat : Int) + 32 - 97 + 10
        · rw [if_neg (by omega)] at hstep
          have hp := Lib.hid hstep.symm
          clear hstep hh hd
          go_wp2_with (go_at_call 101; refine (C.out _).mono ?_; rintro e w' ⟨rfl, rfl⟩)
          all_goals
            go_ret2
            cases hp.out
            exact ⟨⟨0, 2, Or.inr rfl, rfl⟩, HBel.out⟩
        by_cases g2 : 255 < a * 8 + ((c.toNat : Int) + 32 - 97 + 10)
        · rw [if_neg (by omega)] at hstep
          have hp := Lib.hid hstep.symm
          clear hstep hh hd
          go_wp2_with (go_at_call 101; refine (C.out _).mono ?_; rintro e w' ⟨rfl, rfl⟩)
          all_goals
            go_ret2
            cases hp.out
            exact ⟨⟨255, 1, Or.inl rfl, rfl⟩, HBel.out⟩
        · have g3 : a * 8 + ((c.toNat : Int) + 32 - 97 + 10) ≤ 255 := by omega
          have g4 : 0 ≤ a * 8 + ((c.toNat : Int) + 32 - 97 + 10) := by omega
          have g5 : (c.toNat : Int) + 32 - 97 + 10 < 8 := by omega
          rw [if_pos (by omega)] at hstep
          have HS := Lib.hid hstep
          clear hstep hh hd g1 g2
          go_wp2_with (go_at_call 101; refine (C.out _).mono ?_; rintro e w' ⟨rfl, rfl⟩)
          all_goals
           refine ⟨⟨k + 1, a * 8 + ((c.toNat : Int) + 32 - 97 + 10), rfl, (by first | rfl | (congr 1; omega)), (by first | rfl | (congr 1; omega)), by omega, g4, g3, by rw [HREST.out]; exact HS⟩, by simp [intOf]; omega⟩
      · have hd : hexZ (c.toNat : Int) = 99 := by unfold hexZ; rw [if_neg (by omega), if_neg (by omega), if_neg (by omega)]
        rw [hd, if_neg (by omega)] at hstep
        have hp := Lib.hid hstep.symm
        by_cases h95 : c.toNat = 95
        · obtain rfl : c = 95 := UInt8.toNat_inj.1 (by simpa using h95)
          have C := Lib.hid (fun w => lower_at 95 127 (by decide +kernel) w)
          clear hstep hh hd q1 q2 q3 h95
          go_wp2_with (go_at_call 101; refine (C.out _).mono ?_; rintro e w' ⟨rfl, rfl⟩)
          go_ret2
          cases hp.out
          exact ⟨⟨0, 2, Or.inr rfl, rfl⟩, HBel.out⟩
        have h95' : ((c.toNat : Int) == 95) = false := beq_eq_false_iff_ne.2 (by omega)
        obtain ⟨x, hx⟩ : ∃ x, bits .or .u8 (c.toNat : Int) 32 = x := ⟨_, rfl⟩
        have C := Lib.hid (fun w => lower_at (c.toNat : Int) x hx w)
        have hx1 := or_else ⟨c.toNat, hc256⟩ q2 q3
        have hx2 := or_bd ⟨c.toNat, hc256⟩
        simp only [hx] at hx1 hx2
        obtain ⟨hx2, hx3⟩ := hx2
        clear hstep hh hd hx q2 q3 h95
        have q1' : c.toNat < 48 ∨ 57 < c.toNat := by omega
        clear q1
        rcases q1' with q1 | q1 <;> rcases hx1 with hx1 | hx1
        all_goals
          go_wp2_with (go_at_call 101; refine (C.out _).mono ?_; rintro e w' ⟨rfl, rfl⟩)
          all_goals
            go_ret2
            cases hp.out
            exact ⟨⟨0, 2, Or.inr rfl, rfl⟩, HBel.out⟩
    · obtain rfl : k = t.size := by omega
      have h1 : bs.drop t.size = [] := List.drop_eq_nil_of_le (by omega)
      rw [h1] at hh
      have hp := Lib.hid (show o = some a from hh.out.symm)
      clear hh h1 hB
      go_wp2_with fail
      go_ret2
      cases hp.out
      exact ⟨rfl, HBel.out⟩

end Go.Proofs.YtkbeaddbnnboaaaDoor
