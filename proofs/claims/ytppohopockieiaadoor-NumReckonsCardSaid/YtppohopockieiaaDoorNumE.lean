/- num.Two at its quotients, sums and differences, and the document's examples hold (alive). Conditions: the library's table of powers of ten holds what its text lays. -/
import Derived.Test.YtppohopockieiaaDoorNumC
import Derived.Test.YtppohopockieiaaDoorNumD
namespace Go.Proofs.YtppohopockieiaaDoor
open Go Go.RowKit Go.Maps Go.Shelf

theorem at_sum : twoD.atKey (.string [43]) .nil = .lit (.int .i64 (31 : Nat)) := by kernel_rfl
theorem at_difference : twoD.atKey (.string [45]) .nil = .lit (.int .i64 (32 : Nat)) := by kernel_rfl
theorem at_quotient : twoD.atKey (.string [47, 47]) .nil = .lit (.int .i64 (34 : Nat)) := by kernel_rfl
theorem at_rest : twoD.atKey (.string [114, 101, 109]) .nil = .lit (.int .i64 (35 : Nat)) := by kernel_rfl
theorem at_floor : twoD.atKey (.string [100, 105, 118]) .nil = .lit (.int .i64 (36 : Nat)) := by kernel_rfl
theorem at_modulus : twoD.atKey (.string [109, 111, 100]) .nil = .lit (.int .i64 (37 : Nat)) := by kernel_rfl

theorem two_sum (a b n q : Int) (ha : inR a) (hb : inR b) (h : clip (a + b) = (n, q)) (w : World) :
    Calls Tryd.prog 11 #[.string { data := #[43] }, .int .i64 a, .int .i64 b] w fun e w' => e = ret n q ∧ Below w.heap.size w w' :=
  two_by _ (by decide) _ (enters_of Tryd.func31 (by kernel_rfl) rfl) at_sum a b n q (fun w => by have := sum_is a b w ha hb; rw [h] at this; exact this) w
theorem two_difference (a b n q : Int) (ha : inR a) (hb : inR b) (h : clip (a - b) = (n, q)) (w : World) :
    Calls Tryd.prog 11 #[.string { data := #[45] }, .int .i64 a, .int .i64 b] w fun e w' => e = ret n q ∧ Below w.heap.size w w' :=
  two_by _ (by decide) _ (enters_of Tryd.func32 (by kernel_rfl) rfl) at_difference a b n q (fun w => by have := difference_is a b w ha hb; rw [h] at this; exact this) w
theorem two_quotient (a b n q : Int) (ha : inR a) (hb : inR b) (h : quoR a b = (n, q)) (w : World) :
    Calls Tryd.prog 11 #[.string { data := #[47, 47] }, .int .i64 a, .int .i64 b] w fun e w' => e = ret n q ∧ Below w.heap.size w w' :=
  two_by _ (by decide) _ (enters_of Tryd.func34 (by kernel_rfl) rfl) at_quotient a b n q (fun w => by have := quotient_is a b w ha hb; rw [h] at this; exact this) w
theorem two_rest (a b n q : Int) (ha : inR a) (hb : inR b) (h : remR a b = (n, q)) (w : World) :
    Calls Tryd.prog 11 #[.string { data := #[114, 101, 109] }, .int .i64 a, .int .i64 b] w fun e w' => e = ret n q ∧ Below w.heap.size w w' :=
  two_by _ (by decide) _ (enters_of Tryd.func35 (by kernel_rfl) rfl) at_rest a b n q (fun w => by have := rest_is a b w ha hb; rw [h] at this; exact this) w
theorem two_floor (a b n q : Int) (ha : inR a) (hb : inR b) (h : divR a b = (n, q)) (w : World) :
    Calls Tryd.prog 11 #[.string { data := #[100, 105, 118] }, .int .i64 a, .int .i64 b] w fun e w' => e = ret n q ∧ Below w.heap.size w w' :=
  two_by _ (by decide) _ (enters_of Tryd.func36 (by kernel_rfl) rfl) at_floor a b n q (fun w => by have := floor_is a b w ha hb; rw [h] at this; exact this) w
theorem two_modulus (a b n q : Int) (ha : inR a) (hb : inR b) (h : modR a b = (n, q)) (w : World) :
    Calls Tryd.prog 11 #[.string { data := #[109, 111, 100] }, .int .i64 a, .int .i64 b] w fun e w' => e = ret n q ∧ Below w.heap.size w w' :=
  two_by _ (by decide) _ (enters_of Tryd.func37 (by kernel_rfl) rfl) at_modulus a b n q (fun w => by have := modulus_is a b w ha hb; rw [h] at this; exact this) w

/-- the table of powers of ten, in later worlds, too -/
def Tab (w : World) : Prop := Lib.TabIs Tryd.prog w "internal/strconv.uint64pow10" .u64 Lib.pow10Tab
theorem Tab.on {w w' : World} (h : Tab w) (hb : Below w.heap.size w w') : Tab w' := by
  unfold Tab Lib.TabIs World.var? at *
  cases hg : Program.globalNamed Tryd.prog "internal/strconv.uint64pow10" with
  | none => simp [hg] at h
  | some g =>
    simp only [hg, Option.bind_some] at h ⊢
    have hlt : g < w.heap.size := by
      rcases Nat.lt_or_ge g w.heap.size with h' | h'
      · exact h'
      · rw [Array.getElem?_eq_none h'] at h; simp at h
    rw [hb.block g hlt]
    exact h

theorem decDigits_small {u : Nat} (h : u < 10) : Lib.decDigits u = [UInt8.ofNat (48 + u)] := by rw [Lib.decDigits, dif_pos h]
theorem decDigits_big {u : Nat} (h : ¬ u < 10) : Lib.decDigits u = Lib.decDigits (u / 10) ++ [UInt8.ofNat (48 + u % 10)] := by rw [Lib.decDigits, dif_neg h]
/-- the digits, as many as n at most: by plain recursion -/
def digitsN : Nat → Nat → List UInt8
  | 0, u => [UInt8.ofNat (48 + u)]
  | n + 1, u => if u < 10 then [UInt8.ofNat (48 + u)] else digitsN n (u / 10) ++ [UInt8.ofNat (48 + u % 10)]
theorem digitsN_eq : ∀ (n u : Nat), u < 10 ^ (n + 1) → digitsN n u = Lib.decDigits u
  | 0, u, h => by
    exact (decDigits_small (by simpa using h)).symm
  | n + 1, u, h => by
    unfold digitsN
    by_cases h1 : u < 10
    · rw [if_pos h1, decDigits_small h1]
    · rw [if_neg h1, decDigits_big h1, digitsN_eq n (u / 10) (by rw [Nat.pow_succ] at h; omega)]
theorem itoa_least : Lib.itoa (-9223372036854775808) = [45, 57, 50, 50, 51, 51, 55, 50, 48, 51, 54, 56, 53, 52, 55, 55, 53, 56, 48, 56] := by
  unfold Lib.itoa
  rw [if_pos (by omega), show Int.natAbs (-9223372036854775808) = 9223372036854775808 from rfl, ← digitsN_eq 19 9223372036854775808 (by decide +kernel)]
  decide +kernel

set_option maxHeartbeats 400000 in
theorem alive_is (w : World) (htab : Tab w) : Calls Tryd.prog 10 #[] w fun e w' => e = .returned (.bool true) ∧ Below w.heap.size w w' := by
  have i7 : inR (-7) := by unfold inR; omega
  have i2 : inR 2 := by unfold inR; omega
  have c1 := two_quotient (-7) 2 (-3) 0 i7 i2 (by decide)
  have c2 := two_floor (-7) 2 (-4) 0 i7 i2 (by decide)
  have c3 := two_modulus (-7) 2 1 0 i7 i2 (by decide)
  have c4 := two_rest (-7) 2 (-1) 0 i7 i2 (by decide)
  have c5 := two_sum 9223372036854775807 1 0 11 (by unfold inR; omega) (by unfold inR; omega) (by decide)
  have c6 := fun w => parse_is { data := #[102, 102] } 16 w (by decide)
  have c7 := print_is (-9223372036854775808)
  rw [show parseR 16 (ByteArray.data { data := #[102, 102] }).toList = (255, 0) by kernel_rfl] at c6
  have C1 := Lib.hid c1
  have C2 := Lib.hid c2
  have C3 := Lib.hid c3
  have C4 := Lib.hid c4
  have C5 := Lib.hid c5
  have C6 := Lib.hid c6
  have C7 := Lib.hid c7
  clear c1 c2 c3 c4 c5 c6 c7 i7 i2
  go_enter Tryd.func10, Tryd.ntmps10
  go_wp2_with fail
  refine (C1.out _).mono ?_
  rintro e w1 ⟨rfl, b1⟩
  go_wp2_with fail
  refine (C2.out _).mono ?_
  rintro e w2 ⟨rfl, b2⟩
  go_wp2_with fail
  refine (C3.out _).mono ?_
  rintro e w3 ⟨rfl, b3⟩
  go_wp2_with fail
  refine (C4.out _).mono ?_
  rintro e w4 ⟨rfl, b4⟩
  go_wp2_with fail
  refine (C5.out _).mono ?_
  rintro e w5 ⟨rfl, b5⟩
  go_wp2_with fail
  refine (C6.out _).mono ?_
  rintro e w6 ⟨rfl, rfl⟩
  go_wp2_with fail
  have t6 := (htab.on b1).on b2 |>.on b3 |>.on b4 |>.on b5
  refine (C7.out _ (by unfold inR; omega) t6).mono ?_
  rintro e w7 ⟨rfl, b7⟩
  go_wp2_with fail
  go_ret
  exact ⟨by rw [itoa_least]; rfl, ((((b1.trans (b2.mono b1.size)).trans (b3.mono (Nat.le_trans b1.size b2.size))).trans (b4.mono (Nat.le_trans (Nat.le_trans b1.size b2.size) b3.size))).trans (b5.mono (Nat.le_trans (Nat.le_trans (Nat.le_trans b1.size b2.size) b3.size) b4.size))).trans (b7.mono (Nat.le_trans (Nat.le_trans (Nat.le_trans (Nat.le_trans b1.size b2.size) b3.size) b4.size) b5.size))⟩

end Go.Proofs.YtppohopockieiaaDoor
