/- The law NumShifts returns true for every input: what was moved up is moved down again; its walk. Conditions: the arguments fit their kinds; the library's table of powers of ten holds what its text lays. -/
import Derived.Test.YtppohopockieiaaDoorNumBits
namespace Go.Proofs.YtppohopockieiaaDoor
open Go Go.RowKit Go.Maps Go.Shelf

set_option maxHeartbeats 800000 in
theorem shifts_walk (a b : Int) (w : World) (ha : inR a) (hb0 : 0 ≤ b) (hb1 : b ≤ 255) (htab : Tab w) :
    Calls Tryd.prog 7 #[.int .i64 a, .int .u8 b] w fun e w' => e = .returned (.bool true) ∧ Below w.heap.size w w' := by
  have k0 : 0 ≤ b % 63 := Int.emod_nonneg b (by omega)
  have k1 : b % 63 ≤ 62 := by have := Int.emod_lt_of_pos b (show (0 : Int) < 63 by omega); omega
  have kr : inR (b % 63) := by unfold inR; omega
  have hp : (0 : Int) < 2 ^ (b % 63).toNat := Int.pow_pos (by omega)
  have hle : (2 : Int) ^ (b % 63).toNat ≤ 4611686018427387904 := by
    have h1 : (2 : Nat) ^ (b % 63).toNat ≤ 2 ^ 62 := Nat.pow_le_pow_right (by omega) (by omega)
    have h2 : ((2 ^ (b % 63).toNat : Nat) : Int) = (2 : Int) ^ (b % 63).toNat := by simp
    have h3 : (2 : Nat) ^ 62 = 4611686018427387904 := by decide
    omega
  have pr : inR (2 ^ (b % 63).toNat) := by unfold inR; omega
  have hdr : inR (a / 2 ^ (b % 63).toNat) := by
    have h1 := fdiv_in ha pr (by omega) (by omega)
    rwa [Int.fdiv_eq_ediv_of_nonneg _ (by omega)] at h1
  have hmin : min (b % 63) 63 = b % 63 := by omega
  have C2 := Lib.hid (two_right a (b % 63) (a / 2 ^ (b % 63).toNat) 0 ha kr (by unfold rightR; rw [if_neg (by omega), hmin]))
  have C3 := Lib.hid (two_floor a (2 ^ (b % 63).toNat) (a / 2 ^ (b % 63).toNat) 0 ha pr (by unfold divR; rw [if_neg (by omega), Int.fdiv_eq_ediv_of_nonneg _ (by omega), clip_in hdr]))
  have hl : leftR a (b % 63) = clip (a * 2 ^ (b % 63).toNat) := by unfold leftR; rw [if_neg (by omega)]
  by_cases h : inR (a * 2 ^ (b % 63).toNat)
  · have C1 := Lib.hid (two_left a (b % 63) (a * 2 ^ (b % 63).toNat) 0 ha kr (by rw [hl, clip_in h]))
    have C4 := Lib.hid (two_right (a * 2 ^ (b % 63).toNat) (b % 63) a 0 h kr (by unfold rightR; rw [if_neg (by omega), hmin, Int.mul_ediv_cancel _ (by omega)]))
    have C5 := Lib.hid (two_product a (2 ^ (b % 63).toNat) (a * 2 ^ (b % 63).toNat) 0 ha pr (clip_in h))
    clear hl h hmin hdr pr kr
    generalize a * 2 ^ (b % 63).toNat = up at *
    generalize a / 2 ^ (b % 63).toNat = down at *
    go_enter Tryd.func7, Tryd.ntmps7
    go_wp2_with fail
    refine (alive_is _ htab).mono ?_
    rintro e w1 ⟨rfl, b1⟩
    go_wp2_with fail
    refine (C1.out _).mono ?_
    rintro e w2 ⟨rfl, b2⟩
    go_wp2_with fail
    refine (C2.out _).mono ?_
    rintro e w3 ⟨rfl, b3⟩
    go_wp2_with fail
    refine (C3.out _).mono ?_
    rintro e w4 ⟨rfl, b4⟩
    go_wp2_with fail
    refine (C4.out _).mono ?_
    rintro e w5 ⟨rfl, b5⟩
    go_wp2_with fail
    refine (C5.out _).mono ?_
    rintro e w6 ⟨rfl, b6⟩
    go_wp2_with fail
    go_ret
    exact ⟨rfl, bt (bt (bt (bt (bt b1 b2) b3) b4) b5) b6⟩
  · have C1 := Lib.hid (two_left a (b % 63) 0 11 ha kr (by rw [hl, clip_out h]))
    clear hl h hmin hdr pr kr
    generalize a / 2 ^ (b % 63).toNat = down at *
    go_enter Tryd.func7, Tryd.ntmps7
    go_wp2_with fail
    refine (alive_is _ htab).mono ?_
    rintro e w1 ⟨rfl, b1⟩
    go_wp2_with fail
    refine (C1.out _).mono ?_
    rintro e w2 ⟨rfl, b2⟩
    go_wp2_with fail
    refine (C2.out _).mono ?_
    rintro e w3 ⟨rfl, b3⟩
    go_wp2_with fail
    refine (C3.out _).mono ?_
    rintro e w4 ⟨rfl, b4⟩
    go_wp2_with fail
    go_ret
    exact ⟨rfl, bt (bt (bt b1 b2) b3) b4⟩

end Go.Proofs.YtppohopockieiaaDoor
