/- The operators of package num that work bit by bit, least and greatest, and those of one number: contracts over the translated text. Conditions: the arguments fit int64. -/
import Derived.Test.YtppohopockieiaaDoorNumA
import Derived.Test.YtppohopockieiaaDoorNumM
import Derived.Lib.Hide
namespace Go.Proofs.YtppohopockieiaaDoor
open Go Go.RowKit

def andZ (a b : Int) : Int := bits .and .i64 a b
def orZ (a b : Int) : Int := bits .or .i64 a b
def xorZ (a b : Int) : Int := bits .xor .i64 a b

set_option maxHeartbeats 400000 in
theorem and_is (a b : Int) (w : World) :
    Calls Tryd.prog 40 #[.agg #[.int .i64 a, .int .i64 b]] w fun e w' => e = ret (andZ a b) 0 ∧ Below w.heap.size w w' := by
  unfold andZ
  go_enter Tryd.func40, Tryd.ntmps40
  go_wp2
  go_ret2
  exact ⟨rfl, (Below.refl _ _).alloc (Nat.le_refl _) _⟩
set_option maxHeartbeats 400000 in
theorem or_is (a b : Int) (w : World) :
    Calls Tryd.prog 41 #[.agg #[.int .i64 a, .int .i64 b]] w fun e w' => e = ret (orZ a b) 0 ∧ Below w.heap.size w w' := by
  unfold orZ
  go_enter Tryd.func41, Tryd.ntmps41
  go_wp2
  go_ret2
  exact ⟨rfl, (Below.refl _ _).alloc (Nat.le_refl _) _⟩
set_option maxHeartbeats 400000 in
theorem xor_is (a b : Int) (w : World) :
    Calls Tryd.prog 42 #[.agg #[.int .i64 a, .int .i64 b]] w fun e w' => e = ret (xorZ a b) 0 ∧ Below w.heap.size w w' := by
  unfold xorZ
  go_enter Tryd.func42, Tryd.ntmps42
  go_wp2
  go_ret2
  exact ⟨rfl, (Below.refl _ _).alloc (Nat.le_refl _) _⟩
set_option maxHeartbeats 400000 in
theorem turned_is (a : Int) (w : World) (ha : inR a) :
    Calls Tryd.prog 51 #[.int .i64 a] w fun e w' => e = ret (-1 - a) 0 ∧ w' = w := by
  rw [← turned_bv a ha.1 ha.2]
  go_enter Tryd.func51, Tryd.ntmps51
  go_wp2
  go_ret2
  exact ⟨rfl, rfl⟩
set_option maxHeartbeats 400000 in
theorem itself_is (a : Int) (w : World) :
    Calls Tryd.prog 48 #[.int .i64 a] w fun e w' => e = ret a 0 ∧ w' = w := by
  go_enter Tryd.func48, Tryd.ntmps48
  go_wp2
  go_ret2
  exact ⟨rfl, rfl⟩
def signZ (a : Int) : Int := if a < 0 then -1 else if 0 < a then 1 else 0
set_option maxHeartbeats 400000 in
theorem sign_is (a : Int) (w : World) :
    Calls Tryd.prog 50 #[.int .i64 a] w fun e w' => e = ret (signZ a) 0 ∧ w' = w := by
  by_cases h1 : a < 0
  · have : signZ a = -1 := by unfold signZ; rw [if_pos h1]
    rw [this]; clear this
    go_enter Tryd.func50, Tryd.ntmps50
    go_wp2
    go_ret2
    exact ⟨rfl, rfl⟩
  by_cases h2 : 0 < a
  · have : signZ a = 1 := by unfold signZ; rw [if_neg h1, if_pos h2]
    rw [this]; clear this
    go_enter Tryd.func50, Tryd.ntmps50
    go_wp2
    go_ret2
    exact ⟨rfl, rfl⟩
  · have : signZ a = 0 := by unfold signZ; rw [if_neg h1, if_neg h2]
    rw [this]; clear this
    go_enter Tryd.func50, Tryd.ntmps50
    go_wp2
    go_ret2
    exact ⟨rfl, rfl⟩
def minZ (a b : Int) : Int := if a ≤ b then a else b
def maxZ (a b : Int) : Int := if a < b then b else a
set_option maxHeartbeats 400000 in
theorem least_is (a b : Int) (w : World) :
    Calls Tryd.prog 38 #[.agg #[.int .i64 a, .int .i64 b]] w fun e w' => e = ret (minZ a b) 0 ∧ Below w.heap.size w w' := by
  by_cases h : a ≤ b
  · have hz : minZ a b = a := if_pos h
    rw [hz]; clear hz
    go_enter Tryd.func38, Tryd.ntmps38
    go_wp2
    go_ret2
    exact ⟨rfl, (Below.refl _ _).alloc (Nat.le_refl _) _⟩
  · have hz : minZ a b = b := if_neg h
    rw [hz]; clear hz
    go_enter Tryd.func38, Tryd.ntmps38
    go_wp2
    go_ret2
    exact ⟨rfl, (Below.refl _ _).alloc (Nat.le_refl _) _⟩
set_option maxHeartbeats 400000 in
theorem greatest_is (a b : Int) (w : World) :
    Calls Tryd.prog 39 #[.agg #[.int .i64 a, .int .i64 b]] w fun e w' => e = ret (maxZ a b) 0 ∧ Below w.heap.size w w' := by
  by_cases h : a < b
  · have hz : maxZ a b = b := if_pos h
    rw [hz]; clear hz
    go_enter Tryd.func39, Tryd.ntmps39
    go_wp2
    go_ret2
    exact ⟨rfl, (Below.refl _ _).alloc (Nat.le_refl _) _⟩
  · have hz : maxZ a b = a := if_neg h
    rw [hz]; clear hz
    go_enter Tryd.func39, Tryd.ntmps39
    go_wp2
    go_ret2
    exact ⟨rfl, (Below.refl _ _).alloc (Nat.le_refl _) _⟩

end Go.Proofs.YtppohopockieiaaDoor
