/- Plain facts on 64 bits and on powers: no program in sight. Conditions: as each states. -/
import Derived.WalkKit
import Derived.WalkLawsBesides
namespace Go.Proofs.YtppohopockieiaaDoor
open Go Go.RowKit

theorem bv_int (x : BitVec 64) : IntKind.i64.wrap (x.toNat : Int) = x.toInt := by
  rw [IntKind.wrap_i64, BitVec.toInt_eq_toNat_cond]
  have := x.isLt
  split <;> omega
theorem and_bv (a b : Int) : bits .and .i64 a b = (BitVec.ofInt 64 a &&& BitVec.ofInt 64 b).toInt := bv_int _
theorem or_bv (a b : Int) : bits .or .i64 a b = (BitVec.ofInt 64 a ||| BitVec.ofInt 64 b).toInt := bv_int _
theorem xor_bv (a b : Int) : bits .xor .i64 a b = (BitVec.ofInt 64 a ^^^ BitVec.ofInt 64 b).toInt := bv_int _
theorem ofInt_toInt64 (x : BitVec 64) : BitVec.ofInt 64 x.toInt = x := BitVec.ofInt_toInt
theorem bits_join_all (a b : Int) : bits .or .i64 (bits .and .i64 a b) (bits .xor .i64 a b) = bits .or .i64 a b := by
  rw [or_bv, or_bv, and_bv, xor_bv, ofInt_toInt64, ofInt_toInt64]
  congr 1
  generalize BitVec.ofInt 64 a = x
  generalize BitVec.ofInt 64 b = y
  apply BitVec.eq_of_getLsbD_eq
  intro i hi
  simp only [BitVec.getLsbD_or, BitVec.getLsbD_and, BitVec.getLsbD_xor]
  cases x.getLsbD i <;> cases y.getLsbD i <;> rfl
theorem bits_apart_all (a b : Int) : bits .and .i64 (bits .and .i64 a b) (bits .xor .i64 a b) = 0 := by
  rw [and_bv, and_bv, xor_bv, ofInt_toInt64, ofInt_toInt64]
  generalize BitVec.ofInt 64 a = x
  generalize BitVec.ofInt 64 b = y
  have : (x &&& y) &&& (x ^^^ y) = 0#64 := by
    apply BitVec.eq_of_getLsbD_eq
    intro i hi
    simp only [BitVec.getLsbD_and, BitVec.getLsbD_xor, BitVec.getLsbD_zero]
    cases x.getLsbD i <;> cases y.getLsbD i <;> rfl
  rw [this]
  rfl
theorem turned_bv (a : Int) (h1 : -9223372036854775808 ≤ a) (h2 : a ≤ 9223372036854775807) : bits .xor .i64 (-1) a = -1 - a := by
  rw [xor_bv]
  have h3 : BitVec.ofInt 64 (-1) ^^^ BitVec.ofInt 64 a = ~~~ (BitVec.ofInt 64 a) := by
    rw [show BitVec.ofInt 64 (-1) = BitVec.allOnes 64 from by decide]
    exact BitVec.allOnes_xor
  rw [h3, BitVec.toInt_eq_toNat_cond, BitVec.toNat_not, BitVec.toNat_ofInt]
  split <;> omega

end Go.Proofs.YtppohopockieiaaDoor
