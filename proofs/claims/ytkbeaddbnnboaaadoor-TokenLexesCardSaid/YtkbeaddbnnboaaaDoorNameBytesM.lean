/- When texts of one and of two bytes are plain (plain mathematics). Conditions: none. -/
import Derived.Test.YtkbeaddbnnboaaaDoorNameD
namespace Go.Proofs.YtkbeaddbnnboaaaDoor
open Go Go.RowKit

def oneB (k c : Int) : Bool := k == 2 || k == 5 && c != 46 || k == 6
def twoB (k l c d : Int) : Bool := k == 2 && (l == 2 || l == 3 || l == 4) || k == 5 && l == 5 && !(c == 47 && d == 42) || c == 91 && d == 93 || c == 123 && d == 125
theorem one_eq : ∀ k : Fin 256, plainB [UInt8.ofNat k.val] = oneB (sortZ (k.val : Int)) k.val := by decide +kernel
theorem beq_int (b n : UInt8) : (b == n) = ((b.toNat : Int) == (n.toNat : Int)) := by
  rw [Bool.eq_iff_iff]
  simp only [beq_iff_eq]
  constructor
  · rintro rfl; rfl
  · intro h; exact UInt8.toNat_inj.1 (by omega)
theorem flip_beq (a b : UInt8) : (a == b) = (b == a) := by
  by_cases h : a = b
  · subst h; rfl
  · rw [beq_eq_false_iff_ne.2 h, beq_eq_false_iff_ne.2 (fun e => h e.symm)]
theorem two_eq (b b' : UInt8) : plainB [b, b'] = twoB (sortZ (b.toNat : Int)) (sortZ (b'.toNat : Int)) b.toNat b'.toNat := by
  have e1 : ([b, b'] == [91, 93]) = ((b.toNat : Int) == 91 && (b'.toNat : Int) == 93) := by
    show (b == 91 && (b' == 93 && true)) = _
    rw [beq_int b 91, beq_int b' 93, Bool.and_true]
    rfl
  have e2 : ([b, b'] == [123, 125]) = ((b.toNat : Int) == 123 && (b'.toNat : Int) == 125) := by
    show (b == 123 && (b' == 125 && true)) = _
    rw [beq_int b 123, beq_int b' 125, Bool.and_true]
    rfl
  have e3 : ∀ x : UInt8, ([b, b'] == [x]) = false := fun x => by
    show (b == x && false) = false
    rw [Bool.and_false]
  have e4 : Lib.hasPrefix [b, b'] [47, 42] = ((b.toNat : Int) == 47 && (b'.toNat : Int) == 42) := by
    show (47 == b && (42 == b' && true)) = _
    rw [Bool.and_true, flip_beq 47 b, flip_beq 42 b', beq_int b 47, beq_int b' 42]
    rfl
  unfold plainB twoB
  rw [e1, e2, e3, e3, e3, e4]
  cases h1 : ((b.toNat : Int) == 91 && (b'.toNat : Int) == 93)
  · cases h2 : ((b.toNat : Int) == 123 && (b'.toNat : Int) == 125)
    · rw [show ([b, b'] : List UInt8).headD 0 = b from rfl, show ([b, b'] : List UInt8).isEmpty = false from rfl]
      rw [if_neg (by simp), if_neg (by simp), if_neg (by simp), if_neg (by simp), if_neg (by simp), if_neg (by simp), Bool.or_false, Bool.or_false]
      by_cases k2 : sortZ (b.toNat : Int) = 2
      · rw [if_pos k2, k2]
        simp [wordB, wordS, k2]
      · rw [if_neg k2]
        have g2 : (sortZ (b.toNat : Int) == 2) = false := beq_eq_false_iff_ne.2 k2
        rw [g2]
        simp [signB, signS]
    · simp
  · simp

end Go.Proofs.YtkbeaddbnnboaaaDoor
