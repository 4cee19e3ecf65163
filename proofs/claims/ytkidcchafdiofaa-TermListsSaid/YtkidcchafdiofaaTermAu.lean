/- TermParts: the mathematics. Conditions: none. -/
import Derived.Test.YtkidcchafdiofaaTermAq
namespace Go.Proofs.Ytkidcchafdiofaa
open Go Go.RowKit

theorem f_nodes (s : ByteArray) (b : Nat) (l : List AT) : (fT s b l).nodes = ATs.nodes l + 1 := rfl
theorem f_dp (s : ByteArray) (b : Nat) (l : List AT) : (fT s b l).dp = ATs.dp l + 1 := rfl
theorem f_short (s s' : ByteArray) (b b' : Nat) (x y z : AT) : cmpT (fT s b [x]) (fT s' b' [y, z]) = -1 := by
  unfold cmpT
  rw [cmpP]
  have h : cmpRow (fT s b [x]) (fT s' b' [y, z]) = -1 := by
    unfold cmpRow or4
    show (if Lib.compareInt 4 4 ≠ 0 then Lib.compareInt 4 4 else if Lib.compareInt 0 0 ≠ 0 then Lib.compareInt 0 0 else if Lib.compareInt ((1 : Nat) : Int) ((2 : Nat) : Int) ≠ 0 then Lib.compareInt ((1 : Nat) : Int) ((2 : Nat) : Int) else _) = -1
    rw [int_self, int_self, cmpInt_lt (by omega)]
    rfl
  rw [h]; rfl
theorem f_name (b b' : Nat) (x y : AT) : cmpT (fT ⟨#[102]⟩ b [x]) (fT ⟨#[103]⟩ b' [y]) = -1 := by
  unfold cmpT
  rw [cmpP]
  have h : cmpRow (fT ⟨#[102]⟩ b [x]) (fT ⟨#[103]⟩ b' [y]) = -1 := by
    unfold cmpRow or4
    show (if Lib.compareInt 4 4 ≠ 0 then Lib.compareInt 4 4 else if Lib.compareInt 0 0 ≠ 0 then Lib.compareInt 0 0 else if Lib.compareInt ((1 : Nat) : Int) ((1 : Nat) : Int) ≠ 0 then Lib.compareInt ((1 : Nat) : Int) ((1 : Nat) : Int) else cmpS ⟨#[102]⟩ ⟨#[103]⟩) = -1
    have hs : cmpS ⟨#[102]⟩ ⟨#[103]⟩ = -1 := by
      unfold cmpS
      rw [ByteArray.toList_eq, ByteArray.toList_eq]
      rfl
    rw [int_self, int_self, int_self, hs]
    rfl
  rw [h]; rfl
theorem f_row (s : ByteArray) (b b' : Nat) (l m : List AT) (h : l.length = m.length) : cmpRow (fT s b l) (fT s b' m) = 0 := row_eq rfl rfl h rfl
theorem f_both (s : ByteArray) (b1 b2 b3 b4 : Nat) (x y : AT) (hx : x.shp) (hy : y.shp) : cmpT (fT s b1 [x, y]) (fT s b2 [y, x]) = cmpT (fT s b3 [x]) (fT s b4 [y]) := by
  have e1 : cmpT (fT s b1 [x, y]) (fT s b2 [y, x]) = cmpP (x :: (x.parts ++ (y :: (y.parts ++ [])))) (y :: (y.parts ++ (x :: (x.parts ++ [])))) := by
    unfold cmpT
    rw [cmpP, if_neg (fun h => h (f_row _ _ _ _ _ rfl))]
    rfl
  have e2 : cmpT (fT s b3 [x]) (fT s b4 [y]) = cmpP (x :: (x.parts ++ [])) (y :: (y.parts ++ [])) := by
    unfold cmpT
    rw [cmpP, if_neg (fun h => h (f_row _ _ _ _ _ rfl))]
    rfl
  rw [e1, e2, AT.cmp_eq x y _ _ hx hy, AT.cmp_eq x y _ _ hx hy, AT.cmp_eq y x _ _ hy hx]
  have h1 : y.cmpR x = - x.cmpR y := by rw [← cmpT_R hy hx, ← cmpT_R hx hy]; exact cmp_neg x y
  by_cases hc : x.cmpR y = 0
  · rw [h1, hc]; simp [cmpP]
  · simp [hc]

end Go.Proofs.Ytkidcchafdiofaa
