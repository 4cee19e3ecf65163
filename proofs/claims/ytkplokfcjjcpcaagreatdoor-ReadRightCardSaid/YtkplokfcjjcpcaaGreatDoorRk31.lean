/- Joined texts: WrB. Conditions: as each states. -/
import Derived.Test.YtkplokfcjjcpcaaGreatDoorRk20
import Derived.Test.YtkplokfcjjcpcaaGreatDoorPk03
namespace Go.Proofs.YtkplokfcjjcpcaaGreatDoor
open Go Go.RowKit Trm
def atomW (way : Int) (s : ByteArray) : List UInt8 := if way = 0 then s.data.toList else putL s.data.toList
def pairB (s : ByteArray) (n : Nat) : Bool := s.toList == [46] && decide (n = 2)
def priN (L : List Ops.Df) (s : ByteArray) (n : Nat) : Int :=
  if pairB s n = true then 0 else if n = 2 then (Ops.sidesZ L s 2).1 else if n = 1 then (if 0 < (preP L s).1 then (preP L s).1 else (Ops.sidesZ L s 3).1) else 0
structure Hd where
  k : Int
  n : Int
  s : ByteArray
  a : Nat
def Trm.Tm.hd : Tm → Hd
  | .mk k n s l => ⟨k, n, s, l.length⟩
def bracedB (L : List Ops.Df) (most : Int) (h : Hd) : Bool := decide (most < priN L h.s h.a) || (h.k == 3 && Ops.isZ L h.s) || (h.k == 2 && decide (h.n < 0))
structure Wr where
  h : Hd
  put : Int → List UInt8
  rest : List UInt8
def operW (L : List Ops.Df) (most : Int) (x : Wr) : List UInt8 := if bracedB L most x.h = true then 40 :: (x.put 1200 ++ [41]) else x.put 1200
def argsW : List UInt8 → List Wr → List UInt8
  | _, [] => []
  | b, x :: r => b ++ (x.put 999 ++ argsW [44] r)
def compW (way : Int) (s : ByteArray) (l : List Wr) : List UInt8 := atomW way s ++ (argsW [40] l ++ [41])
def sideZ (s : ByteArray) (x : Hd) (pri allowed : Int) : Int := if (x.s.toList == s.toList && decide (x.a = 2)) = true then allowed else pri - 1
def betweenW (way : Int) (s : ByteArray) : List UInt8 := if (s.toList == [44]) = true then [44] else 32 :: (atomW way s ++ [32])
def infW (way : Int) (L : List Ops.Df) (s : ByteArray) (x y : Wr) : List UInt8 :=
  operW L (sideZ s x.h (Ops.sidesZ L s 2).1 (Ops.sidesZ L s 2).2.1) x ++ (betweenW way s ++ operW L (sideZ s y.h (Ops.sidesZ L s 2).1 (Ops.sidesZ L s 2).2.2) y)
def oneW (way : Int) (L : List Ops.Df) (s : ByteArray) (x : Wr) : List UInt8 :=
  if 0 < (preP L s).1 then atomW way s ++ (32 :: operW L (priN L s 1 - 1) x) else operW L (priN L s 1 - 1) x ++ (32 :: atomW way s)
def bodyW (way : Int) (L : List Ops.Df) (s : ByteArray) : List Wr → List UInt8
  | [x, y] => infW way L s x y
  | [x] => oneW way L s x
  | _ => []
def operaW (way : Int) (L : List Ops.Df) (s : ByteArray) (l : List Wr) (most : Int) : List UInt8 :=
  if priN L s l.length = 0 then compW way s l else if most < priN L s l.length then 40 :: (bodyW way L s l ++ [41]) else bodyW way L s l
def listW : List Wr → List UInt8
  | [x, y] => 91 :: (x.put 999 ++ (y.rest ++ [93]))
  | _ => []
def curlW : List Wr → List UInt8
  | [x] => 123 :: (x.put 1200 ++ [125])
  | _ => []
def putN (way : Int) (L : List Ops.Df) (k n : Int) (s : ByteArray) (l : List Wr) (most : Int) : List UInt8 :=
  if k = 1 then 95 :: Lib.itoa n else if k = 2 then Lib.itoa n else if k = 3 then atomW way s else if pairB s l.length = true then listW l else if way = 2 then compW way s l
  else if (s.toList == [123, 125] && decide (l.length = 1)) = true then curlW l else operaW way L s l most
def restN (way : Int) (L : List Ops.Df) (k n : Int) (s : ByteArray) (l : List Wr) : List UInt8 :=
  if pairB s l.length = true then (match l with | [x, y] => 44 :: (x.put 999 ++ y.rest) | _ => []) else if (k == 3 && s.toList == [91, 93]) = true then [] else 124 :: putN way L k n s l 999
mutual
def Trm.Tm.wr (way : Int) (L : List Ops.Df) : Tm → Wr
  | .mk k n s l => ⟨⟨k, n, s, l.length⟩, putN way L k n s (Trm.Tms.wr way L l), restN way L k n s (Trm.Tms.wr way L l)⟩
def Trm.Tms.wr (way : Int) (L : List Ops.Df) : List Tm → List Wr
  | [] => []
  | t :: r => Trm.Tm.wr way L t :: Trm.Tms.wr way L r
end
end Go.Proofs.YtkplokfcjjcpcaaGreatDoor
