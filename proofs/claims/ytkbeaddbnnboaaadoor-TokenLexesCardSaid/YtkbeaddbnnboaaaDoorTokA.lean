/- Tokens: the mathematics of what begins where. Conditions: none. -/
import Derived.Test.YtkbeaddbnnboaaaDoorNameN
import Derived.Test.YtkbeaddbnnboaaaDoorTokNum
import Derived.Lib.IndexMore
namespace Go.Proofs.YtkbeaddbnnboaaaDoor
open Go Go.RowKit

/-- a token, without where it stands -/
structure Tk where
  k : Int
  n : Int
  s : List UInt8
def Tk.agg (t : Tk) : Value := .agg #[.int .i64 t.k, .int .i64 0, .int .i64 t.n, .string ⟨t.s.toArray⟩, .bool false, .bool false]

def runB (p : Int → Bool) (l : List UInt8) : Nat := (l.takeWhile fun b => p (b.toNat : Int)).length
def letterZ (c : Int) : Bool := wordS (sortZ c)
def signZ (c : Int) : Bool := signS (sortZ c)
theorem runB_nil (p : Int → Bool) : runB p [] = 0 := rfl
theorem runB_yes {p : Int → Bool} {c : UInt8} {t : List UInt8} (h : p (c.toNat : Int) = true) : runB p (c :: t) = runB p t + 1 := by simp [runB, h]
theorem runB_no {p : Int → Bool} {c : UInt8} {t : List UInt8} (h : p (c.toNat : Int) = false) : runB p (c :: t) = 0 := by simp [runB, h]
theorem runB_le (p : Int → Bool) (l : List UInt8) : runB p l ≤ l.length := by
  unfold runB
  exact (List.takeWhile_prefix _).length_le
/-- k bytes and no more -/
theorem runB_at {p : Int → Bool} : ∀ (k : Nat) (l : List UInt8), k ≤ l.length → (∀ j c, j < k → l[j]? = some c → p (c.toNat : Int) = true) → runB p l = k + runB p (l.drop k)
  | 0, l, _, _ => by simp
  | k + 1, [], h, _ => by simp at h
  | k + 1, c :: t, h, hj => by
    rw [runB_yes (hj 0 c (by omega) (by simp)), runB_at k t (by simpa using h) (fun j d hjk hd => hj (j + 1) d (by omega) (by simpa using hd)), List.drop_succ_cons]
    omega

def stopT : List UInt8 → Option (Tk × Nat)
  | [] => none
  | c :: t => if ((c.toNat : Int) == 46) = true then (match t with
    | [] => some (⟨7, 0, []⟩, 1)
    | d :: _ => if ((d.toNat : Int) == 37) = true then some (⟨7, 0, []⟩, 1) else if (sortZ (d.toNat : Int) == 1) = true then some (⟨7, 0, []⟩, 1) else none) else none
def lettersT (sort kind : Int) : List UInt8 → Option (Tk × Nat)
  | [] => none
  | c :: t => if (sortZ (c.toNat : Int) == sort) = true then (if runB letterZ (c :: t) = 0 then none else some (⟨kind, 0, (c :: t).take (runB letterZ (c :: t))⟩, runB letterZ (c :: t))) else none
def signsT (l : List UInt8) : Option (Tk × Nat) :=
  if Lib.hasPrefix l [47, 42] = true then none else if runB signZ l = 0 then none else some (⟨1, 0, l.take (runB signZ l)⟩, runB signZ l)
def aloneT (sort kind : Int) : List UInt8 → Option (Tk × Nat)
  | [] => none
  | c :: _ => if (sortZ (c.toNat : Int) == sort) = true then some (⟨kind, 0, [c]⟩, 1) else none
def digZ (base c : Int) : Bool := (parseR base [UInt8.ofNat c.toNat]).2 == 0
def digitsT (from' : Nat) (base : Int) (l : List UInt8) : Option (Tk × Nat) :=
  if ((parseR base ((l.drop from').take (runB (digZ base) (l.drop from')))).2 == 0) = true then (if from' + runB (digZ base) (l.drop from') = 0 then none else some (⟨3, (parseR base ((l.drop from').take (runB (digZ base) (l.drop from')))).1, []⟩, from' + runB (digZ base) (l.drop from'))) else none
def charZ (s : List UInt8) : Nat := if Lib.hasPrefix s [39] = true then 2 else if Lib.hasPrefix s [92] = true then 2 else 1
def charT (l : List UInt8) : Option (Tk × Nat) :=
  if (l.drop 2).length < charZ (l.drop 2) then none else match getL 39 ((l.drop 2).take (charZ (l.drop 2)) ++ [39]) with
    | some ([c], _) => some (⟨3, (c.toNat : Int), []⟩, 2 + charZ (l.drop 2))
    | _ => none
def numberT (l : List UInt8) : Option (Tk × Nat) :=
  if Lib.hasPrefix l [48, 120] = true then digitsT 2 16 l else if Lib.hasPrefix l [48, 111] = true then digitsT 2 8 l else if Lib.hasPrefix l [48, 98] = true then digitsT 2 2 l else if Lib.hasPrefix l [48, 39] = true then charT l else digitsT 0 10 l
def withinT (quote kind : Int) : List UInt8 → Option (Tk × Nat)
  | [] => none
  | c :: t => if ((c.toNat : Int) == quote) = true then (match getL quote t with
    | some (b, n) => some (⟨kind, 0, b⟩, 1 + n)
    | none => none) else none
/-- the first token that can -/
def tokT (l : List UInt8) : Option (Tk × Nat) :=
  (stopT l).or <| (lettersT 2 1 l).or <| (signsT l).or <| (aloneT 6 1 l).or <| (lettersT 3 4 l).or <| (numberT l).or <| (withinT 39 2 l).or <| (withinT 34 5 l).or (aloneT 7 6 l)

/-- how many bytes are a blank or a comment -/
def gapN : List UInt8 → Nat
  | [] => 0
  | c :: t => if (sortZ (c.toNat : Int) == 1) = true then 1 else if ((c.toNat : Int) == 37) = true then (Lib.cut (c :: t) [10]).1.length
    else if Lib.hasPrefix (c :: t) [47, 42] = true then (if (Lib.cut (t.drop 1) [42, 47]).2.2 = true then 2 + (Lib.cut (t.drop 1) [42, 47]).1.length + 2 else 0) else 0
def nlC (l : List UInt8) : Nat := Lib.countByte l 10
theorem nlC_app (a b : List UInt8) : nlC (a ++ b) = nlC a + nlC b := by simp [nlC, Lib.countByte]
/-- where the next token may begin: how many bytes on -/
def skipF : Nat → List UInt8 → Nat
  | 0, _ => 0
  | f + 1, l => if gapN l = 0 then 0 else gapN l + skipF f (l.drop (gapN l))
def skipN (l : List UInt8) : Nat := skipF (l.length + 1) l

/-- a token where it stands -/
structure Tok where
  k : Int
  line : Int
  n : Int
  s : List UInt8
  open' : Bool
  tight : Bool
def Tok.cells (t : Tok) : List Value := [.int .i64 t.k, .int .i64 t.line, .int .i64 t.n, .string ⟨t.s.toArray⟩, .bool t.open', .bool t.tight]
def tokCells (l : List Tok) : List Value := l.flatMap Tok.cells
/-- the tokens from here on; the line, the error -/
structure LexR where
  toks : List Tok
  line : Int
  e : Int
def LexR.cons (t : Tok) (r : LexR) : LexR := ⟨t :: r.toks, r.line, r.e⟩
/-- k tokens were told ahead of here, in line n -/
def lexF : Nat → List UInt8 → Int → Nat → LexR
  | 0, _, _, _ => ⟨[], 0, 0⟩
  | f + 1, l, n, k =>
    let m := n + nlC (l.take (skipN l))
    let r := l.drop (skipN l)
    if r = [] then ⟨[⟨0, m, 0, [], false, false⟩], 0, 0⟩ else match tokT r with
      | none => ⟨[], m, 5⟩
      | some (t, z) => if k = 16384 then ⟨[], m, 3⟩ else
        (lexF f (r.drop z) (m + nlC (r.take z)) (k + 1)).cons ⟨t.k, m, t.n, t.s, Lib.hasPrefix (r.drop z) [40], decide (skipN l = 0) && decide (0 < k)⟩
def lexL (l : List UInt8) : LexR := if 65536 < l.length then ⟨[], 0, 3⟩ else lexF (l.length + 1) l 1 0

end Go.Proofs.YtkbeaddbnnboaaaDoor
