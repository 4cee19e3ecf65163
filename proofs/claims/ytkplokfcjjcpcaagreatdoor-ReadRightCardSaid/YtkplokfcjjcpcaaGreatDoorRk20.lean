/- Joined texts: ReadA ReadB ReadC ReadD ReadE. Conditions: as each states. -/
import Derived.Test.YtkplokfcjjcpcaaGreatDoorPk05
import Derived.Test.YtkplokfcjjcpcaaGreatDoorPk11
import Derived.Test.YtkplokfcjjcpcaaGreatDoorRk15
import Derived.Deep.QuietTactic
import Derived.BigQuiet
import Derived.Recover
import Derived.Maps.OwnOps
import Derived.Maps.Views
import Derived.Deep.AppendLies
import Derived.WalkLawsBesides
section
namespace Go.Proofs.YtkplokfcjjcpcaaGreatDoor
open Go Go.RowKit Trm
def Tok.b (t : Tok) : ByteArray := ⟨t.s.toArray⟩
def tok0 : Tok := ⟨0, 0, 0, [], false, false⟩
def tokAt (l : List Tok) (i : Nat) : Tok := (l[i]?).getD tok0
def isP (l : List Tok) (i : Nat) (c : List UInt8) : Bool := (tokAt l i).k == 6 && (tokAt l i).s == c
def bsOf (l : List UInt8) : ByteArray := ⟨l.toArray⟩
def atmT (s : ByteArray) : Tm := .mk 3 0 s []
def compT (s : ByteArray) (l : List Tm) : Tm := .mk 4 0 s l
def intT (n : Int) : Tm := .mk 2 n ⟨#[]⟩ []
def varT (n : Int) : Tm := .mk 1 n ⟨#[]⟩ []
def nilT : Tm := atmT ⟨#[91, 93]⟩
def lstT (tl : Tm) : List Tm → Tm
  | [] => tl
  | x :: r => compT ⟨#[46]⟩ [x, lstT tl r]
def codesT (l : List UInt8) : List Tm := (l.take 2000).map fun c => intT (c.toNat : Int)
inductive Al where
  | comp (s : ByteArray)
  | items
inductive Kt where
  | stop
  | round
  | braces
  | args (l : List Tm) (al : Al)
  | tail (l : List Tm)
  | pre (s : ByteArray) (p : Int)
  | inf (s : ByteArray) (so : Tm) (p : Int)
structure Fr where
  most : Int
  k : Kt
structure Ms where
  i : Nat
  vs : List (ByteArray × Int)
  cnt : Int
  stk : List Fr
  so : Tm
  pri : Int
  begun : Bool
def Ms.to (σ : Ms) (i : Nat) : Ms := { σ with i := i }
def Ms.be (σ : Ms) (x : Tm) (p : Int) : Ms := { σ with so := x, pri := p, begun := true }
def Ms.want (σ : Ms) (m : Int) (k : Kt) : Ms := { σ with stk := ⟨m, k⟩ :: σ.stk, begun := false }
def Ms.most (σ : Ms) : Int := match σ.stk with
  | [] => 0
  | f :: _ => f.most
inductive Out where
  | on (σ : Ms)
  | bad (i : Nat)
def expectZ (l : List Tok) (σ : Ms) (c : List UInt8) (go : Ms → Ms) : Out := if isP l σ.i c = true then .on (go (σ.to (σ.i + 1))) else .bad σ.i
def allZ (l : List Tok) (σ : Ms) (L : List Tm) : Al → Out
  | .comp s => expectZ l σ [41] fun τ => τ.be (compT s L) 0
  | .items => if isP l σ.i [124] = true then .on ((σ.to (σ.i + 1)).want 999 (.tail L)) else expectZ l σ [93] fun τ => τ.be (lstT nilT L) 0
def thenZ (l : List Tok) (σ : Ms) (x : Tm) : Kt → Out
  | .stop => if ((tokAt l σ.i).k == 7) = true then .on ((σ.to (σ.i + 1)).be x 0) else .bad σ.i
  | .round => expectZ l σ [41] fun τ => τ.be x 0
  | .braces => expectZ l σ [125] fun τ => τ.be (compT ⟨#[123, 125]⟩ [x]) 0
  | .args L al => if isP l σ.i [44] = true then .on ((σ.to (σ.i + 1)).want 999 (.args (L ++ [x]) al)) else allZ l σ (L ++ [x]) al
  | .tail L => expectZ l σ [93] fun τ => τ.be (lstT x L) 0
  | .pre s p => .on (σ.be (compT s [x]) p)
  | .inf s so p => .on (σ.be (compT s [so, x]) p)
def argsZ (l : List Tok) (σ : Ms) (s : ByteArray) : Out := expectZ l σ [40] fun τ => τ.want 999 (.args [] (.comp s))
def closesZ (l : List Tok) (σ : Ms) (c : List UInt8) (name : ByteArray) (other : Ms → Ms) : Out :=
  if isP l σ.i c = true then (if (tokAt l σ.i).open' = true then argsZ l (σ.to (σ.i + 1)) name else .on ((σ.to (σ.i + 1)).be (atmT name) 0)) else .on (other σ)
def fndV (vs : List (ByteArray × Int)) (s : ByteArray) : Option Int := (vs.find? fun p => p.1.toList == s.toList).map Prod.snd
def Ms.number (σ : Ms) (s : List UInt8) : Ms × Int :=
  match fndV σ.vs (bsOf s) with
  | some n => (σ, n)
  | none => if (s == [95]) = true then ({ σ with cnt := σ.cnt + 1 }, σ.cnt) else ({ σ with cnt := σ.cnt + 1, vs := σ.vs ++ [(bsOf s, σ.cnt)] }, σ.cnt)
def preP (L : List Ops.Df) (s : ByteArray) : Int × Int := ((Ops.sidesZ L s 1).1, (Ops.sidesZ L s 1).2.2)
def beginsZ (L : List Ops.Df) (t : Tok) : Bool :=
  if t.k = 3 ∨ t.k = 4 ∨ t.k = 5 then true else if t.k = 6 then (t.s == [40] || t.s == [91] || t.s == [123]) else if t.k = 1 ∨ t.k = 2 then (t.open' || decide (0 < (preP L t.b).1) || !Ops.isZ L t.b) else false
def wordZ (L : List Ops.Df) (l : List Tok) (σ : Ms) (t : Tok) : Out :=
  if (t.k == 1 && t.s == [45] && (tokAt l σ.i).k == 3 && (tokAt l σ.i).tight) = true then .on ((σ.to (σ.i + 1)).be (intT (wrap64 (-(tokAt l σ.i).n))) 0)
  else if t.open' = true then argsZ l σ t.b
  else if (decide (0 < (preP L t.b).1) && decide ((preP L t.b).1 ≤ σ.most) && beginsZ L (tokAt l σ.i)) = true then .on (σ.want (preP L t.b).2 (.pre t.b (preP L t.b).1))
  else .on (σ.be (atmT t.b) 0)
def beginZ (L : List Ops.Df) (l : List Tok) (σ : Ms) : Out :=
  let t := tokAt l σ.i
  if t.k = 3 then (if t.n < 0 then .bad σ.i else .on ((σ.to (σ.i + 1)).be (intT t.n) 0))
  else if t.k = 4 then .on (((σ.to (σ.i + 1)).number t.s).1.be (varT ((σ.to (σ.i + 1)).number t.s).2) 0)
  else if t.k = 5 then .on ((σ.to (σ.i + 1)).be (lstT nilT (codesT t.s)) 0)
  else if t.k = 6 then (
    if (t.s == [40]) = true then .on ((σ.to (σ.i + 1)).want 1200 .round)
    else if (t.s == [91]) = true then closesZ l (σ.to (σ.i + 1)) [93] ⟨#[91, 93]⟩ fun τ => τ.want 999 (.args [] .items)
    else if (t.s == [123]) = true then closesZ l (σ.to (σ.i + 1)) [125] ⟨#[123, 125]⟩ fun τ => τ.want 1200 .braces
    else .bad σ.i)
  else if t.k = 1 ∨ t.k = 2 then wordZ L l (σ.to (σ.i + 1)) t
  else .bad σ.i
def joinsZ (t : Tok) : Bool := if t.k = 1 ∨ t.k = 2 then decide (t.s.length ≤ 1000) else t.k == 6 && t.s == [44]
def fitsZ (σ : Ms) (p left : Int) : Bool := decide (0 < p) && decide (p ≤ σ.most) && decide (σ.pri ≤ left)
def endZ (l : List Tok) (σ : Ms) : Out := match σ.stk with
  | [] => .on σ
  | f :: r => thenZ l { σ with stk := r } σ.so f.k
def goOnZ (L : List Ops.Df) (l : List Tok) (σ : Ms) : Out :=
  let t := tokAt l σ.i
  if joinsZ t = true then (
    if fitsZ σ (Ops.sidesZ L t.b 2).1 (Ops.sidesZ L t.b 2).2.1 = true then .on ((σ.to (σ.i + 1)).want (Ops.sidesZ L t.b 2).2.2 (.inf t.b σ.so (Ops.sidesZ L t.b 2).1))
    else if fitsZ σ (Ops.sidesZ L t.b 3).1 (Ops.sidesZ L t.b 3).2.1 = true then .on ((σ.to (σ.i + 1)).be (compT t.b [σ.so]) (Ops.sidesZ L t.b 3).1)
    else endZ l σ)
  else endZ l σ
def stepZ (L : List Ops.Df) (l : List Tok) (σ : Ms) : Out := if σ.begun = true then goOnZ L l σ else beginZ L l σ
def Ms.left (l : List Tok) (σ : Ms) : Nat := 4 * (l.length - σ.i) + 2 * σ.stk.length + (if σ.begun = true then 0 else 1)
def runZ (L : List Ops.Df) (l : List Tok) : Nat → Ms → Out
  | 0, σ => .on σ
  | f + 1, σ => if σ.stk = [] then .on σ else match stepZ L l σ with
    | .bad i => .bad i
    | .on τ => runZ L l f τ
def start (i : Nat) : Ms := ⟨i, [], 0, [⟨1200, .stop⟩], .mk 0 0 ⟨#[]⟩ [], 0, false⟩
def clauseZ (L : List Ops.Df) (l : List Tok) (i : Nat) : Out := runZ L l (4 * l.length + 8) (start i)
end Go.Proofs.YtkplokfcjjcpcaaGreatDoor
end
section
namespace Go.Proofs.YtkplokfcjjcpcaaGreatDoor
open Go Go.RowKit Trm
theorem tokAt_lt {l : List Tok} {i : Nat} (h : (tokAt l i).k ≠ 0) : i < l.length := by
  rcases Nat.lt_or_ge i l.length with h1 | h1
  · exact h1
  · exact absurd (by simp [tokAt, List.getElem?_eq_none h1, tok0]) h
theorem isP_k {l : List Tok} {i : Nat} {c : List UInt8} (h : isP l i c = true) : (tokAt l i).k = 6 ∧ (tokAt l i).s = c := by
  simpa [isP] using h
theorem isP_lt {l : List Tok} {i : Nat} {c : List UInt8} (h : isP l i c = true) : i < l.length := tokAt_lt (by rw [(isP_k h).1]; decide)
theorem expect_on {l : List Tok} {σ τ : Ms} {c : List UInt8} {go : Ms → Ms} (h : expectZ l σ c go = .on τ) : σ.i < l.length ∧ τ = go (σ.to (σ.i + 1)) := by
  unfold expectZ at h
  split at h
  · rename_i hp
    exact ⟨isP_lt hp, (Out.on.inj h).symm⟩
  · cases h
theorem left_eq (l : List Tok) (σ : Ms) : σ.left l = 4 * (l.length - σ.i) + 2 * σ.stk.length + (if σ.begun = true then 0 else 1) := rfl
theorem all_left {l : List Tok} {σ τ : Ms} {L : List Tm} {al : Al} (h : allZ l σ L al = .on τ) : τ.left l < 4 * (l.length - σ.i) + 2 * σ.stk.length := by
  cases al with
  | comp s =>
    simp only [allZ] at h
    obtain ⟨h1, rfl⟩ := expect_on h
    simp [Ms.left, Ms.be, Ms.to]
    omega
  | items =>
    simp only [allZ] at h
    split at h
    · rename_i hp
      have h1 := isP_lt hp
      obtain rfl := Out.on.inj h
      simp [Ms.left, Ms.want, Ms.to]
      omega
    · obtain ⟨h1, rfl⟩ := expect_on h
      simp [Ms.left, Ms.be, Ms.to]
      omega
theorem then_left {l : List Tok} {σ τ : Ms} {x : Tm} {k : Kt} (h : thenZ l σ x k = .on τ) : τ.left l ≤ 4 * (l.length - σ.i) + 2 * σ.stk.length := by
  cases k with
  | stop =>
    simp only [thenZ] at h
    split at h
    · rename_i hp
      have h1 := tokAt_lt (l := l) (i := σ.i) (by simp at hp; rw [hp]; decide)
      obtain rfl := Out.on.inj h
      simp [Ms.left, Ms.be, Ms.to]
      omega
    · cases h
  | round =>
    simp only [thenZ] at h
    obtain ⟨h1, rfl⟩ := expect_on h
    simp [Ms.left, Ms.be, Ms.to]
    omega
  | braces =>
    simp only [thenZ] at h
    obtain ⟨h1, rfl⟩ := expect_on h
    simp [Ms.left, Ms.be, Ms.to]
    omega
  | args L al =>
    simp only [thenZ] at h
    split at h
    · rename_i hp
      have h1 := isP_lt hp
      obtain rfl := Out.on.inj h
      simp [Ms.left, Ms.want, Ms.to]
      omega
    · exact Nat.le_of_lt (all_left h)
  | tail L =>
    simp only [thenZ] at h
    obtain ⟨h1, rfl⟩ := expect_on h
    simp [Ms.left, Ms.be, Ms.to]
    omega
  | pre s p =>
    simp only [thenZ] at h
    obtain rfl := Out.on.inj h
    simp [Ms.left, Ms.be]
  | inf s so p =>
    simp only [thenZ] at h
    obtain rfl := Out.on.inj h
    simp [Ms.left, Ms.be]
theorem args_left {l : List Tok} {σ τ : Ms} {s : ByteArray} (h : argsZ l σ s = .on τ) : τ.left l < 4 * (l.length - σ.i) + 2 * σ.stk.length := by
  unfold argsZ at h
  obtain ⟨h1, rfl⟩ := expect_on h
  simp [Ms.left, Ms.want, Ms.to]
  omega
theorem number_same (σ : Ms) (s : List UInt8) : (σ.number s).1.i = σ.i ∧ (σ.number s).1.stk = σ.stk ∧ (σ.number s).1.begun = σ.begun := by
  unfold Ms.number
  split
  · exact ⟨rfl, rfl, rfl⟩
  · split <;> exact ⟨rfl, rfl, rfl⟩
theorem end_left {l : List Tok} {σ τ : Ms} (hs : σ.stk ≠ []) (h : endZ l σ = .on τ) : τ.left l < 4 * (l.length - σ.i) + 2 * σ.stk.length := by
  unfold endZ at h
  split at h
  · rename_i h0
    exact absurd h0 hs
  · rename_i f r h0
    have := then_left h
    rw [h0]
    simp at this ⊢
    omega
theorem goOn_left {L : List Ops.Df} {l : List Tok} {σ τ : Ms} (hs : σ.stk ≠ []) (hb : σ.begun = true) (h : goOnZ L l σ = .on τ) : τ.left l < σ.left l := by
  rw [left_eq l σ, if_pos hb]
  unfold goOnZ at h
  simp only at h
  split at h
  · rename_i hj
    have h1 := tokAt_lt (l := l) (i := σ.i) (by
      unfold joinsZ at hj
      split at hj
      · omega
      · simp at hj; omega)
    split at h
    · obtain rfl := Out.on.inj h
      simp [Ms.left, Ms.want, Ms.to]
      omega
    · split at h
      · obtain rfl := Out.on.inj h
        simp [Ms.left, Ms.be, Ms.to]
        omega
      · exact end_left hs h
  · exact end_left hs h
theorem closes_left {l : List Tok} {σ τ : Ms} {c : List UInt8} {s : ByteArray} {m : Int} {k : Kt} (h : closesZ l σ c s (fun ρ => ρ.want m k) = .on τ) : τ.left l ≤ 4 * (l.length - σ.i) + 2 * σ.stk.length + 3 := by
  unfold closesZ at h
  split at h
  · split at h
    · have := args_left h
      simp [Ms.to] at this
      omega
    · obtain rfl := Out.on.inj h
      simp [Ms.left, Ms.be, Ms.to]
      omega
  · obtain rfl := Out.on.inj h
    simp [Ms.left, Ms.want]
    omega
theorem word_left {L : List Ops.Df} {l : List Tok} {σ τ : Ms} {t : Tok} (h : wordZ L l σ t = .on τ) : τ.left l ≤ 4 * (l.length - σ.i) + 2 * σ.stk.length + 3 := by
  unfold wordZ at h
  split at h
  · obtain rfl := Out.on.inj h
    simp [Ms.left, Ms.be, Ms.to]
    omega
  · split at h
    · have := args_left h
      omega
    · split at h
      · obtain rfl := Out.on.inj h
        simp [Ms.left, Ms.want]
        omega
      · obtain rfl := Out.on.inj h
        simp [Ms.left, Ms.be]
theorem begin_left {L : List Ops.Df} {l : List Tok} {σ τ : Ms} (hb : σ.begun = false) (h : beginZ L l σ = .on τ) : τ.left l < σ.left l := by
  rw [left_eq l σ, if_neg (by rw [hb]; decide)]
  unfold beginZ at h
  simp only at h
  have key : (tokAt l σ.i).k ≠ 0 → l.length - σ.i = l.length - (σ.i + 1) + 1 := fun hk => by have := tokAt_lt hk; omega
  split at h
  · rename_i hk
    have := key (by omega)
    split at h
    · cases h
    · obtain rfl := Out.on.inj h
      simp [Ms.left, Ms.be, Ms.to]
      omega
  · split at h
    · have := key (by omega)
      obtain rfl := Out.on.inj h
      obtain ⟨a1, a2, _⟩ := number_same (σ.to (σ.i + 1)) (tokAt l σ.i).s
      simp only [Ms.left, Ms.be, a1, a2]
      simp [Ms.to]
      omega
    · split at h
      · have := key (by omega)
        obtain rfl := Out.on.inj h
        simp [Ms.left, Ms.be, Ms.to]
        omega
      · split at h
        · have := key (by omega)
          split at h
          · obtain rfl := Out.on.inj h
            simp [Ms.left, Ms.want, Ms.to]
            omega
          · split at h
            · have := closes_left h
              simp [Ms.to] at this
              omega
            · split at h
              · have := closes_left h
                simp [Ms.to] at this
                omega
              · cases h
        · split at h
          · have := key (by omega)
            have := word_left h
            simp [Ms.to] at this
            omega
          · cases h
theorem step_left {L : List Ops.Df} {l : List Tok} {σ τ : Ms} (hs : σ.stk ≠ []) (h : stepZ L l σ = .on τ) : τ.left l < σ.left l := by
  unfold stepZ at h
  split at h
  · exact goOn_left hs ‹_› h
  · exact begin_left (by simpa using ‹¬ σ.begun = true›) h
theorem run_fuel {L : List Ops.Df} {l : List Tok} : ∀ (f f' : Nat) (σ : Ms), σ.left l < f → σ.left l < f' → runZ L l f σ = runZ L l f' σ
  | 0, _, _, h, _ => by omega
  | _, 0, _, _, h => by omega
  | f + 1, f' + 1, σ, h, h' => by
    simp only [runZ]
    split
    · rfl
    · rename_i hs
      split
      · rfl
      · rename_i τ ht
        have := step_left hs ht
        exact run_fuel f f' τ (by omega) (by omega)
def runN (L : List Ops.Df) (l : List Tok) (σ : Ms) : Out := runZ L l (σ.left l + 1) σ
theorem run_end {L : List Ops.Df} {l : List Tok} {σ : Ms} (h : σ.stk = []) : runN L l σ = .on σ := by
  unfold runN
  rw [runZ, if_pos h]
theorem run_bad {L : List Ops.Df} {l : List Tok} {σ : Ms} {i : Nat} (hs : σ.stk ≠ []) (h : stepZ L l σ = .bad i) : runN L l σ = .bad i := by
  unfold runN
  rw [runZ, if_neg hs, h]
theorem run_on {L : List Ops.Df} {l : List Tok} {σ τ : Ms} (hs : σ.stk ≠ []) (h : stepZ L l σ = .on τ) : runN L l σ = runN L l τ := by
  unfold runN
  rw [runZ, if_neg hs, h]
  have := step_left hs h
  exact run_fuel _ _ _ (by omega) (by omega)
theorem clause_run (L : List Ops.Df) (l : List Tok) (i : Nat) : clauseZ L l i = runN L l (start i) := by
  unfold clauseZ runN
  refine run_fuel _ _ _ ?_ ?_
  · simp [Ms.left, start]
    omega
  · omega
end Go.Proofs.YtkplokfcjjcpcaaGreatDoor
end
section
namespace Go.Proofs.YtkplokfcjjcpcaaGreatDoor
open Go Go.RowKit Trm
attribute [local go_sem ↓] Go.wp_at_zero Go.wp_at_succ
structure Rc where
  tv : Value
  i : Int
  a : Nat
  P : Nat
  nb : Nat
  nv : Value
  cnt : Int
  wv : Value
  bg : Bool
  k : Int
  n : Int
  s : ByteArray
  sv : Value
  p : Int
def Rc.cells (c : Rc) : Array Value := #[c.tv, .int .i64 c.i, .pointer (some ⟨c.a, 0, none⟩), .map (some c.P), .map (some c.nb), c.nv, .int .i64 c.cnt, c.wv, .bool c.bg, .int .i64 c.k, .int .i64 c.n, .string c.s, c.sv, .int .i64 c.p]
structure Rd (w : World) (R : Nat) (c : Rc) : Prop where
  row : w.heap[R]? = some (.cells c.cells 113 (0, 0))
theorem Rd.lt {w : World} {R : Nat} {c : Rc} (h : Rd w R c) : R < w.heap.size := heap_lt h.row
theorem Rd.cell {w : World} {R : Nat} {c : Rc} (h : Rd w R c) (j : Nat) (v : Value) (hv : c.cells[j]? = some v) : w.cell? ⟨R, j, none⟩ = some v := cell_of_heap h.row hv
theorem Rd.c_tv {w : World} {R : Nat} {c : Rc} (h : Rd w R c) : w.cell? ⟨R, 0, none⟩ = some c.tv := h.cell 0 _ rfl
theorem Rd.c_i {w : World} {R : Nat} {c : Rc} (h : Rd w R c) : w.cell? ⟨R, 1, none⟩ = some (.int .i64 c.i) := h.cell 1 _ rfl
theorem Rd.c_a {w : World} {R : Nat} {c : Rc} (h : Rd w R c) : w.cell? ⟨R, 2, none⟩ = some (.pointer (some ⟨c.a, 0, none⟩)) := h.cell 2 _ rfl
theorem Rd.c_P {w : World} {R : Nat} {c : Rc} (h : Rd w R c) : w.cell? ⟨R, 3, none⟩ = some (.map (some c.P)) := h.cell 3 _ rfl
theorem Rd.c_nb {w : World} {R : Nat} {c : Rc} (h : Rd w R c) : w.cell? ⟨R, 4, none⟩ = some (.map (some c.nb)) := h.cell 4 _ rfl
theorem Rd.c_nv {w : World} {R : Nat} {c : Rc} (h : Rd w R c) : w.cell? ⟨R, 5, none⟩ = some c.nv := h.cell 5 _ rfl
theorem Rd.c_cnt {w : World} {R : Nat} {c : Rc} (h : Rd w R c) : w.cell? ⟨R, 6, none⟩ = some (.int .i64 c.cnt) := h.cell 6 _ rfl
theorem Rd.c_wv {w : World} {R : Nat} {c : Rc} (h : Rd w R c) : w.cell? ⟨R, 7, none⟩ = some c.wv := h.cell 7 _ rfl
theorem Rd.c_bg {w : World} {R : Nat} {c : Rc} (h : Rd w R c) : w.cell? ⟨R, 8, none⟩ = some (.bool c.bg) := h.cell 8 _ rfl
theorem Rd.c_k {w : World} {R : Nat} {c : Rc} (h : Rd w R c) : w.cell? ⟨R, 9, none⟩ = some (.int .i64 c.k) := h.cell 9 _ rfl
theorem Rd.c_n {w : World} {R : Nat} {c : Rc} (h : Rd w R c) : w.cell? ⟨R, 10, none⟩ = some (.int .i64 c.n) := h.cell 10 _ rfl
theorem Rd.c_s {w : World} {R : Nat} {c : Rc} (h : Rd w R c) : w.cell? ⟨R, 11, none⟩ = some (.string c.s) := h.cell 11 _ rfl
theorem Rd.c_sv {w : World} {R : Nat} {c : Rc} (h : Rd w R c) : w.cell? ⟨R, 12, none⟩ = some c.sv := h.cell 12 _ rfl
theorem Rd.c_p {w : World} {R : Nat} {c : Rc} (h : Rd w R c) : w.cell? ⟨R, 13, none⟩ = some (.int .i64 c.p) := h.cell 13 _ rfl
theorem Rd.free {w : World} {R : Nat} {c : Rc} (h : Rd w R c) (o : Nat) : w.frozen? ⟨R, o, none⟩ = false := free_of_heap h.row
theorem Rd.same {w w' : World} {R : Nat} {c : Rc} (h : Rd w R c) (hh : w'.heap[R]? = w.heap[R]?) : Rd w' R c := ⟨hh.trans h.row⟩
theorem Rd.on {w w' : World} {R : Nat} {c : Rc} (h : Rd w R c) (b : Below w.heap.size w w') : Rd w' R c := h.same (b.block _ h.lt)
theorem Rd.kept {F : Nat → Prop} {w w' : World} {R : Nat} {c : Rc} (h : Rd w R c) (k : Keeps F w w') (hF : ¬ F R) : Rd w' R c := h.same (k.block _ h.lt hF)
theorem Rd.set {w : World} {R : Nat} {c d : Rc} (h : Rd w R c) (o : Nat) (v : Value) (hd : c.cells.setIfInBounds o v = d.cells) : Rd (w.setCell ⟨R, o, none⟩ v) R d := ⟨by rw [heap_set h.row, hd]⟩
theorem Rd.set_i {w : World} {R : Nat} {c : Rc} (h : Rd w R c) (x : Int) : Rd (w.setCell ⟨R, 1, none⟩ (.int .i64 x)) R { c with i := x } := h.set 1 _ rfl
theorem keeps_below {F : Nat → Prop} {w w' : World} (h : Below w.heap.size w w') : Keeps F w w' := ⟨h.os, h.tape, h.output, h.size, fun k hk _ => h.block k hk⟩
theorem keeps_two {F : Nat → Prop} {a b c : World} (h : Keeps F a b) (k : Keeps F b c) : Keeps F a c := h.trans k fun _ h => .inl h
theorem tcell_get : ∀ (l : List Tok) (i c : Nat) (a : Tok) (v : Value), l[i]? = some a → a.cells[c]? = some v → (tokCells l)[i * 6 + c]? = some v
  | [], i, c, a, v, h, _ => by simp at h
  | t :: l, 0, c, a, v, h, hc => by
    simp only [List.getElem?_cons_zero, Option.some.injEq] at h
    subst h
    have hlt := (List.getElem?_eq_some_iff.1 hc).1
    rw [show tokCells (t :: l) = t.cells ++ tokCells l from rfl, List.getElem?_append_left (by omega), Nat.zero_mul, Nat.zero_add]
    exact hc
  | t :: l, i + 1, c, a, v, h, hc => by
    have h6 : t.cells.length = 6 := rfl
    rw [show tokCells (t :: l) = t.cells ++ tokCells l from rfl, List.getElem?_append_right (by rw [h6]; omega), h6, show (i + 1) * 6 + c - 6 = i * 6 + c by omega]
    exact tcell_get l i c a v (by simpa using h) hc
structure Tks (w : World) (tv : Value) (l : List Tok) : Prop where
  got : ∃ ad cap g, tv = .slice ad l.length cap ∧ l.length ≤ cap ∧ cap ≤ 9223372036854775807 ∧ (0 < l.length → ad = some ⟨g, 0, none⟩ ∧ g < w.heap.size) ∧ ∀ j u, (tokCells l)[j]? = some u → w.cell? ⟨g, j, none⟩ = some u
theorem Tks.keep {w w' : World} {tv : Value} {l : List Tok} (h : Tks w tv l) (hk : ∀ g, g < w.heap.size → (∃ j, w.cell? ⟨g, j, none⟩ ≠ none) → (∃ ad cap, tv = .slice ad l.length cap ∧ ad = some ⟨g, 0, none⟩) → w'.heap[g]? = w.heap[g]? ∧ g < w'.heap.size) : Tks w' tv l := by
  obtain ⟨ad, cap, g, h1, h2, h3, h4, h5⟩ := h.got
  rcases Nat.eq_zero_or_pos l.length with h0 | h0
  · have : l = [] := List.eq_nil_of_length_eq_zero h0
    subst this
    exact ⟨ad, cap, g, h1, h2, h3, fun h => absurd h (by simp), fun j u hu => by simp [tokCells] at hu⟩
  · obtain ⟨h6, h7⟩ := h4 h0
    have hc : ∃ j, w.cell? ⟨g, j, none⟩ ≠ none := by
      obtain ⟨t, ht⟩ : ∃ t, l[0]? = some t := ⟨l[0], List.getElem?_eq_getElem h0⟩
      exact ⟨0 * 6 + 0, by rw [h5 _ _ (tcell_get l 0 0 t _ ht rfl)]; simp⟩
    obtain ⟨k1, k2⟩ := hk g h7 hc ⟨ad, cap, h1, h6⟩
    exact ⟨ad, cap, g, h1, h2, h3, fun _ => ⟨h6, k2⟩, fun j u hu => (World.cell?_of_block k1).trans (h5 j u hu)⟩
theorem Tks.on {w w' : World} {tv : Value} {l : List Tok} (h : Tks w tv l) (b : Below w.heap.size w w') : Tks w' tv l := h.keep fun g hg _ _ => ⟨b.block g hg, Nat.lt_of_lt_of_le hg b.size⟩
theorem tokAt_some {l : List Tok} {i : Nat} {t : Tok} (h : l[i]? = some t) : tokAt l i = t := by simp [tokAt, h]
theorem tokAt_none {l : List Tok} {i : Nat} (h : l.length ≤ i) : tokAt l i = tok0 := by simp [tokAt, List.getElem?_eq_none h]
def Tok.val (t : Tok) : Value := .agg #[.int .i64 t.k, .int .i64 t.line, .int .i64 t.n, .string ⟨t.s.toArray⟩, .bool t.open', .bool t.tight]
theorem six_heap {W : World} {b : Nat} {x0 x1 x2 x3 x4 x5 : Value} {T : TypeId} (h : W.heap[b]? = some (.cells #[x0, x1, x2, x3, x4, x5] T (0, 0))) (y0 y1 y2 y3 y4 y5 : Value) :
    ((((((W.setCell ⟨b, 0, none⟩ y0).setCell ⟨b, 1, none⟩ y1).setCell ⟨b, 2, none⟩ y2).setCell ⟨b, 3, none⟩ y3).setCell ⟨b, 4, none⟩ y4).setCell ⟨b, 5, none⟩ y5).heap[b]? = some (.cells #[y0, y1, y2, y3, y4, y5] T (0, 0)) :=
  heap_set (heap_set (heap_set (heap_set (heap_set (heap_set h y0) y1) y2) y3) y4) y5
theorem six_below {B b : Nat} {w W : World} (h : Below B w W) (hb : B ≤ b) (y0 y1 y2 y3 y4 y5 : Value) :
    Below B w ((((((W.setCell ⟨b, 0, none⟩ y0).setCell ⟨b, 1, none⟩ y1).setCell ⟨b, 2, none⟩ y2).setCell ⟨b, 3, none⟩ y3).setCell ⟨b, 4, none⟩ y4).setCell ⟨b, 5, none⟩ y5) :=
  (((((h.setCell (p := ⟨b, 0, none⟩) hb _).setCell (p := ⟨b, 1, none⟩) hb _).setCell (p := ⟨b, 2, none⟩) hb _).setCell (p := ⟨b, 3, none⟩) hb _).setCell (p := ⟨b, 4, none⟩) hb _).setCell (p := ⟨b, 5, none⟩) hb _
theorem four_heap {W : World} {b : Nat} {x0 x1 x2 x3 : Value} {T : TypeId} (h : W.heap[b]? = some (.cells #[x0, x1, x2, x3] T (0, 0))) (y0 y1 y2 y3 : Value) :
    ((((W.setCell ⟨b, 0, none⟩ y0).setCell ⟨b, 1, none⟩ y1).setCell ⟨b, 2, none⟩ y2).setCell ⟨b, 3, none⟩ y3).heap[b]? = some (.cells #[y0, y1, y2, y3] T (0, 0)) :=
  heap_set (heap_set (heap_set (heap_set h y0) y1) y2) y3
theorem four_below {B b : Nat} {w W : World} (h : Below B w W) (hb : B ≤ b) (y0 y1 y2 y3 : Value) :
    Below B w ((((W.setCell ⟨b, 0, none⟩ y0).setCell ⟨b, 1, none⟩ y1).setCell ⟨b, 2, none⟩ y2).setCell ⟨b, 3, none⟩ y3) :=
  (((h.setCell (p := ⟨b, 0, none⟩) hb _).setCell (p := ⟨b, 1, none⟩) hb _).setCell (p := ⟨b, 2, none⟩) hb _).setCell (p := ⟨b, 3, none⟩) hb _
theorem drewn_below {B : Nat} {w W : World} (h : Below B w W) (n : Nat) : Below B w (W.drewN n) := ⟨h.os, h.tape, h.output, h.size, h.block⟩
theorem tokInfo : (Tryz.prog.info? 48).map (·.size) = some 6 := by kernel_rfl
theorem termInfo : (Tryz.prog.info? 34).map (·.size) = some 4 := by kernel_rfl
set_option maxRecDepth 100000 in
set_option maxHeartbeats 1600000 in
theorem next_is (w : World) (R : Nat) (c : Rc) (l : List Tok) (i : Nat) (h : Rd w R c) (ht : Tks w c.tv l) (hi : c.i = (i : Int)) (hib : i ≤ 1000000) (hl : l.length ≤ 1000000) :
    Calls Tryz.prog 51 #[.pointer (some ⟨R, 0, none⟩)] w fun e w' => e = .returned (tokAt l i).val ∧ Below w.heap.size w w' := by
  have BA := Lib.hid (fun o => (Below.refl w.heap.size w).alloc (Nat.le_refl _) o)
  have c0 := fun o => (h.on (BA.out o)).c_tv
  have c1 := fun o => (h.on (BA.out o)).c_i
  obtain ⟨ad, cap, g, h1, h2, h3, h4, h5⟩ := ht.got
  have hRlt := h.lt
  rw [h1] at c0
  rw [hi] at c1
  obtain ⟨n, hn⟩ : ∃ n, l.length = n := ⟨_, rfl⟩
  rw [hn] at c0 h2 h4
  have d1 : decide ((i : Int) < 0) = false := decide_eq_false (by omega)
  by_cases hlt : i < n
  · have d2 : decide ((i : Int) ≥ (n : Int)) = false := decide_eq_false (by omega)
    obtain ⟨t, hgt⟩ : ∃ t, l[i]? = some t := ⟨l[i]'(by omega), List.getElem?_eq_getElem _⟩
    rw [tokAt_some hgt]
    obtain ⟨h6, h7⟩ := h4 (by omega)
    subst h6
    have pc := fun o k u (hk : t.cells[k]? = some u) => ((BA.out o).cell (p := ⟨g, i * 6 + k, none⟩) h7).trans (h5 _ _ (tcell_get l i k t u hgt hk))
    have p0 := fun o => pc o 0 _ rfl
    have p1 := fun o => pc o 1 _ rfl
    have p2 := fun o => pc o 2 _ rfl
    have p3 := fun o => pc o 3 _ rfl
    have p4 := fun o => pc o 4 _ rfl
    have p5 := fun o => pc o 5 _ rfl
    obtain ⟨ak, al, an, az, ao, ai⟩ := t
    obtain ⟨S, hS⟩ : ∃ S : ByteArray, (⟨az.toArray⟩ : ByteArray) = S := ⟨_, rfl⟩
    simp only [Tok.val, hS] at p3 ⊢
    simp only [Nat.add_zero] at p0
    clear pc h5 hgt hS h h1 hi ht hl h4 hn
    go_enter Tryz.func51, Tryz.ntmps51
    go_wp2_with fail
    go_quiet (fail)
    go_wp2_with fail
    go_region
    go_wp2_with fail
    refine bodyPost_ret (results_cell_row rfl _ _ w.heap.size 48 _ _ _ rfl (six_heap (W := World.drewN _ _) (heap_alloc_new w _) _ _ _ _ _ _) Tryz.underlying48 rfl tokInfo) rfl ?_
    exact ⟨rfl, six_below (drewn_below (BA.out _) _) (Nat.le_refl _) _ _ _ _ _ _⟩
  · have d2 : decide ((i : Int) ≥ (n : Int)) = true := decide_eq_true (by omega)
    rw [tokAt_none (by omega)]
    clear h5 h h1 hi ht hl h4 hn
    go_enter Tryz.func51, Tryz.ntmps51
    go_wp2_with fail
    go_quiet (fail)
    go_wp2_with fail
    refine bodyPost_ret (results_cell_row rfl _ _ w.heap.size 48 _ _ _ rfl (six_heap (W := World.drewN _ _) (heap_alloc_new w _) _ _ _ _ _ _) Tryz.underlying48 rfl tokInfo) rfl ?_
    exact ⟨rfl, six_below (drewn_below (BA.out _) _) (Nat.le_refl _) _ _ _ _ _ _⟩
theorem pass_at (w : World) (R : Nat) (c : Rc) (h : Rd w R c) (h0 : 0 ≤ c.i) (h1 : c.i ≤ 1000000) :
    Calls Tryz.prog 147 #[.pointer (some ⟨R, 0, none⟩)] w fun e w' => e = .returned (.tuple #[]) ∧ w' = w.setCell ⟨R, 1, none⟩ (.int .i64 (c.i + 1)) := by
  have c1 := h.c_i
  have z1 := h.free 1
  obtain ⟨i, hi⟩ : ∃ i, c.i = i := ⟨_, rfl⟩
  rw [hi] at c1 h0 h1 ⊢
  clear h hi
  go_enter Tryz.func147, Tryz.ntmps147
  go_wp2
  go_end0
  exact ⟨rfl, rfl⟩
def stuckE : Ending := .panicked [{ v := .iface 177 (.agg #[]), recovered := false }]
theorem giveUp_is (w : World) (p : Value) :
    Calls Tryz.prog 146 #[p] w fun e w' => e = stuckE ∧ w' = w := by
  go_enter Tryz.func146, Tryz.ntmps146
  go_wp2
  exact ⟨rfl, rfl, rfl⟩
end Go.Proofs.YtkplokfcjjcpcaaGreatDoor
end
section
namespace Go.Proofs.YtkplokfcjjcpcaaGreatDoor
open Go Go.RowKit Go.Maps Trm
def pt (b : Nat) : Value := .pointer (some ⟨b, 0, none⟩)
def One (w : World) (b : Nat) (T : TypeId) (v : Value) : Prop := w.heap[b]? = some (.cells #[v] T (0, 0))
theorem One.cell {w : World} {b : Nat} {T : TypeId} {v : Value} (h : One w b T v) : w.cell? ⟨b, 0, none⟩ = some v := cell_of_heap h rfl
theorem One.free {w : World} {b : Nat} {T : TypeId} {v : Value} (h : One w b T v) : w.frozen? ⟨b, 0, none⟩ = false := free_of_heap h
theorem One.lt {w : World} {b : Nat} {T : TypeId} {v : Value} (h : One w b T v) : b < w.heap.size := heap_lt h
theorem One.keeps {F : Nat → Prop} {w w' : World} {b : Nat} {T : TypeId} {v : Value} (h : One w b T v) (k : Keeps F w w') (hF : ¬ F b) : One w' b T v := k.heap h hF
inductive AlA where
  | comp (rb nb : Nat) (s : ByteArray)
  | items
def AlA.val (R : Nat) : AlA → Value
  | .comp rb nb _ => .func (.func 226) #[] #[pt rb, pt nb]
  | .items => .func (.func 186) #[pt R] #[]
def AlA.al : AlA → Al
  | .comp _ _ s => .comp s
  | .items => .items
def AlA.mem (w : World) (R : Nat) (S : Nat → Prop) : AlA → Prop
  | .comp rb nb s => S rb ∧ S nb ∧ One w rb 102 (pt R) ∧ One w nb 9 (.string s)
  | .items => True
inductive KtA where
  | stop
  | round
  | braces
  | args (rb lb ab : Nat) (v : Value) (l : List AT) (al : AlA)
  | tail (rb lb G : Nat) (v : Value) (l : List AT)
  | pre (rb nb pb : Nat) (s : ByteArray) (p : Int)
  | inf (rb nb sb pb : Nat) (s : ByteArray) (so : AT) (p : Int)
def KtA.val (R : Nat) : KtA → Value
  | .stop => .func (.func 94) #[pt R] #[]
  | .round => .func (.func 183) #[pt R] #[]
  | .braces => .func (.func 187) #[pt R] #[]
  | .args rb lb ab _ _ _ => .func (.func 224) #[] #[pt lb, pt rb, pt ab]
  | .tail rb lb _ _ _ => .func (.func 225) #[] #[pt rb, pt lb]
  | .pre rb nb pb _ _ => .func (.func 229) #[] #[pt rb, pt nb, pt pb]
  | .inf rb nb sb pb _ _ _ => .func (.func 231) #[] #[pt rb, pt nb, pt sb, pt pb]
def KtA.kt : KtA → Kt
  | .stop => .stop
  | .round => .round
  | .braces => .braces
  | .args _ _ _ _ l al => .args (ATs.erase l) al.al
  | .tail _ _ _ _ l => .tail (ATs.erase l)
  | .pre _ _ _ s p => .pre s p
  | .inf _ _ _ _ s so p => .inf s so.erase p
def KtA.own : KtA → List Nat
  | .args _ lb _ v _ _ => lb :: v.ownBlock.toList
  | _ => []
def KtA.mem (B : Nat) (w : World) (R : Nat) (S : Nat → Prop) : KtA → Prop
  | .args rb lb ab v l al => S rb ∧ S ab ∧ al.mem w R S ∧ One w rb 102 (pt R) ∧ One w ab 258 (al.val R) ∧ One w lb 32 v ∧ w.ownsRow B 34 4 v l.length (headCells l) ∧ ∀ t ∈ l, t.mem w ∧ t.ins S
  | .tail rb lb G v l => S rb ∧ S lb ∧ One w rb 102 (pt R) ∧ One w lb 32 v ∧ SvOk v G 0 l.length ∧ ATs.mem w G l 0 ∧ (l ≠ [] → S G) ∧ ATs.ins S l
  | .pre rb nb pb s p => S rb ∧ S nb ∧ S pb ∧ One w rb 102 (pt R) ∧ One w nb 9 (.string s) ∧ One w pb 3 (.int .i64 p)
  | .inf rb nb sb pb s so p => S rb ∧ S nb ∧ S sb ∧ S pb ∧ One w rb 102 (pt R) ∧ One w nb 9 (.string s) ∧ w.heap[sb]? = some (.cells #[.int .i64 so.k, .int .i64 so.n, .string so.s, so.sv] 34 (0, 0)) ∧ One w pb 3 (.int .i64 p) ∧ so.mem w ∧ so.ins S
  | _ => True
theorem AlA.mem_keeps {F S S' : Nat → Prop} {w w' : World} {R : Nat} {x : AlA} (h : x.mem w R S) (hk : Keeps F w w') (hS : ∀ j, S j → ¬ F j) (hS' : ∀ j, S j → S' j) : x.mem w' R S' := by
  cases x with
  | items => trivial
  | comp rb nb s =>
    obtain ⟨h1, h2, h3, h4⟩ := h
    exact ⟨hS' _ h1, hS' _ h2, h3.keeps hk (hS _ h1), h4.keeps hk (hS _ h2)⟩
theorem row_keeps {F : Nat → Prop} {w w' : World} {b n : Nat} {e : TypeId} {size : Nat} {v : Value} {xs : List Value} (h : w.ownsRow b e size v n xs) (k : Keeps F w w') (hF : ∀ g, v.ownBlock = some g → ¬ F g) : w'.ownsRow b e size v n xs := by
  obtain ⟨h1, h2 | ⟨g, cap, cur, hv, h3, h4, r⟩⟩ := h
  · exact ⟨h1, .inl h2⟩
  · exact ⟨h1, .inr ⟨g, cap, cur, hv, h3, k.heap h4 (hF g (by rw [hv]; rfl)), r⟩⟩
theorem ATs.mem_keeps {F S : Nat → Prop} {w w' : World} (hk : Keeps F w w') (hS : ∀ j, S j → ¬ F j) {l : List AT} {G o : Nat} (hG : l ≠ [] → S G) (hi : ATs.ins S l) (hm : ATs.mem w G l o) : ATs.mem w' G l o := by
  by_cases hl : l = []
  · subst hl; trivial
  · have h2 := ATs.ins_size l o G hm
    refine ATs.mem_same (S := fun j => S j ∧ j < w.heap.size) (fun j hj => hk.block j hj.2 (hS j hj.1)) l o G ⟨hG hl, ?_⟩ (AT.mem_keeps.ATs.ins_and l hi h2) hm
    cases l with
    | nil => exact absurd rfl hl
    | cons t r => exact hm.1.1.lt
theorem KtA.mem_keeps {F S S' : Nat → Prop} {B : Nat} {w w' : World} {R : Nat} {x : KtA} (h : x.mem B w R S) (hk : Keeps F w w') (hS : ∀ j, S j → ¬ F j) (hS' : ∀ j, S j → S' j) (ho : ∀ j ∈ x.own, ¬ F j) : x.mem B w' R S' := by
  cases x with
  | args rb lb ab v l al =>
    obtain ⟨h1, h2, h3, h4, h5, h6, h7, h8⟩ := h
    refine ⟨hS' _ h1, hS' _ h2, AlA.mem_keeps h3 hk hS hS', h4.keeps hk (hS _ h1), h5.keeps hk (hS _ h2), h6.keeps hk (ho _ (by simp [KtA.own])), row_keeps h7 hk (fun g hg => ho _ (by simp [KtA.own, hg])), fun t ht => ?_⟩
    obtain ⟨a, b⟩ := h8 t ht
    exact ⟨AT.mem_keeps hk b hS a, AT.ins_mono hS' t b⟩
  | tail rb lb G v l =>
    obtain ⟨h1, h2, h3, h4, h5, h6, h7, h8⟩ := h
    exact ⟨hS' _ h1, hS' _ h2, h3.keeps hk (hS _ h1), h4.keeps hk (hS _ h2), h5, ATs.mem_keeps hk hS h7 h8 h6, fun hl => hS' _ (h7 hl), ATs.ins_mono hS' l h8⟩
  | pre rb nb pb s p =>
    obtain ⟨h1, h2, h3, h4, h5, h6⟩ := h
    exact ⟨hS' _ h1, hS' _ h2, hS' _ h3, h4.keeps hk (hS _ h1), h5.keeps hk (hS _ h2), h6.keeps hk (hS _ h3)⟩
  | inf rb nb sb pb s so p =>
    obtain ⟨h1, h2, h3, h4, h5, h6, h7, h8, h9, h10⟩ := h
    exact ⟨hS' _ h1, hS' _ h2, hS' _ h3, hS' _ h4, h5.keeps hk (hS _ h1), h6.keeps hk (hS _ h2), hk.heap h7 (hS _ h3), h8.keeps hk (hS _ h4), AT.mem_keeps hk h10 hS h9, AT.ins_mono hS' so h10⟩
  | stop => trivial
  | round => trivial
  | braces => trivial
structure FrA where
  most : Int
  k : KtA
def FrA.fr (f : FrA) : Fr := ⟨f.most, f.k.kt⟩
def frCells (R : Nat) : List FrA → List Value
  | [] => []
  | f :: r => frCells R r ++ [.int .i64 f.most, f.k.val R]
theorem frCells_len (R : Nat) (l : List FrA) : (frCells R l).length = l.length * 2 := by
  induction l with
  | nil => rfl
  | cons f r ih => simp [frCells, ih]; omega
def bindCells (vs : List (ByteArray × Int)) : List Value := vs.flatMap fun p => [.string p.1, .int .i64 p.2]
def Still (w : World) (O : List Nat) (j : Nat) : Prop := j < w.heap.size ∧ j ∉ O
def ownL (R : Nat) (c : Rc) (fr : List FrA) (E : List Nat) : List Nat := R :: c.nb :: (c.nv.ownBlock.toList ++ (c.wv.ownBlock.toList ++ (fr.flatMap (fun f => f.k.own) ++ E)))
def VarMap (D : DataW Unit) (vs : List (ByteArray × Int)) : Prop :=
  Maps.IsMap D ∧ ∀ s : ByteArray, s.size ≤ maxLen → (Maps.has D (.string s.data.toList) = (fndV vs s).isSome ∧ D.atKey (.string s.data.toList) (.lit (.int .i64 0)) = .lit (.int .i64 ((fndV vs s).getD 0)))
structure MemX (B : Nat) (w : World) (R : Nat) (c : Rc) (fr : List FrA) (so : AT) (vs : List (ByteArray × Int)) (E : List Nat) : Prop where
  rd : Rd w R c
  k : c.k = so.k
  n : c.n = so.n
  s : c.s = so.s
  sv : c.sv = so.sv
  wait : w.ownsRow B 225 2 c.wv fr.length (frCells R fr)
  nums : ∃ m D, w.ownsMap Tryz.prog 9 (plainElem (H := Unit) Tryz.prog 2) c.nb m D ∧ m ≤ vs.length ∧ VarMap D vs
  names : w.ownsRow B 59 2 c.nv vs.length (bindCells vs)
  nodup : (ownL R c fr E).Nodup
  low : ∀ j ∈ ownL R c fr E, B ≤ j ∧ j < w.heap.size
  frs : ∀ f ∈ fr, f.k.mem B w R (Still w (ownL R c fr E))
  som : so.mem w
  soi : so.ins (Still w (ownL R c fr E))
theorem mem_ownL {R : Nat} {c : Rc} {fr : List FrA} {E : List Nat} {j : Nat} : j ∈ ownL R c fr E ↔ j = R ∨ j = c.nb ∨ c.nv.ownBlock = some j ∨ c.wv.ownBlock = some j ∨ (∃ f ∈ fr, j ∈ f.k.own) ∨ j ∈ E := by
  simp [ownL]
theorem MemX.keep {F : Nat → Prop} {B : Nat} {w w' : World} {R : Nat} {c d : Rc} {fr : List FrA} {so : AT} {vs : List (ByteArray × Int)} {E : List Nat} (h : MemX B w R c fr so vs E) (hk : Keeps F w w') (hF : ∀ j, F j → j = R ∨ w.heap.size ≤ j) (hd : Rd w' R d)
    (e1 : d.nb = c.nb) (e2 : d.nv = c.nv) (e3 : d.wv = c.wv) (e4 : d.k = c.k) (e5 : d.n = c.n) (e6 : d.s = c.s) (e7 : d.sv = c.sv) : MemX B w' R d fr so vs E := by
  have hO : ownL R d fr E = ownL R c fr E := by unfold ownL; rw [e1, e2, e3]
  have hnd := h.nodup
  have hlt := h.low
  have hne : ∀ j, j ∈ ownL R c fr E → j ≠ R → ¬ F j := fun j hj hR hFj => by
    rcases hF j hFj with h1 | h1
    · exact hR h1
    · have := (hlt j hj).2; omega
  have hR : ∀ j, j ∈ c.nb :: (c.nv.ownBlock.toList ++ (c.wv.ownBlock.toList ++ (fr.flatMap (fun f => f.k.own) ++ E))) → j ≠ R := fun j hj e => by
    subst e
    exact (List.nodup_cons.1 hnd).1 hj
  have hS : ∀ j, Still w (ownL R c fr E) j → ¬ F j := fun j hj hFj => by
    rcases hF j hFj with h1 | h1
    · exact hj.2 (by rw [h1]; simp [ownL])
    · have := hj.1; omega
  have hS' : ∀ j, Still w (ownL R c fr E) j → Still w' (ownL R d fr E) j := fun j hj => ⟨Nat.lt_of_lt_of_le hj.1 hk.size, by rw [hO]; exact hj.2⟩
  obtain ⟨m, D, n1, n2, n3⟩ := h.nums
  refine ⟨hd, e4.trans h.k, e5.trans h.n, e6.trans h.s, e7.trans h.sv, ?_, ⟨m, D, ?_, n2, n3⟩, ?_, by rw [hO]; exact hnd, fun j hj => ?_, fun f hf => ?_, AT.mem_keeps hk h.soi hS h.som, AT.ins_mono hS' so h.soi⟩
  · rw [e3]
    exact row_keeps h.wait hk fun g hg => hne g (mem_ownL.2 (.inr (.inr (.inr (.inl hg))))) (hR g (by simp [hg]))
  · rw [e1]
    obtain ⟨es, clock, hb, r⟩ := n1
    exact ⟨es, clock, hk.heap hb (hne _ (mem_ownL.2 (.inr (.inl rfl))) (hR _ (by simp))), r⟩
  · rw [e2]
    exact row_keeps h.names hk fun g hg => hne g (mem_ownL.2 (.inr (.inr (.inl hg)))) (hR g (by simp [hg]))
  · rw [hO] at hj
    exact ⟨(hlt j hj).1, Nat.lt_of_lt_of_le (hlt j hj).2 hk.size⟩
  · refine KtA.mem_keeps (h.frs f hf) hk hS hS' fun j hj => ?_
    exact hne j (mem_ownL.2 (.inr (.inr (.inr (.inr (.inl ⟨f, hf, hj⟩)))))) (hR j (by simp; exact .inr (.inr (.inr (.inl ⟨f, hf, hj⟩)))))
theorem MemX.other {B : Nat} {w : World} {R : Nat} {c d : Rc} {fr : List FrA} {so x : AT} {vs : List (ByteArray × Int)} {E E' : List Nat} {w' : World} {F : Nat → Prop} (h : MemX B w R c fr so vs E) (hk : Keeps F w w') (hF : ∀ j, F j → j = R ∨ w.heap.size ≤ j) (hd : Rd w' R d)
    (e1 : d.nb = c.nb) (e2 : d.nv = c.nv) (e3 : d.wv = c.wv) (e4 : d.k = x.k) (e5 : d.n = x.n) (e6 : d.s = x.s) (e7 : d.sv = x.sv) (hx : x.mem w) (hi : x.ins (Still w (ownL R c fr E'))) (hE : E'.Sublist E) : MemX B w' R d fr x vs E' := by
  have hsub : (ownL R c fr E').Sublist (ownL R c fr E) := by
    unfold ownL
    exact .cons_cons _ (.cons_cons _ (.append (.refl _) (.append (.refl _) (.append (.refl _) hE))))
  have h0 : MemX B w R { c with k := x.k, n := x.n, s := x.s, sv := x.sv } fr x vs E' → MemX B w' R d fr x vs E' := fun h0 => h0.keep hk hF hd e1 e2 e3 e4 e5 e6 e7
  have hS : ∀ j, Still w (ownL R c fr E) j → Still w (ownL R c fr E') j := fun j hj => ⟨hj.1, fun hm => hj.2 (hsub.subset hm)⟩
  have hO : ownL R d fr E' = ownL R c fr E' := by unfold ownL; rw [e1, e2, e3]
  have hlow : ∀ j ∈ ownL R c fr E', B ≤ j ∧ j < w.heap.size := fun j hj => h.low j (hsub.subset hj)
  have hnd : (ownL R c fr E').Nodup := h.nodup.sublist hsub
  have hne : ∀ j, j ∈ ownL R c fr E' → j ≠ R → ¬ F j := fun j hj hR hFj => by
    rcases hF j hFj with h1 | h1
    · exact hR h1
    · have := (hlow j hj).2; omega
  have hR : ∀ j, j ∈ c.nb :: (c.nv.ownBlock.toList ++ (c.wv.ownBlock.toList ++ (fr.flatMap (fun f => f.k.own) ++ E'))) → j ≠ R := fun j hj e => by
    subst e
    exact (List.nodup_cons.1 hnd).1 hj
  have hSF : ∀ j, Still w (ownL R c fr E') j → ¬ F j := fun j hj hFj => by
    rcases hF j hFj with h1 | h1
    · exact hj.2 (by rw [h1]; simp [ownL])
    · have := hj.1; omega
  have hS' : ∀ j, Still w (ownL R c fr E') j → Still w' (ownL R d fr E') j := fun j hj => ⟨Nat.lt_of_lt_of_le hj.1 hk.size, by rw [hO]; exact hj.2⟩
  obtain ⟨m, D, n1, n2, n3⟩ := h.nums
  refine ⟨hd, e4, e5, e6, e7, ?_, ⟨m, D, ?_, n2, n3⟩, ?_, by rw [hO]; exact hnd, fun j hj => ?_, fun f hf => ?_, AT.mem_keeps hk hi hSF hx, AT.ins_mono hS' x hi⟩
  · rw [e3]
    exact row_keeps h.wait hk fun g hg => hne g (mem_ownL.2 (.inr (.inr (.inr (.inl hg))))) (hR g (by simp [hg]))
  · rw [e1]
    obtain ⟨es, clock, hb, r⟩ := n1
    exact ⟨es, clock, hk.heap hb (hne _ (mem_ownL.2 (.inr (.inl rfl))) (hR _ (by simp))), r⟩
  · rw [e2]
    exact row_keeps h.names hk fun g hg => hne g (mem_ownL.2 (.inr (.inr (.inl hg)))) (hR g (by simp [hg]))
  · rw [hO] at hj
    exact ⟨(hlow j hj).1, Nat.lt_of_lt_of_le (hlow j hj).2 hk.size⟩
  · refine KtA.mem_keeps (KtA.mem_keeps (h.frs f hf) (Keeps.refl (fun _ => False) w) (fun _ _ h => h) hS (fun _ _ h => h)) hk hSF hS' fun j hj => ?_
    exact hne j (mem_ownL.2 (.inr (.inr (.inr (.inr (.inl ⟨f, hf, hj⟩)))))) (hR j (by simp; exact .inr (.inr (.inr (.inl ⟨f, hf, hj⟩)))))
end Go.Proofs.YtkplokfcjjcpcaaGreatDoor
end
section
namespace Go.Proofs.YtkplokfcjjcpcaaGreatDoor
open Go Go.RowKit Go.Maps Trm
attribute [local go_sem ↓] Go.wp_at_zero Go.wp_at_succ
def TakesPost (w : World) (R : Nat) (c : Rc) (b : Bool) (e : Ending) (w' : World) : Prop :=
  e = .returned (.bool b) ∧ Keeps (fun j => j = R) w w' ∧ Rd w' R (if b = true then { c with i := c.i + 1 } else c)
theorem below_keeps {F : Nat → Prop} {a w w' : World} (h : Keeps F a w) (b : Below w.heap.size w w') : Keeps F a w' := keeps_two h (keeps_below b)
set_option maxRecDepth 100000 in
set_option maxHeartbeats 1600000 in
theorem takes_is (w : World) (R : Nat) (c : Rc) (l : List Tok) (i : Nat) (s : ByteArray) (b : Bool) (h : Rd w R c) (ht : Tks w c.tv l) (hi : c.i = (i : Int)) (hib : i ≤ 100000) (hl : l.length ≤ 1000000) (hb : isP l i s.data.toList = b) :
    Calls Tryz.prog 223 #[.pointer (some ⟨R, 0, none⟩), .string s] w (TakesPost w R c b) := by
  have N := Lib.hid (next_is w R c l i h ht hi (by omega) hl)
  have hP := fun W (k : Rd W R c) => pass_at W R c k (by omega) (by omega)
  have HP := Lib.hid hP
  have HR := Lib.hid (fun w1 (b1 : Below w.heap.size w w1) o => h.on ((b1.alloc b1.size o)))
  have HK := Lib.hid (fun w1 (b1 : Below w.heap.size w w1) o => keeps_below (F := fun j => j = R) ((b1.alloc b1.size o)))
  have hlt := h.lt
  unfold isP at hb
  obtain ⟨t, hT⟩ : ∃ t, tokAt l i = t := ⟨_, rfl⟩
  rw [hT] at hb N
  clear hT h ht hi hib hl hP
  obtain ⟨tk, tl, tn, ts, tO, tt⟩ := t
  obtain ⟨S, hS⟩ : ∃ S : ByteArray, (⟨ts.toArray⟩ : ByteArray) = S := ⟨_, rfl⟩
  have hSl : ts = S.toList := by rw [← hS, Lib.toList_data]
  simp only [Tok.val, hS] at N
  simp only at hb
  rw [hSl, ← Lib.toList_data] at hb
  clear hS hSl
  cases hk : (tk == 6)
  · rw [hk] at hb
    obtain rfl : false = b := by simpa using hb
    have hk' : (tk != 6) = true := by simp [bne, hk]
    clear hk hb
    go_enter Tryz.func223, Tryz.ntmps223
    go_wp2_with fail
    refine N.out.mono ?_
    rintro e w1 ⟨rfl, b1⟩
    have K1 := Lib.hid (HK.out w1 b1)
    have R1 := Lib.hid (HR.out w1 b1)
    clear b1 N
    go_wp2_with fail
    go_ret
    exact ⟨rfl, K1.out _, R1.out _⟩
  · rw [hk] at hb
    have hk' : (tk != 6) = false := by simp [bne, hk]
    have hs' : (S.toList == s.toList) = b := by rw [← hb]; simp
    clear hk hb
    cases b
    · go_enter Tryz.func223, Tryz.ntmps223
      go_wp2_with fail
      refine N.out.mono ?_
      rintro e w1 ⟨rfl, b1⟩
      have K1 := Lib.hid (HK.out w1 b1)
      have R1 := Lib.hid (HR.out w1 b1)
      clear b1 N
      go_wp2_with fail
      go_ret
      exact ⟨rfl, K1.out _, R1.out _⟩
    · go_enter Tryz.func223, Tryz.ntmps223
      go_wp2_with fail
      refine N.out.mono ?_
      rintro e w1 ⟨rfl, b1⟩
      have K1 := Lib.hid (HK.out w1 b1)
      have R1 := Lib.hid (HR.out w1 b1)
      clear b1 N
      go_wp2_with fail
      refine (HP.out _ (R1.out _)).mono ?_
      rintro e w2 ⟨rfl, hw⟩
      obtain rfl := hw.symm
      have K2 := Lib.hid ((K1.out (.cells #[.int .i64 tk, .int .i64 tl, .int .i64 tn, .string S, .bool tO, .bool tt] 48)).setCell (p := ⟨R, 1, none⟩) (.inl rfl) (.int .i64 (c.i + 1)))
      have R2 := Lib.hid ((R1.out (.cells #[.int .i64 tk, .int .i64 tl, .int .i64 tn, .string S, .bool tO, .bool tt] 48)).set_i (c.i + 1))
      go_wp2_with fail
      go_ret
      exact ⟨rfl, K2.out, R2.out⟩
def ExpectPost (w : World) (R : Nat) (c : Rc) (b : Bool) (e : Ending) (w' : World) : Prop :=
  e = (if b = true then .returned (.tuple #[]) else stuckE) ∧ Keeps (fun j => j = R) w w' ∧ Rd w' R (if b = true then { c with i := c.i + 1 } else c)
set_option maxHeartbeats 1600000 in
theorem expect_is (w : World) (R : Nat) (c : Rc) (l : List Tok) (i : Nat) (s : ByteArray) (b : Bool) (h : Rd w R c) (ht : Tks w c.tv l) (hi : c.i = (i : Int)) (hib : i ≤ 100000) (hl : l.length ≤ 1000000) (hb : isP l i s.data.toList = b) :
    Calls Tryz.prog 222 #[.pointer (some ⟨R, 0, none⟩), .string s] w (ExpectPost w R c b) := by
  have T := Lib.hid (takes_is w R c l i s b h ht hi hib hl hb)
  clear h ht hi hib hl hb
  cases b
  · go_enter Tryz.func222, Tryz.ntmps222
    go_wp2_with fail
    refine T.out.mono ?_
    rintro e w1 ⟨rfl, k1, r1⟩
    have K1 := Lib.hid k1
    have R1 := Lib.hid r1
    clear k1 r1
    go_wp2_with fail
    refine (giveUp_is _ _).mono ?_
    rintro e w2 ⟨rfl, hw⟩
    obtain rfl := hw.symm
    unfold stuckE
    go_wp2_with fail
    exact ⟨rfl, rfl, K1.out, R1.out⟩
  · go_enter Tryz.func222, Tryz.ntmps222
    go_wp2_with fail
    refine T.out.mono ?_
    rintro e w1 ⟨rfl, k1, r1⟩
    have K1 := Lib.hid k1
    have R1 := Lib.hid r1
    clear k1 r1
    go_wp2_with fail
    first | go_end0 | refine bodyPost_ret (results_none rfl _ _ _) rfl ?_
    exact ⟨rfl, K1.out, R1.out⟩
end Go.Proofs.YtkplokfcjjcpcaaGreatDoor
end
