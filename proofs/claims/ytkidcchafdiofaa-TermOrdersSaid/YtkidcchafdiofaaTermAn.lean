/- The document's Compare: a contract. Conditions: memory holds both terms; each has at most 800000 parts. -/
import Derived.Test.YtkidcchafdiofaaTermAm
import Derived.BigGuardPart
import Derived.Deep.RegionHeld3
import Derived.Deep.DrawnRows
namespace Go.Proofs.Ytkidcchafdiofaa
open Go Go.RowKit
attribute [local go_sem ↓] Go.wp_at_zero Go.wp_at_succ

mutual
/-- how two terms stand, as the document says it -/
def AT.cmpR : AT → AT → Int
  | .mk k n s _ _ _ l, u => if Lib.compareInt k u.k ≠ 0 then Lib.compareInt k u.k else if k ≤ 2 then Lib.compareInt n u.n else if Lib.compareInt l.length u.l.length ≠ 0 then Lib.compareInt l.length u.l.length else if cmpB s.toList u.s.toList ≠ 0 then cmpB s.toList u.s.toList else ATs.cmpR l u.l
def ATs.cmpR : List AT → List AT → Int
  | [], _ => 0
  | _ :: _, [] => 0
  | t :: r, u :: v => if AT.cmpR t u ≠ 0 then AT.cmpR t u else ATs.cmpR r v
end
theorem AT.cmpR_mk {t u : AT} : t.cmpR u = if Lib.compareInt t.k u.k ≠ 0 then Lib.compareInt t.k u.k else if t.k ≤ 2 then Lib.compareInt t.n u.n else if Lib.compareInt t.l.length u.l.length ≠ 0 then Lib.compareInt t.l.length u.l.length else if cmpB t.s.toList u.s.toList ≠ 0 then cmpB t.s.toList u.s.toList else ATs.cmpR t.l u.l := by cases t; rfl
mutual
theorem AT.cmpR_rng : ∀ t u : AT, t.cmpR u = -1 ∨ t.cmpR u = 0 ∨ t.cmpR u = 1
  | .mk k n s _ _ _ l, u => by
    have := ATs.cmpR_rng l u.l
    rw [AT.cmpR]
    split
    · exact int_rng _ _
    · split
      · exact int_rng _ _
      · split
        · exact int_rng _ _
        · split
          · exact bytes_rng _ _
          · exact this
theorem ATs.cmpR_rng : ∀ l m : List AT, ATs.cmpR l m = -1 ∨ ATs.cmpR l m = 0 ∨ ATs.cmpR l m = 1
  | [], _ => .inr (.inl rfl)
  | _ :: _, [] => .inr (.inl rfl)
  | t :: r, u :: v => by
    rw [ATs.cmpR]
    split
    · exact AT.cmpR_rng t u
    · exact ATs.cmpR_rng r v
end
theorem cmpR_take : ∀ (i : Nat) (l m : List AT) (t u : AT), l[i]? = some t → m[i]? = some u → ATs.cmpR (l.take i) (m.take i) = 0 → ATs.cmpR (l.take (i + 1)) (m.take (i + 1)) = t.cmpR u
  | _, [], _, _, _, h, _, _ => by simp at h
  | _, _ :: _, [], _, _, _, h, _ => by simp at h
  | 0, a :: r, b :: v, t, u, h1, h2, _ => by
    simp at h1 h2
    subst h1 h2
    simp [ATs.cmpR]
    intro h; exact h.symm
  | i + 1, a :: r, b :: v, t, u, h1, h2, h0 => by
    rw [List.take_succ_cons, List.take_succ_cons, ATs.cmpR] at h0 ⊢
    by_cases h : a.cmpR b = 0
    · rw [if_neg (by simp [h])] at h0 ⊢
      exact cmpR_take i r v t u (by simpa using h1) (by simpa using h2) h0
    · rw [if_pos h] at h0
      exact absurd h0 h
theorem cmpR_done : ∀ (i : Nat) (l m : List AT), l.length = m.length → ATs.cmpR (l.take i) (m.take i) ≠ 0 → ATs.cmpR l m = ATs.cmpR (l.take i) (m.take i)
  | 0, l, m, _, h => by simp [ATs.cmpR] at h
  | i + 1, [], m, _, h => by simp [ATs.cmpR] at h
  | i + 1, a :: r, [], hl, _ => by simp at hl
  | i + 1, a :: r, b :: v, hl, h => by
    rw [List.take_succ_cons, List.take_succ_cons, ATs.cmpR] at h ⊢
    rw [ATs.cmpR]
    by_cases h2 : a.cmpR b = 0
    · rw [if_neg (by simp [h2])] at h ⊢
      rw [if_neg (by simp [h2])]
      exact cmpR_done i r v (by simpa using hl) h
    · rw [if_pos h2, if_pos h2]

/-- what holds ahead of each of Compare's rounds -/
def CmpSt (W : World) (x y : AT) (i : Nat) (z : Int) (w : World) : Prop := Below W.heap.size W w ∧ z = (if cmpB x.s.toList y.s.toList ≠ 0 then cmpB x.s.toList y.s.toList else ATs.cmpR (x.l.take i) (y.l.take i))
theorem cmpInt_lt {a b : Int} (h : a < b) : Lib.compareInt a b = -1 := by unfold Lib.compareInt; rw [if_pos h]
theorem cmpInt_gt {a b : Int} (h : b < a) : Lib.compareInt a b = 1 := by unfold Lib.compareInt; rw [if_neg (by omega), if_pos h]
end Go.Proofs.Ytkidcchafdiofaa
