/- The document's Compare and the program's answer alike on terms that may be. Conditions: none. -/
import Derived.Test.YtkidcchafdiofaaTermAo
namespace Go.Proofs.Ytkidcchafdiofaa
open Go Go.RowKit

mutual
/-- the shape of a term that Good makes -/
def AT.shp : AT → Prop
  | .mk k n s _ _ _ l => ((k ≤ 2 ∧ s = ⟨#[]⟩ ∧ l = []) ∨ (3 ≤ k ∧ n = 0)) ∧ ATs.shp l
def ATs.shp : List AT → Prop
  | [] => True
  | t :: r => AT.shp t ∧ ATs.shp r
end
theorem AT.shp_mk {t : AT} : t.shp ↔ ((t.k ≤ 2 ∧ t.s = ⟨#[]⟩ ∧ t.l = []) ∨ (3 ≤ t.k ∧ t.n = 0)) ∧ ATs.shp t.l := by cases t; exact Iff.rfl
theorem parts_mk {t : AT} : t.parts = ATs.parts t.l := by cases t; rfl
mutual
theorem AT.cmp_eq : ∀ (t u : AT) (r r' : List AT), t.shp → u.shp → cmpP (t :: (t.parts ++ r)) (u :: (u.parts ++ r')) = if t.cmpR u ≠ 0 then t.cmpR u else cmpP r r'
  | .mk k n s sv G off l, u, r, r', ht, hu => by
    obtain ⟨hs, hl⟩ := ht
    obtain ⟨hs', hl'⟩ := AT.shp_mk.1 hu
    have ih := ATs.cmp_eq l u.l r r' hl hl'
    rw [cmpP, AT.cmpR, AT.parts, parts_mk (t := u)]
    show (if or4 (Lib.compareInt k u.k) (Lib.compareInt n u.n) (Lib.compareInt l.length u.l.length) (cmpS s u.s) ≠ 0 then or4 (Lib.compareInt k u.k) (Lib.compareInt n u.n) (Lib.compareInt l.length u.l.length) (cmpS s u.s) else _) = _
    rw [cmpS_bytes]
    unfold or4
    by_cases hk : Lib.compareInt k u.k = 0
    · have hkk := cmpI_zero hk
      rw [hk]
      rcases hs with ⟨h1, h2, h3⟩ | ⟨h1, h2⟩
      · rcases hs' with ⟨_, h2', h3'⟩ | ⟨h1', _⟩
        · subst h2 h3
          rw [h2', h3', bytes_self, if_pos h1]
          have e : Lib.compareInt (([] : List AT).length : Int) (([] : List AT).length : Int) = 0 := int_self _
          rw [e]
          by_cases hn : Lib.compareInt n u.n = 0
          · rw [hn]; simp [ATs.parts]
          · simp [hn]
        · omega
      · rcases hs' with ⟨h1', _, _⟩ | ⟨_, h2'⟩
        · omega
        · rw [h2, h2', int_self, if_neg (show ¬ k ≤ 2 by omega)]
          by_cases hL : Lib.compareInt (l.length : Int) (u.l.length : Int) = 0
          · have hLL : l.length = u.l.length := by have := cmpI_zero hL; omega
            rw [hL]
            by_cases hS : cmpB s.toList u.s.toList = 0
            · rw [hS]
              simpa using ih hLL
            · simp [hS]
          · simp [hL]
    · simp [hk]
theorem ATs.cmp_eq : ∀ (l m : List AT) (r r' : List AT), ATs.shp l → ATs.shp m → l.length = m.length → cmpP (ATs.parts l ++ r) (ATs.parts m ++ r') = if ATs.cmpR l m ≠ 0 then ATs.cmpR l m else cmpP r r'
  | [], [], r, r', _, _, _ => by simp [ATs.parts, ATs.cmpR]
  | [], _ :: _, _, _, _, _, h => by simp at h
  | _ :: _, [], _, _, _, _, h => by simp at h
  | t :: l, u :: m, r, r', ht, hu, h => by
    have h1 := AT.cmp_eq t u (ATs.parts l ++ r) (ATs.parts m ++ r') ht.1 hu.1
    have h2 := ATs.cmp_eq l m r r' ht.2 hu.2 (by simpa using h)
    rw [ATs.parts, ATs.parts, List.cons_append, List.cons_append, List.append_assoc, List.append_assoc, h1, h2, ATs.cmpR]
    by_cases hc : t.cmpR u = 0
    · rw [hc]; simp
    · simp [hc]
end
theorem cmpT_R {x y : AT} (hx : x.shp) (hy : y.shp) : cmpT x y = x.cmpR y := by
  have := AT.cmp_eq x y [] [] hx hy
  rw [List.append_nil, List.append_nil] at this
  unfold cmpT
  rw [this]
  by_cases hc : x.cmpR y = 0
  · rw [hc]; simp [cmpP]
  · rw [if_pos hc]

end Go.Proofs.Ytkidcchafdiofaa
