/- The shape of Good's terms. Conditions: none. -/
import Derived.Test.YtkidcchafdiofaaTermAp
namespace Go.Proofs.Ytkidcchafdiofaa
open Go Go.RowKit

mutual
def Tm.shp : Tm → Prop
  | .mk k n s l => ((k ≤ 2 ∧ s = ⟨#[]⟩ ∧ l = []) ∨ (3 ≤ k ∧ n = 0)) ∧ Tms.shp l
def Tms.shp : List Tm → Prop
  | [] => True
  | t :: r => Tm.shp t ∧ Tms.shp r
end
mutual
theorem AT.shp_of : ∀ t : AT, t.erase.shp → t.shp
  | .mk k n s sv G off l, h => by
    rw [AT.erase, Tm.shp] at h
    refine ⟨?_, ATs.shp_of l h.2⟩
    rcases h.1 with ⟨h1, h2, h3⟩ | h1
    · refine .inl ⟨h1, h2, ?_⟩
      cases l with
      | nil => rfl
      | cons a r => rw [ATs.erase] at h3; cases h3
    · exact .inr h1
theorem ATs.shp_of : ∀ l : List AT, Tms.shp (ATs.erase l) → ATs.shp l
  | [], _ => trivial
  | t :: r, h => ⟨AT.shp_of t h.1, ATs.shp_of r h.2⟩
end
theorem atomA_shp : atomA.shp := ⟨.inr ⟨by decide, rfl⟩, trivial⟩
mutual
theorem mendT_shp : ∀ t : Tm, (mendT t).shp
  | .mk k n s l => by
    have hl := mendL_shp l
    rw [mendT]
    split
    · exact atomA_shp
    · split
      · exact ⟨.inl ⟨by decide, rfl, rfl⟩, trivial⟩
      · split
        · exact ⟨.inl ⟨by decide, rfl, rfl⟩, trivial⟩
        · split
          · exact ⟨.inr ⟨by decide, rfl⟩, trivial⟩
          · split
            · split
              · exact atomA_shp
              · exact ⟨.inr ⟨by decide, rfl⟩, hl⟩
            · exact atomA_shp
theorem mendL_shp : ∀ l : List Tm, Tms.shp (mendL l)
  | [] => trivial
  | t :: r => ⟨mendT_shp t, mendL_shp r⟩
end
theorem good_shp {x : AT} {ps : List PRow} (h : x.erase = goodT ps) : x.shp := AT.shp_of x (by rw [h]; exact mendT_shp _)

end Go.Proofs.Ytkidcchafdiofaa
