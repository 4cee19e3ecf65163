/- Joined texts: TermAi. Conditions: as each states. -/
import Derived.Test.YtkplokfcjjcpcaaGreatDoorPk13
namespace Go.Proofs.YtkplokfcjjcpcaaGreatDoor.Trm
open Go Go.RowKit
def numP (vs : List Int) (x : Int × Int) : Int × Int := (x.1, if x.1 = 1 then (vs.idxOf x.2 : Int) else x.2)
def upTo (m : Nat) : List Int := (List.range m).map fun i : Nat => (i : Int)
mutual
def Tm.kns : Tm → List (Int × Int)
  | .mk k n _ l => (k, n) :: Tms.kns l
def Tms.kns : List Tm → List (Int × Int)
  | [] => []
  | t :: r => Tm.kns t ++ Tms.kns r
end
def knA (t : AT) : Int × Int := (t.k, t.n)
mutual
theorem AT.kns : ∀ t : AT, (t :: t.parts).map knA = t.erase.kns
  | .mk k n s sv G off l => by
    have := ATs.kns l
    rw [AT.parts, AT.erase, Tm.kns, List.map_cons, this]; rfl
theorem ATs.kns : ∀ l : List AT, (ATs.parts l).map knA = Tms.kns (ATs.erase l)
  | [] => rfl
  | t :: r => by
    have h1 := AT.kns t
    rw [ATs.parts, ATs.erase, Tms.kns, ← h1, ← ATs.kns r, ← List.cons_append, List.map_append]
end
mutual
theorem Tm.kns_ren (vs : List Int) : ∀ t : Tm, (t.ren vs).kns = t.kns.map (numP vs)
  | .mk k n s l => by rw [Tm.ren, Tm.kns, Tm.kns, Tms.kns_ren vs l]; rfl
theorem Tms.kns_ren (vs : List Int) : ∀ l : List Tm, Tms.kns (Tms.ren vs l) = (Tms.kns l).map (numP vs)
  | [] => rfl
  | t :: r => by rw [Tms.ren, Tms.kns, Tms.kns, Tm.kns_ren vs t, Tms.kns_ren vs r, List.map_append]
end
mutual
theorem Tm.ren_same (vs : List Int) : ∀ t : Tm, (∀ x ∈ t.kns, numP vs x = x) → t.ren vs = t
  | .mk k n s l, h => by
    have h0 := h (k, n) (by rw [Tm.kns]; exact List.mem_cons_self)
    unfold numP at h0
    simp only [Prod.mk.injEq, true_and] at h0
    rw [Tm.ren, h0, Tms.ren_same vs l (fun x hx => h x (by rw [Tm.kns]; exact List.mem_cons_of_mem _ hx))]
theorem Tms.ren_same (vs : List Int) : ∀ l : List Tm, (∀ x ∈ Tms.kns l, numP vs x = x) → Tms.ren vs l = l
  | [], _ => rfl
  | t :: r, h => by
    rw [Tms.ren, Tm.ren_same vs t (fun x hx => h x (by rw [Tms.kns]; exact List.mem_append_left _ hx)), Tms.ren_same vs r (fun x hx => h x (by rw [Tms.kns]; exact List.mem_append_right _ hx))]
end
mutual
def Tm.dp : Tm → Nat
  | .mk _ _ _ l => Tms.dp l + 1
def Tms.dp : List Tm → Nat
  | [] => 0
  | t :: r => max (Tm.dp t) (Tms.dp r)
end
mutual
theorem AT.dp_erase : ∀ t : AT, t.erase.dp = t.dp
  | .mk _ _ _ _ _ _ l => by rw [AT.erase, Tm.dp, AT.dp, ATs.dp_erase l]
theorem ATs.dp_erase : ∀ l : List AT, Tms.dp (ATs.erase l) = ATs.dp l
  | [] => rfl
  | t :: r => by rw [ATs.erase, Tms.dp, ATs.dp, AT.dp_erase t, ATs.dp_erase r]
end
mutual
theorem Tm.dp_ren (vs : List Int) : ∀ t : Tm, (t.ren vs).dp = t.dp ∧ (t.ren vs).nodes = t.nodes
  | .mk _ _ _ l => by rw [Tm.ren, Tm.dp, Tm.dp, Tm.nodes, Tm.nodes, (Tms.dp_ren vs l).1, (Tms.dp_ren vs l).2]; exact ⟨rfl, rfl⟩
theorem Tms.dp_ren (vs : List Int) : ∀ l : List Tm, Tms.dp (Tms.ren vs l) = Tms.dp l ∧ Tms.nodes (Tms.ren vs l) = Tms.nodes l
  | [] => ⟨rfl, rfl⟩
  | t :: r => by rw [Tms.ren, Tms.dp, Tms.dp, Tms.nodes, Tms.nodes, (Tm.dp_ren vs t).1, (Tm.dp_ren vs t).2, (Tms.dp_ren vs r).1, (Tms.dp_ren vs r).2]; exact ⟨rfl, rfl⟩
end
mutual
def Tm.all (p : Int → Int → ByteArray → Prop) : Tm → Prop
  | .mk k n s l => p k n s ∧ Tms.all p l
def Tms.all (p : Int → Int → ByteArray → Prop) : List Tm → Prop
  | [] => True
  | t :: r => Tm.all p t ∧ Tms.all p r
end
mutual
theorem AT.all_of (p : Int → Int → ByteArray → Prop) : ∀ t : AT, t.erase.all p → ∀ u ∈ t :: t.parts, p u.k u.n u.s
  | .mk k n s sv G off l, h, u, hu => by
    rw [AT.erase, Tm.all] at h
    rcases List.mem_cons.1 hu with rfl | hu
    · exact h.1
    · rw [AT.parts] at hu
      exact ATs.all_of p l h.2 u hu
theorem ATs.all_of (p : Int → Int → ByteArray → Prop) : ∀ l : List AT, Tms.all p (ATs.erase l) → ∀ u ∈ ATs.parts l, p u.k u.n u.s
  | [], _, u, hu => by rw [ATs.parts] at hu; cases hu
  | t :: r, h, u, hu => by
    rw [ATs.erase, Tms.all] at h
    rw [ATs.parts, ← List.cons_append] at hu
    rcases List.mem_append.1 hu with hu | hu
    · exact AT.all_of p t h.1 u hu
    · exact ATs.all_of p r h.2 u hu
end
theorem atomA_all {p : Int → Int → ByteArray → Prop} (h : p 3 0 ⟨#[97]⟩) : atomA.all p := ⟨h, trivial⟩
theorem r64_zero : R64 0 := by unfold R64; omega
mutual
theorem mendT_all : ∀ t : Tm, t.all (fun _ n _ => R64 n) → (mendT t).all (fun _ n s => R64 n ∧ s.size ≤ 20)
  | .mk k n s l, h => by
    have ha : atomA.all (fun _ n s => R64 n ∧ s.size ≤ 20) := atomA_all ⟨r64_zero, by decide⟩
    have hl := mendL_all l h.2
    have hn : R64 n := h.1
    rw [mendT]
    split
    · exact ha
    · rename_i hs
      split
      · exact ⟨⟨by unfold R64 at hn ⊢; omega, by decide⟩, trivial⟩
      · split
        · exact ⟨⟨hn, by decide⟩, trivial⟩
        · split
          · exact ⟨⟨r64_zero, by omega⟩, trivial⟩
          · split
            · split
              · exact ha
              · exact ⟨⟨r64_zero, by omega⟩, hl⟩
            · exact ha
theorem mendL_all : ∀ l : List Tm, Tms.all (fun _ n _ => R64 n) l → Tms.all (fun _ n s => R64 n ∧ s.size ≤ 20) (mendL l)
  | [], _ => trivial
  | t :: r, h => ⟨mendT_all t h.1, mendL_all r h.2⟩
end
end Go.Proofs.YtkplokfcjjcpcaaGreatDoor.Trm
