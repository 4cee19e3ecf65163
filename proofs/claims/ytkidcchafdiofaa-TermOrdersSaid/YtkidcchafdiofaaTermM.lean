/- Terms that a call makes: lists of terms that it appends to; what Of makes of parts. Conditions: none. -/
import Derived.Test.YtkidcchafdiofaaTermL
namespace Go.Proofs.Ytkidcchafdiofaa
open Go Go.RowKit

/-- a term, without its memory -/
inductive Tm where
  | mk (k n : Int) (s : ByteArray) (l : List Tm)
mutual
def AT.erase : AT → Tm
  | .mk k n s _ _ _ l => .mk k n s (ATs.erase l)
def ATs.erase : List AT → List Tm
  | [] => []
  | t :: r => AT.erase t :: ATs.erase r
end
theorem AT.erase_mk {t : AT} : t.erase = .mk t.k t.n t.s (ATs.erase t.l) := by cases t; rfl
theorem erase_app (l m : List AT) : ATs.erase (l ++ m) = ATs.erase l ++ ATs.erase m := by
  induction l with
  | nil => rfl
  | cons t r ih => rw [List.cons_append, ATs.erase, ATs.erase, ih, List.cons_append]
theorem erase_len (l : List AT) : (ATs.erase l).length = l.length := by
  induction l with
  | nil => rfl
  | cons t r ih => rw [ATs.erase, List.length_cons, List.length_cons, ih]
theorem erase_get : ∀ {l : List AT} {i : Nat} {t : AT}, l[i]? = some t → (ATs.erase l)[i]? = some t.erase
  | [], _, _, h => by simp at h
  | a :: r, 0, t, h => by simp at h; subst h; simp [ATs.erase]
  | a :: r, i + 1, t, h => by
    rw [ATs.erase, List.getElem?_cons_succ]
    exact erase_get (by simpa using h)
mutual
def Tm.nodes : Tm → Nat
  | .mk _ _ _ l => Tms.nodes l + 1
def Tms.nodes : List Tm → Nat
  | [] => 0
  | t :: r => Tm.nodes t + Tms.nodes r
end
mutual
theorem AT.nodes_erase : ∀ t : AT, t.erase.nodes = t.nodes
  | .mk _ _ _ _ _ _ l => by rw [AT.erase, Tm.nodes, AT.nodes, ATs.nodes_erase l]
theorem ATs.nodes_erase : ∀ l : List AT, Tms.nodes (ATs.erase l) = ATs.nodes l
  | [] => rfl
  | t :: r => by rw [ATs.erase, Tms.nodes, ATs.nodes, AT.nodes_erase t, ATs.nodes_erase r]
end

/-- the cells of terms that stand one behind the other -/
def headCells (l : List AT) : List Value := l.flatMap fun t => [.int .i64 t.k, .int .i64 t.n, .string t.s, t.sv]
theorem headCells_len (l : List AT) : (headCells l).length = l.length * 4 := by
  induction l with
  | nil => rfl
  | cons t r ih => simp only [headCells, List.flatMap_cons, List.length_append, List.length_cons, List.length_nil] at ih ⊢; omega
theorem headCells_app (l m : List AT) : headCells (l ++ m) = headCells l ++ headCells m := by simp [headCells]

/-- terms in a row that the call owns lie there whole -/
theorem mem_row {w : World} {g : Nat} {cur : Array Value} {T : TypeId} (hg : w.heap[g]? = some (.cells cur T (0, 0))) : ∀ (l : List AT) (o : Nat), (∀ j, j < (headCells l).length → cur[o + j]? = (headCells l)[j]?) → (∀ t ∈ l, t.mem w) → ATs.mem w g l o
  | [], _, _, _ => trivial
  | t :: r, o, hc, hm => by
    have hlen := headCells_len r
    have hh : headCells (t :: r) = .int .i64 t.k :: .int .i64 t.n :: .string t.s :: t.sv :: headCells r := by simp [headCells]
    rw [hh] at hc
    refine ⟨⟨⟨_, _, hg⟩, cell_of_heap hg ?_, cell_of_heap hg ?_, cell_of_heap hg ?_, cell_of_heap hg ?_⟩, hm t (by simp), mem_row hg r (o + 4) (fun j hj => ?_) (fun u hu => hm u (by simp [hu]))⟩
    · simpa using hc 0 (by simp)
    · simpa using hc 1 (by simp)
    · simpa using hc 2 (by simp)
    · simpa using hc 3 (by simp)
    · have := hc (j + 4) (by simp; omega)
      rw [show o + (j + 4) = o + 4 + j from by omega] at this
      simpa using this
theorem row_mem {w : World} {b : Nat} {v : Value} {l : List AT} {n : Nat} (h : w.ownsRow b 27 4 v n (headCells l)) (hn : l.length = n) (hm : ∀ t ∈ l, t.mem w) : ∃ G, SvOk v G 0 l.length ∧ ATs.mem w G l 0 ∧ (l ≠ [] → v.ownBlock = some G) := by
  subst hn
  obtain ⟨h0, h1 | ⟨g, cap, cur, hv, hb, hg, h4, h5, h6, h7⟩⟩ := h
  · have hl : l = [] := List.length_eq_zero_iff.1 h1.2
    subst hl
    exact ⟨0, .inl ⟨h1.1, rfl⟩, trivial, fun h => absurd rfl h⟩
  · refine ⟨g, .inr ⟨cap, hv, h4, h5⟩, mem_row hg l 0 (fun j hj => ?_) hm, fun _ => by rw [hv]; rfl⟩
    have hlen := headCells_len l
    rw [Nat.zero_add, ← h7, List.getElem?_take, if_pos (by omega)]
    simp

/-- a part, as it was handed over -/
structure PRow where
  k : Int
  n : Int
  s : ByteArray
  a : Nat
def PMem (w : World) (B off : Nat) (ps : List PRow) : Prop := ∀ i p, ps[i]? = some p →
  w.cell? ⟨B, off + i * 4, none⟩ = some (.int .i64 p.k) ∧ w.cell? ⟨B, off + i * 4 + 1, none⟩ = some (.int .i64 p.n) ∧ w.cell? ⟨B, off + i * 4 + 2, none⟩ = some (.string p.s) ∧ w.cell? ⟨B, off + i * 4 + 3, none⟩ = some (.int .u8 p.a) ∧ p.a ≤ 255
theorem PMem.drop {w : World} {B off : Nat} {ps : List PRow} (h : PMem w B off ps) (k : Nat) : PMem w B (off + k * 4) (ps.drop k) := fun i p hp => by
  rw [List.getElem?_drop] at hp
  have := h (k + i) p hp
  rw [show off + (k + i) * 4 = off + k * 4 + i * 4 from by omega] at this
  exact this
theorem PMem.below {w w' : World} {B off C : Nat} {ps : List PRow} (h : PMem w B off ps) (hb : Below C w w') (hC : w.heap.size ≤ C ∨ B < C) : PMem w' B off ps := fun i p hp => by
  obtain ⟨h0, h1, h2, h3, h4⟩ := h i p hp
  have hl := World.block_lt_of_cell? _ _ h0
  have hlt : B < C := by rcases hC with h | h; exact Nat.lt_of_lt_of_le hl h; exact h
  exact ⟨(hb.cell (p := ⟨B, _, none⟩) hlt).trans h0, (hb.cell (p := ⟨B, _, none⟩) hlt).trans h1, (hb.cell (p := ⟨B, _, none⟩) hlt).trans h2, (hb.cell (p := ⟨B, _, none⟩) hlt).trans h3, h4⟩

def atomA : Tm := .mk 3 0 ⟨#[97]⟩ []
/-- terms of parts, one behind the other; how many parts they took -/
def ofL (g : List PRow → Tm × Nat) : Nat → List PRow → List Tm × Nat
  | 0, _ => ([], 0)
  | c + 1, r => ((ofL g c r).1 ++ [(g (r.drop (ofL g c r).2)).1], (ofL g c r).2 + (g (r.drop (ofL g c r).2)).2)
def ofT : Nat → List PRow → Tm × Nat
  | 0, _ => (atomA, 0)
  | _ + 1, [] => (atomA, 0)
  | f + 1, p :: r => (.mk p.k p.n p.s (ofL (ofT f) (p.a % 8) r).1, 1 + (ofL (ofT f) (p.a % 8) r).2)
theorem ofL_le {g : List PRow → Tm × Nat} (hg : ∀ r, (g r).2 ≤ r.length ∧ (g r).1.nodes ≤ 8 * (g r).2 + 1) : ∀ (c : Nat) (r : List PRow), (ofL g c r).2 ≤ r.length ∧ Tms.nodes (ofL g c r).1 ≤ 8 * (ofL g c r).2 + c
  | 0, r => by simp [ofL, Tms.nodes]
  | c + 1, r => by
    obtain ⟨h1, h2⟩ := ofL_le hg c r
    obtain ⟨h3, h4⟩ := hg (r.drop (ofL g c r).2)
    have ha : ∀ l m : List Tm, Tms.nodes (l ++ m) = Tms.nodes l + Tms.nodes m := fun l m => by
      induction l with
      | nil => simp [Tms.nodes]
      | cons t l ih => rw [List.cons_append, Tms.nodes, Tms.nodes, ih]; omega
    rw [List.length_drop] at h3
    rw [ofL, ha]
    simp only [Tms.nodes]
    constructor <;> omega
theorem ofT_le : ∀ (f : Nat) (ps : List PRow), (ofT f ps).2 ≤ ps.length ∧ (ofT f ps).1.nodes ≤ 8 * (ofT f ps).2 + 1
  | 0, ps => by simp [ofT, atomA, Tm.nodes, Tms.nodes]
  | f + 1, [] => by simp [ofT, atomA, Tm.nodes, Tms.nodes]
  | f + 1, p :: r => by
    obtain ⟨h1, h2⟩ := ofL_le (fun r => ofT_le f r) (p.a % 8) r
    have : p.a % 8 < 8 := Nat.mod_lt _ (by omega)
    rw [ofT, Tm.nodes, List.length_cons]
    simp only
    constructor <;> omega

end Go.Proofs.Ytkidcchafdiofaa
