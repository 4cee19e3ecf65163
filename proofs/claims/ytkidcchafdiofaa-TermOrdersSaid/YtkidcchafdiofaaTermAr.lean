/- The document's Rename: a contract. Conditions: memory holds the term and the row of numbers. -/
import Derived.Test.YtkidcchafdiofaaTermAm
import Derived.Deep.RegionLaw
namespace Go.Proofs.Ytkidcchafdiofaa
open Go Go.RowKit
attribute [local go_sem ↓] Go.wp_at_zero Go.wp_at_succ

def LMem (w : World) (g : Nat) (vs : List Int) : Prop := ∀ i n, vs[i]? = some n → w.cell? ⟨g, i, none⟩ = some (.int .i64 n)
theorem LMem.below {w w' : World} {g : Nat} {vs : List Int} (h : LMem w g vs) (hb : Below w.heap.size w w') : LMem w' g vs := fun i n hi => (hb.cell (World.block_lt_of_cell? _ _ (h i n hi))).trans (h i n hi)
mutual
/-- a term, its variables by their places -/
def Tm.renR (vs : List Int) : Tm → Tm
  | .mk k n s l => if k = 1 then .mk 1 (placeI vs n) ⟨#[]⟩ [] else .mk k n s (Tms.renR vs l)
def Tms.renR (vs : List Int) : List Tm → List Tm
  | [] => []
  | t :: r => Tm.renR vs t :: Tms.renR vs r
end
theorem renL_take (vs : List Int) (l : List Tm) (i : Nat) (t : Tm) (h : l[i]? = some t) : Tms.renR vs (l.take (i + 1)) = Tms.renR vs (l.take i) ++ [Tm.renR vs t] := by
  induction l generalizing i with
  | nil => simp at h
  | cons a r ih =>
    cases i with
    | zero => simp at h; subst h; simp [Tms.renR]
    | succ i => rw [List.take_succ_cons, List.take_succ_cons, Tms.renR, Tms.renR, ih i (by simpa using h), List.cons_append]

/-- what holds ahead of each of Rename's Args -/
def RenSt (vs : List Int) (k n : Int) (w : World) (s : ByteArray) (x : AT) (i : Nat) (wr : World) : Prop :=
  ∃ (l : List AT) (v : Value), l.length = i ∧ ATs.erase l = Tms.renR vs ((ATs.erase x.l).take i) ∧ wr.ownsRow w.heap.size 27 4 v i (headCells l) ∧
    wr.heap[w.heap.size + 1 + 1]? = some (.cells #[.int .i64 k, .int .i64 n, .string s, v] 27 (0, 0)) ∧
    wr.heap[w.heap.size + 1]? = some (.cells #[.int .i64 0, .int .i64 0, .string ⟨#[]⟩, .slice none 0 0] 27 (0, 0)) ∧
    (∀ t ∈ l, t.mem wr ∧ t.ins (fun j => w.heap.size + 1 + 1 < j ∧ v.ownBlock ≠ some j)) ∧ (∀ k, v.ownBlock = some k → w.heap.size + 1 + 1 < k) ∧ Below w.heap.size w wr

theorem ren_rec {w wr : World} {tx : AT} {m i H : Nat} {s : ByteArray} {vs : List Int} {k n : Int} {la : Option Addr} {lm lc lg : Nat} {v : Value} {l : List AT} (hc : ∀ w, LMem w lg vs → tx.nodes ≤ m → tx.mem w → tx.nodes ≤ 800000 → Calls Try.prog 46 #[.agg #[.int .i64 tx.k, .int .i64 tx.n, .string tx.s, tx.sv], .slice la lm lc] w (MendPost w (Tm.renR vs tx.erase))) (h1 : tx.nodes ≤ m) (h2 : tx.nodes ≤ 800000) (hm : tx.mem wr) (hv : LMem wr lg vs)
    (a5 : wr.heap[H]? = some (.cells #[.int .i64 k, .int .i64 n, .string s, v] 27 (0, 0))) (a4 : wr.ownsRow w.heap.size 27 4 v i (headCells l)) (_a8 : ∀ t ∈ l, t.mem wr ∧ t.ins (fun j => H < j ∧ v.ownBlock ≠ some j)) (_a9 : ∀ k, v.ownBlock = some k → H < k) (o : Obj) :
    ∀ w1, Below (wr.alloc o).heap.size (wr.alloc o) w1 → Calls Try.prog 46 #[.agg #[.int .i64 tx.k, .int .i64 tx.n, .string tx.s, tx.sv], .slice la lm lc] w1 (MendRec H w.heap.size v i l (wr.alloc o) (Tm.renR vs tx.erase)) := by
  intro w1 hb
  have hm1 : tx.mem (wr.alloc o) := AT.mem_below ((Below.refl wr.heap.size wr).alloc (Nat.le_refl _) o) (AT.ins_size _ hm) hm
  have hv1 := (hv.below ((Below.refl wr.heap.size wr).alloc (Nat.le_refl _) o)).below hb
  refine (hc w1 hv1 h1 (AT.mem_below hb (AT.ins_size _ hm1) hm1) h2).mono ?_
  rintro e w' ⟨t, rfl, b1, b2, b3, b4⟩
  obtain ⟨x, y, hsv, _⟩ := sv_form (AT.mem_mk.1 b2).1
  have hH := (Array.getElem?_eq_some_iff.1 a5).1
  have hb2 : Below (wr.alloc o).heap.size (wr.alloc o) w' := hb.trans (b4.mono hb.size)
  have hsz : (wr.alloc o).heap.size = wr.heap.size + 1 := by simp
  have h5 : w'.heap[H]? = some (.cells #[.int .i64 k, .int .i64 n, .string s, v] 27 (0, 0)) := by
    rw [hb2.block H (by rw [hsz]; omega), Below.heap_alloc _ _ _ hH]
    exact a5
  refine ⟨t, x, t.l.length, y, by rw [hsv], hsv, cell_of_heap h5 rfl, free_of_heap h5, by have := hb2.size; omega, owns_same a4 (fun g hg => ?_), b1, b2, AT.ins_mono (fun j hj => Nat.le_trans hb.size hj) t b3, hb2⟩
  have := (a4.lt g hg).2
  rw [hb2.block g (by rw [hsz]; omega), Below.heap_alloc _ _ _ this]

theorem ren_next {w wr w5 w7 : World} {s : ByteArray} {vs : List Int} {k n : Int} {x tx t : AT} {i g cap' : Nat} {l : List AT} {v : Value} {o1 o2 : Obj}
    (h : l.length = i ∧ ATs.erase l = Tms.renR vs ((ATs.erase x.l).take i) ∧ wr.ownsRow w.heap.size 27 4 v i (headCells l) ∧
      wr.heap[w.heap.size + 1 + 1]? = some (.cells #[.int .i64 k, .int .i64 n, .string s, v] 27 (0, 0)) ∧
      wr.heap[w.heap.size + 1]? = some (.cells #[.int .i64 0, .int .i64 0, .string ⟨#[]⟩, .slice none 0 0] 27 (0, 0)) ∧
      (∀ t ∈ l, t.mem wr ∧ t.ins (fun j => w.heap.size + 1 + 1 < j ∧ v.ownBlock ≠ some j)) ∧ (∀ k, v.ownBlock = some k → w.heap.size + 1 + 1 < k) ∧ Below w.heap.size w wr)
    (htx : x.l[i]? = some tx) (ht : t.erase = Tm.renR vs tx.erase ∧ t.mem w5 ∧ t.ins (fun j => (wr.alloc o1).heap.size ≤ j) ∧ Below (wr.alloc o1).heap.size (wr.alloc o1) w5)
    (hown : w7.ownsRow w.heap.size 27 4 (.slice (some ⟨g, 0, none⟩) (i + 1) cap') (i + 1) (headCells l ++ [.int .i64 t.k, .int .i64 t.n, .string t.s, t.sv])) (hgrow : (w5.alloc o2).grownBy w7 v.ownBlock) (hat : v.ownBlock = some g ∨ g = w5.heap.size + 1) :
    RenSt vs k n w s x (i + 1) (w7.setCell ⟨w.heap.size + 1 + 1, 3, none⟩ (.slice (some ⟨g, 0, none⟩) (i + 1) cap')) := by
  obtain ⟨a1, a2, a4, a5, a7, a8, a9, a10⟩ := h
  obtain ⟨b1, b2, b3, b4⟩ := ht
  have hw1 := (Array.getElem?_eq_some_iff.1 a5).1
  have hsz : (wr.alloc o1).heap.size = wr.heap.size + 1 := by simp
  have hw5 := b4.size
  have hb5 : Below wr.heap.size wr w5 := ((Below.refl wr.heap.size wr).alloc (Nat.le_refl _) o1).trans (b4.mono (by omega))
  have hg : g ≠ w.heap.size + 1 + 1 := by
    rcases hat with h | h
    · have := a9 g h; omega
    · omega
  have old : ∀ k, k ≤ w.heap.size + 1 + 1 → w7.heap[k]? = wr.heap[k]? := fun k hk => by
    rw [hgrow.block k (by simp; omega) (fun h => by have := a9 k h.symm; omega), Below.heap_alloc _ _ _ (by omega), hb5.block k (by omega)]
  have hti : t.ins (fun j => w.heap.size + 1 + 1 < j ∧ v.ownBlock ≠ some j) := AT.ins_mono (fun j hj => ⟨by omega, fun h => by have := (a4.lt j h).2; omega⟩) t b3
  refine ⟨l ++ [t], .slice (some ⟨g, 0, none⟩) (i + 1) cap', by simp [a1], ?_, grow_close hown hg _, ?_, ?_, ?_, ?_, ?_⟩
  · have he : (ATs.erase x.l)[i]? = some tx.erase := erase_get htx
    rw [erase_app, a2, ATs.erase, b1, renL_take vs _ i _ he]; rfl
  · rw [heap_set ((old _ (Nat.le_refl _)).trans a5)]; rfl
  · rw [heap_set_ne (by omega)]; exact (old _ (by omega)).trans a7
  · intro u hu
    rcases List.mem_append.1 hu with hu | hu
    · exact grow_mem (AT.mem_below hb5 (AT.ins_size u (a8 u hu).1) (a8 u hu).1) (a8 u hu).2 hgrow hat _
    · obtain rfl := List.mem_singleton.1 hu
      exact grow_mem b2 hti hgrow hat _
  · intro k hk
    obtain rfl : g = k := by simpa [Value.ownBlock] using hk
    rcases hat with h | h
    · exact a9 g h
    · omega
  · have h1 := a10.trans (hb5.mono (by omega))
    have h2 := h1.alloc (by have := h1.size; omega) o2
    exact (h2.grown hgrow (by simp; have := h1.size; omega) (fun k hk => (a4.lt k hk).1)).setCell (by show w.heap.size ≤ w.heap.size + 1 + 1; omega) _


end Go.Proofs.Ytkidcchafdiofaa
