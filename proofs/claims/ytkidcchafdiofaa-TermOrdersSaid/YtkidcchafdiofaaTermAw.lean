/- A list's items: the mathematics, and what stands while they are taken. Conditions: none. -/
import Derived.Test.YtkidcchafdiofaaTermAl
namespace Go.Proofs.Ytkidcchafdiofaa
open Go Go.RowKit

def isCons (k : Int) (s : ByteArray) (n : Nat) : Bool := k == 4 && (s.toList == [46] && n == 2)
/-- items, and what is left -/
def itF : Nat → Tm → List Tm × Tm
  | 0, t => ([], t)
  | f + 1, .mk k n s l => if isCons k s l.length = true then (match l with
    | [a, b] => (a :: (itF f b).1, (itF f b).2)
    | l => ([], .mk k n s l)) else ([], .mk k n s l)
def itT (t : Tm) : List Tm × Tm := itF t.nodes t
theorem itF_end {k n : Int} {s : ByteArray} {l : List Tm} (h : isCons k s l.length = false) (f : Nat) : itF f (.mk k n s l) = ([], .mk k n s l) := by
  cases f with
  | zero => rfl
  | succ f => unfold itF; rw [if_neg (by rw [h]; simp)]
theorem isCons_len {k : Int} {s : ByteArray} {n : Nat} (h : isCons k s n = true) : n = 2 := by
  simp [isCons] at h
  exact h.2.2
theorem itF_ge : ∀ (f : Nat) (t : Tm), t.nodes ≤ f → itF f t = itF t.nodes t := by
  intro f
  induction f using Nat.strongRecOn with
  | ind f ih =>
    intro t ht
    obtain ⟨k, n, s, l⟩ := t
    cases hc : isCons k s l.length with
    | false => rw [itF_end hc, itF_end hc]
    | true =>
      match l, isCons_len hc with
      | [a, b], _ =>
        rw [Tm.nodes, Tms.nodes, Tms.nodes, Tms.nodes] at ht ⊢
        obtain ⟨f, rfl⟩ : ∃ g, f = g + 1 := ⟨f - 1, by omega⟩
        rw [itF, if_pos hc, itF, if_pos hc]
        have h1 := ih f (by omega) b (by omega)
        have h2 : itF (a.nodes + (b.nodes + 0)) b = itF b.nodes b := by
          rcases Nat.lt_or_ge (a.nodes + (b.nodes + 0)) (f + 1) with h | h
          · exact ih _ h b (by omega)
          · omega
        simp only [h1, h2]
theorem it_cons {k n : Int} {s : ByteArray} {a b : Tm} (h : isCons k s 2 = true) : itT (.mk k n s [a, b]) = (a :: (itT b).1, (itT b).2) := by
  unfold itT
  rw [Tm.nodes, Tms.nodes, Tms.nodes, Tms.nodes, itF, if_pos (show isCons k s [a, b].length = true from h)]
  have h2 : itF (a.nodes + (b.nodes + 0)) b = itF b.nodes b := itF_ge _ b (by omega)
  simp only [h2]
theorem it_end {k n : Int} {s : ByteArray} {l : List Tm} (h : isCons k s l.length = false) : itT (.mk k n s l) = ([], .mk k n s l) := itF_end h _

/-- what holds ahead of each round: box H holds what is left, v what was taken -/
structure ItSt (w : World) (H i N : Nat) (v : Value) (ls : List Tm) (r : Tm) (l : List AT) (x : AT) (wr : World) : Prop where
  len : l.length = i
  own : wr.ownsRow w.heap.size 27 4 v i (headCells l)
  box : wr.heap[H]? = some (.cells #[.int .i64 x.k, .int .i64 x.n, .string x.s, x.sv] 27 (0, 0))
  res : wr.heap[H + 1]? = some (.cells #[.int .i64 0, .int .i64 0, .string ⟨#[]⟩, .slice none 0 0] 27 (0, 0))
  mem : x.mem wr
  ins : x.ins (fun j => j ≠ H ∧ j ≠ H + 1 ∧ v.ownBlock ≠ some j)
  all : ∀ t ∈ l, t.mem wr ∧ t.ins (fun j => j ≠ H ∧ j ≠ H + 1 ∧ v.ownBlock ≠ some j)
  far : ∀ k, v.ownBlock = some k → H + 1 < k
  items : ATs.erase l ++ (itT x.erase).1 = ls
  rest : (itT x.erase).2 = r
  nodes : x.nodes + i ≤ N
  below : Below w.heap.size w wr
  low : w.heap.size ≤ H

/-- four cells of a box are turned -/
def put4 (w : World) (H : Nat) (t : AT) : World := (((w.setCell ⟨H, 0, none⟩ (.int .i64 t.k)).setCell ⟨H, 1, none⟩ (.int .i64 t.n)).setCell ⟨H, 2, none⟩ (.string t.s)).setCell ⟨H, 3, none⟩ t.sv
theorem put4_ne {w : World} {H k : Nat} {t : AT} (h : k ≠ H) : (put4 w H t).heap[k]? = w.heap[k]? := by
  unfold put4
  rw [heap_set_ne h, heap_set_ne h, heap_set_ne h, heap_set_ne h]
theorem put4_at {w : World} {H : Nat} {t : AT} {a b c d : Value} {T : TypeId} (h : w.heap[H]? = some (.cells #[a, b, c, d] T (0, 0))) : (put4 w H t).heap[H]? = some (.cells #[.int .i64 t.k, .int .i64 t.n, .string t.s, t.sv] T (0, 0)) := by
  unfold put4
  rw [heap_set (heap_set (heap_set (heap_set h _) _) _) _]
  rfl
theorem put4_below {B : Nat} {w w' : World} {H : Nat} {t : AT} (h : Below B w w') (hB : B ≤ H) : Below B w (put4 w' H t) := (((h.setCell hB _).setCell hB _).setCell hB _).setCell hB _

theorem it_mem {wr w7 : World} {H g : Nat} {v : Value} {o : Obj} {u y : AT} (hm : u.mem wr) (hi : u.ins (fun j => j ≠ H ∧ j ≠ H + 1 ∧ v.ownBlock ≠ some j)) (hgrow : (wr.alloc o).grownBy w7 v.ownBlock) (hat : v.ownBlock = some g ∨ g = wr.heap.size + 1) :
    AT.mem (put4 w7 H y) u ∧ u.ins (fun j => j ≠ H ∧ j ≠ H + 1 ∧ (some g : Option Nat) ≠ some j) := by
  have hs := AT.ins_size u hm
  have h1 : u.ins (fun j => (j ≠ H ∧ j ≠ H + 1 ∧ v.ownBlock ≠ some j) ∧ j < wr.heap.size) := AT.mem_keeps.AT.ins_and u hi hs
  refine ⟨AT.mem_same (S := fun j => (j ≠ H ∧ j ≠ H + 1 ∧ v.ownBlock ≠ some j) ∧ j < wr.heap.size) (fun j hj => ?_) u h1 hm, AT.ins_mono (fun j hj => ⟨hj.1.1, hj.1.2.1, fun h => ?_⟩) u h1⟩
  · rw [put4_ne hj.1.1, hgrow.block j (by simp; omega) (fun h => hj.1.2.2 h.symm), Below.heap_alloc _ _ _ hj.2]
  · rcases hat with h2 | h2
    · exact hj.1.2.2 (h2.trans h)
    · have h3 : g = j := by simpa using h
      omega

theorem it_next {w wr w7 : World} {H i N g cap' : Nat} {v : Value} {ls : List Tm} {r : Tm} {l : List AT} {x a b : AT} {o : Obj} (h : ItSt w H i N v ls r l x wr) (hc : isCons x.k x.s 2 = true) (hl : x.l = [a, b])
    (hown : w7.ownsRow w.heap.size 27 4 (.slice (some ⟨g, 0, none⟩) (i + 1) cap') (i + 1) (headCells l ++ [.int .i64 a.k, .int .i64 a.n, .string a.s, a.sv])) (hgrow : (wr.alloc o).grownBy w7 v.ownBlock) (hat : v.ownBlock = some g ∨ g = wr.heap.size + 1) :
    ItSt w H (i + 1) N (.slice (some ⟨g, 0, none⟩) (i + 1) cap') ls r (l ++ [a]) b (put4 w7 H b) := by
  have hlH := (Array.getElem?_eq_some_iff.1 h.res).1
  have hgH : H + 1 < g := by
    rcases hat with h1 | h1
    · exact h.far g h1
    · omega
  have old : ∀ k, k ≤ H + 1 → w7.heap[k]? = wr.heap[k]? := fun k hk => by
    rw [hgrow.block k (by simp; omega) (fun e => by have := h.far k e.symm; omega), Below.heap_alloc _ _ _ (by omega)]
  have hxm := AT.mem_mk.1 h.mem
  have hxi := AT.ins_mk.1 h.ins
  rw [hl] at hxm hxi
  obtain ⟨_, _, ha, _, hb, _⟩ := hxm
  obtain ⟨_, hia, hib, _⟩ := hxi
  have he : x.erase = .mk x.k x.n x.s [a.erase, b.erase] := by rw [AT.erase_mk, hl]; rfl
  have hit : itT x.erase = (a.erase :: (itT b.erase).1, (itT b.erase).2) := by rw [he]; exact it_cons hc
  have hn : x.nodes = a.nodes + (b.nodes + 0) + 1 := by rw [AT.nodes_mk, hl]; rfl
  have hna := nodes_pos a
  refine ⟨by simp [h.len], ?_, ?_, ?_, (it_mem hb hib hgrow hat).1, (it_mem (y := b) hb hib hgrow hat).2, fun t ht => ?_, fun k hk => ?_, ?_, ?_, ?_, ?_, h.low⟩
  · rw [headCells_app]
    refine owns_same (by simpa [headCells] using hown) (fun k hk => ?_)
    obtain rfl : g = k := by simpa [Value.ownBlock] using hk
    exact put4_ne (by omega)
  · exact put4_at ((old H (by omega)).trans h.box)
  · rw [put4_ne (by omega)]; exact (old _ (Nat.le_refl _)).trans h.res
  · rcases List.mem_append.1 ht with ht | ht
    · exact it_mem (h.all t ht).1 (h.all t ht).2 hgrow hat
    · obtain rfl := List.mem_singleton.1 ht
      exact it_mem ha hia hgrow hat
  · obtain rfl : g = k := by simpa [Value.ownBlock] using hk
    exact hgH
  · rw [erase_app, ← h.items, hit]
    simp [ATs.erase]
  · rw [← h.rest, hit]
  · have := h.nodes; omega
  · have h1 := h.below
    have h2 := h1.alloc h1.size o
    exact put4_below (h2.grown hgrow (by simp; have := h1.size; omega) (fun k hk => (h.own.lt k hk).1)) h.low

/-- what Items answers -/
def ItemsPost (w : World) (ls : List Tm) (r : Tm) (e : Ending) (w' : World) : Prop :=
  ∃ (ad : Option Addr) (n c G : Nat) (l : List AT) (u : AT), e = .returned (.tuple #[.slice ad n c, .agg #[.int .i64 u.k, .int .i64 u.n, .string u.s, u.sv]]) ∧ l.length = n ∧ SvOk (.slice ad n c) G 0 n ∧ ATs.mem w' G l 0 ∧ ATs.erase l = ls ∧ u.erase = r ∧ u.mem w' ∧ Below w.heap.size w w'
theorem it_done {w wr : World} {H i N : Nat} {v : Value} {ls : List Tm} {r : Tm} {l : List AT} {x : AT} (h : ItSt w H i N v ls r l x wr) (hc : isCons x.k x.s x.l.length = false) :
    ∃ (ad : Option Addr) (c G : Nat), v = .slice ad i c ∧ SvOk (.slice ad i c) G 0 i ∧ ATs.mem (put4 wr (H + 1) x) G l 0 ∧ ATs.erase l = ls ∧ x.erase = r ∧ x.mem (put4 wr (H + 1) x) ∧ Below w.heap.size w (put4 wr (H + 1) x) := by
  have hend : itT x.erase = ([], x.erase) := by
    rw [AT.erase_mk]
    exact it_end (by rw [erase_len]; exact hc)
  have same : ∀ j, j ≠ H + 1 → (put4 wr (H + 1) x).heap[j]? = wr.heap[j]? := fun j hj => put4_ne hj
  have hown : (put4 wr (H + 1) x).ownsRow w.heap.size 27 4 v i (headCells l) := owns_same h.own (fun k hk => same k (by have := h.far k hk; omega))
  obtain ⟨G, g1, g2, g3⟩ := row_mem hown h.len (fun t ht => AT.mem_same (S := fun j => j ≠ H ∧ j ≠ H + 1 ∧ v.ownBlock ≠ some j) (fun j hj => same j hj.2.1) t (h.all t ht).2 (h.all t ht).1)
  rw [h.len] at g1
  obtain ⟨ad, c, hv, _⟩ := sv_form g1
  refine ⟨ad, c, G, hv, by rw [← hv]; exact g1, g2, ?_, ?_, AT.mem_same (S := fun j => j ≠ H ∧ j ≠ H + 1 ∧ v.ownBlock ≠ some j) (fun j hj => same j hj.2.1) x h.ins h.mem, put4_below h.below (by have := h.low; omega)⟩
  · have := h.items
    rw [hend] at this
    simpa using this
  · have := h.rest
    rw [hend] at this
    exact this

/-- a copy of one term -/
theorem copy_one {w w' : World} {t : AT} {e : Ending} (h : CopyPost w [t] e w') : ∃ (c G : Nat) (u : AT), e = .returned (.slice (some ⟨G, 0, none⟩) 1 c) ∧ 1 ≤ c ∧ c ≤ 9223372036854775807 ∧ Head w' G 0 u ∧ u.mem w' ∧ u.erase = t.erase ∧ u.ins (fun j => w.heap.size ≤ j) ∧ Below w.heap.size w w' := by
  obtain ⟨ad, c, G, l', rfl, m1, m2, m3, m4, m5, m6, m7⟩ := h
  obtain ⟨u, rfl⟩ : ∃ u, l' = [u] := by
    cases l' with
    | nil => simp at m2
    | cons a r =>
      cases r with
      | nil => exact ⟨a, rfl⟩
      | cons b r => simp at m2
  obtain ⟨ad2, c2, h1, h2, h3, h4⟩ := sv_form m1
  have h5 := h4 (by simp)
  simp at h1
  obtain ⟨rfl, rfl⟩ := h1
  subst h5
  refine ⟨c, G, u, rfl, by simpa using h2, by unfold maxLen at h3; omega, m4.1, m4.2.1, by simpa [ATs.erase] using m3, AT.ins_mono (fun j hj => m6 j (by simp [ATs.blocks, hj])) u (AT.ins_blocks u), m7⟩

end Go.Proofs.Ytkidcchafdiofaa
