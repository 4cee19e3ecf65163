/- The program's table of operators: what is found in it. Conditions: as each states. -/
import Derived.Test.YtnnhpjpfmmlimaaDoorOpA
import Derived.Test.YtnnhpjpfmmlimaaDoorShelf
import Derived.BigQuiet
import Derived.StillTailTactics
import Derived.Deep.Light
import Derived.Deep.RegionHeld3
import Derived.Deep.DrawnRows
import Derived.Deep.AppendLies
namespace Go.Proofs.YtnnhpjpfmmlimaaDoor
open Go Go.RowKit Go.Maps
open Go.WideMaps Go.WideElems

attribute [local go_sem ↓] Go.wp_at_zero Go.wp_at_succ
def zdf : Df := ⟨0, 0, ByteArray.empty⟩
theorem heap_lt {w : World} {b : Nat} {o : Obj} (h : w.heap[b]? = some o) : b < w.heap.size := (Array.getElem?_eq_some_iff.1 h).1

theorem new_at (w : World) (o : Obj) {H : Nat} (h : w.heap.size = H) : (w.alloc o).heap[H]? = some o := by
  subst h
  exact heap_alloc_new w o
theorem heap_set {w : World} {b o : Nat} {c : Array Value} {T : TypeId} {fr : Nat × Nat} (h : w.heap[b]? = some (.cells c T fr)) (v : Value) : (w.setCell ⟨b, o, none⟩ v).heap[b]? = some (.cells (c.setIfInBounds o v) T fr) := by
  simp [World.setCell, Array.getElem?_modify, h]
theorem cell_of_heap {w : World} {b o : Nat} {c : Array Value} {T : TypeId} {fr : Nat × Nat} {v : Value} (h : w.heap[b]? = some (.cells c T fr)) (hc : c[o]? = some v) : w.cell? ⟨b, o, none⟩ = some v := by
  simp [World.cell?, h, hc]
theorem free_of_heap {w : World} {b o : Nat} {c : Array Value} {T : TypeId} (h : w.heap[b]? = some (.cells c T (0, 0))) : w.frozen? ⟨b, o, none⟩ = false := by
  simp [World.frozen?, h]
theorem heap_set_ne {w : World} {b k o : Nat} (hk : k ≠ b) (v : Value) : (w.setCell ⟨b, o, none⟩ v).heap[k]? = w.heap[k]? := Below.heap_setCell _ _ _ _ hk
theorem bt {w0 w1 w2 : World} (a : Below w0.heap.size w0 w1) (b : Below w1.heap.size w1 w2) : Below w0.heap.size w0 w2 := a.trans (b.mono a.size)

/-- the program's table in block a, its map in block m: the operators L -/
structure Tb (w : World) (a m : Nat) (L : List Df) : Prop where
  row : w.heap[a]? = some (.cells #[.map (some m)] 55 (0, 0))
  own : ∃ D, w.ownsMap Tryd.prog 71 dfR m (Maps.size D) D ∧ Rel D L
  wf : Wf L
  ne : m ≠ a

theorem own_tight {w : World} {m n : Nat} {D : DataW Unit} (h : w.ownsMap Tryd.prog 71 dfR m n D) : w.ownsMap Tryd.prog 71 dfR m (Maps.size D) D := by
  obtain ⟨es, clock, hb, F, hs, rfl⟩ := h
  exact ⟨es, clock, hb, F, by simp [Maps.size, length_sorted], rfl⟩
theorem Tb.kept {w w' : World} {a m : Nat} {L : List Df} (h : Tb w a m L) (ha : w'.heap[a]? = w.heap[a]?) (hm : w'.heap[m]? = w.heap[m]?) : Tb w' a m L := by
  obtain ⟨h1, ⟨D, ⟨es, clock, hb, r⟩, hr⟩, h3, h4⟩ := h
  exact ⟨ha.trans h1, ⟨D, ⟨es, clock, hm.trans hb, r⟩, hr⟩, h3, h4⟩
theorem Tb.lt {w : World} {a m : Nat} {L : List Df} (h : Tb w a m L) : a < w.heap.size ∧ m < w.heap.size := by
  obtain ⟨h1, ⟨D, h2, _⟩, _, _⟩ := h
  exact ⟨heap_lt h1, h2.lt⟩
theorem Tb.on {w w' : World} {a m : Nat} {L : List Df} (h : Tb w a m L) (b : Below w.heap.size w w') : Tb w' a m L :=
  h.kept (b.block _ h.lt.1) (b.block _ h.lt.2)
theorem Tb.alloc {w : World} {a m : Nat} {L : List Df} (h : Tb w a m L) (o : Obj) : Tb (w.alloc o) a m L := h.on ((Below.refl _ _).alloc (Nat.le_refl _) o)
theorem Tb.cells {w : World} {a m : Nat} {L : List Df} (h : Tb w a m L) : w.cell? ⟨a, 0, none⟩ = some (.map (some m)) ∧ w.frozen? ⟨a, 0, none⟩ = false := by
  have := h.row
  constructor
  · simp [World.cell?, this]
  · simp [World.frozen?, this]

theorem zero_def (w : World) : (zeroValue 45).run Tryd.prog w = .ok (.agg #[.int .i64 0, .int .i64 0, .string ByteArray.empty]) w := by
  obtain ⟨i, hi⟩ : ∃ i, Tryd.prog.info? 45 = some i ∧ i.zero = some (.agg #[.int .i64 0, .int .i64 0, .string ByteArray.empty]) := by
    have h : (Tryd.prog.info? 45).map (fun i => i.zero) = some (some (.agg #[.int .i64 0, .int .i64 0, .string ByteArray.empty])) := by kernel_rfl
    cases hq : Tryd.prog.info? 45 with
    | none => rw [hq] at h; cases h
    | some i => rw [hq] at h; exact ⟨i, rfl, Option.some.inj h⟩
  simp [zeroValue, typeInfo, hi.1, hi.2]

def getd (o : Option Df) : Df := o.getD zdf
theorem Tb.look {w : World} {a m : Nat} {L : List Df} (h : Tb w a m L) {n : ByteArray} {s : Int} (hn : n.size ≤ maxLen) (hs : s = 0 ∨ s = 1 ∨ s = 2 ∨ s = 3) :
    (Instr.lookup 53 (.map (some m)) (.agg #[.string n, .int .i64 s]) true).run Tryd.prog w = .ok (.tuple #[.agg #[.int .i64 (getd (fnd L n s)).pri, .int .i64 (getd (fnd L n s)).typ, .string (getd (fnd L n s)).name], .bool (fnd L n s).isSome]) w := by
  obtain ⟨_, ⟨D, ho, hr⟩, hw, _⟩ := h
  obtain ⟨v, ps, hrun, hv⟩ := ho.look_ok keyLaw Tryd.underlying53 (zero_def w) (dfR_mk zdf) (keyOf_kl hn hs)
  obtain ⟨d, rfl, hd⟩ := dfR_inv hv
  have e : d = getd (fnd L n s) := by
    simp only [Prod.mk.injEq] at hd
    refine dat_inj ?_
    rw [← hd.1, hr.atKey hw hn hs]
    unfold getd
    cases fnd L n s <;> rfl
  subst e
  rw [hr.has hw hn hs] at hrun
  exact hrun

/-- a block of three cells -/
structure Three (w : World) (b : Nat) (T : TypeId) (x0 x1 x2 : Value) : Prop where
  row : w.heap[b]? = some (.cells #[x0, x1, x2] T (0, 0))
theorem Three.facts {w : World} {b : Nat} {T : TypeId} {x0 x1 x2 : Value} (h : Three w b T x0 x1 x2) :
    w.cell? ⟨b, 0, none⟩ = some x0 ∧ w.cell? ⟨b, 1, none⟩ = some x1 ∧ w.cell? ⟨b, 2, none⟩ = some x2 ∧ w.frozen? ⟨b, 0, none⟩ = false ∧ w.frozen? ⟨b, 1, none⟩ = false ∧ w.frozen? ⟨b, 2, none⟩ = false :=
  ⟨cell_of_heap h.row rfl, cell_of_heap h.row rfl, cell_of_heap h.row rfl, free_of_heap h.row, free_of_heap h.row, free_of_heap h.row⟩
theorem Three.on {w w' : World} {b : Nat} {T : TypeId} {x0 x1 x2 : Value} (h : Three w b T x0 x1 x2) (k : Below w.heap.size w w') : Three w' b T x0 x1 x2 := ⟨(k.block _ (heap_lt h.row)).trans h.row⟩
theorem three_cells {w : World} {b : Nat} {x0 x1 x2 : Value} {T : TypeId} (h : w.heap[b]? = some (.cells #[x0, x1, x2] T (0, 0))) (y0 y1 y2 : Value) :
    (w.setCell ⟨b, 0, none⟩ y0).cell? ⟨b, 0, none⟩ = some y0 ∧ ((w.setCell ⟨b, 0, none⟩ y0).setCell ⟨b, 1, none⟩ y1).cell? ⟨b, 1, none⟩ = some y1 ∧ (((w.setCell ⟨b, 0, none⟩ y0).setCell ⟨b, 1, none⟩ y1).setCell ⟨b, 2, none⟩ y2).cell? ⟨b, 2, none⟩ = some y2 := by
  have h0 := heap_set (o := 0) h y0
  have h1 := heap_set (o := 1) h0 y1
  have h2 := heap_set (o := 2) h1 y2
  exact ⟨cell_of_heap h0 rfl, cell_of_heap h1 rfl, cell_of_heap h2 rfl⟩

set_option maxRecDepth 100000 in
set_option maxHeartbeats 1600000 in
theorem find_is (a m : Nat) (L : List Df) (n : ByteArray) (s : Int) (w : World) (h : Tb w a m L) (hn : n.size ≤ maxLen) (hs : s = 0 ∨ s = 1 ∨ s = 2 ∨ s = 3) :
    Calls Tryd.prog 44 #[.pointer (some ⟨a, 0, none⟩), .agg #[.string n, .int .i64 s]] w fun e w' =>
      e = .returned (.tuple #[.agg #[.int .i64 (getd (fnd L n s)).pri, .int .i64 (getd (fnd L n s)).typ, .string (getd (fnd L n s)).name], .bool (fnd L n s).isSome]) ∧ Below w.heap.size w w' := by
  obtain ⟨p, hp⟩ : ∃ p, (getd (fnd L n s)).pri = p := ⟨_, rfl⟩
  obtain ⟨t, ht⟩ : ∃ t, (getd (fnd L n s)).typ = t := ⟨_, rfl⟩
  obtain ⟨x, hx⟩ : ∃ x, (getd (fnd L n s)).name = x := ⟨_, rfl⟩
  obtain ⟨b, hb⟩ : ∃ b, (fnd L n s).isSome = b := ⟨_, rfl⟩
  have K := fun W (h : Tb W a m L) => h.look hn hs
  rw [hp, ht, hx, hb] at K ⊢
  have hW : Hid (Below w.heap.size w ((w.alloc (.cells #[.string n, .int .i64 s] 71)).alloc (.cells #[.int .i64 0, .int .i64 0, .string ⟨#[]⟩] 45))) := ((Below.refl _ _).alloc (Nat.le_refl _) _).alloc (by simp) _
  have hT := (h.alloc (.cells #[.string n, .int .i64 s] 71)).alloc (.cells #[.int .i64 0, .int .i64 0, .string ⟨#[]⟩] 45)
  have e0 : ((w.alloc (.cells #[.string n, .int .i64 s] 71)).alloc (.cells #[.int .i64 0, .int .i64 0, .string ⟨#[]⟩] 45)).heap[w.heap.size]? = some (.cells #[.string n, .int .i64 s] 71 (0, 0)) := by
    rw [Below.heap_alloc _ _ _ (by simp)]
    exact new_at _ _ rfl
  have e1 : ((w.alloc (.cells #[.string n, .int .i64 s] 71)).alloc (.cells #[.int .i64 0, .int .i64 0, .string ⟨#[]⟩] 45)).heap[w.heap.size + 1]? = some (.cells #[.int .i64 0, .int .i64 0, .string ⟨#[]⟩] 45 (0, 0)) := new_at _ _ (by simp)
  obtain ⟨W1, hW1⟩ : ∃ W1, ((w.alloc (.cells #[.string n, .int .i64 s] 71)).alloc (.cells #[.int .i64 0, .int .i64 0, .string ⟨#[]⟩] 45)) = W1 := ⟨_, rfl⟩
  rw [hW1] at hW e0 e1 hT
  have HW1 : Hid (((w.alloc (.cells #[.string n, .int .i64 s] 71)).alloc (.cells #[.int .i64 0, .int .i64 0, .string ⟨#[]⟩] 45)) = W1) := hW1
  have hs1 := heap_lt e1
  have KEEP : Hid (∀ w5, Below W1.heap.size W1 w5 → w5.cell? ⟨a, 0, none⟩ = some (.map (some m)) ∧ w5.cell? ⟨w.heap.size, 0, none⟩ = some (.string n) ∧ w5.cell? ⟨w.heap.size, 1, none⟩ = some (.int .i64 s) ∧
      (Instr.lookup 53 (.map (some m)) (.agg #[.string n, .int .i64 s]) true).run Tryd.prog w5 = .ok (.tuple #[.agg #[.int .i64 p, .int .i64 t, .string x], .bool b]) w5) := fun w5 h5 => by
    have h0 := (h5.block _ (heap_lt e0)).trans e0
    exact ⟨(hT.on h5).cells.1, cell_of_heap h0 rfl, cell_of_heap h0 rfl, K _ (hT.on h5)⟩
  have E1 := Lib.hid (fun w5 (h5 : Below W1.heap.size W1 w5) => (h5.block _ hs1).trans e1)
  clear hp ht hx hb h K hT e0 e1 hW1
  go_enter Tryd.func44, Tryd.ntmps44
  go_wp2_with fail
  rw [HW1.out]
  obtain ⟨q0, q1, q2, q3⟩ := KEEP.out W1 (Below.refl _ _)
  go_region_held3 (fun w5 => w5.cell? ⟨a, 0, none⟩ = some (.map (some m)) ∧ w5.cell? ⟨w.heap.size, 0, none⟩ = some (.string n) ∧ w5.cell? ⟨w.heap.size, 1, none⟩ = some (.int .i64 s) ∧
      (Instr.lookup 53 (.map (some m)) (.agg #[.string n, .int .i64 s]) true).run Tryd.prog w5 = .ok (.tuple #[.agg #[.int .i64 p, .int .i64 t, .string x], .bool b]) w5)
    (first | exact KEEP.out _ (Below.refl _ _).drew | exact KEEP.out _ ((Below.refl _ _).drew.alloc (Nat.le_refl _) _))
    (fail)
  all_goals
    rename_i hHeld
    clear hHeld q0 q1 q2 q3
    have B2 : Below W1.heap.size W1 (W1.alloc (.cells #[.int .i64 p, .int .i64 t, .string x] 45)).drew := ((Below.refl _ _).alloc (Nat.le_refl _) _).drew
    have N2 : Three (W1.alloc (.cells #[.int .i64 p, .int .i64 t, .string x] 45)).drew W1.heap.size 45 (.int .i64 p) (.int .i64 t) (.string x) := ⟨new_at _ _ rfl⟩
    have T2 : Three (W1.alloc (.cells #[.int .i64 p, .int .i64 t, .string x] 45)).drew (w.heap.size + 1) 45 (.int .i64 0) (.int .i64 0) (.string ⟨#[]⟩) := ⟨E1.out _ B2⟩
    obtain ⟨W2, hW2⟩ : ∃ W2, (W1.alloc (.cells #[.int .i64 p, .int .i64 t, .string x] 45)).drew = W2 := ⟨_, rfl⟩
    rw [hW2] at B2 N2 T2 ⊢
    have BB := Lib.hid (hW.out.trans (B2.mono hW.out.size))
    obtain ⟨c0, c1, c2, z0, z1, z2⟩ := T2.facts
    obtain ⟨d0, d1, d2, _, _, _⟩ := N2.facts
    obtain ⟨y0, y1, y2⟩ := three_cells T2.row (.int .i64 p) (.int .i64 t) (.string x)
    clear T2 N2 B2 hW2 KEEP E1 HW1 hW
    go_wp2_with fail
    refine bodyPost_ret (v := .tuple #[.agg #[.int .i64 p, .int .i64 t, .string x], .bool b]) (by simp [results, Tryd.results44, go_sem, y0, y1, y2]) rfl ?_
    exact ⟨rfl, ((BB.out.setCell (p := ⟨w.heap.size + 1, 0, none⟩) (by show w.heap.size ≤ w.heap.size + 1; omega) _).setCell (p := ⟨w.heap.size + 1, 1, none⟩) (by show w.heap.size ≤ w.heap.size + 1; omega) _).setCell (p := ⟨w.heap.size + 1, 2, none⟩) (by show w.heap.size ≤ w.heap.size + 1; omega) _⟩

end Go.Proofs.YtnnhpjpfmmlimaaDoor
