/- Rows of operators in memory, and the library's sort of them. Conditions: as each states. -/
import Derived.Test.YtnnhpjpfmmlimaaDoorOpP
namespace Go.Proofs.YtnnhpjpfmmlimaaDoor
open Go Go.RowKit Go.Maps
open Go.WideMaps Go.WideElems

def cellsD (l : List Df) : List Value := l.flatMap Df.cells
theorem cellsD_len (l : List Df) : (cellsD l).length = l.length * 3 := by
  induction l with
  | nil => rfl
  | cons d l ih => rw [show cellsD (d :: l) = d.cells ++ cellsD l from rfl, List.length_append, ih, List.length_cons]; simp [Df.cells]; omega
theorem cellsD_app (a b : List Df) : cellsD (a ++ b) = cellsD a ++ cellsD b := by simp [cellsD]
theorem cellsD_at : ∀ (l : List Df) (i : Nat) (d : Df), l[i]? = some d → (cellsD l)[i * 3]? = some (.int .i64 d.pri) ∧ (cellsD l)[i * 3 + 1]? = some (.int .i64 d.typ) ∧ (cellsD l)[i * 3 + 2]? = some (.string d.name)
  | [], _, _, h => by simp at h
  | d :: l, 0, _, h => by
    obtain rfl := Option.some.inj h
    exact ⟨rfl, rfl, rfl⟩
  | _ :: l, i + 1, d, h => by
    have := cellsD_at l i d (by simpa using h)
    rw [show cellsD (_ :: l) = Df.cells _ ++ cellsD l from rfl]
    rw [List.getElem?_append_right (by simp [Df.cells]; omega), List.getElem?_append_right (by simp [Df.cells]; omega), List.getElem?_append_right (by simp [Df.cells]; omega)]
    simp only [Df.cells, List.length_cons, List.length_nil]
    rw [show (i + 1) * 3 - (0 + 1 + 1 + 1) = i * 3 by omega, show (i + 1) * 3 + 1 - (0 + 1 + 1 + 1) = i * 3 + 1 by omega, show (i + 1) * 3 + 2 - (0 + 1 + 1 + 1) = i * 3 + 2 by omega]
    exact this

/-- a slice that owns a row of operators: cell by cell -/
theorem owns_cells {w : World} {base g n cap : Nat} {e : TypeId} {l : List Df} (h : w.ownsRow base e 3 (.slice (some ⟨g, 0, none⟩) n cap) n (cellsD l)) :
    base ≤ g ∧ g < w.heap.size ∧ l.length = n ∧ n ≤ cap ∧ cap ≤ maxLen ∧ ∀ t v, (cellsD l)[t]? = some v → w.cell? ⟨g, t, none⟩ = some v ∧ w.frozen? ⟨g, t, none⟩ = false := by
  obtain ⟨h1, ⟨h2, _⟩ | ⟨g', cap', cur, h2, h3, h4, h5, h6, h7, h8⟩⟩ := h
  · cases h2
  · cases h2
    refine ⟨h3, heap_lt h4, by rw [cellsD_len] at h1; omega, h5, h6, fun t v hv => ⟨cell_of_heap h4 ?_, free_of_heap h4⟩⟩
    have ht : t < n * 3 := by rw [← h1]; exact (List.getElem?_eq_some_iff.1 hv).1
    rw [← h8, List.getElem?_take, if_pos ht] at hv
    simpa using hv
theorem owns_arg {w : World} {base g n cap : Nat} {e : TypeId} {l : List Df} (h : w.ownsRow base e 3 (.slice (some ⟨g, 0, none⟩) n cap) n (cellsD l)) : ArgRow w (some ⟨g, 0, none⟩) n cap g 0 l := by
  obtain ⟨_, _, h3, h4, h5, h6⟩ := owns_cells h
  refine ⟨h3, h4, by unfold maxLen at h5; omega, fun _ => rfl, fun i d hd => ?_⟩
  obtain ⟨a1, a2, a3⟩ := cellsD_at l i d hd
  rw [Nat.zero_add]
  exact ⟨(h6 _ _ a1).1, (h6 _ _ a2).1, (h6 _ _ a3).1⟩
theorem three_of {t : Nat} : ∃ i c, t = i * 3 + c ∧ c < 3 ∧ t / 3 = i ∧ t % 3 = c := ⟨t / 3, t % 3, by omega, by omega, rfl, rfl⟩
theorem owns_holds {w : World} {base g n cap : Nat} {e : TypeId} {l : List Df} (h : w.ownsRow base e 3 (.slice (some ⟨g, 0, none⟩) n cap) n (cellsD l)) : Go.Sort.HoldsK Df.cells 3 w g 0 l.toArray := by
  obtain ⟨_, _, h3, _, _, h6⟩ := owns_cells h
  intro t ht
  rw [Go.Sort.size_flatK] at ht
  have ht' : t < l.length * 3 := by simpa using ht
  rw [Go.Sort.get_flatK _ _ _ _ ht, Nat.zero_add]
  refine h6 t _ ?_
  have hi : t / 3 < l.length := by omega
  have hd : l[t / 3]? = some l[t / 3] := List.getElem?_eq_getElem hi
  have e1 : l.toArray[t / 3]! = l[t / 3] := by simp [getElem!_pos, hi]
  rw [e1]
  obtain ⟨a1, a2, a3⟩ := cellsD_at l (t / 3) _ hd
  have h3 : t % 3 = 0 ∨ t % 3 = 1 ∨ t % 3 = 2 := by omega
  rcases h3 with h3 | h3 | h3
  · rw [h3]; rw [show (cellsD l)[t]? = (cellsD l)[t / 3 * 3]? by congr 1; omega]; exact a1
  · rw [h3]; rw [show (cellsD l)[t]? = (cellsD l)[t / 3 * 3 + 1]? by congr 1; omega]; exact a2
  · rw [h3]; rw [show (cellsD l)[t]? = (cellsD l)[t / 3 * 3 + 2]? by congr 1; omega]; exact a3

/-- behind the sort -/
theorem sorted_row {w : World} {g n cap : Nat} {d d' : Array Df} {os : Array Obj} {m : Nat} (h : Go.Sort.HoldsK Df.cells 3 w g 0 d) (hg : g < w.heap.size) (hs : d'.size = d.size) (hn : d.size = n) (hc : n ≤ cap) (hm : cap ≤ 9223372036854775807) :
    ArgRow (sortWorldK Df.cells 3 w g 0 m d' os) (some ⟨g, 0, none⟩) n cap g 0 d'.toList := by
  have hh := holdsK_sortWorldK_c Df.cells 3 w g 0 d d' m os h hg hs
  refine ⟨by rw [Array.length_toList]; omega, hc, hm, fun _ => rfl, fun i x hx => ?_⟩
  have hi : i < d'.size := by
    have := (List.getElem?_eq_some_iff.1 hx).1
    simpa using this
  have hx' : d'[i]! = x := by
    have := hx
    simp [Array.getElem?_toList] at this
    simp [getElem!_def, this]
  have c0 := (hh.cell (i := i) (c := 0) hi (by omega)).1
  have c1 := (hh.cell (i := i) (c := 1) hi (by omega)).1
  have c2 := (hh.cell (i := i) (c := 2) hi (by omega)).1
  rw [hx'] at c0 c1 c2
  exact ⟨c0, c1, c2⟩
theorem sorted_below {w : World} {B g m : Nat} {d' : Array Df} {os : Array Obj} (hg : B ≤ g) (hw : B ≤ w.heap.size) : Below B w (sortWorldK Df.cells 3 w g 0 m d' os) := by
  refine ⟨rfl, rfl, rfl, by unfold sortWorldK; simp [Go.Sort.putRowK], fun k hk => ?_⟩
  unfold sortWorldK Go.Sort.putRowK
  rw [Go.Sort.heap_grow_old _ _ (by simp; omega)]
  have : g ≠ k := fun e => by omega
  simp [Go.Sort.putRow, Go.Sort.mapBlock, Go.Sort.ahead, Array.getElem?_modify, this]

set_option maxRecDepth 100000 in
theorem sort_is (g cap : Nat) (l : List Df) (w : World) (h : Go.Sort.HoldsK Df.cells 3 w g 0 l.toArray) (hg : g < w.heap.size) (hl : l.length ≤ 300) :
    Calls Tryd.prog 37 #[.slice (some ⟨g, 0, none⟩) l.length cap, .func (.func 38) #[] #[]] w fun e w' => e = .returned (.tuple #[]) ∧ ∃ (S : List Df) (m : Nat) (os : Array Obj), S.Perm l ∧ S.Pairwise (fun x y => ¬ cmpD y x < 0) ∧ w' = sortWorldK Df.cells 3 w g 0 m S.toArray os := by
  have eg : ∀ args w, (callFunc 38 args).run Tryd.prog w = .ok (.enter 38 args) w := enters_of Tryd.func38 (by kernel_rfl) rfl
  have hcon := AnyQ.slices_SortFunc Tryd.sortDefs 3 Tryd.isAgg45 Tryd.sizeOf45 Df.cells (fun _ => rfl) (fun x v hv => by simp [Df.cells] at hv; rcases hv with rfl | rfl | rfl <;> rfl) cmpD swo_def 38 #[] g 0 cap l.toArray w eg (closure_lays g 0 _ w) h hg (by simp; omega)
  change Calls Tryd.prog 37 _ _ _ at hcon
  refine (show Calls Tryd.prog 37 #[.slice (some ⟨g, 0, none⟩) l.length cap, .func (.func 38) #[] #[]] w _ from hcon).mono ?_
  rintro e w' ⟨rfl, d', n, os, hp, hs, rfl⟩
  refine ⟨rfl, d'.toList, n, os, ?_, ?_, by simp⟩
  · obtain ⟨h1, _, h3⟩ := hp
    have e1 : d'.extract 0 l.toArray.size = d' := by rw [← h1]; simp
    have e2 : l.toArray.extract 0 l.toArray.size = l.toArray := by simp
    rw [e1, e2] at h3
    simpa using h3
  · rw [List.pairwise_iff_getElem]
    intro i j hi hj hij
    have hsz := hp.1
    have := hs i j (Nat.zero_le _) hij (by rw [← hsz]; simpa using hj)
    unfold ltOf at this
    simp only [decide_eq_false_iff_not] at this
    have hi' : i < d'.size := by simpa using hi
    have hj' : j < d'.size := by simpa using hj
    rw [getElem!_pos d' i hi', getElem!_pos d' j hj'] at this
    simpa using this

end Go.Proofs.YtnnhpjpfmmlimaaDoor
