/- TermOrders: the mathematics; contracts of what it calls, of terms that stand from a world on. Conditions: none. -/
import Derived.Test.YtkidcchafdiofaaTermBe
import Derived.Test.YtkidcchafdiofaaTermBa
namespace Go.Proofs.Ytkidcchafdiofaa
open Go Go.RowKit

theorem meet_keep : ∀ (L : List (Int × Int)) (acc : List Int) (n : Int), n ∈ acc → n ∈ L.foldl meetP acc
  | [], _, _, h => h
  | y :: L, acc, n, h => by
    rw [List.foldl_cons]
    refine meet_keep L _ n ?_
    unfold meetP
    split
    · exact List.mem_append_left _ h
    · exact h
theorem meet_has : ∀ (L : List (Int × Int)) (acc : List Int) (x : Int × Int), x ∈ L → x.1 = 1 → x.2 ∈ L.foldl meetP acc
  | [], _, _, h, _ => by cases h
  | y :: L, acc, x, h, h1 => by
    rw [List.foldl_cons]
    rcases List.mem_cons.1 h with rfl | h
    · refine meet_keep L _ _ ?_
      unfold meetP
      by_cases hm : x.2 ∈ acc
      · rw [if_neg (fun h => h.2 hm)]; exact hm
      · rw [if_pos ⟨h1, hm⟩]; simp
    · exact meet_has L _ x h h1
theorem ren_both {x : AT} (h : x.erase.shp) : Tm.renR x.erase.vsR x.erase = x.erase.ren (varsT x) := by
  rw [← varsT_R h]
  exact ren_eq _ _ h (fun y hy h1 => by rw [vars_kns]; exact meet_has _ _ y hy h1)

/-- the answer of a call on a term: a row of these numbers -/
structure RowPost (w0 w : World) (vs : List Int) (e : Ending) (w' : World) : Prop where
  ex : ∃ ad cap g, e = .returned (.slice ad vs.length cap) ∧ vs.length ≤ cap ∧ cap ≤ 9223372036854775807 ∧ (0 < vs.length → ad = some ⟨g, 0, none⟩) ∧ LMem w' g vs
  below : Below w0.heap.size w0 w'
  step : Below w.heap.size w w'
theorem RowPost.of {w0 w w' : World} {vs : List Int} {e : Ending} (hb : Below w0.heap.size w0 w) (h : VarsPost w vs e w') : RowPost w0 w vs e w' := by
  obtain ⟨v, rfl, h1, h2, _⟩ := h
  obtain ⟨ad, cap, g, rfl, r1, r2, r3, r4⟩ := row_vals h1
  exact ⟨⟨ad, cap, g, rfl, r1, r2, r3, r4⟩, hb.trans (h2.mono hb.size), h2⟩
structure VarsIs (f : Nat) (w0 : World) (k n : Int) (s : ByteArray) (a : Option Addr) (l c : Nat) (vs : List Int) : Prop where
  at' : ∀ w, Below w0.heap.size w0 w → Calls Try.prog f #[.agg #[.int .i64 k, .int .i64 n, .string s, .slice a l c]] w (RowPost w0 w vs)
theorem varsIs_of {w0 : World} {x : AT} {a : Option Addr} {l c : Nat} (hx : x.mem w0) (h1 : x.nodes ≤ 700000) (hf : Fine x) (e1 : x.sv = .slice a l c) : VarsIs 19 w0 x.k x.n x.s a l c (varsT x) := ⟨fun w hb => by
  rw [← e1]
  exact (vars_is x w (AT.mem_below hb (AT.ins_size _ hx) hx) (by omega) (fine_n hf)).mono fun e w' hp => RowPost.of hb hp⟩
theorem varsRIs_of {w0 : World} {x : AT} {a : Option Addr} {l c : Nat} (hx : x.mem w0) (h1 : x.nodes ≤ 700000) (hs : x.erase.shp) (e1 : x.sv = .slice a l c) : VarsIs 20 w0 x.k x.n x.s a l c (varsT x) := ⟨fun w hb => by
  rw [← e1, varsT_R hs]
  exact (varsR_is x.nodes x w (Nat.le_refl _) (AT.mem_below hb (AT.ins_size _ hx) hx) h1).mono fun e w' hp => RowPost.of hb hp⟩
structure CmpRIs (w0 : World) (k n : Int) (s : ByteArray) (a : Option Addr) (l c : Nat) (k' n' : Int) (s' : ByteArray) (a' : Option Addr) (l' c' : Nat) (z : Int) : Prop where
  at' : ∀ w, Below w0.heap.size w0 w → Calls Try.prog 22 #[.agg #[.int .i64 k, .int .i64 n, .string s, .slice a l c], .agg #[.int .i64 k', .int .i64 n', .string s', .slice a' l' c']] w fun e w' => e = .returned (.int .i64 z) ∧ Below w0.heap.size w0 w'
theorem cmpRIs_of {w0 : World} {x y : AT} {a a' : Option Addr} {l l' c c' : Nat} (hx : x.mem w0) (hy : y.mem w0) (h1 : x.nodes ≤ 700000) (h2 : y.nodes ≤ 700000) (sx : x.shp) (sy : y.shp) (e1 : x.sv = .slice a l c) (e2 : y.sv = .slice a' l' c') :
    CmpRIs w0 x.k x.n x.s a l c y.k y.n y.s a' l' c' (cmpT x y) := ⟨fun w hb => by
  rw [← e1, ← e2, cmpT_R sx sy]
  exact (cmpR_is x.nodes x y w (Nat.le_refl _) (AT.mem_below hb (AT.ins_size _ hx) hx) (AT.mem_below hb (AT.ins_size _ hy) hy) (by omega) (by omega)).mono fun e w' hp => ⟨hp.1, hb.trans (hp.2.mono hb.size)⟩⟩

/-- a term's four cells in a box of its own -/
def BoxAt (w : World) (H : Nat) (k n : Int) (s : ByteArray) (a : Option Addr) (l c : Nat) : Prop := w.heap[H]? = some (.cells #[.int .i64 k, .int .i64 n, .string s, .slice a l c] 27 (0, 0))
theorem BoxAt.on {w w' : World} {H : Nat} {k n : Int} {s : ByteArray} {a : Option Addr} {l c : Nat} (h : BoxAt w H k n s a l c) (hb : Below w.heap.size w w') : BoxAt w' H k n s a l c := (hb.block _ (Array.getElem?_eq_some_iff.1 h).1).trans h
theorem BoxAt.cells {w : World} {H : Nat} {k n : Int} {s : ByteArray} {a : Option Addr} {l c : Nat} (h : BoxAt w H k n s a l c) : w.cell? ⟨H, 0, none⟩ = some (.int .i64 k) ∧ w.cell? ⟨H, 1, none⟩ = some (.int .i64 n) ∧ w.cell? ⟨H, 2, none⟩ = some (.string s) ∧ w.cell? ⟨H, 3, none⟩ = some (.slice a l c) :=
  ⟨cell_of_heap h rfl, cell_of_heap h rfl, cell_of_heap h rfl, cell_of_heap h rfl⟩
theorem boxAt_new (w : World) (k n : Int) (s : ByteArray) (a : Option Addr) (l c : Nat) : BoxAt (w.alloc (.cells #[.int .i64 k, .int .i64 n, .string s, .slice a l c] 27)) w.heap.size k n s a l c := new_at _ _ rfl
theorem BoxAt.lt {w : World} {H : Nat} {k n : Int} {s : ByteArray} {a : Option Addr} {l c : Nat} (h : BoxAt w H k n s a l c) : H < w.heap.size := (Array.getElem?_eq_some_iff.1 h).1

/-- the Args of a new term, while their names are changed -/
structure ChSt (B G off nx : Nat) (w18 wr : World) : Prop where
  below : Below B w18 wr
  plain : Plain wr G
  names : ∀ i, i < nx → ∃ s, wr.cell? ⟨G, off + i * 4 + 2, none⟩ = some (.string s)
  low : B ≤ G
theorem ch_next {B G off nx i : Nat} {w18 wr : World} (h : ChSt B G off nx w18 wr) (s : ByteArray) (_hi : i < nx) : ChSt B G off nx w18 (wr.setCell ⟨G, off + i * 4 + 2, none⟩ (.string s)) := by
  refine ⟨h.below.setCell h.low _, h.plain.setCell _ _, fun j hj => ?_, h.low⟩
  obtain ⟨t, ht⟩ := h.names j hj
  by_cases hji : j = i
  · subst hji
    exact ⟨s, World.cell?_setCell_same _ _ _ ht⟩
  · exact ⟨t, by rw [World.cell?_setCell_other _ _ _ _ (by intro h; simp at h; first | done | omega)]; exact ht⟩

/-- what the document's Number answers, held against a term that is numbered -/
structure NumRPost (w0 : World) (k n : Int) (s : ByteArray) (a : Option Addr) (l c : Nat) (e : Ending) (w' : World) : Prop where
  ex : ∃ k' n' s' a' l' c', e = .returned (.agg #[.int .i64 k', .int .i64 n', .string s', .slice a' l' c']) ∧ TwinIs w0 w' k n s a l c k' n' s' a' l' c'
  below : Below w0.heap.size w0 w'
structure NumRIs (w0 : World) (k n : Int) (s : ByteArray) (a : Option Addr) (l c : Nat) (xk xn : Int) (xs : ByteArray) (xa : Option Addr) (xl xc : Nat) : Prop where
  at' : ∀ w, Below w0.heap.size w0 w → Calls Try.prog 27 #[.agg #[.int .i64 xk, .int .i64 xn, .string xs, .slice xa xl xc]] w (NumRPost w0 k n s a l c)
theorem numRIs_of {w0 : World} {x u : AT} {a xa : Option Addr} {l c xl xc : Nat} (hx : x.mem w0) (hu : u.mem w0) (h1 : x.nodes ≤ 700000) (hu1 : u.nodes ≤ 700000) (hn : u.erase = x.erase.ren (varsT x)) (hr : Tm.renR x.erase.vsR x.erase = x.erase.ren (varsT x)) (e1 : u.sv = .slice a l c) (e2 : x.sv = .slice xa xl xc) :
    NumRIs w0 u.k u.n u.s a l c x.k x.n x.s xa xl xc := ⟨fun w hb => by
  rw [← e2]
  refine (numberR_is x w (AT.mem_below hb (AT.ins_size _ hx) hx) h1).mono ?_
  rintro e w' ⟨t, rfl, t1, t2, t3, t4⟩
  obtain ⟨ta, tc, tsv, _⟩ := sv_form (AT.mem_mk.1 t2).1
  have hb' := hb.trans (t4.mono hb.size)
  have htn : t.nodes ≤ 700000 := by
    rw [← AT.nodes_erase, t1, hr, ← hn, AT.nodes_erase]
    exact hu1
  refine ⟨⟨t.k, t.n, t.s, ta, t.l.length, tc, by rw [tsv], ⟨fun w2 hb2 => ?_⟩⟩, hb'⟩
  have h := same_is u.nodes u t w2 (Nat.le_refl _) (AT.mem_below (hb'.trans (hb2.mono hb'.size)) (AT.ins_size _ hu) hu) (AT.mem_below hb2 (AT.ins_size _ t2) t2) (by omega) (by omega)
  rw [AT.same_erase u t (by rw [t1, hr, hn])] at h
  simp only [AT.val] at h
  rw [e1, tsv] at h
  exact h.mono fun e w' hp => ⟨hp.1, (hb'.trans (hb2.mono hb'.size)).trans (hp.2.mono (Nat.le_trans hb'.size hb2.size))⟩⟩

/-- what holds ahead of each change -/
structure NSt (B G off nl H : Nat) (k n : Int) (s : ByteArray) (a : Option Addr) (l c : Nat) (w18 wr : World) : Prop where
  ch : 0 < nl → ChSt B G off nl w18 wr
  below : Below B w18 wr
  box : BoxAt wr H k n s a l c
  ne : 0 < nl → G ≠ H
theorem n_next {B G off nl H i : Nat} {k n : Int} {s : ByteArray} {a : Option Addr} {l c : Nat} {w18 wr : World} (h : NSt B G off nl H k n s a l c w18 wr) (hi : i < nl) (t : ByteArray) : NSt B G off nl H k n s a l c w18 (wr.setCell ⟨G, off + i * 4 + 2, none⟩ (.string t)) := by
  have h0 : 0 < nl := by omega
  refine ⟨fun _ => ch_next (h.ch h0) t hi, (ch_next (h.ch h0) t hi).below, ?_, h.ne⟩
  show _ = _
  rw [heap_set_ne (Ne.symm (h.ne h0))]
  exact h.box

end Go.Proofs.Ytkidcchafdiofaa
