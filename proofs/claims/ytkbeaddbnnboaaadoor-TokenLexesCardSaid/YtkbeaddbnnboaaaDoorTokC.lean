/- Package token's attempts: text, alone, letters, signs, within: contracts. Conditions: the place stands in memory; its text has at most 5000 bytes and one at least. -/
import Derived.Test.YtkbeaddbnnboaaaDoorTokB
import Derived.OneCell
namespace Go.Proofs.YtkbeaddbnnboaaaDoor
open Go Go.RowKit Go.Maps

theorem bytes_eq {s : ByteArray} {l : List UInt8} (h : s.data.toList = l) : s = ⟨l.toArray⟩ := by
  obtain ⟨⟨x⟩⟩ := s
  simp at h
  rw [h]
/-- what an attempt answers -/
structure AttPost (w : World) (o : Option (Tk × Nat)) (e : Ending) (w' : World) : Prop where
  ex : ∃ (t : Tk) (n : Nat), e = .returned (.tuple #[.agg #[.int .i64 t.k, .int .i64 0, .int .i64 t.n, .string ⟨t.s.toArray⟩, .bool false, .bool false], .int .i64 n]) ∧ ((o = none ∧ n = 0) ∨ (o = some (t, n) ∧ 0 < n))
  below : Below w.heap.size w w'
abbrev zero6 : Array Value := #[.int .i64 0, .int .i64 0, .int .i64 0, .string ⟨#[]⟩, .bool false, .bool false]
theorem heap_set {w : World} {b o : Nat} {c : Array Value} {T : TypeId} {fr : Nat × Nat} (h : w.heap[b]? = some (.cells c T fr)) (v : Value) : (w.setCell ⟨b, o, none⟩ v).heap[b]? = some (.cells (c.setIfInBounds o v) T fr) := by
  simp [World.setCell, Array.getElem?_modify, h]
theorem cell_of_heap {w : World} {b o : Nat} {c : Array Value} {T : TypeId} {fr : Nat × Nat} {v : Value} (h : w.heap[b]? = some (.cells c T fr)) (hc : c[o]? = some v) : w.cell? ⟨b, o, none⟩ = some v := by
  simp [World.cell?, h, hc]
theorem free_of_heap {w : World} {b o : Nat} {c : Array Value} {T : TypeId} (h : w.heap[b]? = some (.cells c T (0, 0))) : w.frozen? ⟨b, o, none⟩ = false := by
  simp [World.frozen?, h]
theorem heap_set_ne {w : World} {b k o : Nat} (hk : k ≠ b) (v : Value) : (w.setCell ⟨b, o, none⟩ v).heap[k]? = w.heap[k]? := Below.heap_setCell _ _ _ _ hk
theorem new_at (w : World) (o : Obj) {H : Nat} (h : w.heap.size = H) : (w.alloc o).heap[H]? = some o := by
  subst h
  exact heap_alloc_new w o
theorem six_cells {w : World} {b : Nat} {x0 x1 x2 x3 x4 x5 : Value} {T : TypeId} (h : w.heap[b]? = some (.cells #[x0, x1, x2, x3, x4, x5] T (0, 0))) (y0 y1 y2 y3 y4 y5 : Value) :
    (w.setCell ⟨b, 0, none⟩ y0).cell? ⟨b, 0, none⟩ = some y0 ∧ ((w.setCell ⟨b, 0, none⟩ y0).setCell ⟨b, 1, none⟩ y1).cell? ⟨b, 1, none⟩ = some y1 ∧ (((w.setCell ⟨b, 0, none⟩ y0).setCell ⟨b, 1, none⟩ y1).setCell ⟨b, 2, none⟩ y2).cell? ⟨b, 2, none⟩ = some y2 ∧
      ((((w.setCell ⟨b, 0, none⟩ y0).setCell ⟨b, 1, none⟩ y1).setCell ⟨b, 2, none⟩ y2).setCell ⟨b, 3, none⟩ y3).cell? ⟨b, 3, none⟩ = some y3 ∧ (((((w.setCell ⟨b, 0, none⟩ y0).setCell ⟨b, 1, none⟩ y1).setCell ⟨b, 2, none⟩ y2).setCell ⟨b, 3, none⟩ y3).setCell ⟨b, 4, none⟩ y4).cell? ⟨b, 4, none⟩ = some y4 ∧
      ((((((w.setCell ⟨b, 0, none⟩ y0).setCell ⟨b, 1, none⟩ y1).setCell ⟨b, 2, none⟩ y2).setCell ⟨b, 3, none⟩ y3).setCell ⟨b, 4, none⟩ y4).setCell ⟨b, 5, none⟩ y5).cell? ⟨b, 5, none⟩ = some y5 := by
  have h0 : _ = some (Obj.cells #[y0, x1, x2, x3, x4, x5] T (0, 0)) := heap_set (o := 0) h y0
  have h1 : _ = some (Obj.cells #[y0, y1, x2, x3, x4, x5] T (0, 0)) := heap_set (o := 1) h0 y1
  have h2 : _ = some (Obj.cells #[y0, y1, y2, x3, x4, x5] T (0, 0)) := heap_set (o := 2) h1 y2
  have h3 : _ = some (Obj.cells #[y0, y1, y2, y3, x4, x5] T (0, 0)) := heap_set (o := 3) h2 y3
  have h4 : _ = some (Obj.cells #[y0, y1, y2, y3, y4, x5] T (0, 0)) := heap_set (o := 4) h3 y4
  have h5 : _ = some (Obj.cells #[y0, y1, y2, y3, y4, y5] T (0, 0)) := heap_set (o := 5) h4 y5
  exact ⟨cell_of_heap h0 rfl, cell_of_heap h1 rfl, cell_of_heap h2 rfl, cell_of_heap h3 rfl, cell_of_heap h4 rfl, cell_of_heap h5 rfl⟩
/-- a box of six cells -/
structure Six (w : World) (b : Nat) : Prop where
  h : w.heap[b]? = some (.cells zero6 30 (0, 0))
theorem Six.on {w w' : World} {b : Nat} (h : Six w b) (hb : Below w.heap.size w w') : Six w' b := ⟨(hb.block b (heap_lt h.h)).trans h.h⟩
theorem Six.facts {w : World} {b : Nat} (h : Six w b) : w.cell? ⟨b, 0, none⟩ = some (.int .i64 0) ∧ w.cell? ⟨b, 1, none⟩ = some (.int .i64 0) ∧ w.cell? ⟨b, 2, none⟩ = some (.int .i64 0) ∧ w.cell? ⟨b, 3, none⟩ = some (.string ⟨#[]⟩) ∧ w.cell? ⟨b, 4, none⟩ = some (.bool false) ∧ w.cell? ⟨b, 5, none⟩ = some (.bool false) ∧
    w.frozen? ⟨b, 0, none⟩ = false ∧ w.frozen? ⟨b, 1, none⟩ = false ∧ w.frozen? ⟨b, 2, none⟩ = false ∧ w.frozen? ⟨b, 3, none⟩ = false ∧ w.frozen? ⟨b, 4, none⟩ = false ∧ w.frozen? ⟨b, 5, none⟩ = false :=
  ⟨cell_of_heap h.h rfl, cell_of_heap h.h rfl, cell_of_heap h.h rfl, cell_of_heap h.h rfl, cell_of_heap h.h rfl, cell_of_heap h.h rfl, free_of_heap h.h, free_of_heap h.h, free_of_heap h.h, free_of_heap h.h, free_of_heap h.h, free_of_heap h.h⟩
theorem below6 {w w' : World} {H : Nat} (h : Below H w w') (y0 y1 y2 y3 y4 y5 : Value) : Below H w ((((((w'.setCell ⟨H, 0, none⟩ y0).setCell ⟨H, 1, none⟩ y1).setCell ⟨H, 2, none⟩ y2).setCell ⟨H, 3, none⟩ y3).setCell ⟨H, 4, none⟩ y4).setCell ⟨H, 5, none⟩ y5) := by
  have hB : H ≤ H := Nat.le_refl _
  have a0 := h.setCell (p := ⟨H, 0, none⟩) hB y0
  have a1 := a0.setCell (p := ⟨H, 1, none⟩) hB y1
  have a2 := a1.setCell (p := ⟨H, 2, none⟩) hB y2
  have a3 := a2.setCell (p := ⟨H, 3, none⟩) hB y3
  have a4 := a3.setCell (p := ⟨H, 4, none⟩) hB y4
  exact a4.setCell (p := ⟨H, 5, none⟩) hB y5

set_option maxRecDepth 100000 in
set_option maxHeartbeats 800000 in
theorem text_is (p : Nat) (s : ByteArray) (n : Int) (kind : Int) (z : Nat) (w : World) (h : PL w p s n) (hs : s.size ≤ 5000) (hz : z ≤ s.size) :
    Calls Tryd.prog 49 #[.pointer (some ⟨p, 0, none⟩), .int .i64 kind, .int .i64 z] w fun e w' => e = .returned (.tuple #[.agg #[.int .i64 kind, .int .i64 0, .int .i64 0, .string ⟨(s.data.toList.take z).toArray⟩, .bool false, .bool false], .int .i64 z]) ∧ Below w.heap.size w w' := by
  have hb0 : Below w.heap.size w (w.alloc (.cells zero6 30)) := (Below.refl _ _).alloc (Nat.le_refl _) _
  have h1 := h.on hb0
  obtain ⟨c0, _, _, _⟩ := h1.cells
  have six : Six (w.alloc (.cells zero6 30)) w.heap.size := ⟨new_at _ _ rfl⟩
  have he : s.extract 0 z = ⟨(s.data.toList.take z).toArray⟩ := bytes_eq (by rw [Lib.extract_data]; simp)
  have hsz : (s.extract 0 z).size ≤ 20000 := by
    have : (s.extract 0 z).size = (s.extract 0 z).data.toList.length := (Lib.size_eq _).symm
    rw [this, Lib.extract_data, List.length_take]
    simp
    omega
  have C := Lib.hid (fun w => clone_is (s.extract 0 z) hsz w)
  have HE := Lib.hid he
  have HB0 := Lib.hid hb0
  have SIX := Lib.hid six
  clear h h1 he hb0 six hsz
  unfold zero6 at *
  go_enter Tryd.func49, Tryd.ntmps49
  go_wp2_with fail
  refine (C.out _).mono ?_
  rintro e w5 ⟨rfl, hb5⟩
  have S5 := SIX.out.on hb5
  obtain ⟨d0, d1, d2, d3, d4, d5, z0, z1, z2, z3, z4, z5⟩ := S5.facts
  have HS5 := Lib.hid S5
  have HB : Hid (Below w.heap.size w w5) := HB0.out.trans (hb5.mono HB0.out.size)
  clear hb5 S5 C SIX HB0
  go_wp2
  obtain ⟨q0, q1, q2, q3, q4, q5⟩ := six_cells HS5.out.h (.int .i64 kind) (.int .i64 0) (.int .i64 0) (.string (s.extract 0 z)) (.bool false) (.bool false)
  refine bodyPost_ret (v := .tuple #[.agg #[.int .i64 kind, .int .i64 0, .int .i64 0, .string (s.extract 0 z), .bool false, .bool false], .int .i64 z]) (by simp [results, Tryd.results49, go_sem, q0, q1, q2, q3, q4, q5]) rfl ?_
  exact ⟨by rw [HE.out], below6 HB.out _ _ _ _ _ _⟩

end Go.Proofs.YtkbeaddbnnboaaaDoor
