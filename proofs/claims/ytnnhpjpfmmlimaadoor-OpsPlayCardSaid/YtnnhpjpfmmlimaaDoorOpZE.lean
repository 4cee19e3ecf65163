/- The program's Copy; the two tables side by side. Conditions: as each states. -/
import Derived.Test.YtnnhpjpfmmlimaaDoorOpZD
namespace Go.Proofs.YtnnhpjpfmmlimaaDoor
open Go Go.RowKit Go.Maps
open Go.WideMaps Go.WideElems

set_option maxRecDepth 100000 in
set_option maxHeartbeats 1600000 in
theorem copy_is (a m : Nat) (L : List Df) (w : World) (hT : Tb w a m L) :
    Calls Tryd.prog 12 #[.pointer (some ⟨a, 0, none⟩)] w fun e w' => ∃ a2 m2, e = .returned (.pointer (some ⟨a2, 0, none⟩)) ∧ w.heap.size ≤ a2 ∧ w.heap.size ≤ m2 ∧ Tb w' a2 m2 L ∧ Below w.heap.size w w' := by
  obtain ⟨c0, _⟩ := hT.cells
  obtain ⟨D, ho, hr⟩ := hT.own
  have CL := AnyW.maps_Clone_owns Tryd.cloneDefs 71 dfR m _ D w ho
  change Calls Tryd.prog 35 _ _ _ at CL
  have HCL := Lib.hid CL
  have HR := Lib.hid hr
  have HWF := Lib.hid hT.wf
  clear CL ho hr hT
  go_enter Tryd.func12, Tryd.ntmps12
  go_wp2_with fail
  refine HCL.out.mono ?_
  rintro e w1 ⟨rfl, h1, _, b1⟩
  have H1 := Lib.hid h1
  have B1 := Lib.hid b1
  clear h1 b1
  go_wp2_with fail
  go_ret
  have hlt := H1.out.lt
  have K : Below w1.heap.size w1 (w1.alloc (.cells #[.map (some w.heap.size)] 55)) := (Below.refl _ _).alloc (Nat.le_refl _) _
  refine ⟨w1.heap.size, w.heap.size, rfl, B1.out.size, Nat.le_refl _, ⟨new_at _ _ rfl, ⟨D, ?_, HR.out⟩, HWF.out, by omega⟩, bt B1.out K⟩
  obtain ⟨es, clock, hb, r⟩ := H1.out
  exact ⟨es, clock, (K.block _ hlt).trans hb, r⟩

/-- what was put aside half way: none, or a copy and what the document's table listed -/
inductive Aside2 (w : World) (b : Nat) (v7 v8 : Value) : Prop
  | none (h7 : v7 = .pointer none) (h8 : v8 = .slice none 0 0) : Aside2 w b v7 v8
  | some (a2 m2 : Nat) (L : List Df) (ad : Option Addr) (cap B : Nat) (S : List Df) (h7 : v7 = .pointer (some ⟨a2, 0, Option.none⟩)) (h8 : v8 = .slice ad L.length cap) (tb : Tb w a2 m2 L) (row : ArgRow w ad L.length cap B 0 S)
      (perm : S.Perm L) (sort : Sorted S) (len : L.length ≤ 256) (ha : b < a2) (hm : b < m2) (hB : S = [] ∨ b < B) : Aside2 w b v7 v8
theorem Aside2.grown {w w' : World} {b j : Nat} {v7 v8 : Value} (h : Aside2 w b v7 v8) (g : w.grownBy w' (Option.some j)) (hj : j ≤ b) : Aside2 w' b v7 v8 := by
  cases h with
  | none h7 h8 => exact .none h7 h8
  | some a2 m2 L ad cap B S h7 h8 tb row perm sort len ha hm hB =>
    refine .some a2 m2 L ad cap B S h7 h8 (tb.kept (g.block _ tb.lt.1 (by simp; omega)) (g.block _ tb.lt.2 (by simp; omega))) (row.grown g (hB.imp id (fun h => by omega))) perm sort len ha hm hB
theorem grown_below {w w' : World} (h : Below w.heap.size w w') (j : Nat) : w.grownBy w' (some j) := grown_of h _
theorem Aside2.on {w w' : World} {b : Nat} {v7 v8 : Value} (h : Aside2 w b v7 v8) (k : Below w.heap.size w w') : Aside2 w' b v7 v8 := h.grown (grown_below k b) (Nat.le_refl _)
theorem Aside2.same {w W : World} {b : Nat} {v7 v8 : Value} (h : Aside2 w b v7 v8) (hW : SameW W w) : Aside2 W b v7 v8 := h.on (Below.sameW (Below.refl _ _) hW)

/-- the two tables, the first with its map at a, m, the other at b; D: where the operator at hand lies -/
structure Two (w0 w : World) (a m b D : Nat) (d : Df) (L1 L2 : List Df) (v7 v8 : Value) : Prop where
  lay : Lay w
  tab : Tb w a m L1
  rt : Rt w b L2
  low : Below w0.heap.size w0 w
  put : w.heap[D]? = some (.cells #[.int .i64 d.pri, .int .i64 d.typ, .string d.name] 29 (0, 0))
  asd : Aside2 w b v7 v8
  ord : w0.heap.size ≤ a ∧ a < m ∧ m < b ∧ b < D
theorem Two.on {w0 w w' : World} {a m b D : Nat} {d : Df} {L1 L2 : List Df} {v7 v8 : Value} (h : Two w0 w a m b D d L1 L2 v7 v8) (k : Below w.heap.size w w') : Two w0 w' a m b D d L1 L2 v7 v8 :=
  ⟨h.lay.on k, h.tab.on k, h.rt.on k, bt h.low k, (k.block _ (heap_lt h.put)).trans h.put, h.asd.on k, h.ord⟩
theorem Two.same {w0 w W : World} {a m b D : Nat} {d : Df} {L1 L2 : List Df} {v7 v8 : Value} (h : Two w0 w a m b D d L1 L2 v7 v8) (hW : SameW W w) : Two w0 W a m b D d L1 L2 v7 v8 := h.on (Below.sameW (Below.refl _ _) hW)
theorem two_op {w0 w : World} {a m b D : Nat} {d : Df} {L1 L2 : List Df} {v7 v8 : Value} (hl : Lay w0) (h : Two w0 w a m b D d L1 L2 v7 v8) (hL : L1.length ≤ 256) :
    Calls Tryd.prog 10 #[.pointer (some ⟨a, 0, none⟩), .int .i64 d.pri, .int .i64 d.typ, .string d.name] w fun e w' => e = .returned (.int .i64 (opZ L1 d).1) ∧ Two w0 w' a m b D d (opZ L1 d).2 L2 v7 v8 := by
  refine (op_is a m L1 d w h.lay h.tab hL).mono ?_
  rintro e w' ⟨rfl, ht, hg⟩
  have hlow := h.low.grown hg h.low.size (fun j hj => by cases hj; have := h.ord; omega)
  exact ⟨rfl, hl.from hlow hl.low, ht, h.rt.grown hg (by have := h.ord; omega), hlow, (hg.block _ (heap_lt h.put) (by have := h.ord; simp; omega)).trans h.put, h.asd.grown hg (by have := h.ord; omega), h.ord⟩
theorem two_rop {w0 w : World} {a m b D : Nat} {d : Df} {L1 L2 : List Df} {v7 v8 : Value} (hl : Lay w0) (h : Two w0 w a m b D d L1 L2 v7 v8) (hL : L2.length ≤ 256) :
    Calls Tryd.prog 11 #[.pointer (some ⟨b, 0, none⟩), .int .i64 d.pri, .int .i64 d.typ, .string d.name] w fun e w' => e = .returned (.int .i64 (opZ L2 d).1) ∧ Two w0 w' a m b D d L1 (opZ L2 d).2 v7 v8 := by
  refine (rop_is b L2 d w h.rt hL).mono ?_
  rintro e w' ⟨rfl, ht, hg⟩
  have hlow := h.low.grown hg h.low.size (fun j hj => by cases hj; have := h.ord; omega)
  have hlt := h.tab.lt
  exact ⟨rfl, hl.from hlow hl.low, h.tab.kept (hg.block _ hlt.1 (by have := h.ord; simp; omega)) (hg.block _ hlt.2 (by have := h.ord; simp; omega)), ht, hlow, (hg.block _ (heap_lt h.put) (by have := h.ord; simp; omega)).trans h.put, h.asd.grown hg (Nat.le_refl _), h.ord⟩

end Go.Proofs.YtnnhpjpfmmlimaaDoor
