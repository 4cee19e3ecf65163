/- term.Items: a contract. Conditions: memory holds the term; it has at most 700000 parts; their names are short. The document's Cons and Items: contracts. Conditions: memory holds the term; it has at most 700000 parts. -/
import Derived.Test.YtkidcchafdiofaaTermAw
import Derived.RegionTactic
import Derived.BigRegion
namespace Go.Proofs.Ytkidcchafdiofaa
open Go Go.RowKit

theorem ItemsPost.drew {w w' : World} {ls : List Tm} {r : Tm} {e : Ending} (h : ItemsPost w ls r e w') : ItemsPost w ls r e w'.drew := by
  obtain ⟨ad, n, c, G, l, u, h1, h2, h3, h4, h5, h6, h7, h8⟩ := h
  refine ⟨ad, n, c, G, l, u, h1, h2, h3, ?_, h5, h6, AT.mem_below ((Below.refl _ _).drew) (AT.ins_size _ h7) h7, h8.drew⟩
  have hm : (AT.mk 0 0 ⟨#[]⟩ (.slice ad n c) G 0 l).mem w' := ⟨by rw [h2]; exact h3, h4⟩
  exact (AT.mem_below ((Below.refl w'.heap.size w').drew) (AT.ins_size _ hm) hm).2

/-- the cells that a round reads -/
structure ItCells (wr : World) (H : Nat) (x a b : AT) (ax : Option Addr) (cx : Nat) : Prop where
  c0 : wr.cell? ⟨H, 0, none⟩ = some (.int .i64 x.k)
  c1 : wr.cell? ⟨H, 1, none⟩ = some (.int .i64 x.n)
  c2 : wr.cell? ⟨H, 2, none⟩ = some (.string x.s)
  c3 : wr.cell? ⟨H, 3, none⟩ = some (.slice ax 2 cx)
  a0 : wr.cell? ⟨x.G, x.off, none⟩ = some (.int .i64 a.k)
  a1 : wr.cell? ⟨x.G, x.off + 1, none⟩ = some (.int .i64 a.n)
  a2 : wr.cell? ⟨x.G, x.off + 2, none⟩ = some (.string a.s)
  a3 : wr.cell? ⟨x.G, x.off + 3, none⟩ = some a.sv
  b0 : wr.cell? ⟨x.G, x.off + 4, none⟩ = some (.int .i64 b.k)
  b1 : wr.cell? ⟨x.G, x.off + 4 + 1, none⟩ = some (.int .i64 b.n)
  b2 : wr.cell? ⟨x.G, x.off + 4 + 2, none⟩ = some (.string b.s)
  b3 : wr.cell? ⟨x.G, x.off + 4 + 3, none⟩ = some b.sv
  z0 : wr.frozen? ⟨H, 0, none⟩ = false
  z1 : wr.frozen? ⟨H, 1, none⟩ = false
  z2 : wr.frozen? ⟨H, 2, none⟩ = false
  z3 : wr.frozen? ⟨H, 3, none⟩ = false
  addr : ax = some ⟨x.G, x.off, none⟩
  sv : x.sv = .slice ax 2 cx
  fits : 2 ≤ cx ∧ cx ≤ 9223372036854775807
theorem it_cells {w wr : World} {H i N : Nat} {v : Value} {ls : List Tm} {r : Tm} {l : List AT} {x a b : AT} (h : ItSt w H i N v ls r l x wr) (hl : x.l = [a, b]) : ∃ ax cx, ItCells wr H x a b ax cx := by
  have hxm := AT.mem_mk.1 h.mem
  rw [hl] at hxm
  obtain ⟨hsv, ⟨_, a0, a1, a2, a3⟩, _, ⟨_, b0, b1, b2, b3⟩, _, _⟩ := hxm
  obtain ⟨ax, cx, e1, e2, e3, e4⟩ := sv_form hsv
  have hb := h.box
  refine ⟨ax, cx, cell_of_heap hb rfl, cell_of_heap hb rfl, cell_of_heap hb rfl, ?_, a0, a1, a2, a3, b0, b1, b2, b3, free_of_heap hb, free_of_heap hb, free_of_heap hb, free_of_heap hb, e4 (by simp), e1, by simpa using e2, by unfold maxLen at e3; omega⟩
  rw [show (2 : Nat) = [a, b].length from rfl, ← e1]
  exact cell_of_heap hb rfl
/-- they are there behind an append, too -/
theorem it_cells_on {w wr w7 : World} {H i N : Nat} {v : Value} {ls : List Tm} {r : Tm} {l : List AT} {x a b : AT} {ax : Option Addr} {cx : Nat} {o : Obj} (h : ItSt w H i N v ls r l x wr) (hl : x.l = [a, b]) (hc : ItCells wr H x a b ax cx) (hgrow : (wr.alloc o).grownBy w7 v.ownBlock) : ItCells w7 H x a b ax cx := by
  have hlH := (Array.getElem?_eq_some_iff.1 h.res).1
  have hxi := (AT.ins_mk.1 h.ins).1 (by rw [hl]; simp)
  have hG := World.block_lt_of_cell? _ _ hc.a0
  have o1 : w7.heap[H]? = wr.heap[H]? := by
    rw [hgrow.block H (by simp; omega) (fun e => by have := h.far H e.symm; omega), Below.heap_alloc _ _ _ (by omega)]
  have o2 : w7.heap[x.G]? = wr.heap[x.G]? := by
    have hG' : x.G < wr.heap.size := hG
    rw [hgrow.block x.G (by simp; omega) (fun e => hxi.2.2 e.symm), Below.heap_alloc _ _ _ hG']
  exact ⟨(World.cell?_of_block o1).trans hc.c0, (World.cell?_of_block o1).trans hc.c1, (World.cell?_of_block o1).trans hc.c2, (World.cell?_of_block o1).trans hc.c3,
    (World.cell?_of_block o2).trans hc.a0, (World.cell?_of_block o2).trans hc.a1, (World.cell?_of_block o2).trans hc.a2, (World.cell?_of_block o2).trans hc.a3,
    (World.cell?_of_block o2).trans hc.b0, (World.cell?_of_block o2).trans hc.b1, (World.cell?_of_block o2).trans hc.b2, (World.cell?_of_block o2).trans hc.b3,
    (World.frozen?_of_block o1).trans hc.z0, (World.frozen?_of_block o1).trans hc.z1, (World.frozen?_of_block o1).trans hc.z2, (World.frozen?_of_block o1).trans hc.z3, hc.addr, hc.sv, hc.fits⟩

set_option maxRecDepth 100000 in
set_option maxHeartbeats 4000000 in
theorem items_is (t : AT) (w : World) (hm : t.mem w) (hn : t.nodes ≤ 700000) (hS : ∀ u ∈ t :: t.parts, u.s.size ≤ 281474976710656) :
    Calls Try.prog 23 #[.agg #[.int .i64 t.k, .int .i64 t.n, .string t.s, t.sv]] w (ItemsPost w (itT t.erase).1 (itT t.erase).2) := by
  obtain ⟨i0, hi, hz0, hz1, hz2⟩ := info_parts (show (Try.prog.info? 27).map (fun i => (i.zero, i.size, i.bytes)) = some (some (.agg #[.int .i64 0, .int .i64 0, .string ⟨#[]⟩, .slice none 0 0]), 4, 56) by kernel_rfl)
  have CP : Calls Try.prog 43 #[.slice (some ⟨w.heap.size + 1 + 1, 0, none⟩) 1 1] (((w.alloc (.cells #[.int .i64 t.k, .int .i64 t.n, .string t.s, t.sv] 27)).alloc (.cells #[.int .i64 0, .int .i64 0, .string ⟨#[]⟩, .slice none 0 0] 27)).alloc (.cells #[.int .i64 t.k, .int .i64 t.n, .string t.s, t.sv] 27)) (CopyPost (((w.alloc (.cells #[.int .i64 t.k, .int .i64 t.n, .string t.s, t.sv] 27)).alloc (.cells #[.int .i64 0, .int .i64 0, .string ⟨#[]⟩, .slice none 0 0] 27)).alloc (.cells #[.int .i64 t.k, .int .i64 t.n, .string t.s, t.sv] 27)) [t]) := by
    obtain ⟨h1, h2, h3⟩ := world3 w (.cells #[.int .i64 t.k, .int .i64 t.n, .string t.s, t.sv] 27) (.cells #[.int .i64 0, .int .i64 0, .string ⟨#[]⟩, .slice none 0 0] 27) (.cells #[.int .i64 t.k, .int .i64 t.n, .string t.s, t.sv] 27)
    refine copies_is [t] _ (w.heap.size + 1 + 1) 0 _ (.inr ⟨1, rfl, Nat.le_refl _, by unfold maxLen; omega⟩) ⟨⟨⟨_, _, h1⟩, cell_of_heap h1 rfl, cell_of_heap h1 rfl, cell_of_heap h1 rfl, cell_of_heap h1 rfl⟩, AT.mem_below h3 (AT.ins_size _ hm) hm, trivial⟩ (by simp [ATs.nodes]; omega) (fun x hx => ?_)
    have : x.t ∈ (argL (w.heap.size + 1 + 1) t).map Nd.t := List.mem_map.2 ⟨x, hx, rfl⟩
    rw [argL_is, List.map_cons, AT.flat_parts] at this
    exact hS _ this
  obtain ⟨tax, tcx, tsv, _⟩ := sv_form (AT.mem_mk.1 hm).1
  obtain ⟨ls, hls⟩ : ∃ ls, (itT t.erase).1 = ls := ⟨_, rfl⟩
  obtain ⟨r, hr⟩ : ∃ r, (itT t.erase).2 = r := ⟨_, rfl⟩
  rw [hls, hr]
  have HL := Lib.hid (And.intro hls hr)
  rw [tsv] at CP ⊢
  have HCP := Lib.hid CP
  have HN := Lib.hid hn
  obtain ⟨N, hN⟩ : ∃ N, t.nodes = N := ⟨_, rfl⟩
  have HNN := Lib.hid hN
  rw [hN] at hn
  clear CP hm hS hls hr tsv hN
  go_enter Try.func23, Try.ntmps23
  go_wp2_with fail
  refine HCP.out.mono ?_
  rintro e w3 hpost
  obtain ⟨c, G, u, rfl, c1, c2, hh, hum, hue, hui, hbl⟩ := copy_one hpost
  obtain ⟨_, g0, g1, g2, g3⟩ := hh
  obtain ⟨ux, uy, usv, _⟩ := sv_form (AT.mem_mk.1 hum).1
  rw [usv] at g3
  have hb0 : w3.heap[w.heap.size]? = some (.cells #[.int .i64 t.k, .int .i64 t.n, .string t.s, .slice tax t.l.length tcx] 27 (0, 0)) := by
    rw [hbl.block _ (by simp; omega), Below.heap_alloc _ _ _ (by simp; omega), Below.heap_alloc _ _ _ (by simp)]
    exact new_at _ _ rfl
  have hb1 : w3.heap[w.heap.size + 1]? = some (.cells #[.int .i64 0, .int .i64 0, .string ⟨#[]⟩, .slice none 0 0] 27 (0, 0)) := by
    rw [hbl.block _ (by simp), Below.heap_alloc _ _ _ (by simp)]
    exact new_at _ _ (by simp)
  have hbw : Below w.heap.size w w3 := below3.trans (hbl.mono (by simp; omega))
  have hin : ItSt w w.heap.size 0 N (.slice none 0 0) ls r [] u (put4 w3 w.heap.size u) := by
    have hins : u.ins (fun j => w.heap.size + 1 + 1 + 1 ≤ j) := AT.ins_mono (fun j hj => by simpa using hj) u hui
    refine ⟨rfl, ⟨rfl, .inl ⟨rfl, rfl⟩⟩, put4_at hb0, by rw [put4_ne (by omega)]; exact hb1, ?_, AT.ins_mono (fun j hj => ⟨by omega, by omega, by simp [Value.ownBlock]⟩) u hins, (fun t ht => by cases ht), (fun k hk => by cases hk), ?_, ?_, ?_, put4_below hbw (Nat.le_refl _), Nat.le_refl _⟩
    · exact AT.mem_same (S := fun j => w.heap.size + 1 + 1 + 1 ≤ j) (fun j hj => put4_ne (by omega)) u hins hum
    · rw [hue]; exact HL.out.1
    · rw [hue]; exact HL.out.2
    · rw [← AT.nodes_erase, hue, AT.nodes_erase, HNN.out]; omega
  have hun : u.nodes ≤ N := by rw [← AT.nodes_erase, hue, AT.nodes_erase, HNN.out]; omega
  unfold put4 at hin
  rw [usv] at hin
  have HIN := Lib.hid hin
  have HUN := Lib.hid hun
  have d0 : w3.cell? ⟨w.heap.size, 0, none⟩ = some (.int .i64 t.k) := cell_of_heap hb0 rfl
  have d1 : w3.cell? ⟨w.heap.size, 1, none⟩ = some (.int .i64 t.n) := cell_of_heap hb0 rfl
  have d2 : w3.cell? ⟨w.heap.size, 2, none⟩ = some (.string t.s) := cell_of_heap hb0 rfl
  have d3 : w3.cell? ⟨w.heap.size, 3, none⟩ = some (.slice tax t.l.length tcx) := cell_of_heap hb0 rfl
  have z0 := free_of_heap (o := 0) hb0
  have z1 := free_of_heap (o := 1) hb0
  have z2 := free_of_heap (o := 2) hb0
  have z3 := free_of_heap (o := 3) hb0
  simp only [Nat.zero_add] at g0 g1 g2 g3
  clear hpost hum hue hui hbl hb0 hb1 hbw hin hun usv HCP
  go_wp2
  clear d0 d1 d2 d3 z0 z1 z2 z3 g0 g1 g2 g3
  go_loopg [4] N (fun m v wr => ∃ (i : Nat) (l : List AT) (x : AT), i ≤ N ∧ Hid (ItSt w w.heap.size i N v ls r l x wr) ∧ Hid (x.nodes ≤ m))
  case atStart => exact ⟨0, [], u, Nat.zero_le _, HIN.out, HUN.out⟩
  case round =>
    obtain ⟨i, l, x, hiN, HS, HM⟩ := hrel
    cases hc : isCons x.k x.s x.l.length
    case true =>
      obtain ⟨a, b, hl⟩ : ∃ a b, x.l = [a, b] := by
        have := isCons_len hc
        match x.l, this with
        | [a, b], _ => exact ⟨a, b, rfl⟩
      rw [hl] at hc
      have hc2 : isCons x.k x.s 2 = true := hc
      have hk : (x.k == 4) = true := by simp [isCons] at hc2; simp [hc2]
      have hs : (x.s.toList == [46]) = true := by simp [isCons] at hc2; simp [hc2]
      obtain ⟨ax, cx, hcell⟩ := it_cells HS.out hl
      have hmem := AT.mem_mk.1 HS.out.mem
      rw [hl] at hmem
      obtain ⟨aax, acx, asv, _⟩ := sv_form (AT.mem_mk.1 hmem.2.2.1).1
      obtain ⟨bax, bcx, bsv, _⟩ := sv_form (AT.mem_mk.1 hmem.2.2.2.2.1).1
      have NEXT := Lib.hid (fun g cap' w7 o hown hgrow hat => it_next (g := g) (cap' := cap') (w7 := w7) (o := o) HS.out hc2 hl hown hgrow hat)
      have CON := Lib.hid (fun w7 o hg => it_cells_on (w7 := w7) (o := o) HS.out hl hcell hg)
      have ONE := Lib.hid (term_one (t := a) (by rw [asv]; rfl))
      have NEWS := Lib.hid (fun W H h => term_news W a H h)
      have HW := (Array.getElem?_eq_some_iff.1 HS.out.res).1
      have hbase : w.heap.size ≤ wr.heap.size := by omega
      have hmb : b.nodes < x.nodes := by
        have e1 := AT.nodes_mk (t := x)
        rw [hl, ATs.nodes, ATs.nodes, ATs.nodes] at e1
        have := nodes_pos a
        omega
      have HMB := Lib.hid hmb
      have HOWN := Lib.hid HS.out.own
      have hNI : i + 1 ≤ N := by have := HS.out.nodes; have := nodes_pos x; omega
      unfold put4 at NEXT
      obtain ⟨c0, c1, c2, c3, a0, a1, a2, a3, b0, b1, b2, b3, z0, z1, z2, z3, rfl, xsv, hf1, hf2⟩ := hcell
      rw [asv] at a3 ONE NEWS NEXT
      rw [bsv] at b3 NEXT
      have BSV := Lib.hid bsv
      clear hc hc2 hl hmem asv bsv hmb xsv
      have tok : True := trivial
      go_wp2_with (at_builtin; refine wpList_append_lies _ rfl (.tmp 24) (.tmp 29) 25 rfl w.heap.size 27 i0 (.agg #[.int .i64 0, .int .i64 0, .string ⟨#[]⟩, .slice none 0 0]) 4 56 Try.underlying25 hi hz0 hz1 hz2 rfl (by decide) _ _ _ rfl (HOWN.out.alloc _) ⟨wr.heap.size, 0, none⟩ 1 1 [.int .i64 a.k, .int .i64 a.n, .string a.s, .slice aax a.l.length acx] rfl rfl (NEWS.out _ _ rfl) ONE.out (by omega) ?_ ?_ ?_ (wr.heap.size + 1) (by simp) ?_)
      · unfold maxLen; omega
      · omega
      · simp; omega
      intro g' cap' w7 hown hgrow hat hlt2
      have HNX := Lib.hid (NEXT.out _ _ _ _ hown hgrow hat)
      obtain ⟨c0, c1, c2, c3, a0, a1, a2, a3, b0, b1, b2, b3, z0, z1, z2, z3, _, _, _, _⟩ := CON.out _ _ hgrow
      rw [BSV.out] at b3
      clear hown hgrow hat hlt2 NEXT CON ONE NEWS HOWN
      go_wp2
      go_roundg b.nodes
      case measure => exact Nat.lt_of_lt_of_le HMB.out HM.out
      case rel => exact ⟨i + 1, _, b, hNI, HNX.out, Nat.le_refl _⟩
    case false =>
      obtain ⟨ad, c', G', hv, g1, g2, g3, g4, g5, g6⟩ := it_done HS.out hc
      subst hv
      have hpost : ItemsPost w ls r (.returned (.tuple #[.slice ad i c', .agg #[.int .i64 x.k, .int .i64 x.n, .string x.s, x.sv]])) (put4 wr (w.heap.size + 1) x) := ⟨ad, i, c', G', l, x, rfl, HS.out.len, g1, g2, g3, g4, g5, g6⟩
      have hb := HS.out.box
      have hr := HS.out.res
      obtain ⟨xax, xcx, xsv, _⟩ := sv_form (AT.mem_mk.1 HS.out.mem).1
      have hw : (x.k == 4) = false ∨ ((x.k == 4) = true ∧ (x.s.toList == [46]) = false) ∨ ((x.k == 4) = true ∧ (x.s.toList == [46]) = true ∧ ((x.l.length : Int) == 2) = false) := by
        unfold isCons at hc
        cases e1 : x.k == 4
        · exact .inl rfl
        · cases e2 : x.s.toList == [46]
          · exact .inr (.inl ⟨rfl, rfl⟩)
          · rw [e1, e2] at hc
            simp at hc
            exact .inr (.inr ⟨rfl, rfl, beq_eq_false_iff_ne.2 (by omega)⟩)
      rw [xsv] at hb hpost
      unfold put4 at hpost
      rw [xsv] at hpost
      have c0 : wr.cell? ⟨w.heap.size, 0, none⟩ = some (.int .i64 x.k) := cell_of_heap hb rfl
      have c1 : wr.cell? ⟨w.heap.size, 1, none⟩ = some (.int .i64 x.n) := cell_of_heap hb rfl
      have c2 : wr.cell? ⟨w.heap.size, 2, none⟩ = some (.string x.s) := cell_of_heap hb rfl
      have c3 : wr.cell? ⟨w.heap.size, 3, none⟩ = some (.slice xax x.l.length xcx) := cell_of_heap hb rfl
      have d0 : wr.cell? ⟨w.heap.size + 1, 0, none⟩ = some (.int .i64 0) := cell_of_heap hr rfl
      have d1 : wr.cell? ⟨w.heap.size + 1, 1, none⟩ = some (.int .i64 0) := cell_of_heap hr rfl
      have d2 : wr.cell? ⟨w.heap.size + 1, 2, none⟩ = some (.string ⟨#[]⟩) := cell_of_heap hr rfl
      have d3 : wr.cell? ⟨w.heap.size + 1, 3, none⟩ = some (.slice none 0 0) := cell_of_heap hr rfl
      have z0 := free_of_heap (o := 0) hr
      have z1 := free_of_heap (o := 1) hr
      have z2 := free_of_heap (o := 2) hr
      have z3 := free_of_heap (o := 3) hr
      have hf := four_cells hr (.int .i64 x.k) (.int .i64 x.n) (.string x.s) (.slice xax x.l.length xcx)
      have HF := Lib.hid hf
      have HP := Lib.hid hpost
      clear hpost hb hr hf g1 g2 g3 g4 g5 g6 hc xsv HS HM HIN HUN HL HN HNN hi hz0 hz1 hz2
      rcases hw with e1 | ⟨e1, e2⟩ | ⟨e1, e2, e3⟩
      all_goals
        go_wp2_with fail
        go_region
      all_goals
        obtain ⟨q0, q1, q2, q3⟩ := HF.out
        go_wp2_with fail
        refine bodyPost_ret (v := .tuple #[.slice ad i c', .agg #[.int .i64 x.k, .int .i64 x.n, .string x.s, .slice xax x.l.length xcx]]) (by simp [results, Try.results23, go_sem, q0, q1, q2, q3]) rfl ?_
        exact HP.out.drew
end Go.Proofs.Ytkidcchafdiofaa

namespace Go.Proofs.Ytkidcchafdiofaa
open Go Go.RowKit

set_option maxHeartbeats 800000 in
theorem cons_is (k n : Int) (s : ByteArray) (ax : Option Addr) (nx cx : Nat) (w : World) :
    Calls Try.prog 44 #[.agg #[.int .i64 k, .int .i64 n, .string s, .slice ax nx cx]] w fun e w' => e = .returned (.bool (isCons k s nx)) ∧ Below w.heap.size w w' := by
  obtain ⟨r, hr⟩ : ∃ r, isCons k s nx = r := ⟨_, rfl⟩
  rw [hr]
  unfold isCons at hr
  cases e1 : k == 4
  · rw [e1] at hr
    obtain rfl : r = false := by simpa using hr.symm
    clear hr
    go_enter Try.func44, Try.ntmps44
    go_wp2
    go_ret
    exact ⟨rfl, (Below.refl _ _).alloc (Nat.le_refl _) _⟩
  cases e2 : s.toList == [46]
  · rw [e1, e2] at hr
    obtain rfl : r = false := by simpa using hr.symm
    clear hr
    go_enter Try.func44, Try.ntmps44
    go_wp2
    go_ret
    exact ⟨rfl, (Below.refl _ _).alloc (Nat.le_refl _) _⟩
  rw [e1, e2, Bool.true_and, Bool.true_and] at hr
  cases r
  · have e3 : ((nx : Int) == 2) = false := by rw [beq_eq_false_iff_ne] at hr ⊢; omega
    clear hr
    go_enter Try.func44, Try.ntmps44
    go_wp2
    go_ret
    exact ⟨rfl, (Below.refl _ _).alloc (Nat.le_refl _) _⟩
  · have e3 : ((nx : Int) == 2) = true := by rw [beq_iff_eq] at hr ⊢; omega
    clear hr
    go_enter Try.func44, Try.ntmps44
    go_wp2
    go_ret
    exact ⟨rfl, (Below.refl _ _).alloc (Nat.le_refl _) _⟩

theorem ItSt.on {w wr w1 : World} {H i N : Nat} {v : Value} {ls : List Tm} {r : Tm} {l : List AT} {x : AT} (h : ItSt w H i N v ls r l x wr) (hb : Below wr.heap.size wr w1) : ItSt w H i N v ls r l x w1 :=
  ⟨h.len, owns_same h.own (fun g hg => hb.block g (h.own.lt g hg).2), (hb.block _ (Array.getElem?_eq_some_iff.1 h.box).1).trans h.box, (hb.block _ (Array.getElem?_eq_some_iff.1 h.res).1).trans h.res, AT.mem_below hb (AT.ins_size _ h.mem) h.mem, h.ins,
    fun t ht => ⟨AT.mem_below hb (AT.ins_size _ (h.all t ht).1) (h.all t ht).1, (h.all t ht).2⟩, h.far, h.items, h.rest, h.nodes, h.below.trans (hb.mono h.below.size), h.low⟩

set_option maxRecDepth 100000 in
set_option maxHeartbeats 4000000 in
theorem itemsR_is (t : AT) (w : World) (hm : t.mem w) (hn : t.nodes ≤ 700000) :
    Calls Try.prog 24 #[.agg #[.int .i64 t.k, .int .i64 t.n, .string t.s, t.sv]] w (ItemsPost w (itT t.erase).1 (itT t.erase).2) := by
  obtain ⟨i0, hi, hz0, hz1, hz2⟩ := info_parts (show (Try.prog.info? 27).map (fun i => (i.zero, i.size, i.bytes)) = some (some (.agg #[.int .i64 0, .int .i64 0, .string ⟨#[]⟩, .slice none 0 0]), 4, 56) by kernel_rfl)
  obtain ⟨tax, tcx, tsv, _⟩ := sv_form (AT.mem_mk.1 hm).1
  obtain ⟨ls, hls⟩ : ∃ ls, (itT t.erase).1 = ls := ⟨_, rfl⟩
  obtain ⟨r, hr⟩ : ∃ r, (itT t.erase).2 = r := ⟨_, rfl⟩
  rw [hls, hr]
  obtain ⟨N, hN⟩ : ∃ N, t.nodes = N := ⟨_, rfl⟩
  rw [hN] at hn
  have hin : ItSt w w.heap.size 0 N (.slice none 0 0) ls r [] t ((w.alloc (.cells #[.int .i64 t.k, .int .i64 t.n, .string t.s, t.sv] 27)).alloc (.cells #[.int .i64 0, .int .i64 0, .string ⟨#[]⟩, .slice none 0 0] 27)) := by
    have hbw : Below w.heap.size w ((w.alloc (.cells #[.int .i64 t.k, .int .i64 t.n, .string t.s, t.sv] 27)).alloc (.cells #[.int .i64 0, .int .i64 0, .string ⟨#[]⟩, .slice none 0 0] 27)) := ((Below.refl _ _).alloc (Nat.le_refl _) _).alloc (by simp) _
    refine ⟨rfl, ⟨rfl, .inl ⟨rfl, rfl⟩⟩, ?_, new_at _ _ (by simp), AT.mem_below hbw (AT.ins_size _ hm) hm, AT.ins_mono (fun j hj => ⟨by omega, by omega, by simp [Value.ownBlock]⟩) t (AT.ins_size _ hm), (fun t ht => by cases ht), (fun k hk => by cases hk), by simpa [ATs.erase] using hls, hr, by omega, hbw, Nat.le_refl _⟩
    rw [Below.heap_alloc _ _ _ (by simp)]
    exact new_at _ _ rfl
  rw [tsv] at hin ⊢
  have HIN := Lib.hid hin
  have HUN : Hid (t.nodes ≤ N) := by show _ ≤ _; omega
  clear hin hls hr tsv hN hm
  go_enter Try.func24, Try.ntmps24
  go_wp2
  go_loopg [4] N (fun m v wr => ∃ (i : Nat) (l : List AT) (x : AT), i ≤ N ∧ Hid (ItSt w w.heap.size i N v ls r l x wr) ∧ Hid (x.nodes ≤ m))
  case atStart => exact ⟨0, [], t, Nat.zero_le _, HIN.out, HUN.out⟩
  case round =>
    obtain ⟨i, l, x, hiN, HS0, HM⟩ := hrel
    obtain ⟨xax, xcx, xsv, _⟩ := sv_form (AT.mem_mk.1 HS0.out.mem).1
    have hbox := HS0.out.box
    rw [xsv] at hbox
    have c0 : wr.cell? ⟨w.heap.size, 0, none⟩ = some (.int .i64 x.k) := cell_of_heap hbox rfl
    have c1 : wr.cell? ⟨w.heap.size, 1, none⟩ = some (.int .i64 x.n) := cell_of_heap hbox rfl
    have c2 : wr.cell? ⟨w.heap.size, 2, none⟩ = some (.string x.s) := cell_of_heap hbox rfl
    have c3 : wr.cell? ⟨w.heap.size, 3, none⟩ = some (.slice xax x.l.length xcx) := cell_of_heap hbox rfl
    have CONS := Lib.hid (cons_is x.k x.n x.s xax x.l.length xcx)
    obtain ⟨rc, hc⟩ : ∃ rc, isCons x.k x.s x.l.length = rc := ⟨_, rfl⟩
    rw [hc] at CONS
    have HC := Lib.hid hc
    clear hbox xsv hc
    go_wp2_with fail
    refine (CONS.out _).mono ?_
    rintro _ w1 ⟨rfl, hb1⟩
    have HS : Hid (ItSt w w.heap.size i N u4 ls r l x w1) := HS0.out.on hb1
    have hc : isCons x.k x.s x.l.length = rc := HC.out
    clear hb1 HS0 c0 c1 c2 c3 CONS HC
    cases rc
    case true =>
      obtain ⟨a, b, hl⟩ : ∃ a b, x.l = [a, b] := by
        have := isCons_len hc
        match x.l, this with
        | [a, b], _ => exact ⟨a, b, rfl⟩
      rw [hl] at hc
      have hc2 : isCons x.k x.s 2 = true := hc
      have hk : (x.k == 4) = true := by simp [isCons] at hc2; simp [hc2]
      have hs : (x.s.toList == [46]) = true := by simp [isCons] at hc2; simp [hc2]
      obtain ⟨ax, cx, hcell⟩ := it_cells HS.out hl
      have hmem := AT.mem_mk.1 HS.out.mem
      rw [hl] at hmem
      obtain ⟨aax, acx, asv, _⟩ := sv_form (AT.mem_mk.1 hmem.2.2.1).1
      obtain ⟨bax, bcx, bsv, _⟩ := sv_form (AT.mem_mk.1 hmem.2.2.2.2.1).1
      have NEXT := Lib.hid (fun g cap' w7 o hown hgrow hat => it_next (g := g) (cap' := cap') (w7 := w7) (o := o) HS.out hc2 hl hown hgrow hat)
      have CON := Lib.hid (fun w7 o hg => it_cells_on (w7 := w7) (o := o) HS.out hl hcell hg)
      have ONE := Lib.hid (term_one (t := a) (by rw [asv]; rfl))
      have NEWS := Lib.hid (fun W H h => term_news W a H h)
      have HW := (Array.getElem?_eq_some_iff.1 HS.out.res).1
      have hbase : w.heap.size ≤ w1.heap.size := by omega
      have hmb : b.nodes < x.nodes := by
        have e1 := AT.nodes_mk (t := x)
        rw [hl, ATs.nodes, ATs.nodes, ATs.nodes] at e1
        have := nodes_pos a
        omega
      have HMB := Lib.hid hmb
      have HOWN := Lib.hid HS.out.own
      have hNI : i + 1 ≤ N := by have := HS.out.nodes; have := nodes_pos x; omega
      unfold put4 at NEXT
      obtain ⟨c0, c1, c2, c3, a0, a1, a2, a3, b0, b1, b2, b3, z0, z1, z2, z3, rfl, xsv, hf1, hf2⟩ := hcell
      rw [asv] at a3 ONE NEWS NEXT
      rw [bsv] at b3 NEXT
      have BSV := Lib.hid bsv
      clear hc hc2 hl hmem asv bsv hmb xsv
      go_wp2_with (at_builtin; refine wpList_append_lies _ rfl (.tmp 7) (.tmp 12) 25 rfl w.heap.size 27 i0 (.agg #[.int .i64 0, .int .i64 0, .string ⟨#[]⟩, .slice none 0 0]) 4 56 Try.underlying25 hi hz0 hz1 hz2 rfl (by decide) _ _ _ rfl (HOWN.out.alloc _) ⟨w1.heap.size, 0, none⟩ 1 1 [.int .i64 a.k, .int .i64 a.n, .string a.s, .slice aax a.l.length acx] rfl rfl (NEWS.out _ _ rfl) ONE.out (by omega) ?_ ?_ ?_ (w1.heap.size + 1) (by simp) ?_)
      · unfold maxLen; omega
      · omega
      · simp; omega
      intro g' cap' w7 hown hgrow hat hlt2
      have HNX := Lib.hid (NEXT.out _ _ _ _ hown hgrow hat)
      obtain ⟨c0, c1, c2, c3, a0, a1, a2, a3, b0, b1, b2, b3, z0, z1, z2, z3, _, _, _, _⟩ := CON.out _ _ hgrow
      rw [BSV.out] at b3
      clear hown hgrow hat hlt2 NEXT CON ONE NEWS HOWN
      go_wp2
      go_roundg b.nodes
      case measure => exact Nat.lt_of_lt_of_le HMB.out HM.out
      case rel => exact ⟨i + 1, _, b, hNI, HNX.out, Nat.le_refl _⟩
    case false =>
      obtain ⟨ad, c', G', hv, g1, g2, g3, g4, g5, g6⟩ := it_done HS.out hc
      subst hv
      have hpost : ItemsPost w ls r (.returned (.tuple #[.slice ad i c', .agg #[.int .i64 x.k, .int .i64 x.n, .string x.s, x.sv]])) (put4 w1 (w.heap.size + 1) x) := ⟨ad, i, c', G', l, x, rfl, HS.out.len, g1, g2, g3, g4, g5, g6⟩
      have hb := HS.out.box
      have hr := HS.out.res
      obtain ⟨xax, xcx, xsv, _⟩ := sv_form (AT.mem_mk.1 HS.out.mem).1
      rw [xsv] at hb hpost
      unfold put4 at hpost
      rw [xsv] at hpost
      have c0 : w1.cell? ⟨w.heap.size, 0, none⟩ = some (.int .i64 x.k) := cell_of_heap hb rfl
      have c1 : w1.cell? ⟨w.heap.size, 1, none⟩ = some (.int .i64 x.n) := cell_of_heap hb rfl
      have c2 : w1.cell? ⟨w.heap.size, 2, none⟩ = some (.string x.s) := cell_of_heap hb rfl
      have c3 : w1.cell? ⟨w.heap.size, 3, none⟩ = some (.slice xax x.l.length xcx) := cell_of_heap hb rfl
      have d0 : w1.cell? ⟨w.heap.size + 1, 0, none⟩ = some (.int .i64 0) := cell_of_heap hr rfl
      have d1 : w1.cell? ⟨w.heap.size + 1, 1, none⟩ = some (.int .i64 0) := cell_of_heap hr rfl
      have d2 : w1.cell? ⟨w.heap.size + 1, 2, none⟩ = some (.string ⟨#[]⟩) := cell_of_heap hr rfl
      have d3 : w1.cell? ⟨w.heap.size + 1, 3, none⟩ = some (.slice none 0 0) := cell_of_heap hr rfl
      have z0 := free_of_heap (o := 0) hr
      have z1 := free_of_heap (o := 1) hr
      have z2 := free_of_heap (o := 2) hr
      have z3 := free_of_heap (o := 3) hr
      have hf := four_cells hr (.int .i64 x.k) (.int .i64 x.n) (.string x.s) (.slice xax x.l.length xcx)
      have HF := Lib.hid hf
      have HP := Lib.hid hpost
      clear hpost hb hr hf g1 g2 g3 g4 g5 g6 hc xsv HS HM HIN HUN hi hz0 hz1 hz2
      go_wp2_with fail
      go_region
      all_goals
        obtain ⟨q0, q1, q2, q3⟩ := HF.out
        go_wp2_with fail
        refine bodyPost_ret (v := .tuple #[.slice ad i c', .agg #[.int .i64 x.k, .int .i64 x.n, .string x.s, .slice xax x.l.length xcx]]) (by simp [results, Try.results24, go_sem, q0, q1, q2, q3]) rfl ?_
        exact HP.out.drew
end Go.Proofs.Ytkidcchafdiofaa
