/- The document's Cons and Items: contracts. Conditions: memory holds the term; it has at most 700000 parts. -/
import Derived.Test.YtkidcchafdiofaaTermAx
namespace Go.Proofs.Ytkidcchafdiofaa
open Go Go.RowKit

set_option maxHeartbeats 800000 in
theorem cons_is (k n : Int) (s : ByteArray) (ax : Option Addr) (nx cx : Nat) (w : World) :
    Calls Try.prog 44 #[.agg #[.int .i64 k, .int .i64 n, .string s, .slice ax nx cx]] w fun e w' => e = .returned (.bool (isCons k s nx)) ∧ Below w.heap.size w w' := by
  obtain ⟨r, hr⟩ : ∃ r, isCons k s nx = r := ⟨_, rfl⟩
  rw [hr]
  unfold isCons at hr
  cases e1 : k == 4
  · rw [e1] at hr
    obtain rfl : r = false := by simpa using hr.symm
    clear hr
    go_enter Try.func44, Try.ntmps44
    go_wp2
    go_ret
    exact ⟨rfl, (Below.refl _ _).alloc (Nat.le_refl _) _⟩
  cases e2 : s.toList == [46]
  · rw [e1, e2] at hr
    obtain rfl : r = false := by simpa using hr.symm
    clear hr
    go_enter Try.func44, Try.ntmps44
    go_wp2
    go_ret
    exact ⟨rfl, (Below.refl _ _).alloc (Nat.le_refl _) _⟩
  rw [e1, e2, Bool.true_and, Bool.true_and] at hr
  cases r
  · have e3 : ((nx : Int) == 2) = false := by rw [beq_eq_false_iff_ne] at hr ⊢; omega
    clear hr
    go_enter Try.func44, Try.ntmps44
    go_wp2
    go_ret
    exact ⟨rfl, (Below.refl _ _).alloc (Nat.le_refl _) _⟩
  · have e3 : ((nx : Int) == 2) = true := by rw [beq_iff_eq] at hr ⊢; omega
    clear hr
    go_enter Try.func44, Try.ntmps44
    go_wp2
    go_ret
    exact ⟨rfl, (Below.refl _ _).alloc (Nat.le_refl _) _⟩

theorem ItSt.on {w wr w1 : World} {H i N : Nat} {v : Value} {ls : List Tm} {r : Tm} {l : List AT} {x : AT} (h : ItSt w H i N v ls r l x wr) (hb : Below wr.heap.size wr w1) : ItSt w H i N v ls r l x w1 :=
  ⟨h.len, owns_same h.own (fun g hg => hb.block g (h.own.lt g hg).2), (hb.block _ (Array.getElem?_eq_some_iff.1 h.box).1).trans h.box, (hb.block _ (Array.getElem?_eq_some_iff.1 h.res).1).trans h.res, AT.mem_below hb (AT.ins_size _ h.mem) h.mem, h.ins,
    fun t ht => ⟨AT.mem_below hb (AT.ins_size _ (h.all t ht).1) (h.all t ht).1, (h.all t ht).2⟩, h.far, h.items, h.rest, h.nodes, h.below.trans (hb.mono h.below.size), h.low⟩

set_option maxRecDepth 100000 in
set_option maxHeartbeats 4000000 in
theorem itemsR_is (t : AT) (w : World) (hm : t.mem w) (hn : t.nodes ≤ 700000) :
    Calls Try.prog 24 #[.agg #[.int .i64 t.k, .int .i64 t.n, .string t.s, t.sv]] w (ItemsPost w (itT t.erase).1 (itT t.erase).2) := by
  obtain ⟨i0, hi, hz0, hz1, hz2⟩ := info_parts (show (Try.prog.info? 27).map (fun i => (i.zero, i.size, i.bytes)) = some (some (.agg #[.int .i64 0, .int .i64 0, .string ⟨#[]⟩, .slice none 0 0]), 4, 56) by kernel_rfl)
  obtain ⟨tax, tcx, tsv, _⟩ := sv_form (AT.mem_mk.1 hm).1
  obtain ⟨ls, hls⟩ : ∃ ls, (itT t.erase).1 = ls := ⟨_, rfl⟩
  obtain ⟨r, hr⟩ : ∃ r, (itT t.erase).2 = r := ⟨_, rfl⟩
  rw [hls, hr]
  obtain ⟨N, hN⟩ : ∃ N, t.nodes = N := ⟨_, rfl⟩
  rw [hN] at hn
  have hin : ItSt w w.heap.size 0 N (.slice none 0 0) ls r [] t ((w.alloc (.cells #[.int .i64 t.k, .int .i64 t.n, .string t.s, t.sv] 27)).alloc (.cells #[.int .i64 0, .int .i64 0, .string ⟨#[]⟩, .slice none 0 0] 27)) := by
    have hbw : Below w.heap.size w ((w.alloc (.cells #[.int .i64 t.k, .int .i64 t.n, .string t.s, t.sv] 27)).alloc (.cells #[.int .i64 0, .int .i64 0, .string ⟨#[]⟩, .slice none 0 0] 27)) := ((Below.refl _ _).alloc (Nat.le_refl _) _).alloc (by simp) _
    refine ⟨rfl, ⟨rfl, .inl ⟨rfl, rfl⟩⟩, ?_, new_at _ _ (by simp), AT.mem_below hbw (AT.ins_size _ hm) hm, AT.ins_mono (fun j hj => ⟨by omega, by omega, by simp [Value.ownBlock]⟩) t (AT.ins_size _ hm), (fun t ht => by cases ht), (fun k hk => by cases hk), by simpa [ATs.erase] using hls, hr, by omega, hbw, Nat.le_refl _⟩
    rw [Below.heap_alloc _ _ _ (by simp)]
    exact new_at _ _ rfl
  rw [tsv] at hin ⊢
  have HIN := Lib.hid hin
  have HUN : Hid (t.nodes ≤ N) := by show _ ≤ _; omega
  clear hin hls hr tsv hN hm
  go_enter Try.func24, Try.ntmps24
  go_wp2
  go_loopg [4] N (fun m v wr => ∃ (i : Nat) (l : List AT) (x : AT), i ≤ N ∧ Hid (ItSt w w.heap.size i N v ls r l x wr) ∧ Hid (x.nodes ≤ m))
  case atStart => exact ⟨0, [], t, Nat.zero_le _, HIN.out, HUN.out⟩
  case round =>
    obtain ⟨i, l, x, hiN, HS0, HM⟩ := hrel
    obtain ⟨xax, xcx, xsv, _⟩ := sv_form (AT.mem_mk.1 HS0.out.mem).1
    have hbox := HS0.out.box
    rw [xsv] at hbox
    have c0 : wr.cell? ⟨w.heap.size, 0, none⟩ = some (.int .i64 x.k) := cell_of_heap hbox rfl
    have c1 : wr.cell? ⟨w.heap.size, 1, none⟩ = some (.int .i64 x.n) := cell_of_heap hbox rfl
    have c2 : wr.cell? ⟨w.heap.size, 2, none⟩ = some (.string x.s) := cell_of_heap hbox rfl
    have c3 : wr.cell? ⟨w.heap.size, 3, none⟩ = some (.slice xax x.l.length xcx) := cell_of_heap hbox rfl
    have CONS := Lib.hid (cons_is x.k x.n x.s xax x.l.length xcx)
    obtain ⟨rc, hc⟩ : ∃ rc, isCons x.k x.s x.l.length = rc := ⟨_, rfl⟩
    rw [hc] at CONS
    have HC := Lib.hid hc
    clear hbox xsv hc
    go_wp2_with fail
    refine (CONS.out _).mono ?_
    rintro _ w1 ⟨rfl, hb1⟩
    have HS : Hid (ItSt w w.heap.size i N u4 ls r l x w1) := HS0.out.on hb1
    have hc : isCons x.k x.s x.l.length = rc := HC.out
    clear hb1 HS0 c0 c1 c2 c3 CONS HC
    cases rc
    case true =>
      obtain ⟨a, b, hl⟩ : ∃ a b, x.l = [a, b] := by
        have := isCons_len hc
        match x.l, this with
        | [a, b], _ => exact ⟨a, b, rfl⟩
      rw [hl] at hc
      have hc2 : isCons x.k x.s 2 = true := hc
      have hk : (x.k == 4) = true := by simp [isCons] at hc2; simp [hc2]
      have hs : (x.s.toList == [46]) = true := by simp [isCons] at hc2; simp [hc2]
      obtain ⟨ax, cx, hcell⟩ := it_cells HS.out hl
      have hmem := AT.mem_mk.1 HS.out.mem
      rw [hl] at hmem
      obtain ⟨aax, acx, asv, _⟩ := sv_form (AT.mem_mk.1 hmem.2.2.1).1
      obtain ⟨bax, bcx, bsv, _⟩ := sv_form (AT.mem_mk.1 hmem.2.2.2.2.1).1
      have NEXT := Lib.hid (fun g cap' w7 o hown hgrow hat => it_next (g := g) (cap' := cap') (w7 := w7) (o := o) HS.out hc2 hl hown hgrow hat)
      have CON := Lib.hid (fun w7 o hg => it_cells_on (w7 := w7) (o := o) HS.out hl hcell hg)
      have ONE := Lib.hid (term_one (t := a) (by rw [asv]; rfl))
      have NEWS := Lib.hid (fun W H h => term_news W a H h)
      have HW := (Array.getElem?_eq_some_iff.1 HS.out.res).1
      have hbase : w.heap.size ≤ w1.heap.size := by omega
      have hmb : b.nodes < x.nodes := by
        have e1 := AT.nodes_mk (t := x)
        rw [hl, ATs.nodes, ATs.nodes, ATs.nodes] at e1
        have := nodes_pos a
        omega
      have HMB := Lib.hid hmb
      have HOWN := Lib.hid HS.out.own
      have hNI : i + 1 ≤ N := by have := HS.out.nodes; have := nodes_pos x; omega
      unfold put4 at NEXT
      obtain ⟨c0, c1, c2, c3, a0, a1, a2, a3, b0, b1, b2, b3, z0, z1, z2, z3, rfl, xsv, hf1, hf2⟩ := hcell
      rw [asv] at a3 ONE NEWS NEXT
      rw [bsv] at b3 NEXT
      have BSV := Lib.hid bsv
      clear hc hc2 hl hmem asv bsv hmb xsv
      go_wp2_with (at_builtin; refine wpList_append_lies _ rfl (.tmp 7) (.tmp 12) 25 rfl w.heap.size 27 i0 (.agg #[.int .i64 0, .int .i64 0, .string ⟨#[]⟩, .slice none 0 0]) 4 56 Try.underlying25 hi hz0 hz1 hz2 rfl (by decide) _ _ _ rfl (HOWN.out.alloc _) ⟨w1.heap.size, 0, none⟩ 1 1 [.int .i64 a.k, .int .i64 a.n, .string a.s, .slice aax a.l.length acx] rfl rfl (NEWS.out _ _ rfl) ONE.out (by omega) ?_ ?_ ?_ (w1.heap.size + 1) (by simp) ?_)
      · unfold maxLen; omega
      · omega
      · simp; omega
      intro g' cap' w7 hown hgrow hat hlt2
      have HNX := Lib.hid (NEXT.out _ _ _ _ hown hgrow hat)
      obtain ⟨c0, c1, c2, c3, a0, a1, a2, a3, b0, b1, b2, b3, z0, z1, z2, z3, _, _, _, _⟩ := CON.out _ _ hgrow
      rw [BSV.out] at b3
      clear hown hgrow hat hlt2 NEXT CON ONE NEWS HOWN
      go_wp2
      go_roundg b.nodes
      case measure => exact Nat.lt_of_lt_of_le HMB.out HM.out
      case rel => exact ⟨i + 1, _, b, hNI, HNX.out, Nat.le_refl _⟩
    case false =>
      obtain ⟨ad, c', G', hv, g1, g2, g3, g4, g5, g6⟩ := it_done HS.out hc
      subst hv
      have hpost : ItemsPost w ls r (.returned (.tuple #[.slice ad i c', .agg #[.int .i64 x.k, .int .i64 x.n, .string x.s, x.sv]])) (put4 w1 (w.heap.size + 1) x) := ⟨ad, i, c', G', l, x, rfl, HS.out.len, g1, g2, g3, g4, g5, g6⟩
      have hb := HS.out.box
      have hr := HS.out.res
      obtain ⟨xax, xcx, xsv, _⟩ := sv_form (AT.mem_mk.1 HS.out.mem).1
      rw [xsv] at hb hpost
      unfold put4 at hpost
      rw [xsv] at hpost
      have c0 : w1.cell? ⟨w.heap.size, 0, none⟩ = some (.int .i64 x.k) := cell_of_heap hb rfl
      have c1 : w1.cell? ⟨w.heap.size, 1, none⟩ = some (.int .i64 x.n) := cell_of_heap hb rfl
      have c2 : w1.cell? ⟨w.heap.size, 2, none⟩ = some (.string x.s) := cell_of_heap hb rfl
      have c3 : w1.cell? ⟨w.heap.size, 3, none⟩ = some (.slice xax x.l.length xcx) := cell_of_heap hb rfl
      have d0 : w1.cell? ⟨w.heap.size + 1, 0, none⟩ = some (.int .i64 0) := cell_of_heap hr rfl
      have d1 : w1.cell? ⟨w.heap.size + 1, 1, none⟩ = some (.int .i64 0) := cell_of_heap hr rfl
      have d2 : w1.cell? ⟨w.heap.size + 1, 2, none⟩ = some (.string ⟨#[]⟩) := cell_of_heap hr rfl
      have d3 : w1.cell? ⟨w.heap.size + 1, 3, none⟩ = some (.slice none 0 0) := cell_of_heap hr rfl
      have z0 := free_of_heap (o := 0) hr
      have z1 := free_of_heap (o := 1) hr
      have z2 := free_of_heap (o := 2) hr
      have z3 := free_of_heap (o := 3) hr
      have hf := four_cells hr (.int .i64 x.k) (.int .i64 x.n) (.string x.s) (.slice xax x.l.length xcx)
      have HF := Lib.hid hf
      have HP := Lib.hid hpost
      clear hpost hb hr hf g1 g2 g3 g4 g5 g6 hc xsv HS HM HIN HUN hi hz0 hz1 hz2
      go_wp2_with fail
      go_region
      all_goals
        obtain ⟨q0, q1, q2, q3⟩ := HF.out
        go_wp2_with fail
        refine bodyPost_ret (v := .tuple #[.slice ad i c', .agg #[.int .i64 x.k, .int .i64 x.n, .string x.s, .slice xax x.l.length xcx]]) (by simp [results, Try.results24, go_sem, q0, q1, q2, q3]) rfl ?_
        exact HP.out.drew
end Go.Proofs.Ytkidcchafdiofaa
