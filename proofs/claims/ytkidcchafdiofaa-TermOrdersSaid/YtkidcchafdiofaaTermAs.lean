/- The document's Rename: a contract. Conditions: memory holds the term and the row of numbers. -/
import Derived.Test.YtkidcchafdiofaaTermAr
namespace Go.Proofs.Ytkidcchafdiofaa
open Go Go.RowKit
attribute [local go_sem ↓] Go.wp_at_zero Go.wp_at_succ

set_option maxRecDepth 100000 in
set_option maxHeartbeats 4000000 in
theorem ren_node (vs : List Int) (la : Option Addr) (lm lc lg : Nat) (m : Nat) (ih : ∀ (x : AT) (w : World), LMem w lg vs → x.nodes ≤ m → x.mem w → x.nodes ≤ 800000 → Calls Try.prog 46 #[.agg #[.int .i64 x.k, .int .i64 x.n, .string x.s, x.sv], .slice la lm lc] w (MendPost w (Tm.renR vs x.erase)))
    (x : AT) (w : World) (hn : x.nodes ≤ m + 1) (hx : x.mem w) (hnx : x.nodes ≤ 800000) (hv : LMem w lg vs) (hk : x.k ≠ 1) :
    Calls Try.prog 46 #[.agg #[.int .i64 x.k, .int .i64 x.n, .string x.s, x.sv], .slice la lm lc] w (MendPost w (Tm.renR vs x.erase)) := by
  obtain ⟨hxs, hxm⟩ := AT.mem_mk.1 hx
  obtain ⟨ad, cx, ex, lx, mx, ax⟩ := sv_form hxs
  have hlx := len_nodes x.l
  have hnx2 := hnx
  rw [AT.nodes_mk] at hnx2
  obtain ⟨i0, hi, hz0, hz1, hz2⟩ := info_parts (show (Try.prog.info? 27).map (fun i => (i.zero, i.size, i.bytes)) = some (some (.agg #[.int .i64 0, .int .i64 0, .string ⟨#[]⟩, .slice none 0 0]), 4, 56) by kernel_rfl)
  obtain ⟨R, hR⟩ : ∃ R, Tm.renR vs x.erase = R := ⟨_, rfl⟩
  have hRR : R = .mk x.k x.n x.s (Tms.renR vs (ATs.erase x.l)) := by
    rw [← hR, AT.erase_mk, Tm.renR, if_neg hk]
  rw [hR, ex]
  obtain ⟨s, hss⟩ : ∃ s, x.s = s := ⟨_, rfl⟩
  obtain ⟨n, hxn⟩ : ∃ s, x.n = s := ⟨_, rfl⟩
  obtain ⟨k, hkk⟩ : ∃ s, x.k = s := ⟨_, rfl⟩
  obtain ⟨nx, hnn⟩ : ∃ s, x.l.length = s := ⟨_, rfl⟩
  rw [hss, hxn, hkk] at hRR
  rw [hkk] at hk
  rw [hnn] at lx hlx ax
  have hl1 : nx ≤ 800000 := by omega
  rw [hss, hxn, hnn, hkk]
  have HX := Lib.hid hxm
  have HI := Lib.hid ih
  have HN := Lib.hid hn
  have HNX := Lib.hid hnx
  have HR := Lib.hid hRR
  have HL := Lib.hid hnn
  unfold maxLen at mx
  have hn0 : (k == 1) = false := by rw [beq_eq_false_iff_ne]; exact hk
  have HAX := Lib.hid ax
  have HLV := Lib.hid hv
  clear hR hRR hxm ih hn hnx hx hxs hlx hnx2 hk hkk hss hxn hnn ex ax hv
  go_enter Try.func46, Try.ntmps46
  go_wp2
  go_loopw [26] (fun vi wr => ∃ i : Nat, vi = .int .i64 i ∧ i ≤ nx ∧ Hid (RenSt vs k n w s x i wr)) (fun vi _ => nx - (intOf vi).toNat)
  case atStart =>
    refine ⟨0, rfl, Nat.zero_le _, [], .slice none 0 0, rfl, rfl, ⟨rfl, .inl ⟨rfl, rfl⟩⟩, ?_, ?_, fun t ht => (by cases ht), fun k hk => (by cases hk), below3⟩
    · exact new_at _ _ (by simp)
    · rw [Below.heap_alloc _ _ _ (by simp)]
      exact new_at _ _ (by simp)
  case round =>
    obtain ⟨i, rfl, hi8, HSt⟩ := hrel
    obtain ⟨l, v, a1, a2, a4, a5, a7, a8, a9, a10⟩ := HSt.out
    have t0 : wr.cell? ⟨w.heap.size + 1 + 1, 0, none⟩ = some (.int .i64 k) := cell_of_heap a5 rfl
    have t1 : wr.cell? ⟨w.heap.size + 1 + 1, 1, none⟩ = some (.int .i64 n) := cell_of_heap a5 rfl
    have t2 : wr.cell? ⟨w.heap.size + 1 + 1, 2, none⟩ = some (.string s) := cell_of_heap a5 rfl
    have t3 : wr.cell? ⟨w.heap.size + 1 + 1, 3, none⟩ = some v := cell_of_heap a5 rfl
    have r0 : wr.cell? ⟨w.heap.size + 1, 0, none⟩ = some (.int .i64 0) := cell_of_heap a7 rfl
    have r1 : wr.cell? ⟨w.heap.size + 1, 1, none⟩ = some (.int .i64 0) := cell_of_heap a7 rfl
    have r2 : wr.cell? ⟨w.heap.size + 1, 2, none⟩ = some (.string ⟨#[]⟩) := cell_of_heap a7 rfl
    have r3 : wr.cell? ⟨w.heap.size + 1, 3, none⟩ = some (.slice none 0 0) := cell_of_heap a7 rfl
    have z0 := free_of_heap (o := 0) a7
    have z1 := free_of_heap (o := 1) a7
    have z2 := free_of_heap (o := 2) a7
    have z3 := free_of_heap (o := 3) a7
    by_cases hlt : i < nx
    · obtain ⟨tx, htx⟩ : ∃ t, x.l[i]? = some t := ⟨x.l[i]'(by rw [HL.out]; exact hlt), List.getElem?_eq_getElem _⟩
      obtain rfl : ad = some ⟨x.G, x.off, none⟩ := HAX.out (by omega)
      obtain ⟨⟨_, e0, e1, e2, e3⟩, em⟩ := mem_get HX.out htx
      replace e0 := (a10.cell (World.block_lt_of_cell? _ _ e0)).trans e0
      replace e1 := (a10.cell (World.block_lt_of_cell? _ _ e1)).trans e1
      replace e2 := (a10.cell (World.block_lt_of_cell? _ _ e2)).trans e2
      replace e3 := (a10.cell (World.block_lt_of_cell? _ _ e3)).trans e3
      obtain ⟨tad, tcap, tsv, _, _, _⟩ := sv_form (AT.mem_mk.1 em).1
      have hntx := nodes_mem (List.mem_of_getElem? htx)
      have hN := HN.out
      have hNX := HNX.out
      rw [AT.nodes_mk] at hN hNX
      have emr : tx.mem wr := AT.mem_below a10 (AT.ins_size _ em) em
      have hc := ren_rec (la := la) (lm := lm) (lc := lc) (HI.out tx) (by omega) (by omega) emr (HLV.out.below a10) a5 a4 (fun t ht => a8 t ht) a9 (.cells #[.int .i64 tx.k, .int .i64 tx.n, .string tx.s, tx.sv] 27)
      rw [tsv] at e3 hc
      have C := Lib.hid hc
      have HTX := Lib.hid htx
      have HST := Lib.hid (And.intro a1 (And.intro a2 (And.intro a4 (And.intro a5 (And.intro a7 (And.intro a8 (And.intro a9 a10)))))))
      have i1 : (0 : Int) ≤ (i : Int) := by omega
      have i2 : (i : Int) < (nx : Int) := by omega
      have hwl := (Array.getElem?_eq_some_iff.1 a5).1
      have hxl : x.G < wr.heap.size := World.block_lt_of_cell? _ _ e0
      have f3 := free_of_heap (o := 3) a5
      clear hc htx a1 a2 a4 a5 a7 a8 a9 a10 em emr hntx hN hNX tsv HSt r0 r1 r2 r3 z0 z1 z2 z3 t0 t1 t2
      have h1m : i + 1 ≤ 800001 := by omega
      have hbase : w.heap.size ≤ wr.heap.size := by omega
      go_wp2_with fail
      go_region_law (first | (refine step_append_lies _ (by rfl) (.tmp 31) (.tmp 35) 25 (by rfl) w.heap.size 27 i0 (.agg #[.int .i64 0, .int .i64 0, .string ⟨#[]⟩, .slice none 0 0]) 4 56 Try.underlying25 hi hz0 hz1 hz2 (by rfl) (by decide) v i (headCells l) (by rfl) (HOWN.out.alloc _) ⟨w5.heap.size, 0, none⟩ 1 1 [.int .i64 t.k, .int .i64 t.n, .string t.s, .slice vx vy vz] (by rfl) (by rfl) (NEWS.out _ _ (by simp)) ONE.out (by omega) (by unfold maxLen; omega) (by omega) (by simp; omega) (w5.heap.size + 1) (by simp) ?_; intro g' cap' w7 hown hgrow hat hlt2; have t7 : w7.cell? ⟨w.heap.size + 1 + 1, 3, none⟩ = some v := T7.out _ _ hgrow; have f7 : w7.frozen? ⟨w.heap.size + 1 + 1, 3, none⟩ = false := F7.out _ _ hgrow) | (go_simp; go_at_call 46; refine (C.out _ (by first | exact Below.refl _ _ | exact (Below.refl _ _).drew)).mono ?_; rintro _ w5 ⟨t, vx, vy, vz, rfl, HSV, t5, f5, lw5, HOWN, HT⟩; have NEWS := news_hid t HSV; have ONE := one_hid t HSV; have T7 := t7_hid HST.out.2.2.2.2.2.2.1 t5 lw5; have F7 := f7_hid HST.out.2.2.2.2.2.2.1 f5 lw5))
      all_goals
        rw [← HSV.out] at hown
        have NEXT := Lib.hid (ren_next HST.out HTX.out HT.out hown hgrow hat)
        clear hown hgrow hat hlt2
        go_wp2
        go_roundw
        case rel => exact ⟨i + 1, by go_num, by omega, NEXT.out⟩
        case measure => simp [intOf]; omega
    · obtain ⟨G, g1, g2, g3⟩ := row_mem a4 a1 (fun t ht => (a8 t ht).1)
      have hia : i = nx := by omega
      have HE : Hid ((AT.mk k n s v G 0 l).erase = R ∧ (AT.mk k n s v G 0 l).mem wr ∧ (AT.mk k n s v G 0 l).ins (fun j => w.heap.size + 1 < j)) := by
        refine ⟨?_, ⟨g1, g2⟩, fun h => by have := a9 G (g3 h); omega, ins_all fun t ht => AT.ins_mono (fun j hj => by omega) t (a8 t ht).2⟩
        rw [HR.out, AT.erase, a2, List.take_of_length_le (by rw [erase_len, HL.out]; omega)]
      have HB := Lib.hid a10
      have HA7 := Lib.hid a7
      have hov : ∃ x y z, v = .slice x y z := by
        rcases g1 with ⟨h, _⟩ | ⟨c, h, _⟩ <;> exact ⟨_, _, _, h⟩
      obtain ⟨vx, vy, vz, rfl⟩ := hov
      clear a1 a2 a4 a5 a7 a8 a9 a10 g1 g2 g3 HSt hia
      go_wp2
      obtain ⟨q0, q1, q2, q3⟩ := four_cells HA7.out (.int .i64 k) (.int .i64 n) (.string s) (.slice vx vy vz)
      refine bodyPost_ret (v := .agg #[.int .i64 k, .int .i64 n, .string s, .slice vx vy vz]) (by simp [results, Try.results46, go_sem, q0, q1, q2, q3]) rfl ?_
      have hw1 : w.heap.size ≤ w.heap.size + 1 := by omega
      refine ⟨AT.mk k n s (.slice vx vy vz) G 0 l, rfl, HE.out.1, AT.mem_same (S := fun j => w.heap.size + 1 < j) (fun j hj => ?_) _ HE.out.2.2 HE.out.2.1, AT.ins_mono (fun j hj => by omega) _ HE.out.2.2, ((((HB.out.setCell hw1 _).setCell hw1 _).setCell hw1 _).setCell hw1 _)⟩
      rw [heap_set_ne (by omega), heap_set_ne (by omega), heap_set_ne (by omega), heap_set_ne (by omega)]


end Go.Proofs.Ytkidcchafdiofaa
