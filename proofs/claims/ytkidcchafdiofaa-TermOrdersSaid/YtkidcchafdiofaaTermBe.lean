/- The document's Number: a contract. Conditions: memory holds the term; it has at most 700000 parts. -/
import Derived.Test.YtkidcchafdiofaaTermBc
import Derived.Test.YtkidcchafdiofaaTermAz
import Derived.Deep.RegionHeld3
import Derived.Deep.DrawnRows
namespace Go.Proofs.Ytkidcchafdiofaa
open Go Go.RowKit
attribute [local go_sem ↓] Go.wp_at_zero Go.wp_at_succ

set_option maxRecDepth 100000 in
set_option maxHeartbeats 4000000 in
theorem numberR_is (x : AT) (w : World) (hx : x.mem w) (hn : x.nodes ≤ 700000) :
    Calls Try.prog 27 #[.agg #[.int .i64 x.k, .int .i64 x.n, .string x.s, x.sv]] w (MendPost w (Tm.renR x.erase.vsR x.erase)) := by
  obtain ⟨ax, cx, xsv, _⟩ := sv_form (AT.mem_mk.1 hx).1
  obtain ⟨vs, hvs⟩ : ∃ vs, x.erase.vsR = vs := ⟨_, rfl⟩
  have CV := fun w1 (hb : Below w.heap.size w w1) => varsR_is x.nodes x w1 (Nat.le_refl _) (AT.mem_below hb (AT.ins_size _ hx) hx) hn
  have CR := fun (la : Option Addr) (lc lg : Nat) (w1 : World) (h1 : vs.length ≤ lc) (h2 : lc ≤ 9223372036854775807) (h3 : 0 < vs.length → la = some ⟨lg, 0, none⟩) (h4 : LMem w1 lg vs) (hb : Below w.heap.size w w1) => renR_is vs la lc lg h1 h2 h3 x.nodes x w1 h4 (Nat.le_refl _) (AT.mem_below hb (AT.ins_size _ hx) hx) (by omega)
  rw [hvs] at CV ⊢
  obtain ⟨R, hR⟩ : ∃ R, Tm.renR vs x.erase = R := ⟨_, rfl⟩
  rw [hR] at CR ⊢
  rw [xsv] at CV CR ⊢
  have HCV := Lib.hid CV
  have HCR := Lib.hid CR
  have hW : Hid (Below w.heap.size w ((w.alloc (.cells #[.int .i64 x.k, .int .i64 x.n, .string x.s, .slice ax x.l.length cx] 27)).alloc (.cells #[.int .i64 0, .int .i64 0, .string ⟨#[]⟩, .slice none 0 0] 27))) := ((Below.refl _ _).alloc (Nat.le_refl _) _).alloc (by simp) _
  have e0 : ((w.alloc (.cells #[.int .i64 x.k, .int .i64 x.n, .string x.s, .slice ax x.l.length cx] 27)).alloc (.cells #[.int .i64 0, .int .i64 0, .string ⟨#[]⟩, .slice none 0 0] 27)).heap[w.heap.size]? = some (.cells #[.int .i64 x.k, .int .i64 x.n, .string x.s, .slice ax x.l.length cx] 27 (0, 0)) := by
    rw [Below.heap_alloc _ _ _ (by simp)]
    exact new_at _ _ rfl
  have e1 : ((w.alloc (.cells #[.int .i64 x.k, .int .i64 x.n, .string x.s, .slice ax x.l.length cx] 27)).alloc (.cells #[.int .i64 0, .int .i64 0, .string ⟨#[]⟩, .slice none 0 0] 27)).heap[w.heap.size + 1]? = some (.cells #[.int .i64 0, .int .i64 0, .string ⟨#[]⟩, .slice none 0 0] 27 (0, 0)) := new_at _ _ (by simp)
  obtain ⟨W1, hW1⟩ : ∃ W1, ((w.alloc (.cells #[.int .i64 x.k, .int .i64 x.n, .string x.s, .slice ax x.l.length cx] 27)).alloc (.cells #[.int .i64 0, .int .i64 0, .string ⟨#[]⟩, .slice none 0 0] 27)) = W1 := ⟨_, rfl⟩
  rw [hW1] at hW e0 e1
  have HW1 : Hid (((w.alloc (.cells #[.int .i64 x.k, .int .i64 x.n, .string x.s, .slice ax x.l.length cx] 27)).alloc (.cells #[.int .i64 0, .int .i64 0, .string ⟨#[]⟩, .slice none 0 0] 27)) = W1) := hW1
  have hs1 := (Array.getElem?_eq_some_iff.1 e1).1
  have KEEP : Hid (∀ w5, Below (w.heap.size + 1) W1 w5 → w5.cell? ⟨w.heap.size, 0, none⟩ = some (.int .i64 x.k) ∧ w5.cell? ⟨w.heap.size, 1, none⟩ = some (.int .i64 x.n) ∧ w5.cell? ⟨w.heap.size, 2, none⟩ = some (.string x.s) ∧ w5.cell? ⟨w.heap.size, 3, none⟩ = some (.slice ax x.l.length cx)) := fun w5 h => by
    have h0 := (h.block _ (by omega)).trans e0
    exact ⟨cell_of_heap h0 rfl, cell_of_heap h0 rfl, cell_of_heap h0 rfl, cell_of_heap h0 rfl⟩
  have E1 := Lib.hid e1
  clear CV CR hvs hR hW1 e0 e1 xsv hx
  go_enter Try.func27, Try.ntmps27
  go_wp2_with fail
  rw [HW1.out]
  obtain ⟨q0, q1, q2, q3⟩ := KEEP.out W1 (Below.refl _ _)
  go_region_held3 (fun w' => w'.cell? ⟨w.heap.size, 0, none⟩ = some (.int .i64 x.k) ∧ w'.cell? ⟨w.heap.size, 1, none⟩ = some (.int .i64 x.n) ∧ w'.cell? ⟨w.heap.size, 2, none⟩ = some (.string x.s) ∧ w'.cell? ⟨w.heap.size, 3, none⟩ = some (.slice ax x.l.length cx))
    (first | exact KEEP.out _ (Below.refl _ _).drew | exact KEEP.out _ B5.out | exact KEEP.out _ B6.out | exact KEEP.out _ ((((B6.out.setCell (p := ⟨w.heap.size + 1, 0, none⟩) (Nat.le_refl _) _).setCell (p := ⟨w.heap.size + 1, 1, none⟩) (Nat.le_refl _) _).setCell (p := ⟨w.heap.size + 1, 2, none⟩) (Nat.le_refl _) _).setCell (p := ⟨w.heap.size + 1, 3, none⟩) (Nat.le_refl _) _))
    (first
      | (go_at_call 20; refine (HCV.out _ hW.out.drew).mono ?_; rintro _ w5 ⟨uv, rfl, h1, h2, h3⟩; obtain ⟨la, lc, lg, rfl, r1, r2, r3, r4⟩ := row_vals h1; have B5 : Hid (Below (w.heap.size + 1) W1 w5) := ((Below.refl W1.heap.size W1).drew.trans (h2.mono (Nat.le_refl _))).mono (by omega); have R4 := Lib.hid r4; have R3 := Lib.hid r3; have BF5 : Hid (Below W1.heap.size W1 w5) := (Below.refl W1.heap.size W1).drew.trans (h2.mono (Nat.le_refl _)); have BW5 : Hid (Below w.heap.size w w5) := hW.out.drew.trans (h2.mono hW.out.size); clear h1 h2 h3 r3 r4)
      | (go_at_call 46; refine (HCR.out la lc lg _ r1 r2 R3.out R4.out BW5.out).mono ?_; rintro _ w6 ⟨t, rfl, t1, t2, t3, t4⟩; obtain ⟨tax, tcx, tsv, _⟩ := sv_form (AT.mem_mk.1 t2).1; rw [tsv]; have B6 : Hid (Below (w.heap.size + 1) W1 w6) := B5.out.trans (t4.mono (Nat.le_trans (Nat.le_of_lt hs1) B5.out.size)); have h6 := ((BF5.out.trans (t4.mono BF5.out.size)).block _ hs1).trans E1.out; have d0 := cell_of_heap (o := 0) h6 rfl; have d1 := cell_of_heap (o := 1) h6 rfl; have d2 := cell_of_heap (o := 2) h6 rfl; have d3 := cell_of_heap (o := 3) h6 rfl; have z0 := free_of_heap (o := 0) h6; have z1 := free_of_heap (o := 1) h6; have z2 := free_of_heap (o := 2) h6; have z3 := free_of_heap (o := 3) h6; have H6 := Lib.hid h6; have HT := Lib.hid (And.intro t1 (And.intro t2 (And.intro t3 (And.intro t4 tsv)))); clear h6 t1 t2 t3 t4 tsv))
  all_goals
    have hpost : MendPost w R (.returned (.agg #[.int .i64 t.k, .int .i64 t.n, .string t.s, t.sv])) (put4 w6 (w.heap.size + 1) t) := by
      obtain ⟨t1, t2, t3, t4, _⟩ := HT.out
      have h5 := B5.out.size
      refine ⟨t, rfl, t1, put4_mem t2 t3 (fun j hj => by omega), AT.ins_mono (fun j hj => by omega) t t3, put4_below (BW5.out.trans (t4.mono BW5.out.size)) (by omega)⟩
    unfold put4 at hpost
    rw [HT.out.2.2.2.2] at hpost
    have HP := Lib.hid hpost
    obtain ⟨y0, y1, y2, y3⟩ := four_cells H6.out (.int .i64 t.k) (.int .i64 t.n) (.string t.s) (.slice tax t.l.length tcx)
    clear hpost
    go_wp2_with fail
    refine bodyPost_ret (v := .agg #[.int .i64 t.k, .int .i64 t.n, .string t.s, .slice tax t.l.length tcx]) (by simp [results, Try.results27, go_sem, y0, y1, y2, y3]) rfl ?_
    exact HP.out
end Go.Proofs.Ytkidcchafdiofaa
