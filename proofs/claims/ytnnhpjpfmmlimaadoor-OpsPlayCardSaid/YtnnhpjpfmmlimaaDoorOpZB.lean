/- The document's table of operators: New. Conditions: none. -/
import Derived.Test.YtnnhpjpfmmlimaaDoorOpZA
namespace Go.Proofs.YtnnhpjpfmmlimaaDoor
open Go Go.RowKit Go.Maps
open Go.WideMaps Go.WideElems

def allocs (w : World) (os : List Obj) : World := os.foldl World.alloc w
theorem allocs_heap : ∀ (os : List Obj) (w : World), (allocs w os).heap = w.heap ++ os.toArray
  | [], w => by simp [allocs]
  | o :: os, w => by
    have := allocs_heap os (w.alloc o)
    unfold allocs at this ⊢
    rw [List.foldl_cons, this]
    show w.heap.push o ++ os.toArray = _
    simp
theorem allocs_at (os : List Obj) (w : World) (k : Nat) : (allocs w os).heap[w.heap.size + k]? = os[k]? := by
  rw [allocs_heap, Array.getElem?_append_right (by omega)]
  simp
theorem allocs_below (os : List Obj) : ∀ w : World, Below w.heap.size w (allocs w os) := by
  induction os with
  | nil => exact fun w => Below.refl _ _
  | cons o os ih =>
    intro w
    have h := ih (w.alloc o)
    have k : Below w.heap.size w (w.alloc o) := (Below.refl _ _).alloc (Nat.le_refl _) _
    exact bt k h
def strsO (ns : List (List UInt8)) : Obj := .cells (ns.map fun l => Value.string ⟨l.toArray⟩).toArray 9
def slcsO (b : Nat) : Obj := .cells #[.slice (some ⟨b + 1, 0, none⟩) 2 2, .slice (some ⟨b + 2, 0, none⟩) 2 2, .slice (some ⟨b + 3, 0, none⟩) 1 1, .slice (some ⟨b + 4, 0, none⟩) 1 1, .slice (some ⟨b + 5, 0, none⟩) 1 1, .slice (some ⟨b + 6, 0, none⟩) 1 1, .slice (some ⟨b + 7, 0, none⟩) 1 1, .slice (some ⟨b + 8, 0, none⟩) 16 16, .slice (some ⟨b + 9, 0, none⟩) 5 5, .slice (some ⟨b + 10, 0, none⟩) 8 8, .slice (some ⟨b + 11, 0, none⟩) 1 1, .slice (some ⟨b + 12, 0, none⟩) 1 1, .slice (some ⟨b + 13, 0, none⟩) 3 3] 60
def prisO : Obj := .cells #[.int .i64 1200, .int .i64 1200, .int .i64 1150, .int .i64 1100, .int .i64 1050, .int .i64 1000, .int .i64 900, .int .i64 700, .int .i64 500, .int .i64 400, .int .i64 200, .int .i64 200, .int .i64 200] 66
def typsO : Obj := .cells #[.int .i64 1, .int .i64 4, .int .i64 4, .int .i64 2, .int .i64 2, .int .i64 2, .int .i64 5, .int .i64 1, .int .i64 3, .int .i64 3, .int .i64 1, .int .i64 2, .int .i64 5] 66
def newO (b : Nat) : List Obj := .cells #[.slice none 0 0] 64 :: (firstN.map (fun r => strsO r.2.2) ++ [slcsO b, prisO, typsO])
theorem slcs_at : ∀ i, i < 13 → ∀ b : Nat, ∃ l : Nat, (firstN[i]?).map (fun r => r.2.2.length) = some l ∧ slcsO b = .cells ((List.range 13).map fun i => .slice (some ⟨b + 1 + i, 0, none⟩) ((firstN[i]?.map fun r => r.2.2.length).getD 0) ((firstN[i]?.map fun r => r.2.2.length).getD 0)).toArray 60 := by
  intro i hi b
  obtain ⟨r, hr⟩ : ∃ r, firstN[i]? = some r := ⟨_, List.getElem?_eq_getElem (by exact hi)⟩
  exact ⟨_, by rw [hr]; rfl, rfl⟩

/-- New's loop on the way -/
structure NewR (w wr : World) (L : List Df) : Prop where
  low : Below w.heap.size w wr
  tab : ∃ v, wr.heap[w.heap.size]? = some (.cells #[v] 64 (0, 0)) ∧ wr.ownsRow (w.heap.size + 17) 29 3 v L.length (cellsD L)
  rows : ∀ k, 1 ≤ k → k ≤ 16 → wr.heap[w.heap.size + k]? = (newO w.heap.size)[k]?
  size : w.heap.size + 17 ≤ wr.heap.size
theorem newr_start (w : World) : NewR w (allocs w (newO w.heap.size)) [] := by
  refine ⟨allocs_below _ _, ⟨.slice none 0 0, ?_, World.ownsRow_nil _ _ _ _⟩, fun k _ _ => allocs_at _ _ _, ?_⟩
  · exact allocs_at (newO w.heap.size) w 0
  · rw [allocs_heap]
    simp [newO, firstN]

theorem newr_facts {w wr : World} {L : List Df} (h : NewR w wr L) {k : Nat} (hk : k < 13) {r : Int × Int × List (List UInt8)} (hr : firstN[k]? = some r) :
    wr.cell? ⟨w.heap.size + 14, k, none⟩ = some (.slice (some ⟨w.heap.size + 1 + k, 0, none⟩) r.2.2.length r.2.2.length) ∧ wr.heap[w.heap.size + 1 + k]? = some (strsO r.2.2) ∧
      wr.cell? ⟨w.heap.size + 15, k, none⟩ = some (.int .i64 r.1) ∧ wr.cell? ⟨w.heap.size + 16, k, none⟩ = some (.int .i64 r.2.1) := by
  have h14 : wr.heap[w.heap.size + 14]? = some (slcsO w.heap.size) := h.rows 14 (by omega) (by omega)
  have h15 : wr.heap[w.heap.size + 15]? = some prisO := h.rows 15 (by omega) (by omega)
  have h16 : wr.heap[w.heap.size + 16]? = some typsO := h.rows 16 (by omega) (by omega)
  have hx := h.rows (1 + k) (by omega) (by omega)
  rw [← Nat.add_assoc] at hx
  rw [hx]
  have hc : k = 0 ∨ k = 1 ∨ k = 2 ∨ k = 3 ∨ k = 4 ∨ k = 5 ∨ k = 6 ∨ k = 7 ∨ k = 8 ∨ k = 9 ∨ k = 10 ∨ k = 11 ∨ k = 12 := by omega
  rcases hc with rfl | rfl | rfl | rfl | rfl | rfl | rfl | rfl | rfl | rfl | rfl | rfl | rfl
  all_goals
    obtain rfl := Option.some.inj hr
    exact ⟨cell_of_heap h14 rfl, rfl, cell_of_heap h15 rfl, cell_of_heap h16 rfl⟩
/-- a world that differs by draws alone -/
structure SameW (W X : World) : Prop where
  os : W.os = X.os
  tape : W.tape = X.tape
  output : W.output = X.output
  heap : W.heap = X.heap
theorem newr_own {w wr : World} {v : Value} {L : List Df} (o : Obj) (h : wr.ownsRow (w.heap.size + 17) 29 3 v L.length (cellsD L)) (W : World) (hW : SameW W (wr.alloc o)) : W.ownsRow (w.heap.size + 17) 29 3 v L.length (cellsD L) :=
  row_kept h fun g _ hg => by rw [hW.heap]; exact Below.heap_alloc _ _ _ hg
theorem newr_next {w wr W w7 : World} {v v' : Value} {L L' : List Df} {o : Obj} (h : NewR w wr L) (ho : wr.ownsRow (w.heap.size + 17) 29 3 v L.length (cellsD L)) (hW : SameW W (wr.alloc o)) (hg : W.grownBy w7 v.ownBlock)
    (hn : w7.ownsRow (w.heap.size + 17) 29 3 v' L'.length (cellsD L')) :
    w7.cell? ⟨w.heap.size, 0, none⟩ = wr.cell? ⟨w.heap.size, 0, none⟩ ∧ w7.frozen? ⟨w.heap.size, 0, none⟩ = wr.frozen? ⟨w.heap.size, 0, none⟩ ∧ NewR w (w7.setCell ⟨w.heap.size, 0, none⟩ v') L' := by
  have hz : W.heap.size = wr.heap.size + 1 := by rw [hW.heap]; simp
  have hs := h.size
  have hnb : ∀ j, j < w.heap.size + 17 → some j ≠ v.ownBlock := by
    intro j hj he
    obtain ⟨_, ⟨rfl, _⟩ | ⟨g, cap, cur, rfl, h2, _⟩⟩ := ho
    · cases he
    · simp only [Value.ownBlock, Option.some.injEq] at he
      omega
  have hb : ∀ j, j < w.heap.size + 17 → w7.heap[j]? = wr.heap[j]? := fun j hj => by
    rw [hg.block j (by omega) (hnb j hj), hW.heap]
    exact Below.heap_alloc _ _ _ (by omega)
  have low7 : Below w.heap.size w w7 := ⟨hg.os.trans (hW.os.trans h.low.os), hg.tape.trans (hW.tape.trans h.low.tape), hg.output.trans (hW.output.trans h.low.output), by have := hg.size; have := h.low.size; omega, fun j hj => (hb j (by omega)).trans (h.low.block j hj)⟩
  refine ⟨World.cell?_of_block (hb w.heap.size (by omega)), World.frozen?_of_block (hb w.heap.size (by omega)), low7.setCell (p := ⟨w.heap.size, 0, none⟩) (Nat.le_refl _) _, ⟨v', ?_, ?_⟩, fun k h1 h2 => ?_, ?_⟩
  · obtain ⟨v0, h1, _⟩ := h.tab
    exact heap_set (o := 0) ((hb _ (by omega)).trans h1) v'
  · exact row_kept hn fun g hgb _ => heap_set_ne (by omega) _
  · rw [heap_set_ne (by omega), hb _ (by omega)]
    exact h.rows k h1 h2
  · rw [World.size_setCell]
    have := hg.size
    omega
theorem upTo_app {i j : Nat} {r : Int × Int × List (List UInt8)} {n : List UInt8} (hr : firstN[i]? = some r) (hn : r.2.2[j]? = some n) : upTo i j ++ [mkD r n] = upTo i (j + 1) := by
  unfold upTo
  rw [hr]
  have : (rowD r)[j]? = some (mkD r n) := by unfold rowD; rw [List.getElem?_map, hn]; rfl
  simp only [Option.map_some, Option.getD_some]
  rw [List.append_assoc, List.take_add_one, this]
  rfl
theorem wp_world {P : Program} {c : Code} {Q : Exit → Act → World → Prop} {a : Act} {W W' : World} (h : W = W') (k : c.wp P Q a W') : c.wp P Q a W := by
  subst h
  exact k

set_option maxRecDepth 100000 in
set_option maxHeartbeats 3200000 in
theorem rnew_is (w : World) :
    Calls Tryd.prog 9 #[] w fun e w' => e = .returned (.pointer (some ⟨w.heap.size, 0, none⟩)) ∧ Rt w' w.heap.size firstL ∧ Below w.heap.size w w' := by
  have HS := Lib.hid (newr_start w)
  obtain ⟨W1, hW1⟩ : ∃ W1, allocs w (newO w.heap.size) = W1 := ⟨_, rfl⟩
  have HW := Lib.hid hW1
  rw [hW1] at HS
  clear hW1
  obtain ⟨b14, h14⟩ : ∃ b, w.heap.size + 14 = b := ⟨_, rfl⟩
  obtain ⟨b15, h15⟩ : ∃ b, w.heap.size + 15 = b := ⟨_, rfl⟩
  obtain ⟨b16, h16⟩ : ∃ b, w.heap.size + 16 = b := ⟨_, rfl⟩
  obtain ⟨i0, hi, hz0, hz1, hz2⟩ := info_ref
  have HBB := Lib.hid (And.intro h14 (And.intro h15 h16))
  clear h14 h15 h16
  go_enter Tryd.func9, Tryd.ntmps9
  go_wp2_with fail
  refine wp_world ((show _ = allocs w (newO w.heap.size) from rfl).trans HW.out) ?_
  simp only [Nat.add_assoc, Nat.reduceAdd]
  rw [HBB.out.1, HBB.out.2.1, HBB.out.2.2]
  go_loopw [29] (fun v wr => ∃ k : Nat, k ≤ 13 ∧ v = .int .i64 k ∧ Hid (NewR w wr (upTo k 0))) (fun v _ => 13 - (intOf v).toNat)
  case atStart => exact ⟨0, by omega, rfl, HS⟩
  case round =>
    obtain ⟨k, hk, rfl, HSk⟩ := hrel
    by_cases hlt : k < 13
    · obtain ⟨r, hr⟩ : ∃ r, firstN[k]? = some r := ⟨_, List.getElem?_eq_getElem (by exact hlt)⟩
      obtain ⟨c0, c1, _, _⟩ := newr_facts HSk.out hlt hr
      rw [HBB.out.1] at c0
      obtain ⟨c, hc⟩ : ∃ c, w.heap.size + 1 + k = c := ⟨_, rfl⟩
      rw [hc] at c0
      have HFX := Lib.hid (fun wr L (h : NewR w wr L) => show wr.heap[c]? = some (strsO r.2.2) ∧ wr.cell? ⟨b15, k, none⟩ = some (.int .i64 r.1) ∧ wr.cell? ⟨b16, k, none⟩ = some (.int .i64 r.2.1) from by
        have := newr_facts h hlt hr
        rw [hc, HBB.out.2.1, HBB.out.2.2] at this
        exact this.2)
      have HUP := Lib.hid (fun j n (hn : r.2.2[j]? = some n) => upTo_app hr hn)
      have HROW := Lib.hid (upTo_row hr)
      obtain ⟨p, q, ns⟩ := r
      simp only at c0 HFX HUP HROW
      have k0 : (0 : Int) ≤ (k : Int) := by omega
      have k1 : (k : Int) < 13 := by omega
      obtain ⟨nl, hnl⟩ : ∃ nl, ns.length = nl := ⟨_, rfl⟩
      rw [hnl] at c0 HROW
      have HNL := Lib.hid hnl
      have hns : nl ≤ 16 := by
        have : ∀ r ∈ firstN, r.2.2.length ≤ 16 := by decide +kernel
        have := this (p, q, ns) (List.mem_of_getElem? hr)
        simp only at this
        omega
      clear hr hnl c1 hc
      go_wp2_with fail
      clear c0
      rename World => V
      go_loopw [36] (fun v wr => ∃ j : Nat, j ≤ nl ∧ v = .int .i64 j ∧ Hid (NewR w wr (upTo k j))) (fun v _ => nl - (intOf v).toNat)
      case atStart => exact ⟨0, by omega, rfl, HSk⟩
      case round =>
        obtain ⟨j, hj, rfl, HSj⟩ := hrel
        by_cases hjl : j < nl
        · obtain ⟨n, hn⟩ : ∃ n, ns[j]? = some n := ⟨_, List.getElem?_eq_getElem (by rw [HNL.out]; exact hjl)⟩
          obtain ⟨x0, x1, x2⟩ := HFX.out _ _ HSj.out
          obtain ⟨sn, hsn⟩ : ∃ s : ByteArray, (⟨n.toArray⟩ : ByteArray) = s := ⟨_, rfl⟩
          have f0 : wr.cell? ⟨c, j, none⟩ = some (.string sn) := by
            refine cell_of_heap x0 ?_
            simp [hn, hsn]
          have hnext := HUP.out j n hn
          unfold mkD at hnext
          simp only at hnext
          rw [hsn] at hnext
          have HNX := Lib.hid hnext
          have j0 : (0 : Int) ≤ (j : Int) := by omega
          have j1 : (j : Int) < (nl : Int) := by omega
          obtain ⟨v, t0, own⟩ := HSj.out.tab
          obtain ⟨ad, cap, rfl⟩ := owns_slice own
          have y0 := cell_of_heap (o := 0) t0 rfl
          have y1 := free_of_heap (o := 0) t0
          have hlen := upTo_len k j
          obtain ⟨un, hun⟩ : ∃ n, (upTo k j).length = n := ⟨_, rfl⟩
          rw [hun] at hlen y0
          have HUN := Lib.hid hun
          have OWNS := Lib.hid (fun W (hW : SameW W (wr.alloc (.cells #[.int .i64 p, .int .i64 q, .string sn] 29))) => by have := newr_own _ own W hW; rw [hun] at this; exact this)
          have NEWS := Lib.hid (fun (W : World) (hW : SameW W (wr.alloc (.cells #[.int .i64 p, .int .i64 q, .string sn] 29))) => show ∀ j u, [Value.int .i64 p, .int .i64 q, .string sn][j]? = some u → W.cell? ((⟨wr.heap.size, 0, none⟩ : Addr).add j) = some u from fun j u hu => by
            have := def_news ⟨p, q, sn⟩ 29 wr _ rfl j u hu
            rw [← this]
            exact World.cell?_of_block (by rw [hW.heap]))
          have KB : Below wr.heap.size wr (wr.alloc (.cells #[.int .i64 p, .int .i64 q, .string sn] 29)) := (Below.refl _ _).alloc (Nat.le_refl _) _
          have y0' := (KB.cell (p := ⟨w.heap.size, 0, none⟩) (World.block_lt_of_cell? _ _ y0)).trans y0
          have x1' := (KB.cell (p := ⟨b15, k, none⟩) (World.block_lt_of_cell? _ _ x1)).trans x1
          have x2' := (KB.cell (p := ⟨b16, k, none⟩) (World.block_lt_of_cell? _ _ x2)).trans x2
          have ONE := Lib.hid (def_one ⟨p, q, sn⟩)
          have hO := Lib.hid own
          have hNR := Lib.hid (fun (W w7 : World) (g' cap' : Nat) (hg : W.grownBy w7 (Value.slice ad un cap).ownBlock) (hn : w7.ownsRow (w.heap.size + 17) 29 3 (.slice (some ⟨g', 0, none⟩) (un + 1) cap') (un + 1) (cellsD (upTo k j) ++ [.int .i64 p, .int .i64 q, .string sn])) (hW : SameW W (wr.alloc (.cells #[.int .i64 p, .int .i64 q, .string sn] 29))) =>
            show w7.cell? ⟨w.heap.size, 0, none⟩ = some (.slice ad un cap) ∧ w7.frozen? ⟨w.heap.size, 0, none⟩ = false ∧ NewR w (w7.setCell ⟨w.heap.size, 0, none⟩ (.slice (some ⟨g', 0, none⟩) (un + 1) cap')) (upTo k (j + 1)) from by
              have h := newr_next (v' := .slice (some ⟨g', 0, none⟩) (un + 1) cap') (L' := upTo k (j + 1)) HSj.out hO.out hW (by rw [HUN.out]; exact hg) (by rw [← HNX.out, List.length_append, HUN.out, cellsD_app]; exact hn)
              exact ⟨h.1.trans (by rw [← HUN.out] at *; exact cell_of_heap t0 rfl), h.2.1.trans (free_of_heap t0), h.2.2⟩)
          have hsz := HSj.out.size
          have HZ := Lib.hid hsz
          rw [hun] at t0
          clear hn hsn hnext t0 x0 hun own hsz KB
          go_wp2_with fail
          go_region_law (refine step_append_lies _ (by rfl) (.tmp 44) (.tmp 53) 22 (by rfl) (w.heap.size + 17) 29 i0 (.agg #[.int .i64 0, .int .i64 0, .string ⟨#[]⟩]) 3 32 Tryd.underlying22 hi hz0 hz1 hz2 (by rfl) (by decide) (.slice ad un cap) un (cellsD (upTo k j)) (by rfl) (OWNS.out _ ⟨rfl, rfl, rfl, rfl⟩) ⟨wr.heap.size, 0, none⟩ 1 1 [.int .i64 p, .int .i64 q, .string sn] (by rfl) (by rfl) (NEWS.out _ ⟨rfl, rfl, rfl, rfl⟩) ONE.out (by omega) (by unfold maxLen; omega) (by omega) (by have := HZ.out; simp; omega) (wr.heap.size + 1) (by simp) ?_; intro g' cap' w7 hown hgrow hat hlt2; obtain ⟨t7, f7, N7⟩ := hNR.out _ _ _ _ hgrow hown ⟨rfl, rfl, rfl, rfl⟩)
          all_goals
            have NEXT := Lib.hid N7
            clear hown hgrow hat hlt2 N7
            go_wp2
            go_roundw
            case rel => exact ⟨j + 1, by omega, by go_num, NEXT⟩
            case measure => simp [intOf]; omega
        · have hjn : j = nl := by omega
          subst hjn
          go_wp2_with fail
          go_roundw
          case rel => exact ⟨k + 1, by omega, by go_num, by rw [← HROW.out]; exact HSj⟩
          case measure => simp [intOf]; omega
    · have hk13 : k = 13 := by omega
      subst hk13
      go_wp2_with fail
      go_ret
      obtain ⟨v, h1, h2⟩ := HSk.out.tab
      refine ⟨rfl, ⟨⟨v, h1, ?_⟩, first_wf⟩, HSk.out.low⟩
      rw [← upTo_end]
      obtain ⟨h3, h4 | ⟨g, cap, cur, hv, h5, r⟩⟩ := h2
      · exact ⟨h3, .inl h4⟩
      · exact ⟨h3, .inr ⟨g, cap, cur, hv, by omega, r⟩⟩

end Go.Proofs.YtnnhpjpfmmlimaaDoor
