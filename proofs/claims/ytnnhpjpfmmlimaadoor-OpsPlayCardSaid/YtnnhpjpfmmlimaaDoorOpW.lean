/- The document's table of operators: what is found in it. Conditions: as each states. -/
import Derived.Test.YtnnhpjpfmmlimaaDoorOpV
namespace Go.Proofs.YtnnhpjpfmmlimaaDoor
open Go Go.RowKit Go.Maps
open Go.WideMaps Go.WideElems

/-- the document's table in block b: the operators L, in a row behind b -/
structure Rt (w : World) (b : Nat) (L : List Df) : Prop where
  got : ∃ v, w.heap[b]? = some (.cells #[v] 64 (0, 0)) ∧ w.ownsRow (b + 1) 29 3 v L.length (cellsD L)
  wf : Wf L
theorem row_kept {w w' : World} {b n : Nat} {e : TypeId} {size : Nat} {v : Value} {xs : List Value} (h : w.ownsRow b e size v n xs) (k : ∀ g, b ≤ g → g < w.heap.size → w'.heap[g]? = w.heap[g]?) : w'.ownsRow b e size v n xs := by
  obtain ⟨h1, h2 | ⟨g, cap, cur, hv, h3, h4, r⟩⟩ := h
  · exact ⟨h1, .inl h2⟩
  · exact ⟨h1, .inr ⟨g, cap, cur, hv, h3, (k g h3 (heap_lt h4)).trans h4, r⟩⟩
theorem Rt.on {w w' : World} {b : Nat} {L : List Df} (h : Rt w b L) (k : Below w.heap.size w w') : Rt w' b L := by
  obtain ⟨v, h1, h2⟩ := h.got
  exact ⟨⟨v, (k.block _ (heap_lt h1)).trans h1, row_kept h2 fun g _ hg => k.block g hg⟩, h.wf⟩
theorem Rt.grown {w w' : World} {b m : Nat} {L : List Df} (h : Rt w b L) (k : w.grownBy w' (some m)) (hm : m < b) : Rt w' b L := by
  obtain ⟨v, h1, h2⟩ := h.got
  exact ⟨⟨v, (k.block _ (heap_lt h1) (by simp; omega)).trans h1, row_kept h2 fun g hb hg => k.block g hg (by simp; omega)⟩, h.wf⟩
theorem Rt.facts {w : World} {b : Nat} {L : List Df} (h : Rt w b L) : ∃ ad cap B, w.cell? ⟨b, 0, none⟩ = some (.slice ad L.length cap) ∧ w.frozen? ⟨b, 0, none⟩ = false ∧ ArgRow w ad L.length cap B 0 L ∧ (L = [] ∨ b < B) := by
  obtain ⟨v, h1, h2⟩ := h.got
  obtain ⟨ad, cap, B, rfl, h3, h4⟩ := owns_any h2
  exact ⟨ad, cap, B, cell_of_heap h1 rfl, free_of_heap h1, h3, h4⟩
theorem Rt.lt {w : World} {b : Nat} {L : List Df} (h : Rt w b L) : b < w.heap.size := by
  obtain ⟨v, h1, _⟩ := h.got
  exact heap_lt h1

def fz (L : List Df) (n : ByteArray) (s : Int) : Df := getd (fnd L n s)
theorem fz_none {L : List Df} {n : ByteArray} {s : Int} (h : fnd L n s = none) : fz L n s = zdf := by unfold fz; rw [h]; rfl
theorem fz_some {L : List Df} {n : ByteArray} {s : Int} {d : Df} (h : fnd L n s = some d) : fz L n s = d := by unfold fz; rw [h]; rfl
theorem fnd_next {L : List Df} {n : ByteArray} {s : Int} {i : Nat} {d : Df} (hd : L[i]? = some d) (h : fnd (L.take i) n s = none) (hi : d.is n s = false) : fnd (L.take (i + 1)) n s = none := by
  unfold fnd at h ⊢
  rw [List.take_add_one, hd, List.find?_append, h]
  simp [hi]
theorem fnd_here {L : List Df} {n : ByteArray} {s : Int} {i : Nat} {d : Df} (hd : L[i]? = some d) (h : fnd (L.take i) n s = none) (hi : d.is n s = true) : fnd L n s = some d := by
  have hl : L = L.take i ++ (d :: L.drop (i + 1)) := by
    obtain ⟨hlt, hx⟩ := List.getElem?_eq_some_iff.1 hd
    rw [← hx, List.getElem_cons_drop, List.take_append_drop]
  unfold fnd at h ⊢
  rw [hl, List.find?_append, h]
  simp [hi]

theorem three_heap {w : World} {b : Nat} {x0 x1 x2 : Value} {T : TypeId} (h : w.heap[b]? = some (.cells #[x0, x1, x2] T (0, 0))) (y0 y1 y2 : Value) :
    (((w.setCell ⟨b, 0, none⟩ y0).setCell ⟨b, 1, none⟩ y1).setCell ⟨b, 2, none⟩ y2).heap[b]? = some (.cells #[y0, y1, y2] T (0, 0)) :=
  heap_set (o := 2) (heap_set (o := 1) (heap_set (o := 0) h y0) y1) y2
theorem defInfo : (Tryd.prog.info? 29).map (·.size) = some 3 := by kernel_rfl

set_option maxRecDepth 100000 in
set_option maxHeartbeats 1600000 in
theorem rfind_is (b : Nat) (L : List Df) (n : ByteArray) (s : Int) (w : World) (h : Rt w b L) (hL : L.length ≤ 300) :
    Calls Tryd.prog 34 #[.pointer (some ⟨b, 0, none⟩), .string n, .int .i64 s] w fun e w' =>
      e = .returned (.agg #[.int .i64 (fz L n s).pri, .int .i64 (fz L n s).typ, .string (fz L n s).name]) ∧ Below w.heap.size w w' := by
  have hW : Below w.heap.size w (w.alloc (.cells #[.int .i64 0, .int .i64 0, .string ⟨#[]⟩] 29)) := (Below.refl _ _).alloc (Nat.le_refl _) _
  have hR := h.on hW
  have e1 : (w.alloc (.cells #[.int .i64 0, .int .i64 0, .string ⟨#[]⟩] 29)).heap[w.heap.size]? = some (.cells #[.int .i64 0, .int .i64 0, .string ⟨#[]⟩] 29 (0, 0)) := new_at _ _ rfl
  obtain ⟨W1, hW1⟩ : ∃ W1, w.alloc (.cells #[.int .i64 0, .int .i64 0, .string ⟨#[]⟩] 29) = W1 := ⟨_, rfl⟩
  rw [hW1] at hW hR e1
  obtain ⟨ad, cap, B, r0, r1, r2, _⟩ := hR.facts
  have HW := Lib.hid hW
  have HW1 := Lib.hid hW1
  have HE := Lib.hid e1
  have HA := Lib.hid r2
  obtain ⟨nn, hnn⟩ : ∃ nn, L.length = nn := ⟨_, rfl⟩
  rw [hnn] at HA hL r0
  rw [← hW1] at r0
  have HN := Lib.hid hnn
  have hcp := r2.max
  have hfit := r2.fits
  rw [hnn] at hfit
  clear hW hW1 hR e1 r2 h hnn
  go_enter Tryd.func34, Tryd.ntmps34
  go_wp2_with fail
  rw [HW1.out]
  clear r0 r1
  go_loopw [14] (fun v wr => ∃ i : Nat, i ≤ nn ∧ v = .int .i64 i ∧ Hid (fnd (L.take i) n s = none) ∧ Hid (Below W1.heap.size W1 wr)) (fun v _ => nn - (intOf v).toNat)
  case atStart => exact ⟨0, by omega, rfl, Lib.hid rfl, Lib.hid (Below.refl _ _)⟩
  case round =>
    obtain ⟨i, hi, rfl, HF, HB⟩ := hrel
    by_cases hlt : i < nn
    · obtain ⟨d, hd⟩ : ∃ d, L[i]? = some d := ⟨_, List.getElem?_eq_getElem (by rw [HN.out]; exact hlt)⟩
      obtain rfl := HA.out.at' (by omega)
      obtain ⟨c0, c1, c2⟩ := (HA.out.on HB.out).mem i d hd
      simp only [Nat.zero_add] at c0 c1 c2
      have HNO := Lib.hid (fnd_next hd HF.out)
      have HYES := Lib.hid (fnd_here hd HF.out)
      have i0 : (0 : Int) ≤ (i : Int) := by omega
      have i1 : (i : Int) < (nn : Int) := by omega
      have BW : Below W1.heap.size W1 (wr.alloc (.cells #[.int .i64 d.pri, .int .i64 d.typ, .string d.name] 29)) := HB.out.alloc HB.out.size _
      have N4 : (wr.alloc (.cells #[.int .i64 d.pri, .int .i64 d.typ, .string d.name] 29)).heap[wr.heap.size]? = some (.cells #[.int .i64 d.pri, .int .i64 d.typ, .string d.name] 29 (0, 0)) := new_at _ _ rfl
      obtain ⟨d0, d1, d2, _, _, _⟩ := (Three.mk N4).facts
      obtain ⟨z0, z1, z2, f0, f1, f2⟩ := (Three.mk ((BW.block _ (heap_lt HE.out)).trans HE.out)).facts
      have N5 := Lib.hid ((BW.block _ (heap_lt HE.out)).trans HE.out)
      have X0 := Lib.hid BW
      have WL := Lib.hid (Below.refl w.heap.size w)
      obtain ⟨p', k', nm'⟩ := d
      simp only at c0 c1 c2 d0 d1 d2 z0 z1 z2 f0 f1 f2
      clear hd N4 HF BW
      cases hqe : (nm'.toList == n.toList)
      · clear z0 z1 z2 f0 f1 f2
        go_wp2_with fail
        go_roundw
        case rel => exact ⟨i + 1, by omega, by go_num, Lib.hid (HNO.out (by simp [Df.is, hqe])), X0⟩
        case measure => simp [intOf]; omega
      · cases hse : (srt k' == s)
        · have hse' : ¬ srt k' = s := by simpa using hse
          clear z0 z1 z2 f0 f1 f2
          go_wp2_with fail
          refine (srt_is k' _).mono ?_
          rintro e w8 ⟨rfl, hw⟩
          obtain rfl := hw.symm
          go_wp2_with fail
          go_roundw
          case rel => exact ⟨i + 1, by omega, by go_num, Lib.hid (HNO.out (by simp [Df.is, hqe, hse])), X0⟩
          case measure => simp [intOf]; omega
        · have hse' : srt k' = s := by simpa using hse
          have hfz := fz_some (HYES.out (by simp [Df.is, hqe, hse]))
          obtain ⟨y0, y1, y2⟩ := three_cells N5.out (.int .i64 p') (.int .i64 k') (.string nm')
          go_wp2_with fail
          refine (srt_is k' _).mono ?_
          rintro e w8 ⟨rfl, hw⟩
          obtain rfl := hw.symm
          go_wp2_with fail
          (try simp only [Exit.inBlock, Exit.then])
          refine bodyPost_ret (results_cell_row rfl _ _ w.heap.size 29 _ _ _ rfl (three_heap N5.out _ _ _) Tryd.underlying29 rfl defInfo) rfl ?_
          rw [hfz]
          exact ⟨rfl, ((WL.out.trans (HW.out.trans (X0.out.mono HW.out.size))).setCell (p := ⟨w.heap.size, 0, none⟩) (Nat.le_refl _) _ |>.setCell (p := ⟨w.heap.size, 1, none⟩) (Nat.le_refl _) _).setCell (p := ⟨w.heap.size, 2, none⟩) (Nat.le_refl _) _⟩
    · obtain rfl : i = nn := by omega
      have hz : fz L n s = zdf := fz_none (by have := HF.out; rwa [List.take_of_length_le (by rw [HN.out]; exact Nat.le_refl _)] at this)
      obtain ⟨z0, z1, z2, f0, f1, f2⟩ := (Three.mk ((HB.out.block _ (heap_lt HE.out)).trans HE.out)).facts
      obtain ⟨y0, y1, y2⟩ := three_cells ((HB.out.block _ (heap_lt HE.out)).trans HE.out) (.int .i64 0) (.int .i64 0) (.string ⟨#[]⟩)
      go_wp2_with fail
      (try simp only [Exit.inBlock, Exit.then])
      refine bodyPost_ret (results_cell_row rfl _ _ w.heap.size 29 _ _ _ rfl (three_heap ((HB.out.block _ (heap_lt HE.out)).trans HE.out) _ _ _) Tryd.underlying29 rfl defInfo) rfl ?_
      rw [hz]
      exact ⟨rfl, (((HW.out.trans (HB.out.mono HW.out.size))).setCell (p := ⟨w.heap.size, 0, none⟩) (Nat.le_refl _) _ |>.setCell (p := ⟨w.heap.size, 1, none⟩) (Nat.le_refl _) _).setCell (p := ⟨w.heap.size, 2, none⟩) (Nat.le_refl _) _⟩

end Go.Proofs.YtnnhpjpfmmlimaaDoor
