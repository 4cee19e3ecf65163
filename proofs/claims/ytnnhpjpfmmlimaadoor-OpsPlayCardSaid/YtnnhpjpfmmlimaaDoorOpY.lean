/- The document's table of operators: Op. Conditions: the operators are at most 256. -/
import Derived.Test.YtnnhpjpfmmlimaaDoorOpX
namespace Go.Proofs.YtnnhpjpfmmlimaaDoor
open Go Go.RowKit Go.Maps
open Go.WideMaps Go.WideElems

/-- what Op answers, and the document's table behind it; the block in which the table lies has turned, no other elder one has -/
structure RPost (w : World) (b : Nat) (L : List Df) (d : Df) (e : Ending) (w' : World) : Prop where
  ans : e = .returned (.int .i64 (opZ L d).1)
  tab : Rt w' b (opZ L d).2
  grown : w.grownBy w' (some b)
theorem RPost.same {w w' : World} {b : Nat} {L : List Df} {d : Df} {e : Ending} (h : Rt w b L) (hb : Below w.heap.size w w') (h1 : e = .returned (.int .i64 (opZ L d).1)) (h2 : (opZ L d).2 = L) : RPost w b L d e w' :=
  ⟨h1, by rw [h2]; exact h.on hb, grown_of hb _⟩
theorem rmv_yes {L : List Df} {n : ByteArray} {s : Int} {i : Nat} {d : Df} (hd : L[i]? = some d) (h : d.is n s = false) : rmv (L.take (i + 1)) n s = rmv (L.take i) n s ++ [d] := by
  unfold rmv
  rw [List.take_add_one, hd, List.filter_append]
  simp [h]
theorem rmv_no {L : List Df} {n : ByteArray} {s : Int} {i : Nat} {d : Df} (hd : L[i]? = some d) (h : d.is n s = true) : rmv (L.take (i + 1)) n s = rmv (L.take i) n s := by
  unfold rmv
  rw [List.take_add_one, hd, List.filter_append]
  simp [h]
theorem grown_set {w w' : World} {b : Nat} {v : Value} (h : Below w.heap.size w w') : w.grownBy (w'.setCell ⟨b, 0, none⟩ v) (some b) :=
  ⟨h.os, h.tape, h.output, by rw [World.size_setCell]; exact h.size, fun k hk hne => (heap_set_ne (by simpa using hne) _).trans (h.block k hk)⟩
theorem rt_set {w w' : World} {b : Nat} {T : Nat} {v : Value} {L L' : List Df} (h : Below w.heap.size w w') (hR : Rt w b L) (ho : w'.ownsRow T 29 3 v L'.length (cellsD L')) (hT : b + 1 ≤ T) (hw : Wf L') : Rt (w'.setCell ⟨b, 0, none⟩ v) b L' := by
  obtain ⟨v0, h1, h2⟩ := hR.got
  refine ⟨⟨v, ?_, ?_⟩, hw⟩
  · exact heap_set (o := 0) ((h.block _ (heap_lt h1)).trans h1) v
  · obtain ⟨h3, h4 | ⟨g, cap, cur, hv, h5, h6, r⟩⟩ := ho
    · exact ⟨h3, .inl h4⟩
    · exact ⟨h3, .inr ⟨g, cap, cur, hv, Nat.le_trans hT h5, (heap_set_ne (by omega) _).trans h6, r⟩⟩

set_option maxHeartbeats 800000 in
theorem rop_arg (a : Nat) (p t : Int) (n : ByteArray) (w : World) (h : argB p t n = true) :
    Calls Tryd.prog 11 #[.pointer (some ⟨a, 0, none⟩), .int .i64 p, .int .i64 t, .string n] w fun e w' => e = .returned (.int .i64 2) ∧ w' = w := by
  unfold argB at h
  simp only [Bool.or_eq_true, decide_eq_true_eq] at h
  by_cases h1 : p < 0
  · clear h
    go_enter Tryd.func11, Tryd.ntmps11
    go_wp2_with fail
    go_ret
    exact ⟨rfl, rfl⟩
  by_cases h2 : 1200 < p
  · clear h
    go_enter Tryd.func11, Tryd.ntmps11
    go_wp2_with fail
    go_ret
    exact ⟨rfl, rfl⟩
  by_cases h3 : t < 1
  · clear h
    go_enter Tryd.func11, Tryd.ntmps11
    go_wp2_with fail
    go_ret
    exact ⟨rfl, rfl⟩
  by_cases h4 : 7 < t
  · clear h
    go_enter Tryd.func11, Tryd.ntmps11
    go_wp2_with fail
    go_ret
    exact ⟨rfl, rfl⟩
  have h5 : 1000 < n.size := by
    rcases h with (((h | h) | h) | h) | h
    · exact absurd h h1
    · exact absurd h h2
    · exact absurd h h3
    · exact absurd h h4
    · exact h
  have h6 : decide ((1000 : Int) < (n.size : Int)) = true := by simp; omega
  clear h
  go_enter Tryd.func11, Tryd.ntmps11
  go_wp2_with fail
  go_ret
  exact ⟨rfl, rfl⟩

set_option maxHeartbeats 1600000 in
theorem rop_fixed (a : Nat) (p t : Int) (n : ByteArray) (w : World) (h : ArgOK p t n) (hf : fixedB n = true) :
    Calls Tryd.prog 11 #[.pointer (some ⟨a, 0, none⟩), .int .i64 p, .int .i64 t, .string n] w fun e w' => e = .returned (.int .i64 15) ∧ w' = w := by
  have h1 : ¬ p < 0 := by have := h.p0; omega
  have h2 : ¬ 1200 < p := by have := h.p1; omega
  have h3 : ¬ t < 1 := by have := h.t0; omega
  have h4 : ¬ 7 < t := by have := h.t1; omega
  have h5 : ¬ 1000 < n.size := by have := h.n0; omega
  have h6 : decide ((1000 : Int) < (n.size : Int)) = false := by simp; omega
  unfold fixedB at hf
  have hc : (n.toList == [44]) = true ∨ ((n.toList == [44]) = false ∧ (n.toList == [124]) = true) ∨ ((n.toList == [44]) = false ∧ (n.toList == [124]) = false ∧ (n.toList == [91, 93]) = true) ∨ ((n.toList == [44]) = false ∧ (n.toList == [124]) = false ∧ (n.toList == [91, 93]) = false ∧ (n.toList == [123, 125]) = true) := by
    revert hf
    cases (n.toList == [44]) <;> cases (n.toList == [124]) <;> cases (n.toList == [91, 93]) <;> cases (n.toList == [123, 125]) <;> simp
  clear hf h
  rcases hc with g1 | ⟨g1, g2⟩ | ⟨g1, g2, g3⟩ | ⟨g1, g2, g3, g4⟩
  all_goals
    go_enter Tryd.func11, Tryd.ntmps11
    go_wp2_with fail
    go_ret
    exact ⟨rfl, rfl⟩

set_option maxRecDepth 100000 in
set_option maxHeartbeats 3200000 in
theorem rop_zero (b : Nat) (L : List Df) (t : Int) (n : ByteArray) (w : World) (hR : Rt w b L) (h : ArgOK 0 t n) (hf : fixedB n = false) (hL : L.length ≤ 256) :
    Calls Tryd.prog 11 #[.pointer (some ⟨b, 0, none⟩), .int .i64 0, .int .i64 t, .string n] w fun e w' => e = .returned (.int .i64 0) ∧ Rt w' b (rmv L n (srt t)) ∧ w.grownBy w' (some b) := by
  have h3 : ¬ t < 1 := by have := h.t0; omega
  have h4 : ¬ 7 < t := by have := h.t1; omega
  have h6 : decide ((1000 : Int) < (n.size : Int)) = false := by have := h.n0; simp; omega
  unfold fixedB at hf
  obtain ⟨⟨⟨g1, g2⟩, g3⟩, g4⟩ : (((n.toList == [44]) = false ∧ (n.toList == [124]) = false) ∧ (n.toList == [91, 93]) = false) ∧ (n.toList == [123, 125]) = false := by simpa only [Bool.or_eq_false_iff] using hf
  obtain ⟨ix, hi0, hz0, hz1, hz2⟩ := info_ref
  obtain ⟨ad, cap, B, r0, r1, r2, _⟩ := hR.facts
  obtain ⟨nn, hnn⟩ : ∃ nn, L.length = nn := ⟨_, rfl⟩
  rw [hnn] at r0 r2 hL
  have HFR := Lib.hid (fun w' (k : Below w.heap.size w w') => show w'.cell? ⟨b, 0, none⟩ = some (.slice ad nn cap) ∧ w'.frozen? ⟨b, 0, none⟩ = false from ⟨(k.cell (p := ⟨b, 0, none⟩) hR.lt).trans r0, by
    obtain ⟨v, q1, _⟩ := hR.got
    exact free_of_heap ((k.block _ (heap_lt q1)).trans q1)⟩)
  have HA := Lib.hid r2
  have HN := Lib.hid hnn
  have HR := Lib.hid hR
  have hcp := r2.max
  have hfit := r2.fits
  have SRT := Lib.hid (fun w => srt_is t w)
  obtain ⟨s, hs⟩ : ∃ s, srt t = s := ⟨_, rfl⟩
  rw [hs] at SRT ⊢
  clear hR r1 r2 hnn hf h hs
  go_enter Tryd.func11, Tryd.ntmps11
  go_wp2_with fail
  refine (SRT.out _).mono ?_
  rintro e w8 ⟨rfl, hw⟩
  obtain rfl := hw.symm
  have BT := Lib.hid (Below.refl w.heap.size w)
  go_wp2_with fail
  go_loopw [95, 10] (fun v sl wr => ∃ i : Nat, i ≤ nn ∧ v = .int .i64 i ∧ Hid (wr.ownsRow w.heap.size 29 3 sl (rmv (L.take i) n s).length (cellsD (rmv (L.take i) n s))) ∧ Hid (Below w.heap.size w wr)) (fun v _ _ => nn - (intOf v).toNat)
  case atStart => exact ⟨0, by omega, rfl, Lib.hid (World.ownsRow_nil _ _ _ _), Lib.hid (Below.refl _ _)⟩
  case round =>
    obtain ⟨i, hi, rfl, HO, HB⟩ := hrel
    by_cases hlt : i < nn
    · obtain ⟨d, hd⟩ : ∃ d, L[i]? = some d := ⟨_, List.getElem?_eq_getElem (by rw [HN.out]; exact hlt)⟩
      obtain rfl := HA.out.at' (by omega)
      obtain ⟨c0, c1, c2⟩ := (HA.out.on (bt BT.out HB.out)).mem i d hd
      simp only [Nat.zero_add] at c0 c1 c2
      have HYES := Lib.hid (rmv_yes (n := n) (s := s) hd)
      have HNO := Lib.hid (rmv_no (n := n) (s := s) hd)
      have i0 : (0 : Int) ≤ (i : Int) := by omega
      have i1 : (i : Int) < (nn : Int) := by omega
      obtain ⟨ad', cap', hs⟩ := owns_slice HO.out
      subst hs
      obtain ⟨kk, hkk⟩ : ∃ kk, (rmv (L.take i) n s).length = kk := ⟨_, rfl⟩
      have hkk' : kk ≤ 256 := by
        have h1 := rmv_len (L.take i) n s
        rw [List.length_take] at h1
        omega
      rw [hkk] at HO ⊢
      have K4 : Below wr.heap.size wr (wr.alloc (.cells #[.int .i64 d.pri, .int .i64 d.typ, .string d.name] 29)) := (Below.refl _ _).alloc (Nat.le_refl _) _
      have O4 := Lib.hid (row_same HO.out K4)
      have B4 := Lib.hid (HB.out.trans (K4.mono HB.out.size))
      have N4 : (wr.alloc (.cells #[.int .i64 d.pri, .int .i64 d.typ, .string d.name] 29)).heap[wr.heap.size]? = some (.cells #[.int .i64 d.pri, .int .i64 d.typ, .string d.name] 29 (0, 0)) := new_at _ _ rfl
      obtain ⟨d0, d1, d2, _, _, _⟩ := (Three.mk N4).facts
      have NEWS := Lib.hid (def_news d 29)
      have ONE := Lib.hid (def_one d)
      have HKK := Lib.hid hkk
      have hbk : ∀ B, (Value.slice ad' kk cap').ownBlock = some B → w.heap.size ≤ B := by
        intro B hB
        obtain ⟨_, ⟨h1, _⟩ | ⟨g0, cap0, _, h1, h2, _⟩⟩ := HO.out
        · cases h1; cases hB
        · cases h1; cases hB; exact h2
      have HBK := Lib.hid hbk
      obtain ⟨p', k', nm'⟩ := d
      simp only at c0 c1 c2 d0 d1 d2
      clear hd N4 K4 hkk hbk
      cases hqe : (nm'.toList == n.toList)
      · go_wp2_with (at_builtin; refine wpList_append_lies _ rfl (.tmp 110) (.tmp 112) 22 rfl w.heap.size 29 ix (.agg #[.int .i64 0, .int .i64 0, .string ⟨#[]⟩]) 3 32 Tryd.underlying22 hi0 hz0 hz1 hz2 rfl (by decide) _ _ _ rfl (O4.out.alloc _) ⟨wr.heap.size + 1, 0, none⟩ 1 1 [.int .i64 p', .int .i64 k', .string nm'] rfl rfl (NEWS.out _ _ (by simp)) ONE.out (by omega) ?_ ?_ ?_ (wr.heap.size + 2) (by simp) ?_)
        · unfold maxLen; omega
        · omega
        · have := B4.out.size; simp at this ⊢; omega
        intro g' cap'' w8 hown8 hgrow8 hat8 hlt8
        have hyes := HYES.out (by simp [Df.is, hqe]; try assumption)
        have OW := Lib.hid (show w8.ownsRow w.heap.size 29 3 (.slice (some ⟨g', 0, none⟩) (kk + 1) cap'') (rmv (L.take (i + 1)) n s).length (cellsD (rmv (L.take (i + 1)) n s)) from by
          rw [hyes, List.length_append, HKK.out, cellsD_app]
          exact hown8)
        have BW := Lib.hid (show Below w.heap.size w w8 from (B4.out.alloc B4.out.size _).grown hgrow8 (by have := B4.out.size; simp at this ⊢; omega) HBK.out)
        clear hown8 hgrow8 hat8 hlt8 NEWS ONE O4 B4 HO HB hyes
        go_wp2_with fail
        go_roundw
        case rel => exact ⟨i + 1, by omega, by go_num, OW, BW⟩
        case measure => simp [intOf]; omega
      · cases hse : (srt k' == s)
        · have hse' : ¬ srt k' = s := by simpa using hse
          go_wp2_with fail
          refine (srt_is k' _).mono ?_
          rintro e w8 ⟨rfl, hw⟩
          obtain rfl := hw.symm
          go_wp2_with (at_builtin; refine wpList_append_lies _ rfl (.tmp 110) (.tmp 112) 22 rfl w.heap.size 29 ix (.agg #[.int .i64 0, .int .i64 0, .string ⟨#[]⟩]) 3 32 Tryd.underlying22 hi0 hz0 hz1 hz2 rfl (by decide) _ _ _ rfl (O4.out.alloc _) ⟨wr.heap.size + 1, 0, none⟩ 1 1 [.int .i64 p', .int .i64 k', .string nm'] rfl rfl (NEWS.out _ _ (by simp)) ONE.out (by omega) ?_ ?_ ?_ (wr.heap.size + 2) (by simp) ?_)
          · unfold maxLen; omega
          · omega
          · have := B4.out.size; simp at this ⊢; omega
          intro g' cap'' w8 hown8 hgrow8 hat8 hlt8
          have hyes := HYES.out (by simp [Df.is, hqe]; try assumption)
          have OW := Lib.hid (show w8.ownsRow w.heap.size 29 3 (.slice (some ⟨g', 0, none⟩) (kk + 1) cap'') (rmv (L.take (i + 1)) n s).length (cellsD (rmv (L.take (i + 1)) n s)) from by
            rw [hyes, List.length_append, HKK.out, cellsD_app]
            exact hown8)
          have BW := Lib.hid (show Below w.heap.size w w8 from (B4.out.alloc B4.out.size _).grown hgrow8 (by have := B4.out.size; simp at this ⊢; omega) HBK.out)
          clear hown8 hgrow8 hat8 hlt8 NEWS ONE O4 B4 HO HB hyes
          go_wp2_with fail
          go_roundw
          case rel => exact ⟨i + 1, by omega, by go_num, OW, BW⟩
          case measure => simp [intOf]; omega
        · have hse' : srt k' = s := by simpa using hse
          have hno := HNO.out (by simp [Df.is, hqe, hse])
          go_wp2_with fail
          refine (srt_is k' _).mono ?_
          rintro e w8 ⟨rfl, hw⟩
          obtain rfl := hw.symm
          go_wp2_with fail
          go_roundw
          case rel => exact ⟨i + 1, by omega, by go_num, Lib.hid (by rw [hno, HKK.out]; exact O4.out), B4⟩
          case measure => simp [intOf]; omega
    · obtain rfl : i = nn := by omega
      have htk : L.take i = L := List.take_of_length_le (by rw [HN.out]; exact Nat.le_refl _)
      rw [htk] at HO
      have HB9 := Lib.hid (bt BT.out HB.out)
      obtain ⟨r8, r9⟩ := HFR.out _ HB9.out
      obtain ⟨ad', cap', hs⟩ := owns_slice HO.out
      subst hs
      obtain ⟨kk, hkk⟩ : ∃ kk, (rmv L n s).length = kk := ⟨_, rfl⟩
      have HKK := Lib.hid hkk
      have hkk' : kk ≤ 256 := by
        have h1 := rmv_len L n s
        have h2 := HN.out
        omega
      rw [hkk] at HO ⊢
      clear hkk htk
      go_wp2_with fail
      go_ret
      have hO := HO.out
      refine ⟨rfl, ?_, grown_set HB9.out⟩
      show Rt _ b (rmv L n s)
      exact rt_set HB9.out HR.out (by rw [HKK.out]; exact hO) (by have := HR.out.lt; have := BT.out.size; omega) (HR.out.wf.rmv _ _)

end Go.Proofs.YtnnhpjpfmmlimaaDoor
