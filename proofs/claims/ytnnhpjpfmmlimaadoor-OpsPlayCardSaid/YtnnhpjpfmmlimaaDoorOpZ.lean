/- The document's table of operators: Op at a priority. Conditions: the operators are at most 256. -/
import Derived.Test.YtnnhpjpfmmlimaaDoorOpY
namespace Go.Proofs.YtnnhpjpfmmlimaaDoor
open Go Go.RowKit Go.Maps
open Go.WideMaps Go.WideElems

theorem oz_rival {L : List Df} {d : Df} (ha : argB d.pri d.typ d.name = false) (hf : fixedB d.name = false) (hp : ¬ d.pri = 0) (hr : (fnd L d.name (rivZ (srt d.typ))).isSome = true) : opZ L d = (15, L) := by
  unfold opZ
  rw [if_neg (by rw [ha]; simp), if_neg (by rw [hf]; simp), if_neg hp, if_pos hr]
theorem oz_full {L : List Df} {d : Df} (ha : argB d.pri d.typ d.name = false) (hf : fixedB d.name = false) (hp : ¬ d.pri = 0) (hr : (fnd L d.name (rivZ (srt d.typ))).isSome = false) (hh : 256 ≤ L.length ∧ (fnd L d.name (srt d.typ)).isSome = false) : opZ L d = (9, L) := by
  unfold opZ
  rw [if_neg (by rw [ha]; simp), if_neg (by rw [hf]; simp), if_neg hp, if_neg (by rw [hr]; simp), if_pos hh]
theorem oz_put {L : List Df} {d : Df} (ha : argB d.pri d.typ d.name = false) (hf : fixedB d.name = false) (hp : ¬ d.pri = 0) (hr : (fnd L d.name (rivZ (srt d.typ))).isSome = false) (hh : ¬ (256 ≤ L.length ∧ (fnd L d.name (srt d.typ)).isSome = false)) : opZ L d = (0, ins L d) := by
  unfold opZ
  rw [if_neg (by rw [ha]; simp), if_neg (by rw [hf]; simp), if_neg hp, if_neg (by rw [hr]; simp), if_neg hh]
theorem riv1 : rivZ 1 = 0 := by decide
theorem riv2 : rivZ 2 = 3 := by decide
theorem riv3 : rivZ 3 = 2 := by decide
theorem fnd_zero (L : List Df) (n : ByteArray) : (fnd L n 0).isSome = false := by
  cases h : fnd L n 0 with
  | none => rfl
  | some d =>
    have h1 := (fnd_mem h).2.2
    rcases srt_in d.typ with h2 | h2 | h2 <;> omega

set_option maxRecDepth 100000 in
set_option maxHeartbeats 6400000 in
theorem rop_pos1 (b : Nat) (L : List Df) (p t : Int) (n : ByteArray) (w : World) (hR : Rt w b L) (h : ArgOK p t n) (hp : 0 < p) (hf : fixedB n = false) (ha : argB p t n = false) (hL : L.length ≤ 256) (hs : srt t = 1) :
    Calls Tryd.prog 11 #[.pointer (some ⟨b, 0, none⟩), .int .i64 p, .int .i64 t, .string n] w (RPost w b L ⟨p, t, n⟩) := by
  have h1 : ¬ p < 0 := by omega
  have h2 : ¬ 1200 < p := by have := h.p1; omega
  have h3 : ¬ t < 1 := by have := h.t0; omega
  have h4 : ¬ 7 < t := by have := h.t1; omega
  have h6 : decide ((1000 : Int) < (n.size : Int)) = false := by have := h.n0; simp; omega
  have HS := Lib.hid hs
  have HRIV := Lib.hid (fun hr => oz_rival (L := L) (d := ⟨p, t, n⟩) ha hf (by simp only; omega) hr)
  have HFULL0 := Lib.hid (fun hr hh => oz_full (L := L) (d := ⟨p, t, n⟩) ha hf (by simp only; omega) hr hh)
  have HPUT0 := Lib.hid (fun hr hh => oz_put (L := L) (d := ⟨p, t, n⟩) ha hf (by simp only; omega) hr hh)
  simp only [hs, riv1] at HRIV HFULL0 HPUT0
  have riv_none := fnd_zero L n
  have HFIT := Lib.hid (show FitD ⟨p, t, n⟩ from ⟨by simp only; omega, h.p1, h.t0, h.t1, h.n0⟩)
  have NEWSP := Lib.hid (def_news ⟨p, t, n⟩ 29)
  have ONEP := Lib.hid (def_one ⟨p, t, n⟩)
  simp only at NEWSP ONEP
  unfold fixedB at hf
  obtain ⟨⟨⟨g1, g2⟩, g3⟩, g4⟩ : (((n.toList == [44]) = false ∧ (n.toList == [124]) = false) ∧ (n.toList == [91, 93]) = false) ∧ (n.toList == [123, 125]) = false := by simpa only [Bool.or_eq_false_iff] using hf
  obtain ⟨ix, hi0, hz0, hz1, hz2⟩ := info_ref
  obtain ⟨ad, cap, B, r0, r1, r2, _⟩ := hR.facts
  have FS := Lib.hid (fun w' (k : Below w.heap.size w w') => rfind_is b L n 1 w' (hR.on k) (by omega))
  have FR := Lib.hid (fun w' (k : Below w.heap.size w w') => rfind_is b L n 0 w' (hR.on k) (by omega))
  have GS := fz_fit hR.wf n 1
  have GR := fz_fit hR.wf n 0
  obtain ⟨ds, hds⟩ : ∃ d, fz L n 1 = d := ⟨_, rfl⟩
  obtain ⟨dr, hdr⟩ : ∃ d, fz L n 0 = d := ⟨_, rfl⟩
  rw [hds] at FS GS
  rw [hdr] at FR GR
  obtain ⟨ps, ts, xs⟩ := ds
  obtain ⟨pr, tr, xr⟩ := dr
  have HQS := Lib.hid (And.intro GS.p0 GS.any)
  have HQR := Lib.hid GR.any
  simp only at FS FR HQS HQR
  have es := fun w => field0 ps ts xs w
  have er := fun w => field0 pr tr xr w
  obtain ⟨nn, hnn⟩ : ∃ nn, L.length = nn := ⟨_, rfl⟩
  rw [hnn] at r0 r2 hL
  have HFR := Lib.hid (fun w' (k : Below w.heap.size w w') => show w'.cell? ⟨b, 0, none⟩ = some (.slice ad nn cap) ∧ w'.frozen? ⟨b, 0, none⟩ = false from ⟨(k.cell (p := ⟨b, 0, none⟩) hR.lt).trans r0, by
    obtain ⟨v, q1, _⟩ := hR.got
    exact free_of_heap ((k.block _ (heap_lt q1)).trans q1)⟩)
  have HA := Lib.hid r2
  have HN := Lib.hid hnn
  have HR := Lib.hid hR
  have hcp := r2.max
  have hfit := r2.fits
  have SRT := Lib.hid (fun w => srt_is t w)
  rw [hs] at SRT
  clear hR r0 r1 r2 hnn hf h hs ha GS GR hds hdr
  have W0 := Lib.hid (Below.refl w.heap.size w)
  go_enter Tryd.func11, Tryd.ntmps11
  go_wp2_with fail
  refine (SRT.out _).mono ?_
  rintro e w8 ⟨rfl, hw⟩
  obtain rfl := hw.symm
  have HFULL := Lib.hid (fun hh => HFULL0.out riv_none hh)
  have HPUT := Lib.hid (fun hh => HPUT0.out riv_none hh)
  have BV := W0
  clear HRIV HFULL0 HPUT0 W0
  by_cases hfull : 256 ≤ nn
  · have hfi : (256 : Int) ≤ (nn : Int) := by omega
    obtain ⟨r8, r9⟩ := HFR.out _ BV.out
    have FV := Lib.hid (FS.out _ BV.out)
    cases hin : (fnd L n 1).isSome
    · have hz : ps = 0 := by have h1 := HQS.out.1; have h2 := HQS.out.2; rw [hin] at h2; simp at h2; omega
      subst hz
      go_wp2_with fail
      refine FV.out.mono ?_
      rintro e w2 ⟨rfl, b2⟩
      have B2 := Lib.hid (bt BV.out b2)
      clear b2 r8 r9
      go_wp2_with fail
      go_ret
      exact RPost.same HR.out B2.out (by rw [HFULL.out ⟨by have := HN.out; omega, hin⟩]; rfl) (by rw [HFULL.out ⟨by have := HN.out; omega, hin⟩])
    · have hz : ¬ ps = 0 := by have h1 := HQS.out.1; have h2 := HQS.out.2; rw [hin] at h2; simp at h2; omega
      have hzb : (ps == 0) = false := by simpa using hz
      clear hz
      go_wp2_with fail
      refine FV.out.mono ?_
      rintro e w2 ⟨rfl, b2⟩
      have BT := Lib.hid (bt BV.out b2)
      clear b2 r8 r9
      obtain ⟨r8, r9⟩ := HFR.out _ BT.out
      go_wp2_with fail
      clear r8 r9
      go_loopw [95, 10] (fun v sl wr => ∃ i : Nat, i ≤ nn ∧ v = .int .i64 i ∧ Hid (wr.ownsRow w2.heap.size 29 3 sl (rmv (L.take i) n 1).length (cellsD (rmv (L.take i) n 1))) ∧ Hid (Below w2.heap.size w2 wr)) (fun v _ _ => nn - (intOf v).toNat)
      case atStart => exact ⟨0, by omega, rfl, Lib.hid (World.ownsRow_nil _ _ _ _), Lib.hid (Below.refl _ _)⟩
      case round =>
        obtain ⟨i, hi, rfl, HO, HB⟩ := hrel
        by_cases hlt : i < nn
        · obtain ⟨d, hd⟩ : ∃ d, L[i]? = some d := ⟨_, List.getElem?_eq_getElem (by rw [HN.out]; exact hlt)⟩
          obtain rfl := HA.out.at' (by omega)
          obtain ⟨c0, c1, c2⟩ := (HA.out.on (bt BT.out HB.out)).mem i d hd
          simp only [Nat.zero_add] at c0 c1 c2
          have HYES := Lib.hid (rmv_yes (n := n) (s := 1) hd)
          have HNO := Lib.hid (rmv_no (n := n) (s := 1) hd)
          have i0 : (0 : Int) ≤ (i : Int) := by omega
          have i1 : (i : Int) < (nn : Int) := by omega
          obtain ⟨ad', cap', hs⟩ := owns_slice HO.out
          subst hs
          obtain ⟨kk, hkk⟩ : ∃ kk, (rmv (L.take i) n 1).length = kk := ⟨_, rfl⟩
          have hkk' : kk ≤ 256 := by
            have h1 := rmv_len (L.take i) n 1
            rw [List.length_take] at h1
            omega
          rw [hkk] at HO ⊢
          have K4 : Below wr.heap.size wr (wr.alloc (.cells #[.int .i64 d.pri, .int .i64 d.typ, .string d.name] 29)) := (Below.refl _ _).alloc (Nat.le_refl _) _
          have O4 := Lib.hid (row_same HO.out K4)
          have B4 := Lib.hid (HB.out.trans (K4.mono HB.out.size))
          have N4 : (wr.alloc (.cells #[.int .i64 d.pri, .int .i64 d.typ, .string d.name] 29)).heap[wr.heap.size]? = some (.cells #[.int .i64 d.pri, .int .i64 d.typ, .string d.name] 29 (0, 0)) := new_at _ _ rfl
          obtain ⟨d0, d1, d2, _, _, _⟩ := (Three.mk N4).facts
          have NEWS := Lib.hid (def_news d 29)
          have ONE := Lib.hid (def_one d)
          have HKK := Lib.hid hkk
          have hbk : ∀ B, (Value.slice ad' kk cap').ownBlock = some B → w2.heap.size ≤ B := by
            intro B hB
            obtain ⟨_, ⟨h1, _⟩ | ⟨g0, cap0, _, h1, h2, _⟩⟩ := HO.out
            · cases h1; cases hB
            · cases h1; cases hB; exact h2
          have HBK := Lib.hid hbk
          obtain ⟨p', k', nm'⟩ := d
          simp only at c0 c1 c2 d0 d1 d2
          clear hd N4 K4 hkk hbk
          cases hqe : (nm'.toList == n.toList)
          · go_wp2_with (at_builtin; refine wpList_append_lies _ rfl (.tmp 110) (.tmp 112) 22 rfl w2.heap.size 29 ix (.agg #[.int .i64 0, .int .i64 0, .string ⟨#[]⟩]) 3 32 Tryd.underlying22 hi0 hz0 hz1 hz2 rfl (by decide) _ _ _ rfl (O4.out.alloc _) ⟨wr.heap.size + 1, 0, none⟩ 1 1 [.int .i64 p', .int .i64 k', .string nm'] rfl rfl (NEWS.out _ _ (by simp)) ONE.out (by omega) ?_ ?_ ?_ (wr.heap.size + 2) (by simp) ?_)
            · unfold maxLen; omega
            · omega
            · have := B4.out.size; simp at this ⊢; omega
            intro g' cap'' w8 hown8 hgrow8 hat8 hlt8
            have hyes := HYES.out (by simp [Df.is, hqe]; try assumption)
            have OW := Lib.hid (show w8.ownsRow w2.heap.size 29 3 (.slice (some ⟨g', 0, none⟩) (kk + 1) cap'') (rmv (L.take (i + 1)) n 1).length (cellsD (rmv (L.take (i + 1)) n 1)) from by
              rw [hyes, List.length_append, HKK.out, cellsD_app]
              exact hown8)
            have BW := Lib.hid (show Below w2.heap.size w2 w8 from (B4.out.alloc B4.out.size _).grown hgrow8 (by have := B4.out.size; simp at this ⊢; omega) HBK.out)
            clear hown8 hgrow8 hat8 hlt8 NEWS ONE O4 B4 HO HB hyes
            go_wp2_with fail
            go_roundw
            case rel => exact ⟨i + 1, by omega, by go_num, OW, BW⟩
            case measure => simp [intOf]; omega
          · cases hse : (srt k' == 1)
            · have hse' : ¬ srt k' = 1 := by simpa using hse
              go_wp2_with fail
              refine (srt_is k' _).mono ?_
              rintro e w8 ⟨rfl, hw⟩
              obtain rfl := hw.symm
              go_wp2_with (at_builtin; refine wpList_append_lies _ rfl (.tmp 110) (.tmp 112) 22 rfl w2.heap.size 29 ix (.agg #[.int .i64 0, .int .i64 0, .string ⟨#[]⟩]) 3 32 Tryd.underlying22 hi0 hz0 hz1 hz2 rfl (by decide) _ _ _ rfl (O4.out.alloc _) ⟨wr.heap.size + 1, 0, none⟩ 1 1 [.int .i64 p', .int .i64 k', .string nm'] rfl rfl (NEWS.out _ _ (by simp)) ONE.out (by omega) ?_ ?_ ?_ (wr.heap.size + 2) (by simp) ?_)
              · unfold maxLen; omega
              · omega
              · have := B4.out.size; simp at this ⊢; omega
              intro g' cap'' w8 hown8 hgrow8 hat8 hlt8
              have hyes := HYES.out (by simp [Df.is, hqe]; try assumption)
              have OW := Lib.hid (show w8.ownsRow w2.heap.size 29 3 (.slice (some ⟨g', 0, none⟩) (kk + 1) cap'') (rmv (L.take (i + 1)) n 1).length (cellsD (rmv (L.take (i + 1)) n 1)) from by
                rw [hyes, List.length_append, HKK.out, cellsD_app]
                exact hown8)
              have BW := Lib.hid (show Below w2.heap.size w2 w8 from (B4.out.alloc B4.out.size _).grown hgrow8 (by have := B4.out.size; simp at this ⊢; omega) HBK.out)
              clear hown8 hgrow8 hat8 hlt8 NEWS ONE O4 B4 HO HB hyes
              go_wp2_with fail
              go_roundw
              case rel => exact ⟨i + 1, by omega, by go_num, OW, BW⟩
              case measure => simp [intOf]; omega
            · have hse' : srt k' = 1 := by simpa using hse
              have hno := HNO.out (by simp [Df.is, hqe, hse])
              go_wp2_with fail
              refine (srt_is k' _).mono ?_
              rintro e w8 ⟨rfl, hw⟩
              obtain rfl := hw.symm
              go_wp2_with fail
              go_roundw
              case rel => exact ⟨i + 1, by omega, by go_num, Lib.hid (by rw [hno, HKK.out]; exact O4.out), B4⟩
              case measure => simp [intOf]; omega
        · obtain rfl : i = nn := by omega
          have htk : L.take i = L := List.take_of_length_le (by rw [HN.out]; exact Nat.le_refl _)
          rw [htk] at HO
          have HB9 := Lib.hid (bt BT.out HB.out)
          obtain ⟨r8, r9⟩ := HFR.out _ HB9.out
          obtain ⟨ad', cap', hs⟩ := owns_slice HO.out
          subst hs
          obtain ⟨kk, hkk⟩ : ∃ kk, (rmv L n 1).length = kk := ⟨_, rfl⟩
          have HKK := Lib.hid hkk
          have hkk' : kk ≤ 256 := by
            have h1 := rmv_len L n 1
            have h2 := HN.out
            omega
          rw [hkk] at HO ⊢
          clear hkk htk
          go_wp2_with (at_builtin; refine wpList_append_lies _ rfl (.tmp 117) (.tmp 122) 22 rfl w2.heap.size 29 ix (.agg #[.int .i64 0, .int .i64 0, .string ⟨#[]⟩]) 3 32 Tryd.underlying22 hi0 hz0 hz1 hz2 rfl (by decide) _ _ _ rfl (HO.out.alloc _) ⟨wr.heap.size, 0, none⟩ 1 1 [.int .i64 p, .int .i64 t, .string n] rfl rfl (NEWSP.out _ _ rfl) ONEP.out (by omega) ?_ ?_ ?_ (wr.heap.size + 1) (by simp) ?_)
          · unfold maxLen; omega
          · omega
          · have := HB.out.size; simp at this ⊢; omega
          intro g' cap'' w8 hown8 hgrow8 hat8 hlt8
          have hbk : ∀ B, (Value.slice ad' kk cap').ownBlock = some B → w.heap.size ≤ B := by
            intro B hB
            obtain ⟨_, ⟨h1, _⟩ | ⟨g0, cap0, _, h1, h2, _⟩⟩ := HO.out
            · cases h1; cases hB
            · cases h1; cases hB; exact Nat.le_trans BT.out.size h2
          have BW := Lib.hid (show Below w.heap.size w w8 from (HB9.out.alloc HB9.out.size _).grown hgrow8 (by have := HB9.out.size; simp at this ⊢; omega) hbk)
          have OW := Lib.hid (show w8.ownsRow w2.heap.size 29 3 (.slice (some ⟨g', 0, none⟩) (kk + 1) cap'') (ins L ⟨p, t, n⟩).length (cellsD (ins L ⟨p, t, n⟩)) from by
            unfold ins
            rw [HS.out, List.length_append, HKK.out, cellsD_app]
            exact hown8)
          obtain ⟨r8', r9'⟩ := HFR.out _ BW.out
          clear hown8 hgrow8 hat8 hlt8 hbk r8 r9 NEWSP ONEP
          go_wp2_with fail
          go_ret
          refine ⟨by rw [HPUT.out (fun h => by rw [hin] at h; exact absurd h.2 (by decide))]; rfl, ?_, grown_set BW.out⟩
          rw [HPUT.out (fun h => by rw [hin] at h; exact absurd h.2 (by decide))]
          exact rt_set BW.out HR.out OW.out (by have := HR.out.lt; have := BT.out.size; omega) (HR.out.wf.ins HFIT.out)
  · have hfi : ¬ (256 : Int) ≤ (nn : Int) := by omega
    obtain ⟨r8, r9⟩ := HFR.out _ BV.out
    have BT := BV
    go_wp2_with fail
    clear r8 r9
    go_loopw [95, 10] (fun v sl wr => ∃ i : Nat, i ≤ nn ∧ v = .int .i64 i ∧ Hid (wr.ownsRow w.heap.size 29 3 sl (rmv (L.take i) n 1).length (cellsD (rmv (L.take i) n 1))) ∧ Hid (Below w.heap.size w wr)) (fun v _ _ => nn - (intOf v).toNat)
    case atStart => exact ⟨0, by omega, rfl, Lib.hid (World.ownsRow_nil _ _ _ _), Lib.hid (Below.refl _ _)⟩
    case round =>
      obtain ⟨i, hi, rfl, HO, HB⟩ := hrel
      by_cases hlt : i < nn
      · obtain ⟨d, hd⟩ : ∃ d, L[i]? = some d := ⟨_, List.getElem?_eq_getElem (by rw [HN.out]; exact hlt)⟩
        obtain rfl := HA.out.at' (by omega)
        obtain ⟨c0, c1, c2⟩ := (HA.out.on (bt BT.out HB.out)).mem i d hd
        simp only [Nat.zero_add] at c0 c1 c2
        have HYES := Lib.hid (rmv_yes (n := n) (s := 1) hd)
        have HNO := Lib.hid (rmv_no (n := n) (s := 1) hd)
        have i0 : (0 : Int) ≤ (i : Int) := by omega
        have i1 : (i : Int) < (nn : Int) := by omega
        obtain ⟨ad', cap', hs⟩ := owns_slice HO.out
        subst hs
        obtain ⟨kk, hkk⟩ : ∃ kk, (rmv (L.take i) n 1).length = kk := ⟨_, rfl⟩
        have hkk' : kk ≤ 256 := by
          have h1 := rmv_len (L.take i) n 1
          rw [List.length_take] at h1
          omega
        rw [hkk] at HO ⊢
        have K4 : Below wr.heap.size wr (wr.alloc (.cells #[.int .i64 d.pri, .int .i64 d.typ, .string d.name] 29)) := (Below.refl _ _).alloc (Nat.le_refl _) _
        have O4 := Lib.hid (row_same HO.out K4)
        have B4 := Lib.hid (HB.out.trans (K4.mono HB.out.size))
        have N4 : (wr.alloc (.cells #[.int .i64 d.pri, .int .i64 d.typ, .string d.name] 29)).heap[wr.heap.size]? = some (.cells #[.int .i64 d.pri, .int .i64 d.typ, .string d.name] 29 (0, 0)) := new_at _ _ rfl
        obtain ⟨d0, d1, d2, _, _, _⟩ := (Three.mk N4).facts
        have NEWS := Lib.hid (def_news d 29)
        have ONE := Lib.hid (def_one d)
        have HKK := Lib.hid hkk
        have hbk : ∀ B, (Value.slice ad' kk cap').ownBlock = some B → w.heap.size ≤ B := by
          intro B hB
          obtain ⟨_, ⟨h1, _⟩ | ⟨g0, cap0, _, h1, h2, _⟩⟩ := HO.out
          · cases h1; cases hB
          · cases h1; cases hB; exact h2
        have HBK := Lib.hid hbk
        obtain ⟨p', k', nm'⟩ := d
        simp only at c0 c1 c2 d0 d1 d2
        clear hd N4 K4 hkk hbk
        cases hqe : (nm'.toList == n.toList)
        · go_wp2_with (at_builtin; refine wpList_append_lies _ rfl (.tmp 110) (.tmp 112) 22 rfl w.heap.size 29 ix (.agg #[.int .i64 0, .int .i64 0, .string ⟨#[]⟩]) 3 32 Tryd.underlying22 hi0 hz0 hz1 hz2 rfl (by decide) _ _ _ rfl (O4.out.alloc _) ⟨wr.heap.size + 1, 0, none⟩ 1 1 [.int .i64 p', .int .i64 k', .string nm'] rfl rfl (NEWS.out _ _ (by simp)) ONE.out (by omega) ?_ ?_ ?_ (wr.heap.size + 2) (by simp) ?_)
          · unfold maxLen; omega
          · omega
          · have := B4.out.size; simp at this ⊢; omega
          intro g' cap'' w8 hown8 hgrow8 hat8 hlt8
          have hyes := HYES.out (by simp [Df.is, hqe]; try assumption)
          have OW := Lib.hid (show w8.ownsRow w.heap.size 29 3 (.slice (some ⟨g', 0, none⟩) (kk + 1) cap'') (rmv (L.take (i + 1)) n 1).length (cellsD (rmv (L.take (i + 1)) n 1)) from by
            rw [hyes, List.length_append, HKK.out, cellsD_app]
            exact hown8)
          have BW := Lib.hid (show Below w.heap.size w w8 from (B4.out.alloc B4.out.size _).grown hgrow8 (by have := B4.out.size; simp at this ⊢; omega) HBK.out)
          clear hown8 hgrow8 hat8 hlt8 NEWS ONE O4 B4 HO HB hyes
          go_wp2_with fail
          go_roundw
          case rel => exact ⟨i + 1, by omega, by go_num, OW, BW⟩
          case measure => simp [intOf]; omega
        · cases hse : (srt k' == 1)
          · have hse' : ¬ srt k' = 1 := by simpa using hse
            go_wp2_with fail
            refine (srt_is k' _).mono ?_
            rintro e w8 ⟨rfl, hw⟩
            obtain rfl := hw.symm
            go_wp2_with (at_builtin; refine wpList_append_lies _ rfl (.tmp 110) (.tmp 112) 22 rfl w.heap.size 29 ix (.agg #[.int .i64 0, .int .i64 0, .string ⟨#[]⟩]) 3 32 Tryd.underlying22 hi0 hz0 hz1 hz2 rfl (by decide) _ _ _ rfl (O4.out.alloc _) ⟨wr.heap.size + 1, 0, none⟩ 1 1 [.int .i64 p', .int .i64 k', .string nm'] rfl rfl (NEWS.out _ _ (by simp)) ONE.out (by omega) ?_ ?_ ?_ (wr.heap.size + 2) (by simp) ?_)
            · unfold maxLen; omega
            · omega
            · have := B4.out.size; simp at this ⊢; omega
            intro g' cap'' w8 hown8 hgrow8 hat8 hlt8
            have hyes := HYES.out (by simp [Df.is, hqe]; try assumption)
            have OW := Lib.hid (show w8.ownsRow w.heap.size 29 3 (.slice (some ⟨g', 0, none⟩) (kk + 1) cap'') (rmv (L.take (i + 1)) n 1).length (cellsD (rmv (L.take (i + 1)) n 1)) from by
              rw [hyes, List.length_append, HKK.out, cellsD_app]
              exact hown8)
            have BW := Lib.hid (show Below w.heap.size w w8 from (B4.out.alloc B4.out.size _).grown hgrow8 (by have := B4.out.size; simp at this ⊢; omega) HBK.out)
            clear hown8 hgrow8 hat8 hlt8 NEWS ONE O4 B4 HO HB hyes
            go_wp2_with fail
            go_roundw
            case rel => exact ⟨i + 1, by omega, by go_num, OW, BW⟩
            case measure => simp [intOf]; omega
          · have hse' : srt k' = 1 := by simpa using hse
            have hno := HNO.out (by simp [Df.is, hqe, hse])
            go_wp2_with fail
            refine (srt_is k' _).mono ?_
            rintro e w8 ⟨rfl, hw⟩
            obtain rfl := hw.symm
            go_wp2_with fail
            go_roundw
            case rel => exact ⟨i + 1, by omega, by go_num, Lib.hid (by rw [hno, HKK.out]; exact O4.out), B4⟩
            case measure => simp [intOf]; omega
      · obtain rfl : i = nn := by omega
        have htk : L.take i = L := List.take_of_length_le (by rw [HN.out]; exact Nat.le_refl _)
        rw [htk] at HO
        have HB9 := Lib.hid (bt BT.out HB.out)
        obtain ⟨r8, r9⟩ := HFR.out _ HB9.out
        obtain ⟨ad', cap', hs⟩ := owns_slice HO.out
        subst hs
        obtain ⟨kk, hkk⟩ : ∃ kk, (rmv L n 1).length = kk := ⟨_, rfl⟩
        have HKK := Lib.hid hkk
        have hkk' : kk ≤ 256 := by
          have h1 := rmv_len L n 1
          have h2 := HN.out
          omega
        rw [hkk] at HO ⊢
        clear hkk htk
        go_wp2_with (at_builtin; refine wpList_append_lies _ rfl (.tmp 117) (.tmp 122) 22 rfl w.heap.size 29 ix (.agg #[.int .i64 0, .int .i64 0, .string ⟨#[]⟩]) 3 32 Tryd.underlying22 hi0 hz0 hz1 hz2 rfl (by decide) _ _ _ rfl (HO.out.alloc _) ⟨wr.heap.size, 0, none⟩ 1 1 [.int .i64 p, .int .i64 t, .string n] rfl rfl (NEWSP.out _ _ rfl) ONEP.out (by omega) ?_ ?_ ?_ (wr.heap.size + 1) (by simp) ?_)
        · unfold maxLen; omega
        · omega
        · have := HB.out.size; simp at this ⊢; omega
        intro g' cap'' w8 hown8 hgrow8 hat8 hlt8
        have hbk : ∀ B, (Value.slice ad' kk cap').ownBlock = some B → w.heap.size ≤ B := by
          intro B hB
          obtain ⟨_, ⟨h1, _⟩ | ⟨g0, cap0, _, h1, h2, _⟩⟩ := HO.out
          · cases h1; cases hB
          · cases h1; cases hB; exact Nat.le_trans BT.out.size h2
        have BW := Lib.hid (show Below w.heap.size w w8 from (HB9.out.alloc HB9.out.size _).grown hgrow8 (by have := HB9.out.size; simp at this ⊢; omega) hbk)
        have OW := Lib.hid (show w8.ownsRow w.heap.size 29 3 (.slice (some ⟨g', 0, none⟩) (kk + 1) cap'') (ins L ⟨p, t, n⟩).length (cellsD (ins L ⟨p, t, n⟩)) from by
          unfold ins
          rw [HS.out, List.length_append, HKK.out, cellsD_app]
          exact hown8)
        obtain ⟨r8', r9'⟩ := HFR.out _ BW.out
        clear hown8 hgrow8 hat8 hlt8 hbk r8 r9 NEWSP ONEP
        go_wp2_with fail
        go_ret
        refine ⟨by rw [HPUT.out (fun h => by have := HN.out; omega)]; rfl, ?_, grown_set BW.out⟩
        rw [HPUT.out (fun h => by have := HN.out; omega)]
        exact rt_set BW.out HR.out OW.out (by have := HR.out.lt; have := BT.out.size; omega) (HR.out.wf.ins HFIT.out)

set_option maxRecDepth 100000 in
set_option maxHeartbeats 6400000 in
theorem rop_pos2 (b : Nat) (L : List Df) (p t : Int) (n : ByteArray) (w : World) (hR : Rt w b L) (h : ArgOK p t n) (hp : 0 < p) (hf : fixedB n = false) (ha : argB p t n = false) (hL : L.length ≤ 256) (hs : srt t = 2) :
    Calls Tryd.prog 11 #[.pointer (some ⟨b, 0, none⟩), .int .i64 p, .int .i64 t, .string n] w (RPost w b L ⟨p, t, n⟩) := by
  have h1 : ¬ p < 0 := by omega
  have h2 : ¬ 1200 < p := by have := h.p1; omega
  have h3 : ¬ t < 1 := by have := h.t0; omega
  have h4 : ¬ 7 < t := by have := h.t1; omega
  have h6 : decide ((1000 : Int) < (n.size : Int)) = false := by have := h.n0; simp; omega
  have HS := Lib.hid hs
  have HRIV := Lib.hid (fun hr => oz_rival (L := L) (d := ⟨p, t, n⟩) ha hf (by simp only; omega) hr)
  have HFULL0 := Lib.hid (fun hr hh => oz_full (L := L) (d := ⟨p, t, n⟩) ha hf (by simp only; omega) hr hh)
  have HPUT0 := Lib.hid (fun hr hh => oz_put (L := L) (d := ⟨p, t, n⟩) ha hf (by simp only; omega) hr hh)
  simp only [hs, riv2] at HRIV HFULL0 HPUT0
  have riv_none := fnd_zero L n
  have HFIT := Lib.hid (show FitD ⟨p, t, n⟩ from ⟨by simp only; omega, h.p1, h.t0, h.t1, h.n0⟩)
  have NEWSP := Lib.hid (def_news ⟨p, t, n⟩ 29)
  have ONEP := Lib.hid (def_one ⟨p, t, n⟩)
  simp only at NEWSP ONEP
  unfold fixedB at hf
  obtain ⟨⟨⟨g1, g2⟩, g3⟩, g4⟩ : (((n.toList == [44]) = false ∧ (n.toList == [124]) = false) ∧ (n.toList == [91, 93]) = false) ∧ (n.toList == [123, 125]) = false := by simpa only [Bool.or_eq_false_iff] using hf
  obtain ⟨ix, hi0, hz0, hz1, hz2⟩ := info_ref
  obtain ⟨ad, cap, B, r0, r1, r2, _⟩ := hR.facts
  have FS := Lib.hid (fun w' (k : Below w.heap.size w w') => rfind_is b L n 2 w' (hR.on k) (by omega))
  have FR := Lib.hid (fun w' (k : Below w.heap.size w w') => rfind_is b L n 3 w' (hR.on k) (by omega))
  have GS := fz_fit hR.wf n 2
  have GR := fz_fit hR.wf n 3
  obtain ⟨ds, hds⟩ : ∃ d, fz L n 2 = d := ⟨_, rfl⟩
  obtain ⟨dr, hdr⟩ : ∃ d, fz L n 3 = d := ⟨_, rfl⟩
  rw [hds] at FS GS
  rw [hdr] at FR GR
  obtain ⟨ps, ts, xs⟩ := ds
  obtain ⟨pr, tr, xr⟩ := dr
  have HQS := Lib.hid (And.intro GS.p0 GS.any)
  have HQR := Lib.hid GR.any
  simp only at FS FR HQS HQR
  have es := fun w => field0 ps ts xs w
  have er := fun w => field0 pr tr xr w
  obtain ⟨nn, hnn⟩ : ∃ nn, L.length = nn := ⟨_, rfl⟩
  rw [hnn] at r0 r2 hL
  have HFR := Lib.hid (fun w' (k : Below w.heap.size w w') => show w'.cell? ⟨b, 0, none⟩ = some (.slice ad nn cap) ∧ w'.frozen? ⟨b, 0, none⟩ = false from ⟨(k.cell (p := ⟨b, 0, none⟩) hR.lt).trans r0, by
    obtain ⟨v, q1, _⟩ := hR.got
    exact free_of_heap ((k.block _ (heap_lt q1)).trans q1)⟩)
  have HA := Lib.hid r2
  have HN := Lib.hid hnn
  have HR := Lib.hid hR
  have hcp := r2.max
  have hfit := r2.fits
  have SRT := Lib.hid (fun w => srt_is t w)
  rw [hs] at SRT
  clear hR r0 r1 r2 hnn hf h hs ha GS GR hds hdr
  have W0 := Lib.hid (Below.refl w.heap.size w)
  go_enter Tryd.func11, Tryd.ntmps11
  go_wp2_with fail
  refine (SRT.out _).mono ?_
  rintro e w8 ⟨rfl, hw⟩
  obtain rfl := hw.symm
  go_wp2_with fail
  refine (FR.out _ W0.out).mono ?_
  rintro e wv ⟨rfl, bv⟩
  have BV := Lib.hid (bt W0.out bv)
  clear bv
  cases hr : (fnd L n 3).isSome
  · have qr : ¬ 0 < pr := by have h2 := HQR.out; rw [hr] at h2; simpa using h2
    have HFULL := Lib.hid (fun hh => HFULL0.out hr hh)
    have HPUT := Lib.hid (fun hh => HPUT0.out hr hh)
    clear HRIV HFULL0 HPUT0 W0
    by_cases hfull : 256 ≤ nn
    · have hfi : (256 : Int) ≤ (nn : Int) := by omega
      obtain ⟨r8, r9⟩ := HFR.out _ BV.out
      have FV := Lib.hid (FS.out _ BV.out)
      cases hin : (fnd L n 2).isSome
      · have hz : ps = 0 := by have h1 := HQS.out.1; have h2 := HQS.out.2; rw [hin] at h2; simp at h2; omega
        subst hz
        go_wp2_with fail
        refine FV.out.mono ?_
        rintro e w2 ⟨rfl, b2⟩
        have B2 := Lib.hid (bt BV.out b2)
        clear b2 r8 r9
        go_wp2_with fail
        go_ret
        exact RPost.same HR.out B2.out (by rw [HFULL.out ⟨by have := HN.out; omega, hin⟩]; rfl) (by rw [HFULL.out ⟨by have := HN.out; omega, hin⟩])
      · have hz : ¬ ps = 0 := by have h1 := HQS.out.1; have h2 := HQS.out.2; rw [hin] at h2; simp at h2; omega
        have hzb : (ps == 0) = false := by simpa using hz
        clear hz
        go_wp2_with fail
        refine FV.out.mono ?_
        rintro e w2 ⟨rfl, b2⟩
        have BT := Lib.hid (bt BV.out b2)
        clear b2 r8 r9
        obtain ⟨r8, r9⟩ := HFR.out _ BT.out
        go_wp2_with fail
        clear r8 r9
        go_loopw [95, 10] (fun v sl wr => ∃ i : Nat, i ≤ nn ∧ v = .int .i64 i ∧ Hid (wr.ownsRow w2.heap.size 29 3 sl (rmv (L.take i) n 2).length (cellsD (rmv (L.take i) n 2))) ∧ Hid (Below w2.heap.size w2 wr)) (fun v _ _ => nn - (intOf v).toNat)
        case atStart => exact ⟨0, by omega, rfl, Lib.hid (World.ownsRow_nil _ _ _ _), Lib.hid (Below.refl _ _)⟩
        case round =>
          obtain ⟨i, hi, rfl, HO, HB⟩ := hrel
          by_cases hlt : i < nn
          · obtain ⟨d, hd⟩ : ∃ d, L[i]? = some d := ⟨_, List.getElem?_eq_getElem (by rw [HN.out]; exact hlt)⟩
            obtain rfl := HA.out.at' (by omega)
            obtain ⟨c0, c1, c2⟩ := (HA.out.on (bt BT.out HB.out)).mem i d hd
            simp only [Nat.zero_add] at c0 c1 c2
            have HYES := Lib.hid (rmv_yes (n := n) (s := 2) hd)
            have HNO := Lib.hid (rmv_no (n := n) (s := 2) hd)
            have i0 : (0 : Int) ≤ (i : Int) := by omega
            have i1 : (i : Int) < (nn : Int) := by omega
            obtain ⟨ad', cap', hs⟩ := owns_slice HO.out
            subst hs
            obtain ⟨kk, hkk⟩ : ∃ kk, (rmv (L.take i) n 2).length = kk := ⟨_, rfl⟩
            have hkk' : kk ≤ 256 := by
              have h1 := rmv_len (L.take i) n 2
              rw [List.length_take] at h1
              omega
            rw [hkk] at HO ⊢
            have K4 : Below wr.heap.size wr (wr.alloc (.cells #[.int .i64 d.pri, .int .i64 d.typ, .string d.name] 29)) := (Below.refl _ _).alloc (Nat.le_refl _) _
            have O4 := Lib.hid (row_same HO.out K4)
            have B4 := Lib.hid (HB.out.trans (K4.mono HB.out.size))
            have N4 : (wr.alloc (.cells #[.int .i64 d.pri, .int .i64 d.typ, .string d.name] 29)).heap[wr.heap.size]? = some (.cells #[.int .i64 d.pri, .int .i64 d.typ, .string d.name] 29 (0, 0)) := new_at _ _ rfl
            obtain ⟨d0, d1, d2, _, _, _⟩ := (Three.mk N4).facts
            have NEWS := Lib.hid (def_news d 29)
            have ONE := Lib.hid (def_one d)
            have HKK := Lib.hid hkk
            have hbk : ∀ B, (Value.slice ad' kk cap').ownBlock = some B → w2.heap.size ≤ B := by
              intro B hB
              obtain ⟨_, ⟨h1, _⟩ | ⟨g0, cap0, _, h1, h2, _⟩⟩ := HO.out
              · cases h1; cases hB
              · cases h1; cases hB; exact h2
            have HBK := Lib.hid hbk
            obtain ⟨p', k', nm'⟩ := d
            simp only at c0 c1 c2 d0 d1 d2
            clear hd N4 K4 hkk hbk
            cases hqe : (nm'.toList == n.toList)
            · go_wp2_with (at_builtin; refine wpList_append_lies _ rfl (.tmp 110) (.tmp 112) 22 rfl w2.heap.size 29 ix (.agg #[.int .i64 0, .int .i64 0, .string ⟨#[]⟩]) 3 32 Tryd.underlying22 hi0 hz0 hz1 hz2 rfl (by decide) _ _ _ rfl (O4.out.alloc _) ⟨wr.heap.size + 1, 0, none⟩ 1 1 [.int .i64 p', .int .i64 k', .string nm'] rfl rfl (NEWS.out _ _ (by simp)) ONE.out (by omega) ?_ ?_ ?_ (wr.heap.size + 2) (by simp) ?_)
              · unfold maxLen; omega
              · omega
              · have := B4.out.size; simp at this ⊢; omega
              intro g' cap'' w8 hown8 hgrow8 hat8 hlt8
              have hyes := HYES.out (by simp [Df.is, hqe]; try assumption)
              have OW := Lib.hid (show w8.ownsRow w2.heap.size 29 3 (.slice (some ⟨g', 0, none⟩) (kk + 1) cap'') (rmv (L.take (i + 1)) n 2).length (cellsD (rmv (L.take (i + 1)) n 2)) from by
                rw [hyes, List.length_append, HKK.out, cellsD_app]
                exact hown8)
              have BW := Lib.hid (show Below w2.heap.size w2 w8 from (B4.out.alloc B4.out.size _).grown hgrow8 (by have := B4.out.size; simp at this ⊢; omega) HBK.out)
              clear hown8 hgrow8 hat8 hlt8 NEWS ONE O4 B4 HO HB hyes
              go_wp2_with fail
              go_roundw
              case rel => exact ⟨i + 1, by omega, by go_num, OW, BW⟩
              case measure => simp [intOf]; omega
            · cases hse : (srt k' == 2)
              · have hse' : ¬ srt k' = 2 := by simpa using hse
                go_wp2_with fail
                refine (srt_is k' _).mono ?_
                rintro e w8 ⟨rfl, hw⟩
                obtain rfl := hw.symm
                go_wp2_with (at_builtin; refine wpList_append_lies _ rfl (.tmp 110) (.tmp 112) 22 rfl w2.heap.size 29 ix (.agg #[.int .i64 0, .int .i64 0, .string ⟨#[]⟩]) 3 32 Tryd.underlying22 hi0 hz0 hz1 hz2 rfl (by decide) _ _ _ rfl (O4.out.alloc _) ⟨wr.heap.size + 1, 0, none⟩ 1 1 [.int .i64 p', .int .i64 k', .string nm'] rfl rfl (NEWS.out _ _ (by simp)) ONE.out (by omega) ?_ ?_ ?_ (wr.heap.size + 2) (by simp) ?_)
                · unfold maxLen; omega
                · omega
                · have := B4.out.size; simp at this ⊢; omega
                intro g' cap'' w8 hown8 hgrow8 hat8 hlt8
                have hyes := HYES.out (by simp [Df.is, hqe]; try assumption)
                have OW := Lib.hid (show w8.ownsRow w2.heap.size 29 3 (.slice (some ⟨g', 0, none⟩) (kk + 1) cap'') (rmv (L.take (i + 1)) n 2).length (cellsD (rmv (L.take (i + 1)) n 2)) from by
                  rw [hyes, List.length_append, HKK.out, cellsD_app]
                  exact hown8)
                have BW := Lib.hid (show Below w2.heap.size w2 w8 from (B4.out.alloc B4.out.size _).grown hgrow8 (by have := B4.out.size; simp at this ⊢; omega) HBK.out)
                clear hown8 hgrow8 hat8 hlt8 NEWS ONE O4 B4 HO HB hyes
                go_wp2_with fail
                go_roundw
                case rel => exact ⟨i + 1, by omega, by go_num, OW, BW⟩
                case measure => simp [intOf]; omega
              · have hse' : srt k' = 2 := by simpa using hse
                have hno := HNO.out (by simp [Df.is, hqe, hse])
                go_wp2_with fail
                refine (srt_is k' _).mono ?_
                rintro e w8 ⟨rfl, hw⟩
                obtain rfl := hw.symm
                go_wp2_with fail
                go_roundw
                case rel => exact ⟨i + 1, by omega, by go_num, Lib.hid (by rw [hno, HKK.out]; exact O4.out), B4⟩
                case measure => simp [intOf]; omega
          · obtain rfl : i = nn := by omega
            have htk : L.take i = L := List.take_of_length_le (by rw [HN.out]; exact Nat.le_refl _)
            rw [htk] at HO
            have HB9 := Lib.hid (bt BT.out HB.out)
            obtain ⟨r8, r9⟩ := HFR.out _ HB9.out
            obtain ⟨ad', cap', hs⟩ := owns_slice HO.out
            subst hs
            obtain ⟨kk, hkk⟩ : ∃ kk, (rmv L n 2).length = kk := ⟨_, rfl⟩
            have HKK := Lib.hid hkk
            have hkk' : kk ≤ 256 := by
              have h1 := rmv_len L n 2
              have h2 := HN.out
              omega
            rw [hkk] at HO ⊢
            clear hkk htk
            go_wp2_with (at_builtin; refine wpList_append_lies _ rfl (.tmp 117) (.tmp 122) 22 rfl w2.heap.size 29 ix (.agg #[.int .i64 0, .int .i64 0, .string ⟨#[]⟩]) 3 32 Tryd.underlying22 hi0 hz0 hz1 hz2 rfl (by decide) _ _ _ rfl (HO.out.alloc _) ⟨wr.heap.size, 0, none⟩ 1 1 [.int .i64 p, .int .i64 t, .string n] rfl rfl (NEWSP.out _ _ rfl) ONEP.out (by omega) ?_ ?_ ?_ (wr.heap.size + 1) (by simp) ?_)
            · unfold maxLen; omega
            · omega
            · have := HB.out.size; simp at this ⊢; omega
            intro g' cap'' w8 hown8 hgrow8 hat8 hlt8
            have hbk : ∀ B, (Value.slice ad' kk cap').ownBlock = some B → w.heap.size ≤ B := by
              intro B hB
              obtain ⟨_, ⟨h1, _⟩ | ⟨g0, cap0, _, h1, h2, _⟩⟩ := HO.out
              · cases h1; cases hB
              · cases h1; cases hB; exact Nat.le_trans BT.out.size h2
            have BW := Lib.hid (show Below w.heap.size w w8 from (HB9.out.alloc HB9.out.size _).grown hgrow8 (by have := HB9.out.size; simp at this ⊢; omega) hbk)
            have OW := Lib.hid (show w8.ownsRow w2.heap.size 29 3 (.slice (some ⟨g', 0, none⟩) (kk + 1) cap'') (ins L ⟨p, t, n⟩).length (cellsD (ins L ⟨p, t, n⟩)) from by
              unfold ins
              rw [HS.out, List.length_append, HKK.out, cellsD_app]
              exact hown8)
            obtain ⟨r8', r9'⟩ := HFR.out _ BW.out
            clear hown8 hgrow8 hat8 hlt8 hbk r8 r9 NEWSP ONEP
            go_wp2_with fail
            go_ret
            refine ⟨by rw [HPUT.out (fun h => by rw [hin] at h; exact absurd h.2 (by decide))]; rfl, ?_, grown_set BW.out⟩
            rw [HPUT.out (fun h => by rw [hin] at h; exact absurd h.2 (by decide))]
            exact rt_set BW.out HR.out OW.out (by have := HR.out.lt; have := BT.out.size; omega) (HR.out.wf.ins HFIT.out)
    · have hfi : ¬ (256 : Int) ≤ (nn : Int) := by omega
      obtain ⟨r8, r9⟩ := HFR.out _ BV.out
      have BT := BV
      go_wp2_with fail
      clear r8 r9
      go_loopw [95, 10] (fun v sl wr => ∃ i : Nat, i ≤ nn ∧ v = .int .i64 i ∧ Hid (wr.ownsRow wv.heap.size 29 3 sl (rmv (L.take i) n 2).length (cellsD (rmv (L.take i) n 2))) ∧ Hid (Below wv.heap.size wv wr)) (fun v _ _ => nn - (intOf v).toNat)
      case atStart => exact ⟨0, by omega, rfl, Lib.hid (World.ownsRow_nil _ _ _ _), Lib.hid (Below.refl _ _)⟩
      case round =>
        obtain ⟨i, hi, rfl, HO, HB⟩ := hrel
        by_cases hlt : i < nn
        · obtain ⟨d, hd⟩ : ∃ d, L[i]? = some d := ⟨_, List.getElem?_eq_getElem (by rw [HN.out]; exact hlt)⟩
          obtain rfl := HA.out.at' (by omega)
          obtain ⟨c0, c1, c2⟩ := (HA.out.on (bt BT.out HB.out)).mem i d hd
          simp only [Nat.zero_add] at c0 c1 c2
          have HYES := Lib.hid (rmv_yes (n := n) (s := 2) hd)
          have HNO := Lib.hid (rmv_no (n := n) (s := 2) hd)
          have i0 : (0 : Int) ≤ (i : Int) := by omega
          have i1 : (i : Int) < (nn : Int) := by omega
          obtain ⟨ad', cap', hs⟩ := owns_slice HO.out
          subst hs
          obtain ⟨kk, hkk⟩ : ∃ kk, (rmv (L.take i) n 2).length = kk := ⟨_, rfl⟩
          have hkk' : kk ≤ 256 := by
            have h1 := rmv_len (L.take i) n 2
            rw [List.length_take] at h1
            omega
          rw [hkk] at HO ⊢
          have K4 : Below wr.heap.size wr (wr.alloc (.cells #[.int .i64 d.pri, .int .i64 d.typ, .string d.name] 29)) := (Below.refl _ _).alloc (Nat.le_refl _) _
          have O4 := Lib.hid (row_same HO.out K4)
          have B4 := Lib.hid (HB.out.trans (K4.mono HB.out.size))
          have N4 : (wr.alloc (.cells #[.int .i64 d.pri, .int .i64 d.typ, .string d.name] 29)).heap[wr.heap.size]? = some (.cells #[.int .i64 d.pri, .int .i64 d.typ, .string d.name] 29 (0, 0)) := new_at _ _ rfl
          obtain ⟨d0, d1, d2, _, _, _⟩ := (Three.mk N4).facts
          have NEWS := Lib.hid (def_news d 29)
          have ONE := Lib.hid (def_one d)
          have HKK := Lib.hid hkk
          have hbk : ∀ B, (Value.slice ad' kk cap').ownBlock = some B → wv.heap.size ≤ B := by
            intro B hB
            obtain ⟨_, ⟨h1, _⟩ | ⟨g0, cap0, _, h1, h2, _⟩⟩ := HO.out
            · cases h1; cases hB
            · cases h1; cases hB; exact h2
          have HBK := Lib.hid hbk
          obtain ⟨p', k', nm'⟩ := d
          simp only at c0 c1 c2 d0 d1 d2
          clear hd N4 K4 hkk hbk
          cases hqe : (nm'.toList == n.toList)
          · go_wp2_with (at_builtin; refine wpList_append_lies _ rfl (.tmp 110) (.tmp 112) 22 rfl wv.heap.size 29 ix (.agg #[.int .i64 0, .int .i64 0, .string ⟨#[]⟩]) 3 32 Tryd.underlying22 hi0 hz0 hz1 hz2 rfl (by decide) _ _ _ rfl (O4.out.alloc _) ⟨wr.heap.size + 1, 0, none⟩ 1 1 [.int .i64 p', .int .i64 k', .string nm'] rfl rfl (NEWS.out _ _ (by simp)) ONE.out (by omega) ?_ ?_ ?_ (wr.heap.size + 2) (by simp) ?_)
            · unfold maxLen; omega
            · omega
            · have := B4.out.size; simp at this ⊢; omega
            intro g' cap'' w8 hown8 hgrow8 hat8 hlt8
            have hyes := HYES.out (by simp [Df.is, hqe]; try assumption)
            have OW := Lib.hid (show w8.ownsRow wv.heap.size 29 3 (.slice (some ⟨g', 0, none⟩) (kk + 1) cap'') (rmv (L.take (i + 1)) n 2).length (cellsD (rmv (L.take (i + 1)) n 2)) from by
              rw [hyes, List.length_append, HKK.out, cellsD_app]
              exact hown8)
            have BW := Lib.hid (show Below wv.heap.size wv w8 from (B4.out.alloc B4.out.size _).grown hgrow8 (by have := B4.out.size; simp at this ⊢; omega) HBK.out)
            clear hown8 hgrow8 hat8 hlt8 NEWS ONE O4 B4 HO HB hyes
            go_wp2_with fail
            go_roundw
            case rel => exact ⟨i + 1, by omega, by go_num, OW, BW⟩
            case measure => simp [intOf]; omega
          · cases hse : (srt k' == 2)
            · have hse' : ¬ srt k' = 2 := by simpa using hse
              go_wp2_with fail
              refine (srt_is k' _).mono ?_
              rintro e w8 ⟨rfl, hw⟩
              obtain rfl := hw.symm
              go_wp2_with (at_builtin; refine wpList_append_lies _ rfl (.tmp 110) (.tmp 112) 22 rfl wv.heap.size 29 ix (.agg #[.int .i64 0, .int .i64 0, .string ⟨#[]⟩]) 3 32 Tryd.underlying22 hi0 hz0 hz1 hz2 rfl (by decide) _ _ _ rfl (O4.out.alloc _) ⟨wr.heap.size + 1, 0, none⟩ 1 1 [.int .i64 p', .int .i64 k', .string nm'] rfl rfl (NEWS.out _ _ (by simp)) ONE.out (by omega) ?_ ?_ ?_ (wr.heap.size + 2) (by simp) ?_)
              · unfold maxLen; omega
              · omega
              · have := B4.out.size; simp at this ⊢; omega
              intro g' cap'' w8 hown8 hgrow8 hat8 hlt8
              have hyes := HYES.out (by simp [Df.is, hqe]; try assumption)
              have OW := Lib.hid (show w8.ownsRow wv.heap.size 29 3 (.slice (some ⟨g', 0, none⟩) (kk + 1) cap'') (rmv (L.take (i + 1)) n 2).length (cellsD (rmv (L.take (i + 1)) n 2)) from by
                rw [hyes, List.length_append, HKK.out, cellsD_app]
                exact hown8)
              have BW := Lib.hid (show Below wv.heap.size wv w8 from (B4.out.alloc B4.out.size _).grown hgrow8 (by have := B4.out.size; simp at this ⊢; omega) HBK.out)
              clear hown8 hgrow8 hat8 hlt8 NEWS ONE O4 B4 HO HB hyes
              go_wp2_with fail
              go_roundw
              case rel => exact ⟨i + 1, by omega, by go_num, OW, BW⟩
              case measure => simp [intOf]; omega
            · have hse' : srt k' = 2 := by simpa using hse
              have hno := HNO.out (by simp [Df.is, hqe, hse])
              go_wp2_with fail
              refine (srt_is k' _).mono ?_
              rintro e w8 ⟨rfl, hw⟩
              obtain rfl := hw.symm
              go_wp2_with fail
              go_roundw
              case rel => exact ⟨i + 1, by omega, by go_num, Lib.hid (by rw [hno, HKK.out]; exact O4.out), B4⟩
              case measure => simp [intOf]; omega
        · obtain rfl : i = nn := by omega
          have htk : L.take i = L := List.take_of_length_le (by rw [HN.out]; exact Nat.le_refl _)
          rw [htk] at HO
          have HB9 := Lib.hid (bt BT.out HB.out)
          obtain ⟨r8, r9⟩ := HFR.out _ HB9.out
          obtain ⟨ad', cap', hs⟩ := owns_slice HO.out
          subst hs
          obtain ⟨kk, hkk⟩ : ∃ kk, (rmv L n 2).length = kk := ⟨_, rfl⟩
          have HKK := Lib.hid hkk
          have hkk' : kk ≤ 256 := by
            have h1 := rmv_len L n 2
            have h2 := HN.out
            omega
          rw [hkk] at HO ⊢
          clear hkk htk
          go_wp2_with (at_builtin; refine wpList_append_lies _ rfl (.tmp 117) (.tmp 122) 22 rfl wv.heap.size 29 ix (.agg #[.int .i64 0, .int .i64 0, .string ⟨#[]⟩]) 3 32 Tryd.underlying22 hi0 hz0 hz1 hz2 rfl (by decide) _ _ _ rfl (HO.out.alloc _) ⟨wr.heap.size, 0, none⟩ 1 1 [.int .i64 p, .int .i64 t, .string n] rfl rfl (NEWSP.out _ _ rfl) ONEP.out (by omega) ?_ ?_ ?_ (wr.heap.size + 1) (by simp) ?_)
          · unfold maxLen; omega
          · omega
          · have := HB.out.size; simp at this ⊢; omega
          intro g' cap'' w8 hown8 hgrow8 hat8 hlt8
          have hbk : ∀ B, (Value.slice ad' kk cap').ownBlock = some B → w.heap.size ≤ B := by
            intro B hB
            obtain ⟨_, ⟨h1, _⟩ | ⟨g0, cap0, _, h1, h2, _⟩⟩ := HO.out
            · cases h1; cases hB
            · cases h1; cases hB; exact Nat.le_trans BT.out.size h2
          have BW := Lib.hid (show Below w.heap.size w w8 from (HB9.out.alloc HB9.out.size _).grown hgrow8 (by have := HB9.out.size; simp at this ⊢; omega) hbk)
          have OW := Lib.hid (show w8.ownsRow wv.heap.size 29 3 (.slice (some ⟨g', 0, none⟩) (kk + 1) cap'') (ins L ⟨p, t, n⟩).length (cellsD (ins L ⟨p, t, n⟩)) from by
            unfold ins
            rw [HS.out, List.length_append, HKK.out, cellsD_app]
            exact hown8)
          obtain ⟨r8', r9'⟩ := HFR.out _ BW.out
          clear hown8 hgrow8 hat8 hlt8 hbk r8 r9 NEWSP ONEP
          go_wp2_with fail
          go_ret
          refine ⟨by rw [HPUT.out (fun h => by have := HN.out; omega)]; rfl, ?_, grown_set BW.out⟩
          rw [HPUT.out (fun h => by have := HN.out; omega)]
          exact rt_set BW.out HR.out OW.out (by have := HR.out.lt; have := BT.out.size; omega) (HR.out.wf.ins HFIT.out)
  · have qr : 0 < pr := by have h2 := HQR.out; rw [hr] at h2; simpa using h2
    go_wp2_with fail
    go_ret
    exact RPost.same HR.out BV.out (by rw [HRIV.out hr]; rfl) (by rw [HRIV.out hr])

set_option maxRecDepth 100000 in
set_option maxHeartbeats 6400000 in
theorem rop_pos3 (b : Nat) (L : List Df) (p t : Int) (n : ByteArray) (w : World) (hR : Rt w b L) (h : ArgOK p t n) (hp : 0 < p) (hf : fixedB n = false) (ha : argB p t n = false) (hL : L.length ≤ 256) (hs : srt t = 3) :
    Calls Tryd.prog 11 #[.pointer (some ⟨b, 0, none⟩), .int .i64 p, .int .i64 t, .string n] w (RPost w b L ⟨p, t, n⟩) := by
  have h1 : ¬ p < 0 := by omega
  have h2 : ¬ 1200 < p := by have := h.p1; omega
  have h3 : ¬ t < 1 := by have := h.t0; omega
  have h4 : ¬ 7 < t := by have := h.t1; omega
  have h6 : decide ((1000 : Int) < (n.size : Int)) = false := by have := h.n0; simp; omega
  have HS := Lib.hid hs
  have HRIV := Lib.hid (fun hr => oz_rival (L := L) (d := ⟨p, t, n⟩) ha hf (by simp only; omega) hr)
  have HFULL0 := Lib.hid (fun hr hh => oz_full (L := L) (d := ⟨p, t, n⟩) ha hf (by simp only; omega) hr hh)
  have HPUT0 := Lib.hid (fun hr hh => oz_put (L := L) (d := ⟨p, t, n⟩) ha hf (by simp only; omega) hr hh)
  simp only [hs, riv3] at HRIV HFULL0 HPUT0
  have riv_none := fnd_zero L n
  have HFIT := Lib.hid (show FitD ⟨p, t, n⟩ from ⟨by simp only; omega, h.p1, h.t0, h.t1, h.n0⟩)
  have NEWSP := Lib.hid (def_news ⟨p, t, n⟩ 29)
  have ONEP := Lib.hid (def_one ⟨p, t, n⟩)
  simp only at NEWSP ONEP
  unfold fixedB at hf
  obtain ⟨⟨⟨g1, g2⟩, g3⟩, g4⟩ : (((n.toList == [44]) = false ∧ (n.toList == [124]) = false) ∧ (n.toList == [91, 93]) = false) ∧ (n.toList == [123, 125]) = false := by simpa only [Bool.or_eq_false_iff] using hf
  obtain ⟨ix, hi0, hz0, hz1, hz2⟩ := info_ref
  obtain ⟨ad, cap, B, r0, r1, r2, _⟩ := hR.facts
  have FS := Lib.hid (fun w' (k : Below w.heap.size w w') => rfind_is b L n 3 w' (hR.on k) (by omega))
  have FR := Lib.hid (fun w' (k : Below w.heap.size w w') => rfind_is b L n 2 w' (hR.on k) (by omega))
  have GS := fz_fit hR.wf n 3
  have GR := fz_fit hR.wf n 2
  obtain ⟨ds, hds⟩ : ∃ d, fz L n 3 = d := ⟨_, rfl⟩
  obtain ⟨dr, hdr⟩ : ∃ d, fz L n 2 = d := ⟨_, rfl⟩
  rw [hds] at FS GS
  rw [hdr] at FR GR
  obtain ⟨ps, ts, xs⟩ := ds
  obtain ⟨pr, tr, xr⟩ := dr
  have HQS := Lib.hid (And.intro GS.p0 GS.any)
  have HQR := Lib.hid GR.any
  simp only at FS FR HQS HQR
  have es := fun w => field0 ps ts xs w
  have er := fun w => field0 pr tr xr w
  obtain ⟨nn, hnn⟩ : ∃ nn, L.length = nn := ⟨_, rfl⟩
  rw [hnn] at r0 r2 hL
  have HFR := Lib.hid (fun w' (k : Below w.heap.size w w') => show w'.cell? ⟨b, 0, none⟩ = some (.slice ad nn cap) ∧ w'.frozen? ⟨b, 0, none⟩ = false from ⟨(k.cell (p := ⟨b, 0, none⟩) hR.lt).trans r0, by
    obtain ⟨v, q1, _⟩ := hR.got
    exact free_of_heap ((k.block _ (heap_lt q1)).trans q1)⟩)
  have HA := Lib.hid r2
  have HN := Lib.hid hnn
  have HR := Lib.hid hR
  have hcp := r2.max
  have hfit := r2.fits
  have SRT := Lib.hid (fun w => srt_is t w)
  rw [hs] at SRT
  clear hR r0 r1 r2 hnn hf h hs ha GS GR hds hdr
  have W0 := Lib.hid (Below.refl w.heap.size w)
  go_enter Tryd.func11, Tryd.ntmps11
  go_wp2_with fail
  refine (SRT.out _).mono ?_
  rintro e w8 ⟨rfl, hw⟩
  obtain rfl := hw.symm
  go_wp2_with fail
  refine (FR.out _ W0.out).mono ?_
  rintro e wv ⟨rfl, bv⟩
  have BV := Lib.hid (bt W0.out bv)
  clear bv
  cases hr : (fnd L n 2).isSome
  · have qr : ¬ 0 < pr := by have h2 := HQR.out; rw [hr] at h2; simpa using h2
    have HFULL := Lib.hid (fun hh => HFULL0.out hr hh)
    have HPUT := Lib.hid (fun hh => HPUT0.out hr hh)
    clear HRIV HFULL0 HPUT0 W0
    by_cases hfull : 256 ≤ nn
    · have hfi : (256 : Int) ≤ (nn : Int) := by omega
      obtain ⟨r8, r9⟩ := HFR.out _ BV.out
      have FV := Lib.hid (FS.out _ BV.out)
      cases hin : (fnd L n 3).isSome
      · have hz : ps = 0 := by have h1 := HQS.out.1; have h2 := HQS.out.2; rw [hin] at h2; simp at h2; omega
        subst hz
        go_wp2_with fail
        refine FV.out.mono ?_
        rintro e w2 ⟨rfl, b2⟩
        have B2 := Lib.hid (bt BV.out b2)
        clear b2 r8 r9
        go_wp2_with fail
        go_ret
        exact RPost.same HR.out B2.out (by rw [HFULL.out ⟨by have := HN.out; omega, hin⟩]; rfl) (by rw [HFULL.out ⟨by have := HN.out; omega, hin⟩])
      · have hz : ¬ ps = 0 := by have h1 := HQS.out.1; have h2 := HQS.out.2; rw [hin] at h2; simp at h2; omega
        have hzb : (ps == 0) = false := by simpa using hz
        clear hz
        go_wp2_with fail
        refine FV.out.mono ?_
        rintro e w2 ⟨rfl, b2⟩
        have BT := Lib.hid (bt BV.out b2)
        clear b2 r8 r9
        obtain ⟨r8, r9⟩ := HFR.out _ BT.out
        go_wp2_with fail
        clear r8 r9
        go_loopw [95, 10] (fun v sl wr => ∃ i : Nat, i ≤ nn ∧ v = .int .i64 i ∧ Hid (wr.ownsRow w2.heap.size 29 3 sl (rmv (L.take i) n 3).length (cellsD (rmv (L.take i) n 3))) ∧ Hid (Below w2.heap.size w2 wr)) (fun v _ _ => nn - (intOf v).toNat)
        case atStart => exact ⟨0, by omega, rfl, Lib.hid (World.ownsRow_nil _ _ _ _), Lib.hid (Below.refl _ _)⟩
        case round =>
          obtain ⟨i, hi, rfl, HO, HB⟩ := hrel
          by_cases hlt : i < nn
          · obtain ⟨d, hd⟩ : ∃ d, L[i]? = some d := ⟨_, List.getElem?_eq_getElem (by rw [HN.out]; exact hlt)⟩
            obtain rfl := HA.out.at' (by omega)
            obtain ⟨c0, c1, c2⟩ := (HA.out.on (bt BT.out HB.out)).mem i d hd
            simp only [Nat.zero_add] at c0 c1 c2
            have HYES := Lib.hid (rmv_yes (n := n) (s := 3) hd)
            have HNO := Lib.hid (rmv_no (n := n) (s := 3) hd)
            have i0 : (0 : Int) ≤ (i : Int) := by omega
            have i1 : (i : Int) < (nn : Int) := by omega
            obtain ⟨ad', cap', hs⟩ := owns_slice HO.out
            subst hs
            obtain ⟨kk, hkk⟩ : ∃ kk, (rmv (L.take i) n 3).length = kk := ⟨_, rfl⟩
            have hkk' : kk ≤ 256 := by
              have h1 := rmv_len (L.take i) n 3
              rw [List.length_take] at h1
              omega
            rw [hkk] at HO ⊢
            have K4 : Below wr.heap.size wr (wr.alloc (.cells #[.int .i64 d.pri, .int .i64 d.typ, .string d.name] 29)) := (Below.refl _ _).alloc (Nat.le_refl _) _
            have O4 := Lib.hid (row_same HO.out K4)
            have B4 := Lib.hid (HB.out.trans (K4.mono HB.out.size))
            have N4 : (wr.alloc (.cells #[.int .i64 d.pri, .int .i64 d.typ, .string d.name] 29)).heap[wr.heap.size]? = some (.cells #[.int .i64 d.pri, .int .i64 d.typ, .string d.name] 29 (0, 0)) := new_at _ _ rfl
            obtain ⟨d0, d1, d2, _, _, _⟩ := (Three.mk N4).facts
            have NEWS := Lib.hid (def_news d 29)
            have ONE := Lib.hid (def_one d)
            have HKK := Lib.hid hkk
            have hbk : ∀ B, (Value.slice ad' kk cap').ownBlock = some B → w2.heap.size ≤ B := by
              intro B hB
              obtain ⟨_, ⟨h1, _⟩ | ⟨g0, cap0, _, h1, h2, _⟩⟩ := HO.out
              · cases h1; cases hB
              · cases h1; cases hB; exact h2
            have HBK := Lib.hid hbk
            obtain ⟨p', k', nm'⟩ := d
            simp only at c0 c1 c2 d0 d1 d2
            clear hd N4 K4 hkk hbk
            cases hqe : (nm'.toList == n.toList)
            · go_wp2_with (at_builtin; refine wpList_append_lies _ rfl (.tmp 110) (.tmp 112) 22 rfl w2.heap.size 29 ix (.agg #[.int .i64 0, .int .i64 0, .string ⟨#[]⟩]) 3 32 Tryd.underlying22 hi0 hz0 hz1 hz2 rfl (by decide) _ _ _ rfl (O4.out.alloc _) ⟨wr.heap.size + 1, 0, none⟩ 1 1 [.int .i64 p', .int .i64 k', .string nm'] rfl rfl (NEWS.out _ _ (by simp)) ONE.out (by omega) ?_ ?_ ?_ (wr.heap.size + 2) (by simp) ?_)
              · unfold maxLen; omega
              · omega
              · have := B4.out.size; simp at this ⊢; omega
              intro g' cap'' w8 hown8 hgrow8 hat8 hlt8
              have hyes := HYES.out (by simp [Df.is, hqe]; try assumption)
              have OW := Lib.hid (show w8.ownsRow w2.heap.size 29 3 (.slice (some ⟨g', 0, none⟩) (kk + 1) cap'') (rmv (L.take (i + 1)) n 3).length (cellsD (rmv (L.take (i + 1)) n 3)) from by
                rw [hyes, List.length_append, HKK.out, cellsD_app]
                exact hown8)
              have BW := Lib.hid (show Below w2.heap.size w2 w8 from (B4.out.alloc B4.out.size _).grown hgrow8 (by have := B4.out.size; simp at this ⊢; omega) HBK.out)
              clear hown8 hgrow8 hat8 hlt8 NEWS ONE O4 B4 HO HB hyes
              go_wp2_with fail
              go_roundw
              case rel => exact ⟨i + 1, by omega, by go_num, OW, BW⟩
              case measure => simp [intOf]; omega
            · cases hse : (srt k' == 3)
              · have hse' : ¬ srt k' = 3 := by simpa using hse
                go_wp2_with fail
                refine (srt_is k' _).mono ?_
                rintro e w8 ⟨rfl, hw⟩
                obtain rfl := hw.symm
                go_wp2_with (at_builtin; refine wpList_append_lies _ rfl (.tmp 110) (.tmp 112) 22 rfl w2.heap.size 29 ix (.agg #[.int .i64 0, .int .i64 0, .string ⟨#[]⟩]) 3 32 Tryd.underlying22 hi0 hz0 hz1 hz2 rfl (by decide) _ _ _ rfl (O4.out.alloc _) ⟨wr.heap.size + 1, 0, none⟩ 1 1 [.int .i64 p', .int .i64 k', .string nm'] rfl rfl (NEWS.out _ _ (by simp)) ONE.out (by omega) ?_ ?_ ?_ (wr.heap.size + 2) (by simp) ?_)
                · unfold maxLen; omega
                · omega
                · have := B4.out.size; simp at this ⊢; omega
                intro g' cap'' w8 hown8 hgrow8 hat8 hlt8
                have hyes := HYES.out (by simp [Df.is, hqe]; try assumption)
                have OW := Lib.hid (show w8.ownsRow w2.heap.size 29 3 (.slice (some ⟨g', 0, none⟩) (kk + 1) cap'') (rmv (L.take (i + 1)) n 3).length (cellsD (rmv (L.take (i + 1)) n 3)) from by
                  rw [hyes, List.length_append, HKK.out, cellsD_app]
                  exact hown8)
                have BW := Lib.hid (show Below w2.heap.size w2 w8 from (B4.out.alloc B4.out.size _).grown hgrow8 (by have := B4.out.size; simp at this ⊢; omega) HBK.out)
                clear hown8 hgrow8 hat8 hlt8 NEWS ONE O4 B4 HO HB hyes
                go_wp2_with fail
                go_roundw
                case rel => exact ⟨i + 1, by omega, by go_num, OW, BW⟩
                case measure => simp [intOf]; omega
              · have hse' : srt k' = 3 := by simpa using hse
                have hno := HNO.out (by simp [Df.is, hqe, hse])
                go_wp2_with fail
                refine (srt_is k' _).mono ?_
                rintro e w8 ⟨rfl, hw⟩
                obtain rfl := hw.symm
                go_wp2_with fail
                go_roundw
                case rel => exact ⟨i + 1, by omega, by go_num, Lib.hid (by rw [hno, HKK.out]; exact O4.out), B4⟩
                case measure => simp [intOf]; omega
          · obtain rfl : i = nn := by omega
            have htk : L.take i = L := List.take_of_length_le (by rw [HN.out]; exact Nat.le_refl _)
            rw [htk] at HO
            have HB9 := Lib.hid (bt BT.out HB.out)
            obtain ⟨r8, r9⟩ := HFR.out _ HB9.out
            obtain ⟨ad', cap', hs⟩ := owns_slice HO.out
            subst hs
            obtain ⟨kk, hkk⟩ : ∃ kk, (rmv L n 3).length = kk := ⟨_, rfl⟩
            have HKK := Lib.hid hkk
            have hkk' : kk ≤ 256 := by
              have h1 := rmv_len L n 3
              have h2 := HN.out
              omega
            rw [hkk] at HO ⊢
            clear hkk htk
            go_wp2_with (at_builtin; refine wpList_append_lies _ rfl (.tmp 117) (.tmp 122) 22 rfl w2.heap.size 29 ix (.agg #[.int .i64 0, .int .i64 0, .string ⟨#[]⟩]) 3 32 Tryd.underlying22 hi0 hz0 hz1 hz2 rfl (by decide) _ _ _ rfl (HO.out.alloc _) ⟨wr.heap.size, 0, none⟩ 1 1 [.int .i64 p, .int .i64 t, .string n] rfl rfl (NEWSP.out _ _ rfl) ONEP.out (by omega) ?_ ?_ ?_ (wr.heap.size + 1) (by simp) ?_)
            · unfold maxLen; omega
            · omega
            · have := HB.out.size; simp at this ⊢; omega
            intro g' cap'' w8 hown8 hgrow8 hat8 hlt8
            have hbk : ∀ B, (Value.slice ad' kk cap').ownBlock = some B → w.heap.size ≤ B := by
              intro B hB
              obtain ⟨_, ⟨h1, _⟩ | ⟨g0, cap0, _, h1, h2, _⟩⟩ := HO.out
              · cases h1; cases hB
              · cases h1; cases hB; exact Nat.le_trans BT.out.size h2
            have BW := Lib.hid (show Below w.heap.size w w8 from (HB9.out.alloc HB9.out.size _).grown hgrow8 (by have := HB9.out.size; simp at this ⊢; omega) hbk)
            have OW := Lib.hid (show w8.ownsRow w2.heap.size 29 3 (.slice (some ⟨g', 0, none⟩) (kk + 1) cap'') (ins L ⟨p, t, n⟩).length (cellsD (ins L ⟨p, t, n⟩)) from by
              unfold ins
              rw [HS.out, List.length_append, HKK.out, cellsD_app]
              exact hown8)
            obtain ⟨r8', r9'⟩ := HFR.out _ BW.out
            clear hown8 hgrow8 hat8 hlt8 hbk r8 r9 NEWSP ONEP
            go_wp2_with fail
            go_ret
            refine ⟨by rw [HPUT.out (fun h => by rw [hin] at h; exact absurd h.2 (by decide))]; rfl, ?_, grown_set BW.out⟩
            rw [HPUT.out (fun h => by rw [hin] at h; exact absurd h.2 (by decide))]
            exact rt_set BW.out HR.out OW.out (by have := HR.out.lt; have := BT.out.size; omega) (HR.out.wf.ins HFIT.out)
    · have hfi : ¬ (256 : Int) ≤ (nn : Int) := by omega
      obtain ⟨r8, r9⟩ := HFR.out _ BV.out
      have BT := BV
      go_wp2_with fail
      clear r8 r9
      go_loopw [95, 10] (fun v sl wr => ∃ i : Nat, i ≤ nn ∧ v = .int .i64 i ∧ Hid (wr.ownsRow wv.heap.size 29 3 sl (rmv (L.take i) n 3).length (cellsD (rmv (L.take i) n 3))) ∧ Hid (Below wv.heap.size wv wr)) (fun v _ _ => nn - (intOf v).toNat)
      case atStart => exact ⟨0, by omega, rfl, Lib.hid (World.ownsRow_nil _ _ _ _), Lib.hid (Below.refl _ _)⟩
      case round =>
        obtain ⟨i, hi, rfl, HO, HB⟩ := hrel
        by_cases hlt : i < nn
        · obtain ⟨d, hd⟩ : ∃ d, L[i]? = some d := ⟨_, List.getElem?_eq_getElem (by rw [HN.out]; exact hlt)⟩
          obtain rfl := HA.out.at' (by omega)
          obtain ⟨c0, c1, c2⟩ := (HA.out.on (bt BT.out HB.out)).mem i d hd
          simp only [Nat.zero_add] at c0 c1 c2
          have HYES := Lib.hid (rmv_yes (n := n) (s := 3) hd)
          have HNO := Lib.hid (rmv_no (n := n) (s := 3) hd)
          have i0 : (0 : Int) ≤ (i : Int) := by omega
          have i1 : (i : Int) < (nn : Int) := by omega
          obtain ⟨ad', cap', hs⟩ := owns_slice HO.out
          subst hs
          obtain ⟨kk, hkk⟩ : ∃ kk, (rmv (L.take i) n 3).length = kk := ⟨_, rfl⟩
          have hkk' : kk ≤ 256 := by
            have h1 := rmv_len (L.take i) n 3
            rw [List.length_take] at h1
            omega
          rw [hkk] at HO ⊢
          have K4 : Below wr.heap.size wr (wr.alloc (.cells #[.int .i64 d.pri, .int .i64 d.typ, .string d.name] 29)) := (Below.refl _ _).alloc (Nat.le_refl _) _
          have O4 := Lib.hid (row_same HO.out K4)
          have B4 := Lib.hid (HB.out.trans (K4.mono HB.out.size))
          have N4 : (wr.alloc (.cells #[.int .i64 d.pri, .int .i64 d.typ, .string d.name] 29)).heap[wr.heap.size]? = some (.cells #[.int .i64 d.pri, .int .i64 d.typ, .string d.name] 29 (0, 0)) := new_at _ _ rfl
          obtain ⟨d0, d1, d2, _, _, _⟩ := (Three.mk N4).facts
          have NEWS := Lib.hid (def_news d 29)
          have ONE := Lib.hid (def_one d)
          have HKK := Lib.hid hkk
          have hbk : ∀ B, (Value.slice ad' kk cap').ownBlock = some B → wv.heap.size ≤ B := by
            intro B hB
            obtain ⟨_, ⟨h1, _⟩ | ⟨g0, cap0, _, h1, h2, _⟩⟩ := HO.out
            · cases h1; cases hB
            · cases h1; cases hB; exact h2
          have HBK := Lib.hid hbk
          obtain ⟨p', k', nm'⟩ := d
          simp only at c0 c1 c2 d0 d1 d2
          clear hd N4 K4 hkk hbk
          cases hqe : (nm'.toList == n.toList)
          · go_wp2_with (at_builtin; refine wpList_append_lies _ rfl (.tmp 110) (.tmp 112) 22 rfl wv.heap.size 29 ix (.agg #[.int .i64 0, .int .i64 0, .string ⟨#[]⟩]) 3 32 Tryd.underlying22 hi0 hz0 hz1 hz2 rfl (by decide) _ _ _ rfl (O4.out.alloc _) ⟨wr.heap.size + 1, 0, none⟩ 1 1 [.int .i64 p', .int .i64 k', .string nm'] rfl rfl (NEWS.out _ _ (by simp)) ONE.out (by omega) ?_ ?_ ?_ (wr.heap.size + 2) (by simp) ?_)
            · unfold maxLen; omega
            · omega
            · have := B4.out.size; simp at this ⊢; omega
            intro g' cap'' w8 hown8 hgrow8 hat8 hlt8
            have hyes := HYES.out (by simp [Df.is, hqe]; try assumption)
            have OW := Lib.hid (show w8.ownsRow wv.heap.size 29 3 (.slice (some ⟨g', 0, none⟩) (kk + 1) cap'') (rmv (L.take (i + 1)) n 3).length (cellsD (rmv (L.take (i + 1)) n 3)) from by
              rw [hyes, List.length_append, HKK.out, cellsD_app]
              exact hown8)
            have BW := Lib.hid (show Below wv.heap.size wv w8 from (B4.out.alloc B4.out.size _).grown hgrow8 (by have := B4.out.size; simp at this ⊢; omega) HBK.out)
            clear hown8 hgrow8 hat8 hlt8 NEWS ONE O4 B4 HO HB hyes
            go_wp2_with fail
            go_roundw
            case rel => exact ⟨i + 1, by omega, by go_num, OW, BW⟩
            case measure => simp [intOf]; omega
          · cases hse : (srt k' == 3)
            · have hse' : ¬ srt k' = 3 := by simpa using hse
              go_wp2_with fail
              refine (srt_is k' _).mono ?_
              rintro e w8 ⟨rfl, hw⟩
              obtain rfl := hw.symm
              go_wp2_with (at_builtin; refine wpList_append_lies _ rfl (.tmp 110) (.tmp 112) 22 rfl wv.heap.size 29 ix (.agg #[.int .i64 0, .int .i64 0, .string ⟨#[]⟩]) 3 32 Tryd.underlying22 hi0 hz0 hz1 hz2 rfl (by decide) _ _ _ rfl (O4.out.alloc _) ⟨wr.heap.size + 1, 0, none⟩ 1 1 [.int .i64 p', .int .i64 k', .string nm'] rfl rfl (NEWS.out _ _ (by simp)) ONE.out (by omega) ?_ ?_ ?_ (wr.heap.size + 2) (by simp) ?_)
              · unfold maxLen; omega
              · omega
              · have := B4.out.size; simp at this ⊢; omega
              intro g' cap'' w8 hown8 hgrow8 hat8 hlt8
              have hyes := HYES.out (by simp [Df.is, hqe]; try assumption)
              have OW := Lib.hid (show w8.ownsRow wv.heap.size 29 3 (.slice (some ⟨g', 0, none⟩) (kk + 1) cap'') (rmv (L.take (i + 1)) n 3).length (cellsD (rmv (L.take (i + 1)) n 3)) from by
                rw [hyes, List.length_append, HKK.out, cellsD_app]
                exact hown8)
              have BW := Lib.hid (show Below wv.heap.size wv w8 from (B4.out.alloc B4.out.size _).grown hgrow8 (by have := B4.out.size; simp at this ⊢; omega) HBK.out)
              clear hown8 hgrow8 hat8 hlt8 NEWS ONE O4 B4 HO HB hyes
              go_wp2_with fail
              go_roundw
              case rel => exact ⟨i + 1, by omega, by go_num, OW, BW⟩
              case measure => simp [intOf]; omega
            · have hse' : srt k' = 3 := by simpa using hse
              have hno := HNO.out (by simp [Df.is, hqe, hse])
              go_wp2_with fail
              refine (srt_is k' _).mono ?_
              rintro e w8 ⟨rfl, hw⟩
              obtain rfl := hw.symm
              go_wp2_with fail
              go_roundw
              case rel => exact ⟨i + 1, by omega, by go_num, Lib.hid (by rw [hno, HKK.out]; exact O4.out), B4⟩
              case measure => simp [intOf]; omega
        · obtain rfl : i = nn := by omega
          have htk : L.take i = L := List.take_of_length_le (by rw [HN.out]; exact Nat.le_refl _)
          rw [htk] at HO
          have HB9 := Lib.hid (bt BT.out HB.out)
          obtain ⟨r8, r9⟩ := HFR.out _ HB9.out
          obtain ⟨ad', cap', hs⟩ := owns_slice HO.out
          subst hs
          obtain ⟨kk, hkk⟩ : ∃ kk, (rmv L n 3).length = kk := ⟨_, rfl⟩
          have HKK := Lib.hid hkk
          have hkk' : kk ≤ 256 := by
            have h1 := rmv_len L n 3
            have h2 := HN.out
            omega
          rw [hkk] at HO ⊢
          clear hkk htk
          go_wp2_with (at_builtin; refine wpList_append_lies _ rfl (.tmp 117) (.tmp 122) 22 rfl wv.heap.size 29 ix (.agg #[.int .i64 0, .int .i64 0, .string ⟨#[]⟩]) 3 32 Tryd.underlying22 hi0 hz0 hz1 hz2 rfl (by decide) _ _ _ rfl (HO.out.alloc _) ⟨wr.heap.size, 0, none⟩ 1 1 [.int .i64 p, .int .i64 t, .string n] rfl rfl (NEWSP.out _ _ rfl) ONEP.out (by omega) ?_ ?_ ?_ (wr.heap.size + 1) (by simp) ?_)
          · unfold maxLen; omega
          · omega
          · have := HB.out.size; simp at this ⊢; omega
          intro g' cap'' w8 hown8 hgrow8 hat8 hlt8
          have hbk : ∀ B, (Value.slice ad' kk cap').ownBlock = some B → w.heap.size ≤ B := by
            intro B hB
            obtain ⟨_, ⟨h1, _⟩ | ⟨g0, cap0, _, h1, h2, _⟩⟩ := HO.out
            · cases h1; cases hB
            · cases h1; cases hB; exact Nat.le_trans BT.out.size h2
          have BW := Lib.hid (show Below w.heap.size w w8 from (HB9.out.alloc HB9.out.size _).grown hgrow8 (by have := HB9.out.size; simp at this ⊢; omega) hbk)
          have OW := Lib.hid (show w8.ownsRow wv.heap.size 29 3 (.slice (some ⟨g', 0, none⟩) (kk + 1) cap'') (ins L ⟨p, t, n⟩).length (cellsD (ins L ⟨p, t, n⟩)) from by
            unfold ins
            rw [HS.out, List.length_append, HKK.out, cellsD_app]
            exact hown8)
          obtain ⟨r8', r9'⟩ := HFR.out _ BW.out
          clear hown8 hgrow8 hat8 hlt8 hbk r8 r9 NEWSP ONEP
          go_wp2_with fail
          go_ret
          refine ⟨by rw [HPUT.out (fun h => by have := HN.out; omega)]; rfl, ?_, grown_set BW.out⟩
          rw [HPUT.out (fun h => by have := HN.out; omega)]
          exact rt_set BW.out HR.out OW.out (by have := HR.out.lt; have := BT.out.size; omega) (HR.out.wf.ins HFIT.out)
  · have qr : 0 < pr := by have h2 := HQR.out; rw [hr] at h2; simpa using h2
    go_wp2_with fail
    go_ret
    exact RPost.same HR.out BV.out (by rw [HRIV.out hr]; rfl) (by rw [HRIV.out hr])

end Go.Proofs.YtnnhpjpfmmlimaaDoor
