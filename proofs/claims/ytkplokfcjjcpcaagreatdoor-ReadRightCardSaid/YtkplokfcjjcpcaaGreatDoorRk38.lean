/- Joined texts: RdU. Conditions: as each states. -/
import Derived.Test.YtkplokfcjjcpcaaGreatDoorRk37
namespace Go.Proofs.YtkplokfcjjcpcaaGreatDoor
open Go Go.RowKit Go.Maps Trm
open Go.WideMaps Go.WideElems
attribute [local go_sem ↓] Go.wp_at_zero Go.wp_at_succ
structure ChkAt (w0 : World) (k x : Int) (s : ByteArray) (ad : Option Addr) (z kk : Nat) : Prop where
  at' : ∀ w, Below w0.heap.size w0 w → Calls Tryz.prog 24 #[.agg #[.int .i64 k, .int .i64 x, .string s, .slice ad z kk]] w fun e w' => e = .returned (.int .i64 0) ∧ Below w0.heap.size w0 w'
structure VarAt (w0 : World) (k x : Int) (s : ByteArray) (ad : Option Addr) (z kk c : Nat) : Prop where
  at' : ∀ w, Below w0.heap.size w0 w → Calls Tryz.prog 25 #[.agg #[.int .i64 k, .int .i64 x, .string s, .slice ad z kk]] w (VarsPost w (upI c))
theorem Tree.chk {w : World} {k x : Int} {s : ByteArray} {ad : Option Addr} {z kk : Nat} {u : Tm} (h : Tree w k x s ad z kk u) (h0 : u.errno = 0) : ChkAt w k x s ad z kk := ⟨fun w' hb => by
  obtain ⟨t, h1, h2, h3, h4, h5, h6, h7⟩ := h.got
  have := check_errno t w' (AT.mem_below hb (AT.ins_size _ h3) h3) (by omega)
  rw [h1, h5, h6, h7, ← errno_erase, h2, h0] at this
  exact this.mono fun _ _ hp => ⟨hp.1, bt hb hp.2⟩⟩
theorem Tree.vars {w : World} {k x : Int} {s : ByteArray} {ad : Option Addr} {z kk c : Nat} {u : Tm} (h : Tree w k x s ad z kk u) (h0 : u.r64) (hc : firsts u.oc = upI c) : VarAt w k x s ad z kk c := ⟨fun w' hb => by
  obtain ⟨t, h1, h2, h3, h4, h5, h6, h7⟩ := h.got
  have := vars_is t w' (AT.mem_below hb (AT.ins_size _ h3) h3) (by omega) (AT.r64_parts t (by rw [h2]; exact h0))
  rw [h1, h5, h6, h7, varsT_oc, h2, hc] at this
  exact this⟩
theorem upI_get {c i : Nat} (h : i < c) : (upI c)[i]? = some (i : Int) := by
  unfold upI
  rw [List.getElem?_map, List.getElem?_range h]
  rfl
theorem upI_len (c : Nat) : (upI c).length = c := by simp [upI]
set_option maxRecDepth 100000 in
set_option maxHeartbeats 12800000 in
theorem right_near (ad : Option Addr) (n cap B off : Nat) (ds : List Ops.Df) (X : ByteArray) (w : World) (ht : LayA w) (hv : Ops.Lay Ops.rivalsL w) (ha : Ops.ArgRow w ad n cap B off ds) (h1 : n ≤ 100) (h2 : X.size ≤ 1500) :
    Calls Tryz.prog 5 #[.slice ad n cap, .string X] w fun e w' => e = .returned (.bool true) ∧ Below w.heap.size w w' := by
  obtain ⟨⟨l, la, e1⟩, hR⟩ : ∃ R, lexN X.data.toList 1 0 = R := ⟨_, rfl⟩
  have hok : TkOk l := by
    have h := lex_ok (l := X.data.toList) (by rw [← Lib.size_eq]; omega)
    rw [hR] at h
    exact h
  obtain ⟨q, hq⟩ : ∃ q, l.length = q := ⟨_, rfl⟩
  have hq5 : q ≤ 5000 := by rw [← hq]; exact hok.len
  obtain ⟨⟨⟨u, vs, line, next⟩, er⟩, hrz⟩ : ∃ r, readZ (Ops.madeZ ds) l 0 = r := ⟨_, rfl⟩
  obtain ⟨⟨k, x, s, z⟩, hhd⟩ : ∃ h, u.hd = h := ⟨_, rfl⟩
  have hvs := read_names hrz hok
  have HE := Lib.hid (fun he : ¬ er = 0 => show k = 0 ∧ vs = [] from by
    obtain ⟨rfl, h⟩ := readZ_err hrz he
    cases hhd
    exact ⟨rfl, h⟩)
  have HT := Lib.hid (fun he : er = 0 => show (∃ j c, Told (Ops.madeZ ds) l u vs line next j c) ∧ (∀ p ∈ vs, p.1.size ≤ 5000) from by
    subst he
    exact ⟨readZ_told hrz hok, told_names hrz hok⟩)
  have AL := Lib.hid (alive6_is w ht)
  have LX := Lib.hid (fun w1 (b1 : Below w.heap.size w w1) => lex_tks X ⟨l, la, e1⟩ hR q hq (by omega) w1 (ht.on b1))
  have MD := Lib.hid (fun w1 (b1 : Below w.heap.size w w1) => Ops.made_is ad n cap B off ds w1 (hv.on b1) (ha.on b1))
  have LA := Lib.hid (fun w1 (b1 : Below w.heap.size w w1) => show Ops.Lay [] w1 from (hv.on b1).none)
  have RL := Lib.hid (fun (w2 : World) (a : Nat) (tad : Option Addr) (tcap : Nat) (hm : ∃ m, Tab' w2 a m (Ops.madeZ ds)) (t2 : Tks w2 (.slice tad q tcap) l) => (show RdAt w2 (.slice tad q tcap) a (Ops.madeZ ds) l from ⟨hm, t2, hok⟩).lit tad q tcap rfl 0 (by omega) hrz k x s z hhd)
  have HQ := Lib.hid hq
  have g1 : decide ((100 : Int) < (n : Int)) = false := by simp; omega
  have g2 : decide ((1500 : Int) < (X.size : Int)) = false := by simp; omega
  clear ht hv ha h1 h2 hR hok hq hrz hhd
  go_enter Tryz.func5, Tryz.ntmps5
  go_wp2_with fail
  refine AL.out.mono ?_
  rintro e w1 ⟨rfl, b1⟩
  have B1 := Lib.hid b1
  have L1 := Lib.hid (LX.out _ b1)
  clear b1 AL LX
  go_wp2_with fail
  refine L1.out.mono ?_
  rintro e w2 ⟨tad, tcap, rfl, t2, b2⟩
  have T2 := Lib.hid t2
  have B2 := Lib.hid (bt B1.out b2)
  have M2 := Lib.hid (MD.out w2 B2.out)
  clear t2 b2 L1 B1 MD
  go_wp2_with fail
  refine M2.out.mono ?_
  rintro e w3 ⟨rfl, mm, _, tb, b3⟩
  have B3 := Lib.hid (bt B2.out b3)
  have T3 := Lib.hid (T2.out.on b3)
  have R3 := Lib.hid (RL.out w3 w2.heap.size tad tcap ⟨mm, ⟨LA.out w3 B3.out, tb⟩⟩ T3.out)
  clear tb b3 M2 T2 B2 LA RL
  go_wp2_with fail
  refine R3.out.mono ?_
  rintro e w4 hp
  obtain ⟨xa, xk, xn, xnk, rfl, ax, b4⟩ := hp.ans
  obtain ⟨N, hN⟩ : ∃ N, vs.length = N := ⟨_, rfl⟩
  rw [hN]
  by_cases her : er = 0
  case neg =>
    obtain ⟨rfl, rfl⟩ := HE.out her
    obtain rfl : 0 = N := hN
    have d1 : (er != 0) = true := by simpa using her
    have XC := At.new w4 #[.int .i64 0, .int .i64 x, .string s, .slice xa z xk, .slice xn 0 xnk, .int .i64 line, .int .i64 next] 37
    have c0 := cell_of_heap (o := 0) XC rfl
    have c4 := cell_of_heap (o := 4) XC rfl
    have B5 := Lib.hid (fun o => bt B3.out (bt b4 (al1 w4 o)))
    clear hp ax b4 R3 T3 B3 HE HT XC her
    go_wp2_with fail
    go_ret
    exact ⟨rfl, B5.out _⟩
  subst her
  obtain ⟨⟨j, c, TD⟩, hsz⟩ := HT.out (by first | rfl | trivial)
  have hnx := TD.nx
  have hjq : j < q := by rw [← HQ.out]; exact TD.lt
  obtain ⟨tj, htj⟩ : ∃ t, l[j]? = some t := ⟨_, List.getElem?_eq_getElem TD.lt⟩
  obtain ⟨t0, ht0⟩ : ∃ t, l[0]? = some t := ⟨_, List.getElem?_eq_getElem (by have := TD.lt; omega)⟩
  obtain ⟨W, hW⟩ : ∃ W, w4.alloc (.cells #[.int .i64 k, .int .i64 x, .string s, .slice xa z xk, .slice xn N xnk, .int .i64 line, .int .i64 next] 37) = W := ⟨_, rfl⟩
  have b4W : Below w4.heap.size w4 W := by rw [← hW]; exact al1 _ _
  have XC : At W w4.heap.size #[.int .i64 k, .int .i64 x, .string s, .slice xa z xk, .slice xn N xnk, .int .i64 line, .int .i64 next] 37 := by rw [← hW]; exact At.new _ _ _
  have TW := T3.out.on (bt b4 b4W)
  have AW := ax.on b4W
  have CH := AW.tree.chk TD.er
  have VA := Lib.hid (AW.tree.vars TD.r64 TD.seq)
  obtain ⟨g, rfl, hc1, hc2, kj, _⟩ := tok_six TW htj
  obtain ⟨g', hg', _, _, _, kl, _⟩ := tok_six TW ht0
  obtain rfl : g = g' := by simpa using hg'
  have k7 : tj.k = 7 := by have := TD.stop; rw [tokAt_some htj] at this; exact this
  have kln : t0.line = line := by have := TD.line; rw [tokAt_some ht0] at this; exact this.symm
  rw [k7] at kj
  rw [kln] at kl
  simp only [Nat.zero_mul, Nat.zero_add] at kl
  have KEEP := Lib.hid (fun w' (b : Below W.heap.size W w') => show (w'.cell? ⟨w4.heap.size, 0, none⟩ = some (.int .i64 k) ∧ w'.cell? ⟨w4.heap.size, 1, none⟩ = some (.int .i64 x) ∧ w'.cell? ⟨w4.heap.size, 2, none⟩ = some (.string s) ∧ w'.cell? ⟨w4.heap.size, 3, none⟩ = some (.slice xa z xk) ∧ w'.cell? ⟨w4.heap.size, 4, none⟩ = some (.slice xn N xnk) ∧ w'.cell? ⟨w4.heap.size, 5, none⟩ = some (.int .i64 line) ∧ w'.cell? ⟨w4.heap.size, 6, none⟩ = some (.int .i64 next)) ∧ (w'.cell? ⟨g, j * 6, none⟩ = some (.int .i64 7) ∧ w'.cell? ⟨g, 1, none⟩ = some (.int .i64 line)) from ⟨(XC.on b).seven, (b.cell (p := ⟨g, j * 6, none⟩) (World.block_lt_of_cell? _ _ kj)).trans kj, (b.cell (p := ⟨g, 1, none⟩) (World.block_lt_of_cell? _ _ kl)).trans kl⟩)
  have XW := Lib.hid XC
  have NM := Lib.hid AW.nm
  have BW := Lib.hid (bt B3.out (bt b4 b4W))
  have HW := Lib.hid hW
  have HTD := Lib.hid TD
  have HSZ := Lib.hid hsz
  have HN := Lib.hid hN
  have j1 : IntKind.i64.wrap (next - 1) = (j : Int) := by rw [hnx, show (j : Int) + 1 - 1 = (j : Int) by omega]; exact wrap_small _ (by omega) (by omega)
  have j2 : (1 : Int) ≤ (j : Int) := by have := TD.two; omega
  have j3 : (j : Int) < (q : Int) := by omega
  have j0 : (0 : Int) ≤ (j : Int) := by omega
  have j4 : (0 : Int) < (q : Int) := by omega
  have j5 : 0 < q := by omega
  have d2 : decide (next < 2) = false := decide_eq_false (by omega)
  rw [hN] at hvs
  clear hp ax b4 b4W R3 T3 B3 HE HT XC TW AW TD hsz hW htj ht0 hg' k7 kln kj kl hN hjq HQ hnx
  go_wp2_with fail
  rw [HW.out]
  obtain ⟨⟨x0, x1, x2, x3, x4, x5, x6⟩, y0, y1⟩ := KEEP.out W (Below.refl _ _)
  go_region_held3 (fun w' => (w'.cell? ⟨w4.heap.size, 0, none⟩ = some (.int .i64 k) ∧ w'.cell? ⟨w4.heap.size, 1, none⟩ = some (.int .i64 x) ∧ w'.cell? ⟨w4.heap.size, 2, none⟩ = some (.string s) ∧ w'.cell? ⟨w4.heap.size, 3, none⟩ = some (.slice xa z xk) ∧ w'.cell? ⟨w4.heap.size, 4, none⟩ = some (.slice xn N xnk) ∧ w'.cell? ⟨w4.heap.size, 5, none⟩ = some (.int .i64 line) ∧ w'.cell? ⟨w4.heap.size, 6, none⟩ = some (.int .i64 next)) ∧ (w'.cell? ⟨g, j * 6, none⟩ = some (.int .i64 7) ∧ w'.cell? ⟨g, 1, none⟩ = some (.int .i64 line)))
    (first | exact KEEP.out _ (by assumption) | exact KEEP.out _ (Below.refl _ _) | exact KEEP.out _ (Below.refl _ _).drew | go_keep)
    (first
      | (go_at_call 24; refine (ChkAt.at' (by assumption) _ (by first | assumption | exact Below.refl _ _ | exact (Below.refl _ _).drew)).mono ?_; rintro _ w5 ⟨rfl, hb⟩))
  clear x0 x1 x2 x3 x4 x5 x6 y0 y1 KEEP CH HW j1 j2 j3 j4 j5 j0 d2
  have B5 := Lib.hid hb
  have X5 := Lib.hid (XW.out.on hb)
  have N5 := Lib.hid (NM.out.on hb)
  have BZ := Lib.hid (bt BW.out hb)
  clear hb XW NM BW
  have hmm := @run_makeMap Tryz.prog
  have x4 := fun o => cell_of_heap (o := 4) (X5.out.on (al1 w5 o)) rfl
  obtain ⟨Wm, hWm⟩ : ∃ Wm, w5.alloc (.map #[] 0) = Wm := ⟨_, rfl⟩
  have H0 : Hid (RtSt w5 Wm w5.heap.size vs 0) := by
    rw [← hWm]
    exact ⟨al1 _ _, Nat.le_refl _, 0, _, Nat.le_refl _, World.ownsMap_made w5 Tryz.prog 9 (plainElem (H := Unit) Tryz.prog 4), by rw [List.take_zero]; exact seen_nil⟩
  have HWm := Lib.hid hWm
  clear hWm
  obtain ⟨qb, hqb⟩ : ∃ qb, w5.heap.size = qb := ⟨_, rfl⟩
  have HQB := Lib.hid hqb
  rw [hqb] at H0
  clear hqb
  go_wp2_with fail
  rw [HQB.out, HWm.out]
  clear x4 hmm
  go_loopw [11, 83] (fun a b wr => ∃ i : Nat, b = .int .i64 i ∧ i ≤ N ∧ a = .int .i64 (lastZ vs i) ∧ Hid (RtSt w5 wr qb vs i)) (fun _ b _ => N - (intOf b).toNat)
  case atStart => exact ⟨0, rfl, Nat.zero_le _, rfl, H0.out⟩
  case round =>
    obtain ⟨i, rfl, hi, rfl, HS⟩ := hrel
    by_cases hlt : i < N
    · obtain ⟨p, hp⟩ : ∃ p, vs[i]? = some p := ⟨vs[i]'(by rw [HN.out]; exact hlt), List.getElem?_eq_getElem _⟩
      obtain ⟨gn, hgn, hc1', hc2', hcell⟩ := (N5.out.on HS.out.below).got
      obtain ⟨rfl, _⟩ := hgn (by intro e; rw [e] at hp; simp at hp)
      obtain ⟨h1, h2⟩ := bind_get vs i p hp
      have c0 := hcell _ _ h1
      have c1 := hcell _ _ h2
      have hps := HSZ.out p (List.mem_of_getElem? hp)
      have lk := fun o => HS.out.look (al1 wr o) hp HTD.out.nm hps
      have up := fun o => HS.out.put (w1 := (wr.alloc o).drew) (al1 wr o).drew hp (by omega) hps
      have hus := HTD.out.us p (List.mem_of_getElem? hp)
      have hll := last_lt hp HTD.out.inc HTD.out.lo
      have LN := Lib.hid (last_next hp)
      obtain ⟨ps, pn⟩ := p
      simp only at c0 c1 lk up hus hll hps
      obtain ⟨lv, hlv⟩ : ∃ lv, lastZ vs i = lv := ⟨_, rfl⟩
      rw [hlv] at hll ⊢
      have e4 : (ps.toList == [95]) = false := by
        rw [beq_eq_false_iff_ne]
        intro e
        apply hus
        exact name_bytes (by rw [← Lib.toList_data, e])
      have d5 : decide (pn ≤ lv) = false := decide_eq_false (by omega)
      have d1 : decide ((i : Int) < (N : Int)) = true := decide_eq_true (by omega)
      have i2 := i_lt hlt
      replace up := fun o => Classical.indefiniteDescription _ (up o)
      obtain ⟨W2, hW2⟩ : ∃ W2 : Obj → World, ∀ o, W2 o = (up o).1 := ⟨_, fun _ => rfl⟩
      have hr : ∀ o, (Instr.mapUpdate 57 (.map (some qb)) (.string ps) (.bool true)).run Tryz.prog (wr.alloc o).drew = .ok () (W2 o) := fun o => by rw [hW2]; exact (up o).2.1
      have NX := Lib.hid (fun o => show RtSt w5 (W2 o) qb vs (i + 1) from by rw [hW2]; exact (up o).2.2.1)
      have hqw : qb < wr.heap.size := by
        obtain ⟨_, _, _, hS, _⟩ := HS.out.map
        obtain ⟨_, _, hb, _⟩ := hS
        exact heap_lt hb
      have k1 : (W2 (.cells #[.string ps, .int .i64 pn] 59)).cell? ⟨wr.heap.size, 1, none⟩ = some (.int .i64 pn) := by
        rw [hW2]
        have h9 := cell_of_heap (o := 1) (At.new wr #[.string ps, .int .i64 pn] 59) rfl
        exact (up (.cells #[.string ps, .int .i64 pn] 59)).2.2.2.cell h9 (by simp; omega)
      clear hqw
      clear hW2 up hp h1 h2 hcell hgn hc1' hc2' hps hus hll hlv HS
      go_wp2_with fail
      go_region
      go_wp2_with fail
      go_roundw
      case rel => exact ⟨i + 1, by go_num, by omega, by rw [LN.out], Lib.hid (NX.out _)⟩
      case measure => simp [intOf]; omega
    · have d1 : decide ((i : Int) < (N : Int)) = false := decide_eq_false (by omega)
      have XR := Lib.hid (X5.out.on HS.out.below)
      have x0 := cell_of_heap (o := 0) XR.out rfl
      have x1 := cell_of_heap (o := 1) XR.out rfl
      have x2 := cell_of_heap (o := 2) XR.out rfl
      have x3 := cell_of_heap (o := 3) XR.out rfl
      have V := Lib.hid (VA.out.at' wr (bt B5.out HS.out.below))
      have BR := Lib.hid (bt BZ.out HS.out.below)
      clear HS X5 N5 B5 BZ HTD HSZ VA H0
      go_wp2_with fail
      refine V.out.mono ?_
      rintro e w6 ⟨v, rfl, ho, hb6, _⟩
      obtain ⟨ad3, cap3, g3, rfl, v1, v2, v3, v4⟩ := row_vals ho
      rw [upI_len] at v1 v3 ⊢
      have HV3 := Lib.hid v3
      have HV4 := Lib.hid v4
      have B6 := Lib.hid (bt BR.out hb6)
      clear ho v3 v4 hb6 V BR x0 x1 x2 x3 XR
      go_wp2_with fail
      go_loop [112] (fun a => ∃ i : Nat, a = .int .i64 i ∧ i ≤ c) (fun a => c - (intOf a).toNat)
      case atStart => exact ⟨0, rfl, Nat.zero_le _⟩
      case round =>
        obtain ⟨t, rfl, ht⟩ := hrel
        by_cases htc : t < c
        · obtain rfl := HV3.out (by omega)
          have e0 := HV4.out t t (upI_get htc)
          have i1 : (0 : Int) ≤ (t : Int) := by omega
          have i2 : (t : Int) < (c : Int) := by omega
          go_wp2_with fail
          go_round
          case rel => exact ⟨t + 1, by go_num, by omega⟩
          case measure => simp [intOf]; omega
        · have d2 : decide ((t : Int) < (c : Int)) = false := decide_eq_false (by omega)
          go_wp2_with fail
          go_ret
          exact ⟨rfl, B6.out⟩
end Go.Proofs.YtkplokfcjjcpcaaGreatDoor
