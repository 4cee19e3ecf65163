/- TermOrders' walk. Conditions: the arguments' memory; their numbers fit 64 bits. -/
import Derived.Test.YtkidcchafdiofaaTermBf
import Derived.RegionTactic
import Derived.BigRegion
import Derived.Deep.QuietTactic
import Derived.BigQuiet
namespace Go.Proofs.Ytkidcchafdiofaa
open Go Go.RowKit
attribute [local go_sem ↓] Go.wp_at_zero Go.wp_at_succ

set_option maxRecDepth 100000 in
set_option maxHeartbeats 16000000 in
theorem orders_walk (W : World) (a1 a2 : Option Addr) (n1 n2 c1 c2 B1 o1 B2 o2 : Nat) (p1 p2 : List PRow) (h1 : ArgOk W a1 n1 c1 B1 o1 p1) (h2 : ArgOk W a2 n2 c2 B2 o2 p2) (f1 : ∀ x ∈ p1, R64 x.n) (_f2 : ∀ x ∈ p2, R64 x.n) :
    Calls Try.prog 4 #[.slice a1 n1 c1, .slice a2 n2 c2] W fun e w' => e = .returned (.bool true) ∧ Below W.heap.size W w' := by
  have HA := Lib.hid (alive_is W)
  have H1 := Lib.hid h1
  have H2 := Lib.hid h2
  have HF1 := Lib.hid (good_all f1)
  clear h1 h2 f1
  by_cases g1 : n1 ≤ 60
  case neg =>
    have G1 := Lib.hid (fun w => great_yes a1 n1 c1 w g1)
    clear g1
    go_enter Try.func4, Try.ntmps4
    go_wp2_with (first | (go_at_call 9; refine HA.out.mono ?_; rintro _ w1 ⟨rfl, hb⟩) | (go_at_call 10; refine (G1.out _).mono ?_; rintro _ _ ⟨rfl, rfl⟩))
    go_ret
    exact ⟨rfl, hb⟩
  by_cases g2 : n2 ≤ 60
  case neg =>
    have G1 := Lib.hid (fun w => great_no a1 n1 c1 w g1)
    have G2 := Lib.hid (fun w => great_yes a2 n2 c2 w g2)
    clear g1 g2
    go_enter Try.func4, Try.ntmps4
    go_wp2_with fail
    refine HA.out.mono ?_
    rintro _ w1 ⟨rfl, hb⟩
    go_wp2_with fail
    refine (G1.out _).mono ?_
    rintro _ _ ⟨rfl, rfl⟩
    go_wp2_with fail
    refine (G2.out _).mono ?_
    rintro _ _ ⟨rfl, rfl⟩
    go_wp2
    go_ret
    exact ⟨rfl, hb⟩
  have G1 := Lib.hid (fun w => great_no a1 n1 c1 w g1)
  have G2 := Lib.hid (fun w => great_no a2 n2 c2 w g2)
  have K1 := Lib.hid (fun w hb => arg_good (w := w) H1.out g1 hb)
  have K2 := Lib.hid (fun w hb => arg_good (w := w) H2.out g2 hb)
  have hl1 := H1.out.len
  have hl2 := H2.out.len
  have N1 : Hid ((goodT p1).nodes ≤ 1000) := by have := good_nodes p1; show _ ≤ _; omega
  have N2 : Hid ((goodT p2).nodes ≤ 1000) := by have := good_nodes p2; show _ ≤ _; omega
  have S1 : Hid ((goodT p1).shp) := mendT_shp _
  have S2 : Hid ((goodT p2).shp) := mendT_shp _
  obtain ⟨t1, ht1⟩ : ∃ t, goodT p1 = t := ⟨_, rfl⟩
  obtain ⟨t2, ht2⟩ : ∃ t, goodT p2 = t := ⟨_, rfl⟩
  rw [ht1] at K1 N1 S1 HF1
  rw [ht2] at K2 N2 S2
  clear g1 g2 hl1 hl2 H1 H2 ht1 ht2
  go_enter Try.func4, Try.ntmps4
  go_wp2_with fail
  refine HA.out.mono ?_
  rintro _ w1 ⟨rfl, hb⟩
  have HB := Lib.hid hb
  clear hb
  go_wp2_with fail
  refine (G1.out _).mono ?_
  rintro _ _ ⟨rfl, rfl⟩
  go_wp2_with fail
  refine (G2.out _).mono ?_
  rintro _ _ ⟨rfl, rfl⟩
  go_wp2_with fail
  refine (K1.out _ HB.out).mono ?_
  rintro _ w2 ⟨x, rfl, x1, x2, x3, xb⟩
  obtain ⟨ax, cx, xsv, _⟩ := sv_form (AT.mem_mk.1 x2).1
  rw [xsv]
  have HB2 : Hid (Below W.heap.size W w2) := HB.out.trans (xb.mono HB.out.size)
  have X := Lib.hid (And.intro x1 (And.intro x2 xsv))
  clear x1 x2 x3 xb xsv HB
  go_wp2_with fail
  refine (K2.out _ HB2.out).mono ?_
  rintro _ w3 ⟨y, rfl, y1, y2, y3, yb⟩
  obtain ⟨ay, cy, ysv, _⟩ := sv_form (AT.mem_mk.1 y2).1
  rw [ysv]
  have HB3 : Hid (Below W.heap.size W w3) := HB2.out.trans (yb.mono HB2.out.size)
  have X3 : Hid (x.mem w3) := AT.mem_below yb (AT.ins_size _ X.out.2.1) X.out.2.1
  have Y := Lib.hid (And.intro y1 (And.intro y2 ysv))
  clear y1 y2 y3 yb ysv HB2
  go_wp2_with fail
  have hb4 : Below w3.heap.size w3 ((w3.alloc (.cells #[.int .i64 x.k, .int .i64 x.n, .string x.s, .slice ax x.l.length cx] 27)).alloc (.cells #[.int .i64 y.k, .int .i64 y.n, .string y.s, .slice ay y.l.length cy] 27)) := ((Below.refl _ _).alloc (Nat.le_refl _) _).alloc (by simp) _
  have bx : BoxAt ((w3.alloc (.cells #[.int .i64 x.k, .int .i64 x.n, .string x.s, .slice ax x.l.length cx] 27)).alloc (.cells #[.int .i64 y.k, .int .i64 y.n, .string y.s, .slice ay y.l.length cy] 27)) w3.heap.size x.k x.n x.s ax x.l.length cx := by
    show _ = _
    rw [Below.heap_alloc _ _ _ (by simp)]
    exact new_at _ _ rfl
  have byy : BoxAt ((w3.alloc (.cells #[.int .i64 x.k, .int .i64 x.n, .string x.s, .slice ax x.l.length cx] 27)).alloc (.cells #[.int .i64 y.k, .int .i64 y.n, .string y.s, .slice ay y.l.length cy] 27)) (w3.heap.size + 1) y.k y.n y.s ay y.l.length cy := new_at _ _ (by simp)
  obtain ⟨W5, hW5⟩ : ∃ W5, ((w3.alloc (.cells #[.int .i64 x.k, .int .i64 x.n, .string x.s, .slice ax x.l.length cx] 27)).alloc (.cells #[.int .i64 y.k, .int .i64 y.n, .string y.s, .slice ay y.l.length cy] 27)) = W5 := ⟨_, rfl⟩
  rw [hW5] at hb4 bx byy ⊢
  have HB5 : Hid (Below W.heap.size W W5) := HB3.out.trans (hb4.mono HB3.out.size)
  have X5 : Hid (x.mem W5) := AT.mem_below hb4 (AT.ins_size _ X3.out) X3.out
  have Y5 : Hid (y.mem W5) := AT.mem_below hb4 (AT.ins_size _ Y.out.2.1) Y.out.2.1
  have BX5 := Lib.hid bx
  have BY5 := Lib.hid byy
  clear hW5 hb4 bx byy X3 HB3
  refine (K1.out _ HB5.out).mono ?_
  rintro _ w6 ⟨z, rfl, z1, z2, z3, zb⟩
  obtain ⟨az, cz, zsv, _⟩ := sv_form (AT.mem_mk.1 z2).1
  rw [zsv]
  have hb6 : Below w6.heap.size w6 (w6.alloc (.cells #[.int .i64 z.k, .int .i64 z.n, .string z.s, .slice az z.l.length cz] 27)) := (Below.refl _ _).alloc (Nat.le_refl _) _
  have hb56 := zb.trans (hb6.mono zb.size)
  have bz := boxAt_new w6 z.k z.n z.s az z.l.length cz
  have bx := BX5.out.on hb56
  have byy := BY5.out.on hb56
  have hx := AT.mem_below hb56 (AT.ins_size _ X5.out) X5.out
  have hy := AT.mem_below hb56 (AT.ins_size _ Y5.out) Y5.out
  have hz := AT.mem_below hb6 (AT.ins_size _ z2) z2
  have HB6 : Hid (Below W.heap.size W (w6.alloc (.cells #[.int .i64 z.k, .int .i64 z.n, .string z.s, .slice az z.l.length cz] 27))) := HB5.out.trans (hb56.mono HB5.out.size)
  obtain ⟨W6, hW6⟩ : ∃ W6, w6.alloc (.cells #[.int .i64 z.k, .int .i64 z.n, .string z.s, .slice az z.l.length cz] 27) = W6 := ⟨_, rfl⟩
  rw [hW6] at bz bx byy hx hy hz HB6
  have HW6 : Hid (w6.alloc (.cells #[.int .i64 z.k, .int .i64 z.n, .string z.s, .slice az z.l.length cz] 27) = W6) := hW6
  have nx : x.nodes ≤ 1000 := by rw [← AT.nodes_erase, X.out.1]; exact N1.out
  have ny : y.nodes ≤ 1000 := by rw [← AT.nodes_erase, Y.out.1]; exact N2.out
  have hze : z.erase = x.erase := by rw [z1, X.out.1]
  have nz : z.nodes ≤ 1000 := by rw [← AT.nodes_erase, hze, AT.nodes_erase]; exact nx
  have fx : Fine x := by unfold Fine; rw [X.out.1]; exact HF1.out
  have shx : x.erase.shp := by rw [X.out.1]; exact S1.out
  have shy : y.erase.shp := by rw [Y.out.1]; exact S2.out
  have xsv := X.out.2.2
  have ysv := Y.out.2.2
  have CV := varsIs_of hx (by omega) fx xsv
  have CVR := varsRIs_of hx (by omega) shx xsv
  obtain ⟨vs, hvs⟩ : ∃ vs, varsT x = vs := ⟨_, rfl⟩
  rw [hvs] at CV CVR
  have hvl : vs.length ≤ 800001 := by rw [← hvs]; exact varsT_len (by omega)
  have HREN : Hid (Tm.renR x.erase.vsR x.erase = x.erase.ren (varsT x)) := ren_both shx
  have HXM := Lib.hid hx
  have HYM := Lib.hid hy
  have HNY := Lib.hid ny
  have HSX := Lib.hid (AT.shp_of x shx)
  have HSY := Lib.hid (AT.shp_of y shy)
  have HYSV := Lib.hid ysv
  have HZM := Lib.hid hz
  have HNX := Lib.hid nx
  have HFX := Lib.hid fx
  have HNZ := Lib.hid nz
  have HZE := Lib.hid hze
  have HXSV := Lib.hid xsv
  have HZSV := Lib.hid zsv
  have HBX := Lib.hid bx
  have HBY := Lib.hid byy
  have HBZ := Lib.hid bz
  have KEEP : Hid (∀ w, Below W6.heap.size W6 w → (w.cell? ⟨w3.heap.size, 0, none⟩ = some (.int .i64 x.k) ∧ w.cell? ⟨w3.heap.size, 1, none⟩ = some (.int .i64 x.n) ∧ w.cell? ⟨w3.heap.size, 2, none⟩ = some (.string x.s) ∧ w.cell? ⟨w3.heap.size, 3, none⟩ = some (.slice ax x.l.length cx)) ∧
      (w.cell? ⟨w3.heap.size + 1, 0, none⟩ = some (.int .i64 y.k) ∧ w.cell? ⟨w3.heap.size + 1, 1, none⟩ = some (.int .i64 y.n) ∧ w.cell? ⟨w3.heap.size + 1, 2, none⟩ = some (.string y.s) ∧ w.cell? ⟨w3.heap.size + 1, 3, none⟩ = some (.slice ay y.l.length cy))) :=
    fun w hb => ⟨(HBX.out.on hb).cells, (HBY.out.on hb).cells⟩
  clear z1 z2 z3 zb zsv hb6 hb56 bz bx byy hx hy hz hW6 nx ny nz hze fx shx shy xsv ysv hvs X Y X5 Y5 BX5 BY5 HB5 N1 N2 S1 S2 K1 K2 G1 G2 HA HF1
  obtain ⟨⟨q0, q1, q2, q3⟩, ⟨q4, q5, q6, q7⟩⟩ := KEEP.out W6 (Below.refl _ _)
  go_wp2_with fail
  rw [HW6.out]
  go_region_held3 (fun w' => w'.cell? ⟨w3.heap.size, 0, none⟩ = some (.int .i64 x.k) ∧ w'.cell? ⟨w3.heap.size, 1, none⟩ = some (.int .i64 x.n) ∧ w'.cell? ⟨w3.heap.size, 2, none⟩ = some (.string x.s) ∧ w'.cell? ⟨w3.heap.size, 3, none⟩ = some (.slice ax x.l.length cx))
    (first | exact (KEEP.out _ (Below.refl _ _).drew).1 | exact (KEEP.out _ B8.out).1 | exact (KEEP.out _ B7.out).1)
    (first
      | (go_at_call 19; refine (CV.at' _ (Below.refl _ _).drew).mono ?_; rintro _ w7 ⟨⟨pa, pc, pg, rfl, r1, r2, r3, r4⟩, b7, _⟩; have B7 := Lib.hid b7; have R3 := Lib.hid r3; have R4 := Lib.hid r4; clear b7 r3 r4)
      | (go_at_call 20; refine (CVR.at' _ B7.out).mono ?_; rintro _ w8 ⟨⟨qa, qc, qg, rfl, s1, s2, s3, s4⟩, b8, st8⟩; have B8 := Lib.hid b8; have R5 := Lib.hid (R4.out.below st8); have Q3 := Lib.hid s3; have Q4 := Lib.hid s4; clear b8 s3 s4 st8))
  clear q0 q1 q2 q3 q4 q5 q6 q7 R4
  obtain ⟨m, hm⟩ : ∃ m, vs.length = m := ⟨_, rfl⟩
  have HVL := Lib.hid hm
  rw [hm] at R3 Q3 r1 s1 hvl ⊢
  clear hm
  have hx8 := AT.mem_below B8.out (AT.ins_size _ HXM.out) HXM.out
  have hy8 := AT.mem_below B8.out (AT.ins_size _ HYM.out) HYM.out
  have CC := cmpIs_of hx8 hy8 (by have := HNX.out; omega) (by have := HNY.out; omega) HXSV.out HYSV.out
  have CCR := cmpRIs_of hx8 hy8 (by have := HNX.out; omega) (by have := HNY.out; omega) HSX.out HSY.out HXSV.out HYSV.out
  obtain ⟨zc, hzc⟩ : ∃ zc, cmpT x y = zc := ⟨_, rfl⟩
  rw [hzc] at CC CCR
  have KEEP8 : Hid (∀ w, Below w8.heap.size w8 w → (w.cell? ⟨w3.heap.size, 0, none⟩ = some (.int .i64 x.k) ∧ w.cell? ⟨w3.heap.size, 1, none⟩ = some (.int .i64 x.n) ∧ w.cell? ⟨w3.heap.size, 2, none⟩ = some (.string x.s) ∧ w.cell? ⟨w3.heap.size, 3, none⟩ = some (.slice ax x.l.length cx)) ∧
      (w.cell? ⟨w3.heap.size + 1, 0, none⟩ = some (.int .i64 y.k) ∧ w.cell? ⟨w3.heap.size + 1, 1, none⟩ = some (.int .i64 y.n) ∧ w.cell? ⟨w3.heap.size + 1, 2, none⟩ = some (.string y.s) ∧ w.cell? ⟨w3.heap.size + 1, 3, none⟩ = some (.slice ay y.l.length cy))) := fun w hb => KEEP.out w (B8.out.trans (hb.mono B8.out.size))
  clear hx8 hy8 hzc HYM HNY HSX HSY HYSV
  obtain ⟨⟨q0, q1, q2, q3⟩, ⟨q4, q5, q6, q7⟩⟩ := KEEP8.out w8 (Below.refl _ _)
  go_wp2_with fail
  go_region_held3 (fun w' => (w'.cell? ⟨w3.heap.size, 0, none⟩ = some (.int .i64 x.k) ∧ w'.cell? ⟨w3.heap.size, 1, none⟩ = some (.int .i64 x.n) ∧ w'.cell? ⟨w3.heap.size, 2, none⟩ = some (.string x.s) ∧ w'.cell? ⟨w3.heap.size, 3, none⟩ = some (.slice ax x.l.length cx)) ∧
      (w'.cell? ⟨w3.heap.size + 1, 0, none⟩ = some (.int .i64 y.k) ∧ w'.cell? ⟨w3.heap.size + 1, 1, none⟩ = some (.int .i64 y.n) ∧ w'.cell? ⟨w3.heap.size + 1, 2, none⟩ = some (.string y.s) ∧ w'.cell? ⟨w3.heap.size + 1, 3, none⟩ = some (.slice ay y.l.length cy)))
    (first | exact KEEP8.out _ (Below.refl _ _).drew | exact KEEP8.out _ B10.out | exact KEEP8.out _ B9.out)
    (first
      | (go_at_call 21; refine (CmpIs.call CC (Below.refl _ _).drew).mono ?_; rintro _ w9 ⟨rfl, b9⟩; have B9 := Lib.hid b9; clear b9)
      | (go_at_call 22; refine (CCR.at' _ B9.out).mono ?_; rintro _ w10 ⟨rfl, b10⟩; have B10 := Lib.hid b10; clear b10))
  have P10 := Lib.hid (R5.out.below B10.out)
  have Q10 := Lib.hid (Q4.out.below B10.out)
  have B610 : Hid (Below W6.heap.size W6 w10) := B8.out.trans (B10.out.mono B8.out.size)
  clear q0 q1 q2 q3 q4 q5 q6 q7 B9 B10 CC CCR R5 Q4 KEEP8 B8 B7
  clear CV CVR
  go_wp2_with fail
  go_loopw [51] (fun vi wr => ∃ i : Nat, vi = .int .i64 i ∧ i ≤ m ∧ ∃ nq, wr = w10.drewN nq) (fun vi _ => m - (intOf vi).toNat)
  case atStart => exact ⟨0, rfl, Nat.zero_le _, 0, rfl⟩
  case round =>
    obtain ⟨i, rfl, hi, nq, rfl⟩ := hrel
    by_cases hlt : i < m
    · obtain ⟨n, hn⟩ : ∃ n, vs[i]? = some n := ⟨vs[i]'(by rw [HVL.out]; exact hlt), List.getElem?_eq_getElem _⟩
      obtain rfl := R3.out (by omega)
      obtain rfl := Q3.out (by omega)
      have e0 := P10.out i n hn
      have e1 := Q10.out i n hn
      have i1 : (0 : Int) ≤ (i : Int) := by omega
      have i2 : (i : Int) < (m : Int) := by omega
      clear hn
      go_wp2_with fail
      go_region
      all_goals
        go_wp2
        go_roundw
        case rel => exact ⟨i + 1, by go_num, by omega, nq + 1, rfl⟩
        case measure => simp [intOf]; omega
    · obtain rfl : i = m := by omega
      clear hlt
      have B6N : Hid (Below W6.heap.size W6 (w10.drewN nq)) := by
        have h := B610.out
        exact ⟨h.os, h.tape, h.output, h.size, h.block⟩
      obtain ⟨w11, hw11⟩ : ∃ w11, w10.drewN nq = w11 := ⟨_, rfl⟩
      rw [hw11] at B6N ⊢
      clear hw11 P10 Q10 B610 R3 Q3 r1 r2 s1 s2
      obtain ⟨⟨q0, q1, q2, q3⟩, _⟩ := KEEP.out w11 B6N.out
      go_wp2_with fail
      have hx11 := AT.mem_below B6N.out (AT.ins_size _ HXM.out) HXM.out
      obtain ⟨ls, hls⟩ : ∃ ls, (itT x.erase).1 = ls := ⟨_, rfl⟩
      obtain ⟨r, hr⟩ : ∃ r, (itT x.erase).2 = r := ⟨_, rfl⟩
      have hitn := itT_nodes x.erase
      rw [AT.nodes_erase, hls, hr] at hitn
      have IT := items_is x w11 hx11 (by have := HNX.out; omega) (fine_s HFX.out)
      have ITR := fun w (hb : Below W6.heap.size W6 w) => itemsR_is x w (AT.mem_below hb (AT.ins_size _ HXM.out) HXM.out) (by have := HNX.out; omega)
      have NUM := fun w (hb : Below W6.heap.size W6 w) => numberT_is x w (AT.mem_below hb (AT.ins_size _ HXM.out) HXM.out) (by have := HNX.out; omega) (fine_n HFX.out) (fine_s HFX.out)
      rw [hls, hr, HXSV.out] at IT ITR
      rw [HXSV.out] at NUM
      have HIT := Lib.hid IT
      have HITR := Lib.hid ITR
      have HNUM := Lib.hid NUM
      have HITN := Lib.hid hitn
      clear hx11 hls hr hitn IT ITR NUM
      refine HIT.out.mono ?_
      rintro _ w12 ⟨iad, n9, ic, IG, il, u, rfl, z1, z2, z3, z4, z5, z6, zb⟩
      obtain ⟨ua, uc, usv, _⟩ := sv_form (AT.mem_mk.1 z6).1
      rw [usv]
      have B12 : Hid (Below W6.heap.size W6 w12) := B6N.out.trans (zb.mono B6N.out.size)
      have Z12 := Lib.hid (And.intro z1 (And.intro z2 (And.intro z3 (And.intro z4 (And.intro z5 (And.intro z6 usv))))))
      have B12' : Hid (Below W6.heap.size W6 (w12.alloc (.cells #[.int .i64 u.k, .int .i64 u.n, .string u.s, .slice ua u.l.length uc] 27))) := B12.out.alloc B12.out.size _
      obtain ⟨⟨k0, k1, k2, k3⟩, _⟩ := KEEP.out _ B12'.out
      clear z1 z2 z3 z4 z5 z6 zb usv q0 q1 q2 q3 HIT
      go_wp2_with fail
      refine (HITR.out _ B12'.out).mono ?_
      rintro _ w13 ⟨mad, n10, mc, MG, ml, q, rfl, z1, z2, z3, z4, z5, z6, zb⟩
      obtain ⟨qa, qc, qsv, _⟩ := sv_form (AT.mem_mk.1 z6).1
      rw [qsv]
      have B13 : Hid (Below W6.heap.size W6 w13) := B12'.out.trans (zb.mono B12'.out.size)
      have S13 : Hid (Below w12.heap.size w12 w13) := ((Below.refl w12.heap.size w12).alloc (Nat.le_refl _) _).trans (zb.mono (by simp))
      have BU13 : Hid (BoxAt w13 w12.heap.size u.k u.n u.s ua u.l.length uc) := (boxAt_new w12 u.k u.n u.s ua u.l.length uc).on zb
      have Z13 := Lib.hid (And.intro z1 (And.intro z2 (And.intro z3 (And.intro z4 (And.intro z5 (And.intro z6 qsv))))))
      have B13' : Hid (Below W6.heap.size W6 (w13.alloc (.cells #[.int .i64 q.k, .int .i64 q.n, .string q.s, .slice qa q.l.length qc] 27))) := B13.out.alloc B13.out.size _
      clear z1 z2 z3 z4 z5 z6 zb qsv k0 k1 k2 k3 HITR
      obtain ⟨⟨k0, k1, k2, k3⟩, _⟩ := KEEP.out _ B13'.out
      go_wp2_with fail
      refine (HNUM.out _ B13'.out).mono ?_
      rintro _ w14 ⟨nn, rfl, z1, z2, z3, zb⟩
      obtain ⟨na, nc, nsv, nf1, nf2, nf3⟩ := sv_form (AT.mem_mk.1 z2).1
      rw [nsv]
      have B14 : Hid (Below W6.heap.size W6 w14) := B13'.out.trans (zb.mono B13'.out.size)
      have hb14 : Below w14.heap.size w14 (w14.alloc (.cells #[.int .i64 nn.k, .int .i64 nn.n, .string nn.s, .slice na nn.l.length nc] 27)) := (Below.refl _ _).alloc (Nat.le_refl _) _
      have S14 : Below w13.heap.size w13 (w14.alloc (.cells #[.int .i64 nn.k, .int .i64 nn.n, .string nn.s, .slice na nn.l.length nc] 27)) := (((Below.refl w13.heap.size w13).alloc (Nat.le_refl _) _).trans (zb.mono (by simp))).trans (hb14.mono (by have := zb.size; simp at this; omega))
      have S12 : Below w12.heap.size w12 (w14.alloc (.cells #[.int .i64 nn.k, .int .i64 nn.n, .string nn.s, .slice na nn.l.length nc] 27)) := S13.out.trans (S14.mono S13.out.size)
      have bn := boxAt_new w14 nn.k nn.n nn.s na nn.l.length nc
      have bu := BU13.out.on S14
      have bq := (((boxAt_new w13 q.k q.n q.s qa q.l.length qc).on zb)).on hb14
      have hB14 : Below W6.heap.size W6 (w14.alloc (.cells #[.int .i64 nn.k, .int .i64 nn.n, .string nn.s, .slice na nn.l.length nc] 27)) := B14.out.trans (hb14.mono B14.out.size)
      have bx := HBX.out.on hB14
      obtain ⟨y1, y2, y3, y4, y5, y6, usv⟩ := Z12.out
      obtain ⟨v1, v2, v3, v4, v5, v6, qsv⟩ := Z13.out
      have hIm : (AT.mk 0 0 ⟨#[]⟩ (.slice iad n9 ic) IG 0 il).mem w12 := ⟨by rw [y1]; exact y2, y3⟩
      have hMm : (AT.mk 0 0 ⟨#[]⟩ (.slice mad n10 mc) MG 0 ml).mem w13 := ⟨by rw [v1]; exact v2, v3⟩
      have hI := AT.mem_below S12 (AT.ins_size _ hIm) hIm
      have hM := AT.mem_below S14 (AT.ins_size _ hMm) hMm
      have hu := AT.mem_below S12 (AT.ins_size _ y6) y6
      have hq := AT.mem_below S14 (AT.ins_size _ v6) v6
      have hnn := AT.mem_below hb14 (AT.ins_size _ z2) z2
      have hx := AT.mem_below hB14 (AT.ins_size _ HXM.out) HXM.out
      have hw : Below w13.heap.size w13 w14 := ((Below.refl w13.heap.size w13).alloc (Nat.le_refl _) _).trans (zb.mono (by simp))
      obtain ⟨W7, hW7⟩ : ∃ W7, w14.alloc (.cells #[.int .i64 nn.k, .int .i64 nn.n, .string nn.s, .slice na nn.l.length nc] 27) = W7 := ⟨_, rfl⟩
      rw [hW7] at hb14 S14 S12 bn bu bq hB14 bx hI hM hu hq hnn hx
      have HW7 : Hid (w14.alloc (.cells #[.int .i64 nn.k, .int .i64 nn.n, .string nn.s, .slice na nn.l.length nc] 27) = W7) := hW7
      have hn910 : n10 = n9 := by
        have e1 := congrArg List.length y4
        have e2 := congrArg List.length v4
        rw [erase_len] at e1 e2
        omega
      subst hn910
      have hunn : u.nodes ≤ 1000 := by rw [← AT.nodes_erase, y5]; have := HITN.out; have := HNX.out; omega
      have hqnn : q.nodes ≤ 1000 := by rw [← AT.nodes_erase, v5]; have := HITN.out; have := HNX.out; omega
      have hiln : ATs.nodes il ≤ 1000 := by rw [← ATs.nodes_erase, y4]; have := HITN.out; have := HNX.out; omega
      have hmln : ATs.nodes ml ≤ 1000 := by rw [← ATs.nodes_erase, v4]; have := HITN.out; have := HNX.out; omega
      have hnnn : nn.nodes ≤ 1000 := by rw [(num_dims z1).2]; exact HNX.out
      have CN := numRIs_of hx hnn (by have := HNX.out; omega) (by omega) z1 HREN.out nsv HXSV.out
      obtain ⟨iad', ic', he2, hi1, hi2, hi3⟩ := sv_form y2
      simp at he2
      obtain ⟨rfl, rfl⟩ := he2
      obtain ⟨mad', mc', he3, hm1, hm2, hm3⟩ := sv_form v2
      simp at he3
      obtain ⟨rfl, rfl⟩ := he3
      unfold maxLen at hi2 hm2
      have CA : Hid (∀ w, Below W7.heap.size W7 w → Calls Try.prog 28 #[.slice iad n10 ic, .slice mad n10 mc] w fun e w' => e = .returned (.bool true) ∧ Below W7.heap.size W7 w') := fun w hb =>
        (all_true (AT.mem_below hb (AT.ins_size _ hI) hI).2 (AT.mem_below hb (AT.ins_size _ hM) hM).2 hi3 hm3 y1 v1 hi1 (by omega) hm1 (by omega) (by omega) (by omega) (by rw [y4, v4])).mono fun e w' hp => ⟨hp.1, hb.trans (hp.2.mono hb.size)⟩
      have CS : Hid (∀ w, Below W7.heap.size W7 w → Calls Try.prog 26 #[.agg #[.int .i64 u.k, .int .i64 u.n, .string u.s, .slice ua u.l.length uc], .agg #[.int .i64 q.k, .int .i64 q.n, .string q.s, .slice qa q.l.length qc]] w fun e w' => e = .returned (.bool true) ∧ Below W7.heap.size W7 w') := fun w hb => by
        have h := same_is u.nodes u q w (Nat.le_refl _) (AT.mem_below hb (AT.ins_size _ hu) hu) (AT.mem_below hb (AT.ins_size _ hq) hq) (by omega) (by omega)
        rw [AT.same_erase u q (by rw [y5, v5])] at h
        simp only [AT.val] at h
        rw [usv, qsv] at h
        exact h.mono fun e w' hp => ⟨hp.1, hb.trans (hp.2.mono hb.size)⟩
      have KEEP7 : Hid (∀ w, Below W7.heap.size W7 w → (w.cell? ⟨w14.heap.size, 0, none⟩ = some (.int .i64 nn.k) ∧ w.cell? ⟨w14.heap.size, 1, none⟩ = some (.int .i64 nn.n) ∧ w.cell? ⟨w14.heap.size, 2, none⟩ = some (.string nn.s) ∧ w.cell? ⟨w14.heap.size, 3, none⟩ = some (.slice na nn.l.length nc)) ∧ (w.cell? ⟨w3.heap.size, 0, none⟩ = some (.int .i64 x.k) ∧ w.cell? ⟨w3.heap.size, 1, none⟩ = some (.int .i64 x.n) ∧ w.cell? ⟨w3.heap.size, 2, none⟩ = some (.string x.s) ∧ w.cell? ⟨w3.heap.size, 3, none⟩ = some (.slice ax x.l.length cx)) ∧ (w.cell? ⟨w12.heap.size, 0, none⟩ = some (.int .i64 u.k) ∧ w.cell? ⟨w12.heap.size, 1, none⟩ = some (.int .i64 u.n) ∧ w.cell? ⟨w12.heap.size, 2, none⟩ = some (.string u.s) ∧ w.cell? ⟨w12.heap.size, 3, none⟩ = some (.slice ua u.l.length uc)) ∧ (w.cell? ⟨w13.heap.size, 0, none⟩ = some (.int .i64 q.k) ∧ w.cell? ⟨w13.heap.size, 1, none⟩ = some (.int .i64 q.n) ∧ w.cell? ⟨w13.heap.size, 2, none⟩ = some (.string q.s) ∧ w.cell? ⟨w13.heap.size, 3, none⟩ = some (.slice qa q.l.length qc))) :=
        fun w hb => ⟨(bn.on hb).cells, (bx.on hb).cells, (bu.on hb).cells, (bq.on hb).cells⟩
      have HNG : Hid (0 < nn.l.length → nn.G < w14.heap.size) := fun h0 => (AT.ins_mk.1 (AT.ins_size _ z2)).1 (by intro h; rw [h] at h0; simp at h0)
      have HNL : Hid (nn.l.length ≤ 1000) := by have := len_nodes nn.l; have e := AT.nodes_mk (t := nn); show _ ≤ _; omega
      have F7 := Lib.hid (And.intro hnn (And.intro z3 (And.intro hB14 (And.intro bn (And.intro nsv (And.intro nf3 (And.intro hw (And.intro B13'.out zb))))))))
      clear z1 z2 z3 zb nsv nf1 nf2 nf3 hb14 S14 S12 bn bu bq hB14 bx y1 y2 y3 y4 y5 y6 usv v1 v2 v3 v4 v5 v6 qsv hIm hMm hI hM hu hq hnn hx hw hW7 hunn hqnn hiln hmln hi3 hm3 Z12 Z13 BU13 S13 B12 B12' B13 B14 HNUM k0 k1 k2 k3 HREN HITN
      obtain ⟨nl, hnl⟩ : ∃ nl, nn.l.length = nl := ⟨_, rfl⟩
      rw [hnl] at HW7 CN KEEP7 ⊢
      have HNE := Lib.hid hnl
      clear hnl
      go_wp2_with fail
      rw [HW7.out]
      obtain ⟨⟨k0, k1, k2, k3⟩, ⟨k4, k5, k6, k7⟩, ⟨k8, k9, l0, l1⟩, ⟨l2, l3, l4, l5⟩⟩ := KEEP7.out W7 (Below.refl _ _)
      go_region_held3 (fun w => (w.cell? ⟨w14.heap.size, 0, none⟩ = some (.int .i64 nn.k) ∧ w.cell? ⟨w14.heap.size, 1, none⟩ = some (.int .i64 nn.n) ∧ w.cell? ⟨w14.heap.size, 2, none⟩ = some (.string nn.s) ∧ w.cell? ⟨w14.heap.size, 3, none⟩ = some (.slice na nl nc)) ∧ (w.cell? ⟨w3.heap.size, 0, none⟩ = some (.int .i64 x.k) ∧ w.cell? ⟨w3.heap.size, 1, none⟩ = some (.int .i64 x.n) ∧ w.cell? ⟨w3.heap.size, 2, none⟩ = some (.string x.s) ∧ w.cell? ⟨w3.heap.size, 3, none⟩ = some (.slice ax x.l.length cx)) ∧ (w.cell? ⟨w12.heap.size, 0, none⟩ = some (.int .i64 u.k) ∧ w.cell? ⟨w12.heap.size, 1, none⟩ = some (.int .i64 u.n) ∧ w.cell? ⟨w12.heap.size, 2, none⟩ = some (.string u.s) ∧ w.cell? ⟨w12.heap.size, 3, none⟩ = some (.slice ua u.l.length uc)) ∧ (w.cell? ⟨w13.heap.size, 0, none⟩ = some (.int .i64 q.k) ∧ w.cell? ⟨w13.heap.size, 1, none⟩ = some (.int .i64 q.n) ∧ w.cell? ⟨w13.heap.size, 2, none⟩ = some (.string q.s) ∧ w.cell? ⟨w13.heap.size, 3, none⟩ = some (.slice qa q.l.length qc)))
        (first | exact KEEP7.out _ (Below.refl _ _).drew | exact KEEP7.out _ D4.out | exact KEEP7.out _ D3.out | exact KEEP7.out _ D2.out | exact KEEP7.out _ D1.out)
        (first
          | (go_at_call 27; refine (NumRIs.at' CN _ (Below.refl _ _).drew).mono ?_; rintro _ w21 ⟨⟨k', n', s', a', l', c', rfl, TW⟩, d1⟩; have D1 := Lib.hid d1; clear d1)
          | (go_at_call_of 26 (Value.string nn.s); refine (TwinIs.at' TW _ (Below.refl _ _)).mono ?_; rintro _ w22 ⟨rfl, d2⟩; have D2 := Lib.hid d2; clear d2)
          | (go_at_call 28; refine (CA.out _ D2.out).mono ?_; rintro _ w23 ⟨rfl, d3⟩; have D3 := Lib.hid d3; clear d3)
          | (go_at_call_of 26 (Value.string u.s); refine (CS.out _ D3.out).mono ?_; rintro _ w24 ⟨rfl, d4⟩; have D4 := Lib.hid d4; clear d4))
      obtain ⟨hnn, z3, hB14, bn, nsv, nf3, hw, hb13, zb⟩ := F7.out
      have hsz : (w13.alloc (.cells #[.int .i64 q.k, .int .i64 q.n, .string q.s, .slice qa q.l.length qc] 27)).heap.size = w13.heap.size + 1 := by simp
      rw [hsz] at z3
      have hW6 : W6.heap.size ≤ w13.heap.size + 1 := by rw [← hsz]; exact hb13.size
      have hn24 := AT.mem_below D4.out (AT.ins_size _ hnn) hnn
      have bn24 := bn.on D4.out
      have B624 : Hid (Below W6.heap.size W6 w24) := hB14.trans (D4.out.mono hB14.size)
      have hst : NSt (w13.heap.size + 1) nn.G nn.off nn.l.length w14.heap.size nn.k nn.n nn.s na nn.l.length nc w24 w24 := by
        refine ⟨fun h0 => ⟨Below.refl _ _, ?_, fun i hi => ?_, ?_⟩, Below.refl _ _, bn24, fun h0 e => ?_⟩
        · obtain ⟨t, ht⟩ : ∃ t, nn.l[0]? = some t := ⟨nn.l[0], List.getElem?_eq_getElem h0⟩
          exact (mem_get (AT.mem_mk.1 hn24).2 ht).1.1
        · obtain ⟨t, ht⟩ : ∃ t, nn.l[i]? = some t := ⟨nn.l[i], List.getElem?_eq_getElem hi⟩
          exact ⟨t.s, (mem_get (AT.mem_mk.1 hn24).2 ht).1.2.2.2.1⟩
        · exact (AT.ins_mk.1 z3).1 (by intro h; rw [h] at h0; simp at h0)
        · have h1 := HNG.out h0
          omega
      have HST := Lib.hid hst
      have HNF := Lib.hid nf3
      have hnl := HNE.out
      have hnl2 : nl ≤ 1000 := by rw [← hnl]; exact HNL.out
      rw [hnl] at HST HNF
      have c3 := (bn24.cells).2.2.2
      rw [hnl] at c3
      clear hnn z3 hB14 bn nsv nf3 hw hb13 zb hsz hn24 bn24 hst hnl D1 D2 D3 D4 F7 CA CS CN TW KEEP7
      go_wp2
      go_loopw [96] (fun vi wr => ∃ i : Nat, vi = .int .i64 i ∧ i ≤ nl ∧ Hid (NSt (w13.heap.size + 1) nn.G nn.off nl w14.heap.size nn.k nn.n nn.s na nl nc w24 wr)) (fun vi _ => nl - (intOf vi).toNat)
      case atStart => exact ⟨0, rfl, Nat.zero_le _, HST.out⟩
      case round =>
        obtain ⟨i, rfl, hi, HS⟩ := hrel
        have c3 := (HS.out.box.cells).2.2.2
        by_cases hlt : i < nl
        · obtain rfl := HNF.out (by omega)
          have i1 : (0 : Int) ≤ (i : Int) := by omega
          have i2 : (i : Int) < (nl : Int) := by omega
          have hch := HS.out.ch (by omega)
          obtain ⟨s0, e2⟩ := hch.names i hlt
          have z2 := hch.plain.free (nn.off + i * 4 + 2)
          have NEXT := Lib.hid (n_next HS.out hlt ⟨#[99, 104, 97, 110, 103, 101, 100]⟩)
          clear hch HS
          go_wp2
          go_roundw
          case rel => exact ⟨i + 1, by go_num, by omega, NEXT.out⟩
          case measure => simp [intOf]; omega
        · have B6R : Hid (Below W6.heap.size W6 wr) := B624.out.trans (HS.out.below.mono hW6)
          have hxr := AT.mem_below B6R.out (AT.ins_size _ HXM.out) HXM.out
          have hzr := AT.mem_below B6R.out (AT.ins_size _ HZM.out) HZM.out
          have h := same_is x.nodes x z wr (Nat.le_refl _) hxr hzr (by have := HNZ.out; omega) (by have := HNX.out; omega)
          rw [AT.same_erase x z HZE.out.symm] at h
          simp only [AT.val] at h
          rw [HXSV.out, HZSV.out] at h
          have CF := Lib.hid h
          obtain ⟨⟨k0, k1, k2, k3⟩, _⟩ := KEEP.out wr B6R.out
          obtain ⟨k4, k5, k6, k7⟩ := (HBZ.out.on B6R.out).cells
          obtain rfl : i = nl := by omega
          clear hlt h hxr hzr HS c3
          go_wp2_with fail
          refine CF.out.mono ?_
          rintro _ w30 ⟨rfl, b30⟩
          have BE : Hid (Below W.heap.size W w30) := (HB6.out.trans (B6R.out.mono HB6.out.size)).trans (b30.mono (Nat.le_trans HB6.out.size B6R.out.size))
          clear b30
          go_wp2
          go_ret
          exact ⟨rfl, BE.out⟩
end Go.Proofs.Ytkidcchafdiofaa
