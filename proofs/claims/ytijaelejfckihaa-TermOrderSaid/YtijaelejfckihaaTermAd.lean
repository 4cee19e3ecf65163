/- TermOrder's walk. Conditions: the arguments' memory. -/
import Derived.Test.YtijaelejfckihaaTermAc
import Derived.Deep.RegionHeld3
import Derived.Deep.DrawnRows
namespace Go.Proofs.Ytijaelejfckihaa
open Go Go.RowKit

set_option maxRecDepth 100000 in
set_option maxHeartbeats 4000000 in
theorem order_walk (W : World) (a1 a2 a3 : Option Addr) (n1 n2 n3 c1 c2 c3 B1 o1 B2 o2 B3 o3 : Nat) (p1 p2 p3 : List PRow) (h1 : ArgOk W a1 n1 c1 B1 o1 p1) (h2 : ArgOk W a2 n2 c2 B2 o2 p2) (h3 : ArgOk W a3 n3 c3 B3 o3 p3) :
    Calls Try.prog 5 #[.slice a1 n1 c1, .slice a2 n2 c2, .slice a3 n3 c3] W fun e w' => e = .returned (.bool true) ∧ Below W.heap.size W w' := by
  have HA := Lib.hid (alive_is W)
  have H1 := Lib.hid h1
  have H2 := Lib.hid h2
  have H3 := Lib.hid h3
  clear h1 h2 h3
  by_cases g1 : n1 ≤ 60
  case neg =>
    have G1 := Lib.hid (fun w => great_yes a1 n1 c1 w g1)
    clear g1
    go_enter Try.func5, Try.ntmps5
    go_wp2_with (first | (go_at_call 9; refine HA.out.mono ?_; rintro _ w1 ⟨rfl, hb⟩) | (go_at_call 10; refine (G1.out _).mono ?_; rintro _ _ ⟨rfl, rfl⟩))
    go_ret
    exact ⟨rfl, hb⟩
  by_cases g2 : n2 ≤ 60
  case neg =>
    have G1 := Lib.hid (fun w => great_no a1 n1 c1 w g1)
    have G2 := Lib.hid (fun w => great_yes a2 n2 c2 w g2)
    clear g1 g2
    go_enter Try.func5, Try.ntmps5
    go_wp2_with fail
    refine HA.out.mono ?_
    rintro _ w1 ⟨rfl, hb⟩
    go_wp2_with fail
    refine (G1.out _).mono ?_
    rintro _ _ ⟨rfl, rfl⟩
    go_wp2_with fail
    refine (G2.out _).mono ?_
    rintro _ _ ⟨rfl, rfl⟩
    go_wp2
    go_ret
    exact ⟨rfl, hb⟩
  by_cases g3 : n3 ≤ 60
  case neg =>
    have G1 := Lib.hid (fun w => great_no a1 n1 c1 w g1)
    have G2 := Lib.hid (fun w => great_no a2 n2 c2 w g2)
    have G3 := Lib.hid (fun w => great_yes a3 n3 c3 w g3)
    clear g1 g2 g3
    go_enter Try.func5, Try.ntmps5
    go_wp2_with fail
    refine HA.out.mono ?_
    rintro _ w1 ⟨rfl, hb⟩
    go_wp2_with fail
    refine (G1.out _).mono ?_
    rintro _ _ ⟨rfl, rfl⟩
    go_wp2_with fail
    refine (G2.out _).mono ?_
    rintro _ _ ⟨rfl, rfl⟩
    go_wp2_with fail
    refine (G3.out _).mono ?_
    rintro _ _ ⟨rfl, rfl⟩
    go_wp2
    go_ret
    exact ⟨rfl, hb⟩
  have G1 := Lib.hid (fun w => great_no a1 n1 c1 w g1)
  have G2 := Lib.hid (fun w => great_no a2 n2 c2 w g2)
  have G3 := Lib.hid (fun w => great_no a3 n3 c3 w g3)
  have K1 := Lib.hid (fun w hb => arg_good (w := w) H1.out g1 hb)
  have K2 := Lib.hid (fun w hb => arg_good (w := w) H2.out g2 hb)
  have K3 := Lib.hid (fun w hb => arg_good (w := w) H3.out g3 hb)
  have hl1 := H1.out.len
  have hl2 := H2.out.len
  have hl3 := H3.out.len
  have N1 : Hid ((goodT p1).nodes ≤ 800000) := by have := good_nodes p1; show _ ≤ _; omega
  have N2 : Hid ((goodT p2).nodes ≤ 800000) := by have := good_nodes p2; show _ ≤ _; omega
  have N3 : Hid ((goodT p3).nodes ≤ 800000) := by have := good_nodes p3; show _ ≤ _; omega
  obtain ⟨t1, ht1⟩ : ∃ t, goodT p1 = t := ⟨_, rfl⟩
  obtain ⟨t2, ht2⟩ : ∃ t, goodT p2 = t := ⟨_, rfl⟩
  obtain ⟨t3, ht3⟩ : ∃ t, goodT p3 = t := ⟨_, rfl⟩
  rw [ht1] at K1 N1
  rw [ht2] at K2 N2
  rw [ht3] at K3 N3
  clear g1 g2 g3 hl1 hl2 hl3 H1 H2 H3 ht1 ht2 ht3
  go_enter Try.func5, Try.ntmps5
  go_wp2_with fail
  refine HA.out.mono ?_
  rintro _ w1 ⟨rfl, hb⟩
  have HB := Lib.hid hb
  clear hb
  go_wp2_with fail
  refine (G1.out _).mono ?_
  rintro _ _ ⟨rfl, rfl⟩
  go_wp2_with fail
  refine (G2.out _).mono ?_
  rintro _ _ ⟨rfl, rfl⟩
  go_wp2_with fail
  refine (G3.out _).mono ?_
  rintro _ _ ⟨rfl, rfl⟩
  go_wp2_with fail
  refine (K1.out _ HB.out).mono ?_
  rintro _ w2 ⟨x, rfl, x1, x2, x3, xb⟩
  obtain ⟨ax, cx, xsv, _⟩ := sv_form (AT.mem_mk.1 x2).1
  rw [xsv]
  have HB2 : Hid (Below W.heap.size W w2) := HB.out.trans (xb.mono HB.out.size)
  have X := Lib.hid (And.intro x1 (And.intro x2 xsv))
  clear x1 x2 x3 xb xsv HB
  go_wp2_with fail
  refine (K2.out _ HB2.out).mono ?_
  rintro _ w3 ⟨y, rfl, y1, y2, y3, yb⟩
  obtain ⟨ay, cy, ysv, _⟩ := sv_form (AT.mem_mk.1 y2).1
  rw [ysv]
  have HB3 : Hid (Below W.heap.size W w3) := HB2.out.trans (yb.mono HB2.out.size)
  have X3 : Hid (x.mem w3) := AT.mem_below yb (AT.ins_size _ X.out.2.1) X.out.2.1
  have Y := Lib.hid (And.intro y1 (And.intro y2 ysv))
  clear y1 y2 y3 yb ysv HB2
  go_wp2_with fail
  refine (K3.out _ HB3.out).mono ?_
  rintro _ w4 ⟨z, rfl, z1, z2, z3, zb⟩
  obtain ⟨az, cz, zsv, _⟩ := sv_form (AT.mem_mk.1 z2).1
  rw [zsv]
  have HB4 : Hid (Below W.heap.size W w4) := HB3.out.trans (zb.mono HB3.out.size)
  have X4 : Hid (x.mem w4) := AT.mem_below zb (AT.ins_size _ X3.out) X3.out
  have Y4 : Hid (y.mem w4) := AT.mem_below zb (AT.ins_size _ Y.out.2.1) Y.out.2.1
  have Z := Lib.hid (And.intro z1 (And.intro z2 zsv))
  clear z1 z2 z3 zb zsv HB3
  go_wp2_with fail
  have hb4 : Below w4.heap.size w4 (((w4.alloc (.cells #[.int .i64 x.k, .int .i64 x.n, .string x.s, .slice ax x.l.length cx] 27)).alloc (.cells #[.int .i64 y.k, .int .i64 y.n, .string y.s, .slice ay y.l.length cy] 27)).alloc (.cells #[.int .i64 z.k, .int .i64 z.n, .string z.s, .slice az z.l.length cz] 27)) := below3
  have e7 : (((w4.alloc (.cells #[.int .i64 x.k, .int .i64 x.n, .string x.s, .slice ax x.l.length cx] 27)).alloc (.cells #[.int .i64 y.k, .int .i64 y.n, .string y.s, .slice ay y.l.length cy] 27)).alloc (.cells #[.int .i64 z.k, .int .i64 z.n, .string z.s, .slice az z.l.length cz] 27)).heap[w4.heap.size]? = some (.cells #[.int .i64 x.k, .int .i64 x.n, .string x.s, .slice ax x.l.length cx] 27 (0, 0)) := by
    rw [Below.heap_alloc _ _ _ (by simp <;> omega), Below.heap_alloc _ _ _ (by simp)]
    exact new_at _ _ (by simp)
  have e8 : (((w4.alloc (.cells #[.int .i64 x.k, .int .i64 x.n, .string x.s, .slice ax x.l.length cx] 27)).alloc (.cells #[.int .i64 y.k, .int .i64 y.n, .string y.s, .slice ay y.l.length cy] 27)).alloc (.cells #[.int .i64 z.k, .int .i64 z.n, .string z.s, .slice az z.l.length cz] 27)).heap[w4.heap.size + 1]? = some (.cells #[.int .i64 y.k, .int .i64 y.n, .string y.s, .slice ay y.l.length cy] 27 (0, 0)) := by
    rw [Below.heap_alloc _ _ _ (by simp)]
    exact new_at _ _ (by simp)
  have e9 : (((w4.alloc (.cells #[.int .i64 x.k, .int .i64 x.n, .string x.s, .slice ax x.l.length cx] 27)).alloc (.cells #[.int .i64 y.k, .int .i64 y.n, .string y.s, .slice ay y.l.length cy] 27)).alloc (.cells #[.int .i64 z.k, .int .i64 z.n, .string z.s, .slice az z.l.length cz] 27)).heap[w4.heap.size + 1 + 1]? = some (.cells #[.int .i64 z.k, .int .i64 z.n, .string z.s, .slice az z.l.length cz] 27 (0, 0)) := new_at _ _ (by simp)
  obtain ⟨W5, hW5⟩ : ∃ W5, (((w4.alloc (.cells #[.int .i64 x.k, .int .i64 x.n, .string x.s, .slice ax x.l.length cx] 27)).alloc (.cells #[.int .i64 y.k, .int .i64 y.n, .string y.s, .slice ay y.l.length cy] 27)).alloc (.cells #[.int .i64 z.k, .int .i64 z.n, .string z.s, .slice az z.l.length cz] 27)) = W5 := ⟨_, rfl⟩
  rw [hW5] at hb4 e7 e8 e9 ⊢
  clear hW5
  have hx := AT.mem_below hb4 (AT.ins_size _ X4.out) X4.out
  have hy := AT.mem_below hb4 (AT.ins_size _ Y4.out) Y4.out
  have hz := AT.mem_below hb4 (AT.ins_size _ Z.out.2.1) Z.out.2.1
  have nx : x.nodes ≤ 800000 := by rw [← AT.nodes_erase, X.out.1]; exact N1.out
  have ny : y.nodes ≤ 800000 := by rw [← AT.nodes_erase, Y.out.1]; exact N2.out
  have nz : z.nodes ≤ 800000 := by rw [← AT.nodes_erase, Z.out.1]; exact N3.out
  have C12 := (cmpIs_of hx hy nx ny X.out.2.2 Y.out.2.2)
  have C23 := (cmpIs_of hy hz ny nz Y.out.2.2 Z.out.2.2)
  have C13 := (cmpIs_of hx hz nx nz X.out.2.2 Z.out.2.2)
  have C21 := (cmpIs_of hy hx ny nx Y.out.2.2 X.out.2.2)
  have C11 := (cmpIs_of hx hx nx nx X.out.2.2 X.out.2.2)
  have S12 := (sameIs_of hx hy nx ny X.out.2.2 Y.out.2.2)
  have T := Lib.hid (cmp_t3 x y z)
  have Q12 := Lib.hid (cmp_rng x y)
  have Q23 := Lib.hid (cmp_rng y z)
  have Q13 := Lib.hid (cmp_rng x z)
  have Z12 := Lib.hid (cmp_zero x y)
  rw [cmp_neg x y] at C21
  rw [cmp_self x] at C11
  obtain ⟨c12, h12⟩ : ∃ c, cmpT x y = c := ⟨_, rfl⟩
  obtain ⟨c23, h23⟩ : ∃ c, cmpT y z = c := ⟨_, rfl⟩
  obtain ⟨c13, h13⟩ : ∃ c, cmpT x z = c := ⟨_, rfl⟩
  obtain ⟨s12, hs12⟩ : ∃ c, x.same y = c := ⟨_, rfl⟩
  rw [h12] at C12 C21 T Q12 Z12
  rw [h23] at C23 T Q23
  rw [h13] at C13 T Q13
  rw [hs12] at S12 Z12
  have HB5 : Hid (Below W.heap.size W W5) := HB4.out.trans (hb4.mono HB4.out.size)
  have hs5 := (Array.getElem?_eq_some_iff.1 e9).1
  obtain ⟨xk, hxk⟩ : ∃ k, x.k = k := ⟨_, rfl⟩
  obtain ⟨xn, hxn⟩ : ∃ k, x.n = k := ⟨_, rfl⟩
  obtain ⟨xs, hxs⟩ : ∃ k, x.s = k := ⟨_, rfl⟩
  obtain ⟨xl, hxl⟩ : ∃ k, x.l.length = k := ⟨_, rfl⟩
  obtain ⟨yk, hyk⟩ : ∃ k, y.k = k := ⟨_, rfl⟩
  obtain ⟨yn, hyn⟩ : ∃ k, y.n = k := ⟨_, rfl⟩
  obtain ⟨ys, hys⟩ : ∃ k, y.s = k := ⟨_, rfl⟩
  obtain ⟨yl, hyl⟩ : ∃ k, y.l.length = k := ⟨_, rfl⟩
  obtain ⟨zk, hzk⟩ : ∃ k, z.k = k := ⟨_, rfl⟩
  obtain ⟨zn, hzn⟩ : ∃ k, z.n = k := ⟨_, rfl⟩
  obtain ⟨zs, hzs⟩ : ∃ k, z.s = k := ⟨_, rfl⟩
  obtain ⟨zl, hzl⟩ : ∃ k, z.l.length = k := ⟨_, rfl⟩
  rw [hxk, hxn, hxs, hxl] at C12 C13 C21 C11 S12 e7
  rw [hyk, hyn, hys, hyl] at C12 C23 C21 S12 e8
  rw [hzk, hzn, hzs, hzl] at C23 C13 e9
  rw [hxk, hxn, hxs, hxl, hyk, hyn, hys, hyl, hzk, hzn, hzs, hzl]
  clear hxk hxn hxs hxl hyk hyn hys hyl hzk hzn hzs hzl hx hy hz nx ny nz X Y Z X4 Y4 X3 h12 h23 h13 hs12 hb4 HB4 N1 N2 N3 G1 G2 G3 K1 K2 K3 HA
  have keep : ∀ w5, Below W5.heap.size W5 w5 → w5.cell? ⟨w4.heap.size, 0, none⟩ = some (.int .i64 xk) ∧ w5.cell? ⟨w4.heap.size, 1, none⟩ = some (.int .i64 xn) ∧ w5.cell? ⟨w4.heap.size, 2, none⟩ = some (.string xs) ∧ w5.cell? ⟨w4.heap.size, 3, none⟩ = some (.slice ax xl cx) ∧
      w5.cell? ⟨w4.heap.size + 1, 0, none⟩ = some (.int .i64 yk) ∧ w5.cell? ⟨w4.heap.size + 1, 1, none⟩ = some (.int .i64 yn) ∧ w5.cell? ⟨w4.heap.size + 1, 2, none⟩ = some (.string ys) ∧ w5.cell? ⟨w4.heap.size + 1, 3, none⟩ = some (.slice ay yl cy) ∧
      w5.cell? ⟨w4.heap.size + 1 + 1, 0, none⟩ = some (.int .i64 zk) ∧ w5.cell? ⟨w4.heap.size + 1 + 1, 1, none⟩ = some (.int .i64 zn) ∧ w5.cell? ⟨w4.heap.size + 1 + 1, 2, none⟩ = some (.string zs) ∧ w5.cell? ⟨w4.heap.size + 1 + 1, 3, none⟩ = some (.slice az zl cz) := by
    intro w5 hb
    have f7 := (hb.block w4.heap.size (by omega)).trans e7
    have f8 := (hb.block (w4.heap.size + 1) (by omega)).trans e8
    have f9 := (hb.block (w4.heap.size + 1 + 1) hs5).trans e9
    exact ⟨cell_of_heap f7 rfl, cell_of_heap f7 rfl, cell_of_heap f7 rfl, cell_of_heap f7 rfl, cell_of_heap f8 rfl, cell_of_heap f8 rfl, cell_of_heap f8 rfl, cell_of_heap f8 rfl, cell_of_heap f9 rfl, cell_of_heap f9 rfl, cell_of_heap f9 rfl, cell_of_heap f9 rfl⟩
  obtain ⟨q0, q1, q2, q3, q4, q5, q6, q7, q8, q9, q10, q11⟩ := keep W5 (Below.refl _ _)
  have KEEP := Lib.hid keep
  have hr0 : Below W5.heap.size W5 W5 := Below.refl _ _
  clear keep e7 e8 e9 hs5
  go_region_held3 (fun w' => w'.cell? ⟨w4.heap.size, 0, none⟩ = some (.int .i64 xk) ∧ w'.cell? ⟨w4.heap.size, 1, none⟩ = some (.int .i64 xn) ∧ w'.cell? ⟨w4.heap.size, 2, none⟩ = some (.string xs) ∧ w'.cell? ⟨w4.heap.size, 3, none⟩ = some (.slice ax xl cx) ∧
      w'.cell? ⟨w4.heap.size + 1, 0, none⟩ = some (.int .i64 yk) ∧ w'.cell? ⟨w4.heap.size + 1, 1, none⟩ = some (.int .i64 yn) ∧ w'.cell? ⟨w4.heap.size + 1, 2, none⟩ = some (.string ys) ∧ w'.cell? ⟨w4.heap.size + 1, 3, none⟩ = some (.slice ay yl cy) ∧
      w'.cell? ⟨w4.heap.size + 1 + 1, 0, none⟩ = some (.int .i64 zk) ∧ w'.cell? ⟨w4.heap.size + 1 + 1, 1, none⟩ = some (.int .i64 zn) ∧ w'.cell? ⟨w4.heap.size + 1 + 1, 2, none⟩ = some (.string zs) ∧ w'.cell? ⟨w4.heap.size + 1 + 1, 3, none⟩ = some (.slice az zl cz))
    (first | exact KEEP.out _ (by assumption) | go_keep)
    (first | (go_at_call 21; refine (CmpIs.call (by assumption) (by first | assumption | exact (Below.refl _ _).drew)).mono ?_; rintro _ w6 ⟨rfl, hb6⟩))
  clear q0 q1 q2 q3 q4 q5 q6 q7 q8 q9 q10 q11 hr0
  obtain ⟨c21, h21⟩ : ∃ c, -c12 = c := ⟨_, rfl⟩
  rw [h21] at C21
  have D : (c12 = -1 ∧ c21 = 1 ∧ s12 = false) ∨ (c12 = 0 ∧ c21 = 0 ∧ s12 = true) ∨ (c12 = 1 ∧ c21 = -1 ∧ s12 = false) := by
    have h1 := Q12.out
    have h2 := Z12.out
    cases s12
    · rcases h1 with h1 | h1 | h1
      · exact .inl ⟨h1, by omega, rfl⟩
      · exact absurd (h2.1 h1) (by decide)
      · exact .inr (.inr ⟨h1, by omega, rfl⟩)
    · have h3 := h2.2 rfl
      exact .inr (.inl ⟨h3, by omega, rfl⟩)
  clear h21 Q12 Z12 C12 C23 C13
  have HB6 := Lib.hid hb6
  have HR : ∀ w', Below W5.heap.size W5 w' → Below W.heap.size W w' := fun w' h => HB5.out.trans (h.mono HB5.out.size)
  have HRR := Lib.hid HR
  clear HR
  obtain ⟨q0, q1, q2, q3, q4, q5, q6, q7, _⟩ := KEEP.out _ hb6
  rcases D with ⟨rfl, rfl, rfl⟩ | ⟨rfl, rfl, rfl⟩ | ⟨rfl, rfl, rfl⟩
  all_goals
    go_wp2_with fail
    refine (CmpIs.call C21 HB6.out).mono ?_
    rintro _ w7 ⟨rfl, hb7⟩
    clear q0 q1 q2 q3 q4 q5 q6 q7
    obtain ⟨q0, q1, q2, q3, q4, q5, q6, q7, _⟩ := KEEP.out _ hb7
    have HB7 := Lib.hid hb7
    go_wp2_with fail
    refine (SameIs.call S12 HB7.out).mono ?_
    rintro _ w8 ⟨rfl, hb8⟩
    clear q0 q1 q2 q3 q4 q5 q6 q7
    obtain ⟨q0, q1, q2, q3, q4, q5, q6, q7, _⟩ := KEEP.out _ hb8
    have HB8 := Lib.hid hb8
    go_wp2_with fail
    refine (CmpIs.call C11 HB8.out).mono ?_
    rintro _ w9 ⟨rfl, hb9⟩
    clear q0 q1 q2 q3 q4 q5 q6 q7
    have HB9 := Lib.hid (HRR.out _ hb9)
    clear hb9 hb8 hb7 HB7 HB8 HB6 HRR
    rcases Q23.out with rfl | rfl | rfl <;> rcases Q13.out with rfl | rfl | rfl
    all_goals
      first
        | (exact absurd T.out (by unfold T3; decide))
        | (go_wp2; go_ret; exact ⟨rfl, HB9.out⟩)
end Go.Proofs.Ytijaelejfckihaa
