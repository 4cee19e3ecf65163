/- TermChecks' walk. Conditions: the argument's memory. -/
import Derived.Test.YtijaelejfckihaaTermAg
import Derived.Deep.RegionHeld3
import Derived.Deep.DrawnRows
namespace Go.Proofs.Ytijaelejfckihaa
open Go Go.RowKit

set_option maxRecDepth 100000 in
set_option maxHeartbeats 4000000 in
theorem checks_walk (W : World) (a1 : Option Addr) (n1 c1 B1 o1 : Nat) (p1 : List PRow) (h1 : ArgOk W a1 n1 c1 B1 o1 p1) :
    Calls Try.prog 3 #[.slice a1 n1 c1] W fun e w' => e = .returned (.bool true) ∧ Below W.heap.size W w' := by
  have HA := Lib.hid (alive_is W)
  have H1 := Lib.hid h1
  clear h1
  by_cases g1 : n1 ≤ 60
  case neg =>
    have G1 := Lib.hid (fun w => great_yes a1 n1 c1 w g1)
    clear g1
    go_enter Try.func3, Try.ntmps3
    go_wp2_with fail
    refine HA.out.mono ?_
    rintro _ w1 ⟨rfl, hb⟩
    go_wp2_with fail
    refine (G1.out _).mono ?_
    rintro _ _ ⟨rfl, rfl⟩
    go_wp2
    go_ret
    exact ⟨rfl, hb⟩
  have G1 := Lib.hid (fun w => great_no a1 n1 c1 w g1)
  have K1 := Lib.hid (fun w (hb : Below W.heap.size W w) => show Calls Try.prog 11 #[.slice a1 n1 c1] w (OfPost w (ofT n1 p1)) from by
    obtain ⟨rfl, h1, h2, h3, h4⟩ := H1.out
    exact of_is p1.length p1 B1 o1 c1 a1 w (Nat.le_refl _) h1 h2 h3 (h4.below hb (.inl (Nat.le_refl _))) (by omega))
  have N1 : Hid ((ofT n1 p1).1.nodes ≤ 800000) := by
    have := ofT_le n1 p1
    have := H1.out.len
    show _ ≤ _
    omega
  obtain ⟨t1, ht1⟩ : ∃ t, ofT n1 p1 = t := ⟨_, rfl⟩
  rw [ht1] at K1 N1
  clear g1 H1 ht1
  go_enter Try.func3, Try.ntmps3
  go_wp2_with fail
  refine HA.out.mono ?_
  rintro _ w1 ⟨rfl, hb⟩
  have HB := Lib.hid hb
  clear hb
  go_wp2_with fail
  refine (G1.out _).mono ?_
  rintro _ _ ⟨rfl, rfl⟩
  go_wp2_with fail
  refine (K1.out _ HB.out).mono ?_
  rintro _ w2 ⟨x, rfl, x1, x2, x3, xb⟩
  obtain ⟨ax, cx, xsv, _⟩ := sv_form (AT.mem_mk.1 x2).1
  rw [xsv]
  have HB2 : Hid (Below W.heap.size W w2) := HB.out.trans (xb.mono HB.out.size)
  have hb4 : Below w2.heap.size w2 (w2.alloc (.cells #[.int .i64 x.k, .int .i64 x.n, .string x.s, .slice ax x.l.length cx] 27)) := (Below.refl _ _).alloc (Nat.le_refl _) _
  have e7 := new_at w2 (.cells #[.int .i64 x.k, .int .i64 x.n, .string x.s, .slice ax x.l.length cx] 27) rfl
  have hx := AT.mem_below hb4 (AT.ins_size _ x2) x2
  have nx : x.nodes ≤ 800000 := by rw [← AT.nodes_erase, x1]; exact N1.out
  have P1 := oneIs_of hx xsv (fun w h => check_errno x w h nx)
  have P2 := oneIs_of hx xsv (fun w h => checkR_is x w h nx)
  have P3 := oneIs_of hx xsv (fun w h => size_is x w h nx)
  have P4 := oneIs_of hx xsv (fun w h => sizeR_is x.nodes x w (Nat.le_refl _) h nx)
  have P5 := oneIs_of hx xsv (fun w h => deep_dp x w h nx)
  have P6 := oneIs_of hx xsv (fun w h => deepR_is x.nodes x w (Nat.le_refl _) h nx)
  obtain ⟨ze, hze⟩ : ∃ z, x.errno = z := ⟨_, rfl⟩
  obtain ⟨zs, hzs⟩ : ∃ z, x.nodes = z := ⟨_, rfl⟩
  obtain ⟨zd, hzd⟩ : ∃ z, x.dp = z := ⟨_, rfl⟩
  rw [hze] at P1 P2
  rw [hzs] at P3 P4
  rw [hzd] at P5 P6
  obtain ⟨xk, hxk⟩ : ∃ k, x.k = k := ⟨_, rfl⟩
  obtain ⟨xn, hxn⟩ : ∃ k, x.n = k := ⟨_, rfl⟩
  obtain ⟨xs, hxs⟩ : ∃ k, x.s = k := ⟨_, rfl⟩
  obtain ⟨xl, hxl⟩ : ∃ k, x.l.length = k := ⟨_, rfl⟩
  rw [hxk, hxn, hxs, hxl] at P1 P2 P3 P4 P5 P6 e7 hb4 ⊢
  obtain ⟨W0, hW0⟩ : ∃ W0, w2.alloc (.cells #[.int .i64 xk, .int .i64 xn, .string xs, .slice ax xl cx] 27) = W0 := ⟨_, rfl⟩
  rw [hW0] at P1 P2 P3 P4 P5 P6 e7 hb4
  have HW : Hid (w2.alloc (.cells #[.int .i64 xk, .int .i64 xn, .string xs, .slice ax xl cx] 27) = W0) := hW0
  have HB5 : Hid (Below W.heap.size W W0) := HB2.out.trans (hb4.mono HB2.out.size)
  have hlt : w2.heap.size < W0.heap.size := by rw [← hW0]; simp
  have keep : ∀ w5, Below W0.heap.size W0 w5 → w5.cell? ⟨w2.heap.size, 0, none⟩ = some (.int .i64 xk) ∧ w5.cell? ⟨w2.heap.size, 1, none⟩ = some (.int .i64 xn) ∧ w5.cell? ⟨w2.heap.size, 2, none⟩ = some (.string xs) ∧ w5.cell? ⟨w2.heap.size, 3, none⟩ = some (.slice ax xl cx) := fun w5 h => by
    have h0 := (h.block w2.heap.size hlt).trans e7
    exact ⟨cell_of_heap h0 rfl, cell_of_heap h0 rfl, cell_of_heap h0 rfl, cell_of_heap h0 rfl⟩
  obtain ⟨q0, q1, q2, q3⟩ := keep W0 (Below.refl _ _)
  have KEEP := Lib.hid keep
  have hr0 : Below W0.heap.size W0 W0 := Below.refl _ _
  clear keep e7 hb4 hlt hW0 hze hzs hzd hxk hxn hxs hxl hx nx x1 x2 x3 xb xsv HB HB2 N1 G1 K1 HA
  go_wp2_with fail
  rw [HW.out]
  go_region_held3 (fun w' => w'.cell? ⟨w2.heap.size, 0, none⟩ = some (.int .i64 xk) ∧ w'.cell? ⟨w2.heap.size, 1, none⟩ = some (.int .i64 xn) ∧ w'.cell? ⟨w2.heap.size, 2, none⟩ = some (.string xs) ∧ w'.cell? ⟨w2.heap.size, 3, none⟩ = some (.slice ax xl cx))
    (first | exact KEEP.out _ (by assumption) | go_keep)
    (first | (go_at_call 12; refine (OneIs.call P1 (by first | assumption | exact (Below.refl _ _).drew)).mono ?_; rintro _ w6 ⟨rfl, hb6⟩) | (go_at_call 13; refine (OneIs.call P2 (by first | assumption | exact (Below.refl _ _).drew)).mono ?_; rintro _ w6 ⟨rfl, hb6⟩) | (go_at_call 14; refine (OneIs.call P3 (by first | assumption | exact (Below.refl _ _).drew)).mono ?_; rintro _ w6 ⟨rfl, hb6⟩) | (go_at_call 15; refine (OneIs.call P4 (by first | assumption | exact (Below.refl _ _).drew)).mono ?_; rintro _ w6 ⟨rfl, hb6⟩) | (go_at_call 16; refine (OneIs.call P5 (by first | assumption | exact (Below.refl _ _).drew)).mono ?_; rintro _ w6 ⟨rfl, hb6⟩) | (go_at_call 17; refine (OneIs.call P6 (by first | assumption | exact (Below.refl _ _).drew)).mono ?_; rintro _ w6 ⟨rfl, hb6⟩))
  all_goals
    have HL : Hid (Below W.heap.size W w6) := HB5.out.trans (hb6.mono HB5.out.size)
    go_wp2
    go_ret
    exact ⟨rfl, HL.out⟩
end Go.Proofs.Ytijaelejfckihaa
