/- TermNumbers' walk. Conditions: the argument's memory; its numbers fit 64 bits. -/
import Derived.Test.YtijaelejfckihaaTermAj
namespace Go.Proofs.Ytijaelejfckihaa
open Go Go.RowKit
attribute [local go_sem ↓] Go.wp_at_zero Go.wp_at_succ

set_option maxRecDepth 100000 in
set_option maxHeartbeats 4000000 in
theorem numbers_walk (W : World) (a1 : Option Addr) (n1 c1 B1 o1 : Nat) (p1 : List PRow) (h1 : ArgOk W a1 n1 c1 B1 o1 p1) (hr1 : ∀ x ∈ p1, R64 x.n) :
    Calls Try.prog 6 #[.slice a1 n1 c1] W fun e w' => e = .returned (.bool true) ∧ Below W.heap.size W w' := by
  have HA := Lib.hid (alive_is W)
  have H1 := Lib.hid h1
  have HF := Lib.hid (good_all hr1)
  clear h1 hr1
  by_cases g1 : n1 ≤ 60
  case neg =>
    have G1 := Lib.hid (fun w => great_yes a1 n1 c1 w g1)
    clear g1
    go_enter Try.func6, Try.ntmps6
    go_wp2_with fail
    refine HA.out.mono ?_
    rintro _ w1 ⟨rfl, hb⟩
    go_wp2_with fail
    refine (G1.out _).mono ?_
    rintro _ _ ⟨rfl, rfl⟩
    go_wp2
    go_ret
    exact ⟨rfl, hb⟩
  have G1 := Lib.hid (fun w => great_no a1 n1 c1 w g1)
  have K1 := Lib.hid (fun w hb => arg_good (w := w) H1.out g1 hb)
  have hl1 := H1.out.len
  have N1 : Hid ((goodT p1).nodes ≤ 800000) := by have := good_nodes p1; show _ ≤ _; omega
  obtain ⟨t1, ht1⟩ : ∃ t, goodT p1 = t := ⟨_, rfl⟩
  rw [ht1] at K1 N1 HF
  clear g1 hl1 H1 ht1
  go_enter Try.func6, Try.ntmps6
  go_wp2_with fail
  refine HA.out.mono ?_
  rintro _ w1 ⟨rfl, hb⟩
  have HB := Lib.hid hb
  clear hb
  go_wp2_with fail
  refine (G1.out _).mono ?_
  rintro _ _ ⟨rfl, rfl⟩
  go_wp2_with fail
  refine (K1.out _ HB.out).mono ?_
  rintro _ w2 ⟨x, rfl, x1, x2, x3, xb⟩
  obtain ⟨ax, cx, xsv, _⟩ := sv_form (AT.mem_mk.1 x2).1
  rw [xsv]
  have HB2 : Hid (Below W.heap.size W w2) := HB.out.trans (xb.mono HB.out.size)
  have nx : x.nodes ≤ 800000 := by rw [← AT.nodes_erase, x1]; exact N1.out
  have fx : Fine x := by unfold Fine; rw [x1]; exact HF.out
  have hb4 : Below w2.heap.size w2 (w2.alloc (.cells #[.int .i64 x.k, .int .i64 x.n, .string x.s, .slice ax x.l.length cx] 27)) := (Below.refl _ _).alloc (Nat.le_refl _) _
  have e7 := new_at w2 (.cells #[.int .i64 x.k, .int .i64 x.n, .string x.s, .slice ax x.l.length cx] 27) rfl
  have hx := AT.mem_below hb4 (AT.ins_size _ x2) x2
  have NM := numberT_is x (w2.alloc (.cells #[.int .i64 x.k, .int .i64 x.n, .string x.s, .slice ax x.l.length cx] 27)) hx nx (fine_n fx) (fine_s fx)
  rw [xsv] at NM
  have HM := Lib.hid NM
  have F := Lib.hid (And.intro nx (And.intro fx (And.intro hx (And.intro xsv (And.intro e7 hb4)))))
  clear NM hx e7 hb4 fx nx x1 x2 x3 xb xsv HB HF N1 K1 G1 HA
  go_wp2_with fail
  refine HM.out.mono ?_
  rintro _ w3 ⟨u, rfl, u1, u2, u3, ub⟩
  obtain ⟨au, cu, usv, _⟩ := sv_form (AT.mem_mk.1 u2).1
  rw [usv]
  obtain ⟨nx, fx, hx, xsv, e7, hb4⟩ := F.out
  have hb5 : Below w3.heap.size w3 (w3.alloc (.cells #[.int .i64 u.k, .int .i64 u.n, .string u.s, .slice au u.l.length cu] 27)) := (Below.refl _ _).alloc (Nat.le_refl _) _
  have f7 := new_at w3 (.cells #[.int .i64 u.k, .int .i64 u.n, .string u.s, .slice au u.l.length cu] 27) rfl
  have hB3 := HB2.out.trans (hb4.mono HB2.out.size)
  have hB4 := hB3.trans (ub.mono hB3.size)
  have hB5 := hB4.trans (hb5.mono hB4.size)
  have hx3 := AT.mem_below ub (AT.ins_size _ hx) hx
  have hx5 := AT.mem_below hb5 (AT.ins_size _ hx3) hx3
  have hu5 := AT.mem_below hb5 (AT.ins_size _ u2) u2
  have fu := fine_num fx u1 nx
  have hdim := num_dims u1
  have nu : u.nodes ≤ 800000 := by rw [hdim.2]; exact nx
  have hvs := num_vars u1
  have P1 := numIs_of hu5 nu fu (num_twice u1) usv
  have P2 := oneIs_of hx5 xsv (fun w h => size_is x w h nx)
  have P3 := oneIs_of hu5 usv (fun w h => size_is u w h nu)
  have P4 := oneIs_of hx5 xsv (fun w h => deep_dp x w h nx)
  have P5 := oneIs_of hu5 usv (fun w h => deep_dp u w h nu)
  have P6 := lenIs_of hx5 nx fx xsv
  have P7 := lenIs_of hu5 nu fu usv
  have V := vars_is u (w3.alloc (.cells #[.int .i64 u.k, .int .i64 u.n, .string u.s, .slice au u.l.length cu] 27)) hu5 nu (fine_n fu)
  have hl : (varsT u).length = (varsT x).length := by rw [hvs]; simp [upTo]
  have hlen := varsT_len nx
  rw [hvs, usv] at V
  rw [hl] at P7
  rw [hdim.2] at P3
  rw [hdim.1] at P5
  obtain ⟨m, hm⟩ : ∃ m, (varsT x).length = m := ⟨_, rfl⟩
  rw [hm] at P6 P7 V hlen
  obtain ⟨zs, hzs⟩ : ∃ z, x.nodes = z := ⟨_, rfl⟩
  obtain ⟨zd, hzd⟩ : ∃ z, x.dp = z := ⟨_, rfl⟩
  rw [hzs] at P2 P3
  rw [hzd] at P4 P5
  obtain ⟨xk, hxk⟩ : ∃ k, x.k = k := ⟨_, rfl⟩
  obtain ⟨xn, hxn⟩ : ∃ k, x.n = k := ⟨_, rfl⟩
  obtain ⟨xs, hxs⟩ : ∃ k, x.s = k := ⟨_, rfl⟩
  obtain ⟨xl, hxl⟩ : ∃ k, x.l.length = k := ⟨_, rfl⟩
  obtain ⟨uk, huk⟩ : ∃ k, u.k = k := ⟨_, rfl⟩
  obtain ⟨un, hun⟩ : ∃ k, u.n = k := ⟨_, rfl⟩
  obtain ⟨us, hus⟩ : ∃ k, u.s = k := ⟨_, rfl⟩
  obtain ⟨ul, hul⟩ : ∃ k, u.l.length = k := ⟨_, rfl⟩
  rw [hxk, hxn, hxs, hxl] at P2 P4 P6 e7 ub
  rw [huk, hun, hus, hul] at P1 P2 P3 P4 P5 P6 P7 V f7 hb5 hB5
  rw [hxk, hxn, hxs, hxl, huk, hun, hus, hul]
  obtain ⟨W0, hW0⟩ : ∃ W0, w3.alloc (.cells #[.int .i64 uk, .int .i64 un, .string us, .slice au ul cu] 27) = W0 := ⟨_, rfl⟩
  rw [hW0] at P1 P2 P3 P4 P5 P6 P7 V f7 hb5 hB5
  have HW : Hid (w3.alloc (.cells #[.int .i64 uk, .int .i64 un, .string us, .slice au ul cu] 27) = W0) := hW0
  have hs2 := (Array.getElem?_eq_some_iff.1 e7).1
  have hs3 := ub.size
  have hs5 := hb5.size
  have hlt : w3.heap.size < W0.heap.size := by rw [← hW0]; simp
  have keep : ∀ w5, Below W0.heap.size W0 w5 → w5.cell? ⟨w2.heap.size, 0, none⟩ = some (.int .i64 xk) ∧ w5.cell? ⟨w2.heap.size, 1, none⟩ = some (.int .i64 xn) ∧ w5.cell? ⟨w2.heap.size, 2, none⟩ = some (.string xs) ∧ w5.cell? ⟨w2.heap.size, 3, none⟩ = some (.slice ax xl cx) ∧
      w5.cell? ⟨w3.heap.size, 0, none⟩ = some (.int .i64 uk) ∧ w5.cell? ⟨w3.heap.size, 1, none⟩ = some (.int .i64 un) ∧ w5.cell? ⟨w3.heap.size, 2, none⟩ = some (.string us) ∧ w5.cell? ⟨w3.heap.size, 3, none⟩ = some (.slice au ul cu) := fun w5 h => by
    have h0 := (h.block w2.heap.size (by omega)).trans ((hb5.block w2.heap.size (by omega)).trans ((ub.block w2.heap.size (by omega)).trans e7))
    have h1 := (h.block w3.heap.size hlt).trans f7
    exact ⟨cell_of_heap h0 rfl, cell_of_heap h0 rfl, cell_of_heap h0 rfl, cell_of_heap h0 rfl, cell_of_heap h1 rfl, cell_of_heap h1 rfl, cell_of_heap h1 rfl, cell_of_heap h1 rfl⟩
  have KEEP := Lib.hid keep
  have HV := Lib.hid V
  have HB5 := Lib.hid hB5
  clear keep V hB5 hs2 hs3 hs5 hlt hW0 hxk hxn hxs hxl huk hun hus hul hzs hzd hm hl hvs nu hdim fu hu5 hx5 hx3 hB4 hB3 f7 hb5 nx fx hx xsv e7 hb4 u1 u2 u3 ub usv F HM HB2
  go_wp2_with fail
  rw [HW.out]
  refine HV.out.mono ?_
  rintro _ w6 ⟨v, rfl, ho, hb6, _⟩
  obtain ⟨ad, cap, g, rfl, v1, v2, v3, v4⟩ := row_vals ho
  rw [show (upTo m).length = m from by simp [upTo]] at v1 v3 ⊢
  have HV3 := Lib.hid v3
  have HV4 := Lib.hid v4
  have HB6 := Lib.hid hb6
  clear ho v3 v4 HV hb6
  go_wp2
  go_loop [18] (fun c => ∃ i : Nat, c = .int .i64 i ∧ i ≤ m) (fun c => m - (intOf c).toNat)
  case atStart => exact ⟨0, rfl, Nat.zero_le _⟩
  case round =>
    obtain ⟨i, rfl, hi⟩ := hrel
    by_cases hlt : i < m
    · obtain rfl : ad = some ⟨g, 0, none⟩ := HV3.out (by omega)
      have e0 := HV4.out i i (by simp [upTo, hlt])
      have i1 : (0 : Int) ≤ (i : Int) := by omega
      have i2 : (i : Int) < (m : Int) := by omega
      go_wp2
      go_round
      case rel => exact ⟨i + 1, by go_num, by omega⟩
      case measure => simp [intOf]; omega
    · have hie : i = m := by omega
      subst hie
      have hb6 := HB6.out
      obtain ⟨q0, q1, q2, q3, q4, q5, q6, q7⟩ := KEEP.out _ hb6
      go_wp2_with fail
      go_region_held3 (fun w' => w'.cell? ⟨w2.heap.size, 0, none⟩ = some (.int .i64 xk) ∧ w'.cell? ⟨w2.heap.size, 1, none⟩ = some (.int .i64 xn) ∧ w'.cell? ⟨w2.heap.size, 2, none⟩ = some (.string xs) ∧ w'.cell? ⟨w2.heap.size, 3, none⟩ = some (.slice ax xl cx) ∧
          w'.cell? ⟨w3.heap.size, 0, none⟩ = some (.int .i64 uk) ∧ w'.cell? ⟨w3.heap.size, 1, none⟩ = some (.int .i64 un) ∧ w'.cell? ⟨w3.heap.size, 2, none⟩ = some (.string us) ∧ w'.cell? ⟨w3.heap.size, 3, none⟩ = some (.slice au ul cu))
        (first | exact KEEP.out _ (by assumption) | go_keep)
        (first | (go_at_call 25; refine (NumIs.at' P1 _ (by first | assumption | exact hb6.drew)).mono ?_; rintro _ w7 ⟨k', n', s', a', l', c', rfl, hb7, tw⟩) | (go_at_call 26; refine (TwinIs.at' (by assumption) _ (by first | exact Below.refl _ _ | exact (Below.refl _ _).drew)).mono ?_; rintro _ w8 ⟨rfl, hb8⟩) | (go_at_call 14; refine (OneIs.call (by assumption) (by assumption)).mono ?_; rintro _ w8 ⟨rfl, hb8⟩) | (go_at_call 16; refine (OneIs.call (by assumption) (by assumption)).mono ?_; rintro _ w8 ⟨rfl, hb8⟩) | (go_at_call 19; refine (LenIs.at' (by assumption) _ (by assumption)).mono ?_; rintro _ w8 ⟨ad', cap', rfl, hb8⟩))
      all_goals
        have HL : Hid (Below W.heap.size W w8) := HB5.out.trans (hb8.mono HB5.out.size)
        go_wp2
        go_ret
        exact ⟨rfl, HL.out⟩

end Go.Proofs.Ytijaelejfckihaa
