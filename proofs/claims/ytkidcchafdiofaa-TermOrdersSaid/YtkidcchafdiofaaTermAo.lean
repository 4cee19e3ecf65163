/- The document's Compare: a contract. Conditions: memory holds both terms; each has at most 800000 parts. -/
import Derived.Test.YtkidcchafdiofaaTermAn
namespace Go.Proofs.Ytkidcchafdiofaa
open Go Go.RowKit
attribute [local go_sem ↓] Go.wp_at_zero Go.wp_at_succ

set_option maxRecDepth 100000 in
set_option maxHeartbeats 4000000 in
theorem cmpR_step (m : Nat) (ih : ∀ (x y : AT) (w : World), x.nodes ≤ m → x.mem w → y.mem w → y.nodes ≤ 800000 → x.nodes ≤ 800000 → Calls Try.prog 22 #[x.val, y.val] w fun e w' => e = .returned (.int .i64 (x.cmpR y)) ∧ Below w.heap.size w w')
    (x y : AT) (w : World) (hn : x.nodes ≤ m + 1) (hx : x.mem w) (hy : y.mem w) (hny : y.nodes ≤ 800000) (hnx : x.nodes ≤ 800000) :
    Calls Try.prog 22 #[.agg #[.int .i64 x.k, .int .i64 x.n, .string x.s, x.sv], .agg #[.int .i64 y.k, .int .i64 y.n, .string y.s, y.sv]] w fun e w' => e = .returned (.int .i64 (x.cmpR y)) ∧ Below w.heap.size w w' := by
  obtain ⟨hxs, hxm⟩ := AT.mem_mk.1 hx
  obtain ⟨hys, hym⟩ := AT.mem_mk.1 hy
  obtain ⟨ad, cx, ex, lx, mx, ax⟩ := sv_form hxs
  obtain ⟨bd, cy, ey, ly, my, ay⟩ := sv_form hys
  have hlx := len_nodes x.l
  have hly := len_nodes y.l
  have hnx2 := hnx
  have hny2 := hny
  rw [AT.nodes_mk] at hnx2 hny2
  obtain ⟨r, hr⟩ : ∃ r, x.cmpR y = r := ⟨_, rfl⟩
  have HR := Lib.hid (hr.symm.trans AT.cmpR_mk)
  rw [hr, ex, ey]
  have HX := Lib.hid hxm
  have HY := Lib.hid hym
  have HAX := Lib.hid ax
  have HAY := Lib.hid ay
  have HI := Lib.hid ih
  have HN := Lib.hid hn
  have HNX := Lib.hid hnx
  have HNY := Lib.hid hny
  have hl1 : x.l.length ≤ 800000 := by omega
  have hl2 : y.l.length ≤ 800000 := by omega
  obtain ⟨nx, hnx'⟩ : ∃ n, x.l.length = n := ⟨_, rfl⟩
  obtain ⟨ny, hny'⟩ : ∃ n, y.l.length = n := ⟨_, rfl⟩
  rw [hnx'] at lx hl1 HAX HR ⊢
  rw [hny'] at ly hl2 HAY HR ⊢
  have HLX := Lib.hid hnx'
  have HLY := Lib.hid hny'
  unfold maxLen at mx my
  clear hr hxm hym ax ay ex ey ih hn hnx hny hx hy hxs hys hlx hly hnx2 hny2 hnx' hny'
  obtain ⟨k1, hk1⟩ : ∃ k, x.k = k := ⟨_, rfl⟩
  obtain ⟨k2, hk2⟩ : ∃ k, y.k = k := ⟨_, rfl⟩
  obtain ⟨n1, hn1⟩ : ∃ k, x.n = k := ⟨_, rfl⟩
  obtain ⟨n2, hn2⟩ : ∃ k, y.n = k := ⟨_, rfl⟩
  obtain ⟨s1, hs1⟩ : ∃ k, x.s = k := ⟨_, rfl⟩
  obtain ⟨s2, hs2⟩ : ∃ k, y.s = k := ⟨_, rfl⟩
  have HS1 := Lib.hid hs1
  have HS2 := Lib.hid hs2
  rw [hk1, hk2, hn1, hn2, hs1, hs2] at HR
  rw [hk1, hk2, hn1, hn2, hs1, hs2]
  clear hk1 hk2 hn1 hn2 hs1 hs2
  have fin : ∀ A B : Obj, Below w.heap.size w ((w.alloc A).alloc B) := fun A B => ((Below.refl _ _).alloc (Nat.le_refl _) _).alloc (by simp) _
  have FIN := Lib.hid fin
  clear fin
  by_cases hk : k1 = k2
  case neg =>
    have hk' : (k1 != k2) = true := by rw [bne_iff_ne]; exact hk
    by_cases hlt : k1 < k2
    · have hd : decide (k1 < k2) = true := decide_eq_true hlt
      have HE : Hid (r = -1) := by show r = -1; rw [HR.out, cmpInt_lt hlt]; rfl
      clear hk hlt
      go_enter Try.func22, Try.ntmps22
      go_wp2
      go_ret
      exact ⟨by rw [HE.out]; rfl, FIN.out _ _⟩
    · have hd : decide (k1 < k2) = false := decide_eq_false hlt
      have HE : Hid (r = 1) := by show r = 1; rw [HR.out, cmpInt_gt (by omega)]; rfl
      clear hk hlt
      go_enter Try.func22, Try.ntmps22
      go_wp2
      go_ret
      exact ⟨by rw [HE.out]; rfl, FIN.out _ _⟩
  subst hk
  rw [int_self, if_neg (by omega)] at HR
  by_cases h2 : k1 ≤ 2
  case pos =>
    have hd0 : decide (k1 ≤ 2) = true := decide_eq_true h2
    rw [if_pos h2] at HR
    clear h2
    rcases Int.lt_trichotomy n1 n2 with h | h | h
    · have hd : decide (n1 < n2) = true := decide_eq_true h
      have HE : Hid (r = -1) := by show r = -1; rw [HR.out, cmpInt_lt h]
      clear h
      go_enter Try.func22, Try.ntmps22
      go_wp2
      go_ret
      exact ⟨by rw [HE.out]; rfl, FIN.out _ _⟩
    · subst h
      have HE : Hid (r = 0) := by show r = 0; rw [HR.out, int_self]
      go_enter Try.func22, Try.ntmps22
      go_wp2
      go_ret
      exact ⟨by rw [HE.out]; rfl, FIN.out _ _⟩
    · have hd : decide (n1 < n2) = false := decide_eq_false (by omega)
      have hd2 : decide (n2 < n1) = true := decide_eq_true h
      have HE : Hid (r = 1) := by show r = 1; rw [HR.out, cmpInt_gt h]
      clear h
      go_enter Try.func22, Try.ntmps22
      go_wp2
      go_ret
      exact ⟨by rw [HE.out]; rfl, FIN.out _ _⟩
  have hd0 : decide (k1 ≤ 2) = false := decide_eq_false h2
  rw [if_neg h2] at HR
  clear h2
  by_cases hnn : nx = ny
  case neg =>
    have hne : ((nx : Int) != (ny : Int)) = true := by rw [bne_iff_ne]; omega
    by_cases hlt : nx < ny
    · have hd : decide ((nx : Int) < (ny : Int)) = true := decide_eq_true (by omega)
      have hd' : decide (nx < ny) = true := decide_eq_true hlt
      have HE : Hid (r = -1) := by show r = -1; rw [HR.out, cmpInt_lt (show (nx : Int) < (ny : Int) by omega)]; rfl
      clear hnn
      go_enter Try.func22, Try.ntmps22
      go_wp2
      go_ret
      exact ⟨by rw [HE.out]; rfl, FIN.out _ _⟩
    · have hd : decide ((nx : Int) < (ny : Int)) = false := decide_eq_false (by omega)
      have hd' : decide (nx < ny) = false := decide_eq_false hlt
      have HE : Hid (r = 1) := by show r = 1; rw [HR.out, cmpInt_gt (show (ny : Int) < (nx : Int) by omega)]; rfl
      clear hnn
      go_enter Try.func22, Try.ntmps22
      go_wp2
      go_ret
      exact ⟨by rw [HE.out]; rfl, FIN.out _ _⟩
  subst hnn
  rw [int_self, if_neg (by omega)] at HR
  obtain ⟨so, hso⟩ : ∃ so, cmpB s1.toList s2.toList = so := ⟨_, rfl⟩
  rw [hso] at HR
  have OR := Lib.hid (order_is s1 s2)
  rw [hso] at OR
  have HSO : Hid (cmpB x.s.toList y.s.toList = so) := by show _ = _; rw [HS1.out, HS2.out, hso]
  clear hso HS1 HS2
  have HRR : Hid (r = if so ≠ 0 then so else ATs.cmpR x.l y.l) := HR.out
  clear HR
  go_enter Try.func22, Try.ntmps22
  go_wp2_with fail
  refine (OR.out _).mono ?_
  rintro _ _ ⟨rfl, rfl⟩
  go_wp2
  have HW : Hid (Below w.heap.size w ((w.alloc (.cells #[.int .i64 k1, .int .i64 n1, .string s1, .slice ad nx cx] 27)).alloc (.cells #[.int .i64 k1, .int .i64 n2, .string s2, .slice bd nx cy] 27))) := FIN.out _ _
  have c3 : ((w.alloc (.cells #[.int .i64 k1, .int .i64 n1, .string s1, .slice ad nx cx] 27)).alloc (.cells #[.int .i64 k1, .int .i64 n2, .string s2, .slice bd nx cy] 27)).cell? ⟨w.heap.size, 3, none⟩ = some (.slice ad nx cx) := by go_simp
  have d3 : ((w.alloc (.cells #[.int .i64 k1, .int .i64 n1, .string s1, .slice ad nx cx] 27)).alloc (.cells #[.int .i64 k1, .int .i64 n2, .string s2, .slice bd nx cy] 27)).cell? ⟨w.heap.size + 1, 3, none⟩ = some (.slice bd nx cy) := by go_simp
  have HC3 := Lib.hid c3
  have HD3 := Lib.hid d3
  have hsz : ((w.alloc (.cells #[.int .i64 k1, .int .i64 n1, .string s1, .slice ad nx cx] 27)).alloc (.cells #[.int .i64 k1, .int .i64 n2, .string s2, .slice bd nx cy] 27)).heap.size = w.heap.size + 2 := by simp
  have HSZ := Lib.hid hsz
  clear c3 d3 hsz FIN OR
  obtain ⟨W2, hW2⟩ : ∃ W2, ((w.alloc (.cells #[.int .i64 k1, .int .i64 n1, .string s1, .slice ad nx cx] 27)).alloc (.cells #[.int .i64 k1, .int .i64 n2, .string s2, .slice bd nx cy] 27)) = W2 := ⟨_, rfl⟩
  rw [hW2] at HW HC3 HD3 HSZ ⊢
  clear hW2
  go_loopw [5, 6] (fun c vi wr => ∃ (i : Nat) (z : Int), vi = .int .i64 i ∧ c = .int .i64 z ∧ i ≤ nx ∧ Hid (Below W2.heap.size W2 wr ∧ z = (if so ≠ 0 then so else ATs.cmpR (x.l.take i) (y.l.take i)))) (fun _ vi _ => nx - (intOf vi).toNat)
  case atStart => exact ⟨0, so, rfl, rfl, Nat.zero_le _, Below.refl _ _, by simp [ATs.cmpR]⟩
  case round =>
    obtain ⟨i, z, rfl, rfl, hi, HSt⟩ := hrel
    have hbw : Below w.heap.size w wr := HW.out.trans (HSt.out.1.mono (by rw [HSZ.out]; omega))
    have hwl : W2.heap.size ≤ wr.heap.size := HSt.out.1.size
    have HB := Lib.hid hbw
    have q0 := (HSt.out.1.cell (p := ⟨w.heap.size, 3, none⟩) (by rw [HSZ.out]; show w.heap.size < _; omega)).trans HC3.out
    have q1 := (HSt.out.1.cell (p := ⟨w.heap.size + 1, 3, none⟩) (by rw [HSZ.out]; show w.heap.size + 1 < _; omega)).trans HD3.out
    by_cases hz : z = 0
    case neg =>
      have HE : Hid (r = z) := by
        show r = z
        have h := HSt.out.2
        rw [HRR.out]
        by_cases hs : so = 0
        · rw [if_neg (by simp [hs])] at h ⊢
          rw [h, cmpR_done i x.l y.l (by rw [HLX.out, HLY.out]) (by rw [← h]; exact hz)]
        · rw [if_pos hs] at h ⊢
          exact h.symm
      have hb : (z == 0) = false := beq_eq_false_iff_ne.2 hz
      clear hz hwl hbw HSt
      by_cases hlt : i < nx
      · have i2 : decide ((i : Int) < (nx : Int)) = true := decide_eq_true (by omega)
        go_wp2
        go_ret
        exact ⟨by rw [HE.out]; rfl, HB.out⟩
      · have hie : i = nx := by omega
        subst hie
        go_wp2
        go_ret
        exact ⟨by rw [HE.out]; rfl, HB.out⟩
    subst hz
    have hso : so = 0 := by
      have h := HSt.out.2
      by_cases hs : so = 0
      · exact hs
      · rw [if_pos hs] at h; exact absurd h.symm hs
    have HTK : Hid (ATs.cmpR (x.l.take i) (y.l.take i) = 0) := by
      have h := HSt.out.2
      rw [if_neg (by simp [hso])] at h
      exact h.symm
    by_cases hlt : i < nx
    · obtain ⟨tx, htx⟩ : ∃ t, x.l[i]? = some t := ⟨x.l[i]'(by rw [HLX.out]; exact hlt), List.getElem?_eq_getElem _⟩
      obtain ⟨ty, hty⟩ : ∃ t, y.l[i]? = some t := ⟨y.l[i]'(by rw [HLY.out]; exact hlt), List.getElem?_eq_getElem _⟩
      obtain rfl : ad = some ⟨x.G, x.off, none⟩ := HAX.out (by omega)
      obtain rfl : bd = some ⟨y.G, y.off, none⟩ := HAY.out (by omega)
      obtain ⟨⟨_, e0, e1, e2, e3⟩, em⟩ := mem_get HX.out htx
      obtain ⟨⟨_, f0, f1, f2, f3⟩, fm⟩ := mem_get HY.out hty
      have keep : ∀ w5, Below wr.heap.size wr w5 → w5.cell? ⟨w.heap.size, 3, none⟩ = some (.slice (some ⟨x.G, x.off, none⟩) nx cx) ∧ w5.cell? ⟨w.heap.size + 1, 3, none⟩ = some (.slice (some ⟨y.G, y.off, none⟩) nx cy) ∧
          w5.cell? ⟨x.G, x.off + i * 4, none⟩ = some (.int .i64 tx.k) ∧ w5.cell? ⟨x.G, x.off + i * 4 + 1, none⟩ = some (.int .i64 tx.n) ∧ w5.cell? ⟨x.G, x.off + i * 4 + 2, none⟩ = some (.string tx.s) ∧ w5.cell? ⟨x.G, x.off + i * 4 + 3, none⟩ = some tx.sv ∧
          w5.cell? ⟨y.G, y.off + i * 4, none⟩ = some (.int .i64 ty.k) ∧ w5.cell? ⟨y.G, y.off + i * 4 + 1, none⟩ = some (.int .i64 ty.n) ∧ w5.cell? ⟨y.G, y.off + i * 4 + 2, none⟩ = some (.string ty.s) ∧ w5.cell? ⟨y.G, y.off + i * 4 + 3, none⟩ = some ty.sv := by
        intro w5 hb5
        have h2 : Below W2.heap.size W2 w5 := HSt.out.1.trans (hb5.mono hwl)
        have hb : Below w.heap.size w w5 := hbw.trans (hb5.mono (by rw [HSZ.out] at hwl; omega))
        refine ⟨(h2.cell (p := ⟨w.heap.size, 3, none⟩) (by rw [HSZ.out]; show w.heap.size < _; omega)).trans HC3.out, (h2.cell (p := ⟨w.heap.size + 1, 3, none⟩) (by rw [HSZ.out]; show w.heap.size + 1 < _; omega)).trans HD3.out, ?_, ?_, ?_, ?_, ?_, ?_, ?_, ?_⟩
        · exact (hb.cell (World.block_lt_of_cell? _ _ e0)).trans e0
        · exact (hb.cell (World.block_lt_of_cell? _ _ e1)).trans e1
        · exact (hb.cell (World.block_lt_of_cell? _ _ e2)).trans e2
        · exact (hb.cell (World.block_lt_of_cell? _ _ e3)).trans e3
        · exact (hb.cell (World.block_lt_of_cell? _ _ f0)).trans f0
        · exact (hb.cell (World.block_lt_of_cell? _ _ f1)).trans f1
        · exact (hb.cell (World.block_lt_of_cell? _ _ f2)).trans f2
        · exact (hb.cell (World.block_lt_of_cell? _ _ f3)).trans f3
      have KEEP := Lib.hid keep
      have hntx := nodes_mem (List.mem_of_getElem? htx)
      have hnty := nodes_mem (List.mem_of_getElem? hty)
      have hN := HN.out
      have hNX := HNX.out
      have hNY := HNY.out
      rw [AT.nodes_mk] at hN hNX hNY
      have C := Lib.hid (fun (w1 : World) (h1 : Below wr.heap.size wr w1) => (HI.out tx ty w1 (by omega) (AT.mem_below (hbw.trans (h1.mono (by rw [HSZ.out] at hwl; omega))) (AT.ins_size _ em) em) (AT.mem_below (hbw.trans (h1.mono (by rw [HSZ.out] at hwl; omega))) (AT.ins_size _ fm) fm) (by omega) (by omega)).mono (R' := fun e w' => e = .returned (.int .i64 (tx.cmpR ty)) ∧ Below wr.heap.size wr w') fun e w' hp => ⟨hp.1, h1.trans (hp.2.mono h1.size)⟩)
      clear q0 q1
      obtain ⟨q0, q1, q2, q3, q4, q5, q6, q7, q8, q9⟩ := keep wr (Below.refl _ _)
      have HS2 := Lib.hid (cmpR_take i x.l y.l tx ty htx hty HTK.out)
      obtain ⟨b, hb⟩ : ∃ b, tx.cmpR ty = b := ⟨_, rfl⟩
      rw [hb] at C HS2
      have i1 : (0 : Int) ≤ (i : Int) := by omega
      have i2 : (i : Int) < (nx : Int) := by omega
      have HSO2 := Lib.hid hso
      have HST2 := Lib.hid HSt.out.1
      have hi1 : i ≤ 800000 := by omega
      clear hntx hnty hN hNX hNY e0 e1 e2 e3 f0 f1 f2 f3 em fm keep hbw hb htx hty hwl HSt hso HTK
      go_wp2_with fail
      go_region_held3 (fun w' => w'.cell? ⟨w.heap.size, 3, none⟩ = some (.slice (some ⟨x.G, x.off, none⟩) nx cx) ∧ w'.cell? ⟨w.heap.size + 1, 3, none⟩ = some (.slice (some ⟨y.G, y.off, none⟩) nx cy) ∧
          w'.cell? ⟨x.G, x.off + i * 4, none⟩ = some (.int .i64 tx.k) ∧ w'.cell? ⟨x.G, x.off + i * 4 + 1, none⟩ = some (.int .i64 tx.n) ∧ w'.cell? ⟨x.G, x.off + i * 4 + 2, none⟩ = some (.string tx.s) ∧ w'.cell? ⟨x.G, x.off + i * 4 + 3, none⟩ = some tx.sv ∧
          w'.cell? ⟨y.G, y.off + i * 4, none⟩ = some (.int .i64 ty.k) ∧ w'.cell? ⟨y.G, y.off + i * 4 + 1, none⟩ = some (.int .i64 ty.n) ∧ w'.cell? ⟨y.G, y.off + i * 4 + 2, none⟩ = some (.string ty.s) ∧ w'.cell? ⟨y.G, y.off + i * 4 + 3, none⟩ = some ty.sv)
        (first | exact KEEP.out _ (by assumption) | go_keep)
        (first | (go_at_call 22; refine (C.out _ (by first | exact Below.refl _ _ | exact (Below.refl _ _).drew)).mono ?_; rintro _ w5 ⟨rfl, hb6⟩))
      all_goals
        have HW5 : Hid (Below W2.heap.size W2 w5) := HST2.out.trans (hb6.mono HST2.out.size)
        clear hb6 q0 q1 q2 q3 q4 q5 q6 q7 q8 q9 C KEEP
        go_wp2
        go_roundw
        case rel => exact ⟨i + 1, b, by go_num, rfl, by omega, HW5.out, by rw [if_neg (by simp [HSO2.out]), HS2.out]⟩
        case measure => simp [intOf]; omega
    · have hie : i = nx := by omega
      have HE : Hid (r = 0) := by
        show r = 0
        have h := HTK.out
        rw [List.take_of_length_le (by rw [HLX.out]; omega), List.take_of_length_le (by rw [HLY.out]; omega)] at h
        rw [HRR.out, if_neg (by simp [hso]), h]
      subst hie
      clear hwl hbw HSt hso HTK
      go_wp2
      go_ret
      exact ⟨by rw [HE.out]; rfl, HB.out⟩

theorem cmpR_is : ∀ (m : Nat) (x y : AT) (w : World), x.nodes ≤ m → x.mem w → y.mem w → y.nodes ≤ 800000 → x.nodes ≤ 800000 → Calls Try.prog 22 #[x.val, y.val] w fun e w' => e = .returned (.int .i64 (x.cmpR y)) ∧ Below w.heap.size w w'
  | 0, x, _, _, h, _, _, _, _ => by have := nodes_pos x; omega
  | m + 1, x, y, w, h, hx, hy, h1, h2 => cmpR_step m (cmpR_is m) x y w h hx hy h1 h2

end Go.Proofs.Ytkidcchafdiofaa
