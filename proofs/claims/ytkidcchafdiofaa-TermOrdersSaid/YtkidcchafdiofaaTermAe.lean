/- The document's Size and Deep: contracts. Conditions: memory holds the term; it has at most 800000 parts. -/
import Derived.Test.YtkidcchafdiofaaTermAc
namespace Go.Proofs.Ytkidcchafdiofaa
open Go Go.RowKit
attribute [local go_sem ↓] Go.wp_at_zero Go.wp_at_succ

mutual
/-- how deep a term is -/
def AT.dp : AT → Nat
  | .mk _ _ _ _ _ _ l => ATs.dp l + 1
def ATs.dp : List AT → Nat
  | [] => 0
  | t :: r => max (AT.dp t) (ATs.dp r)
end
theorem AT.dp_mk {t : AT} : t.dp = ATs.dp t.l + 1 := by cases t; rfl
mutual
theorem AT.dp_le : ∀ t : AT, t.dp ≤ t.nodes
  | .mk _ _ _ _ _ _ l => by have := ATs.dp_le l; rw [AT.dp, AT.nodes]; omega
theorem ATs.dp_le : ∀ l : List AT, ATs.dp l ≤ ATs.nodes l
  | [] => Nat.le_refl _
  | t :: r => by have h1 := AT.dp_le t; have h2 := ATs.dp_le r; rw [ATs.dp, ATs.nodes]; omega
end
theorem nodes_take : ∀ (l : List AT) (i : Nat) (t : AT), l[i]? = some t → ATs.nodes (l.take (i + 1)) = ATs.nodes (l.take i) + t.nodes
  | [], _, _, h => by simp at h
  | a :: r, 0, t, h => by simp at h; subst h; simp [ATs.nodes]
  | a :: r, i + 1, t, h => by
    rw [List.take_succ_cons, List.take_succ_cons, ATs.nodes, ATs.nodes, nodes_take r i t (by simpa using h)]; omega
theorem dp_take : ∀ (l : List AT) (i : Nat) (t : AT), l[i]? = some t → ATs.dp (l.take (i + 1)) = max (ATs.dp (l.take i)) t.dp
  | [], _, _, h => by simp at h
  | a :: r, 0, t, h => by simp at h; subst h; simp [ATs.dp]
  | a :: r, i + 1, t, h => by
    rw [List.take_succ_cons, List.take_succ_cons, ATs.dp, ATs.dp, dp_take r i t (by simpa using h)]; omega
theorem nodes_take_le : ∀ (l : List AT) (i : Nat), ATs.nodes (l.take i) ≤ ATs.nodes l
  | [], _ => by simp
  | a :: r, 0 => by simp [ATs.nodes]
  | a :: r, i + 1 => by rw [List.take_succ_cons, ATs.nodes, ATs.nodes]; have := nodes_take_le r i; omega
theorem dp_take_le : ∀ (l : List AT) (i : Nat), ATs.dp (l.take i) ≤ ATs.dp l
  | [], _ => by simp
  | a :: r, 0 => by simp [ATs.dp]
  | a :: r, i + 1 => by rw [List.take_succ_cons, ATs.dp, ATs.dp]; have := dp_take_le r i; omega

set_option maxRecDepth 100000 in
set_option maxHeartbeats 4000000 in
theorem sizeR_step (m : Nat) (ih : ∀ (x : AT) (w : World), x.nodes ≤ m → x.mem w → x.nodes ≤ 800000 → Calls Try.prog 15 #[.agg #[.int .i64 x.k, .int .i64 x.n, .string x.s, x.sv]] w fun e w' => e = .returned (.int .i64 x.nodes) ∧ Below w.heap.size w w')
    (x : AT) (w : World) (hn : x.nodes ≤ m + 1) (hx : x.mem w) (hnx : x.nodes ≤ 800000) :
    Calls Try.prog 15 #[.agg #[.int .i64 x.k, .int .i64 x.n, .string x.s, x.sv]] w fun e w' => e = .returned (.int .i64 x.nodes) ∧ Below w.heap.size w w' := by
  obtain ⟨hxs, hxm⟩ := AT.mem_mk.1 hx
  obtain ⟨ad, cx, ex, lx, mx, ax⟩ := sv_form hxs
  have hlx := len_nodes x.l
  have hnx2 := hnx
  rw [AT.nodes_mk] at hnx2
  obtain ⟨r, hr⟩ : ∃ r : Nat, x.nodes = r := ⟨_, rfl⟩
  have HR : Hid (r = ATs.nodes x.l + 1) := by show r = _; rw [← hr, AT.nodes_mk]
  have HN := Lib.hid hn
  have HNX := Lib.hid hnx2
  rw [hr, ex]
  have HX := Lib.hid hxm
  have HAX := Lib.hid ax
  have HI := Lib.hid ih
  have hl1 : x.l.length ≤ 800000 := by omega
  obtain ⟨nx, hnx'⟩ : ∃ n, x.l.length = n := ⟨_, rfl⟩
  rw [hnx'] at lx hl1 HAX ⊢
  have HLX := Lib.hid hnx'
  unfold maxLen at mx
  clear hr hxm ax ex ih hn hnx hx hxs hlx hnx2 hnx'
  obtain ⟨k1, hk1⟩ : ∃ k, x.k = k := ⟨_, rfl⟩
  obtain ⟨n1, hn1⟩ : ∃ k, x.n = k := ⟨_, rfl⟩
  obtain ⟨s1, hs1⟩ : ∃ k, x.s = k := ⟨_, rfl⟩
  rw [hk1, hn1, hs1]
  clear hk1 hn1 hs1
  go_enter Try.func15, Try.ntmps15
  go_wp2
  go_loopw [3, 9] (fun c vi wr => ∃ i p : Nat, vi = .int .i64 i ∧ c = .int .i64 p ∧ i ≤ nx ∧ p ≤ 800001 ∧ Hid (p = ATs.nodes (x.l.take i) + 1 ∧ Below w.heap.size w wr)) (fun _ vi _ => nx - (intOf vi).toNat)
  case atStart => exact ⟨0, 1, rfl, rfl, Nat.zero_le _, by omega, by simp [ATs.nodes], (Below.refl _ _).alloc (Nat.le_refl _) _⟩
  case round =>
    obtain ⟨i, p, rfl, rfl, hi, hp, HSt⟩ := hrel
    by_cases hlt : i < nx
    · obtain ⟨tx, htx⟩ : ∃ t, x.l[i]? = some t := ⟨x.l[i]'(by rw [HLX.out]; exact hlt), List.getElem?_eq_getElem _⟩
      obtain rfl : ad = some ⟨x.G, x.off, none⟩ := HAX.out (by omega)
      obtain ⟨⟨_, e0, e1, e2, e3⟩, em⟩ := mem_get HX.out htx
      have hb := HSt.out.2
      replace e0 := (hb.cell (World.block_lt_of_cell? _ _ e0)).trans e0
      replace e1 := (hb.cell (World.block_lt_of_cell? _ _ e1)).trans e1
      replace e2 := (hb.cell (World.block_lt_of_cell? _ _ e2)).trans e2
      replace e3 := (hb.cell (World.block_lt_of_cell? _ _ e3)).trans e3
      have hntx := nodes_mem (List.mem_of_getElem? htx)
      have hN := HN.out
      have hNX := HNX.out
      have hRR := HR.out
      rw [AT.nodes_mk] at hN
      obtain ⟨tad, tcap, tsv, _, _, _⟩ := sv_form (AT.mem_mk.1 em).1
      have hc1 := (fun (w1 : World) (h1 : Below wr.heap.size wr w1) => (HI.out tx w1 (by omega) (AT.mem_below (hb.trans (h1.mono hb.size)) (AT.ins_size _ em) em) (by omega)).mono (R' := fun e w' => e = .returned (.int .i64 tx.nodes) ∧ Below w.heap.size w w') fun e w' hp => ⟨hp.1, (hb.trans (h1.mono hb.size)).trans (hp.2.mono (hb.trans (h1.mono hb.size)).size)⟩)
      rw [tsv] at e3 hc1
      have C := Lib.hid hc1
      have hs1 := nodes_take x.l i tx htx
      have hs2 := nodes_take_le x.l (i + 1)
      have hp0 := HSt.out.1
      have q1 : p + tx.nodes ≤ 800001 := by omega
      have HQ : Hid (p + tx.nodes = ATs.nodes (x.l.take (i + 1)) + 1) := by show _ = _; omega
      obtain ⟨c, hc⟩ : ∃ c, tx.nodes = c := ⟨_, rfl⟩
      rw [hc] at C q1 HQ
      have i1 : (0 : Int) ≤ (i : Int) := by omega
      have i2 : (i : Int) < (nx : Int) := by omega
      have hi1 : i ≤ 800000 := by omega
      clear hntx hN hNX hRR em hb htx hs1 hs2 hp0 hc hc1 tsv HSt
      go_wp2_with fail
      refine (C.out _ ((Below.refl _ _).alloc (Nat.le_refl _) _)).mono ?_
      rintro _ w5 ⟨rfl, hb6⟩
      have HB6 := Lib.hid hb6
      clear hb6 e0 e1 e2 e3 C
      go_wp2
      go_roundw
      case rel => exact ⟨i + 1, p + c, by go_num, by go_num, by omega, q1, HQ.out, HB6.out⟩
      case measure => simp [intOf]; omega
    · have hie : i = nx := by omega
      have HE : Hid (p = r) := by
        show p = r
        rw [HSt.out.1, HR.out, List.take_of_length_le (by rw [HLX.out]; omega)]
      have HB := Lib.hid HSt.out.2
      clear HSt
      go_wp2
      go_ret
      exact ⟨by rw [HE.out]; rfl, HB.out⟩
theorem sizeR_is : ∀ (m : Nat) (x : AT) (w : World), x.nodes ≤ m → x.mem w → x.nodes ≤ 800000 → Calls Try.prog 15 #[.agg #[.int .i64 x.k, .int .i64 x.n, .string x.s, x.sv]] w fun e w' => e = .returned (.int .i64 x.nodes) ∧ Below w.heap.size w w'
  | 0, x, _, h, _, _ => by have := nodes_pos x; omega
  | m + 1, x, w, h, hx, h1 => sizeR_step m (sizeR_is m) x w h hx h1

set_option maxRecDepth 100000 in
set_option maxHeartbeats 4000000 in
theorem deepR_step (m : Nat) (ih : ∀ (x : AT) (w : World), x.nodes ≤ m → x.mem w → x.nodes ≤ 800000 → Calls Try.prog 17 #[.agg #[.int .i64 x.k, .int .i64 x.n, .string x.s, x.sv]] w fun e w' => e = .returned (.int .i64 x.dp) ∧ Below w.heap.size w w')
    (x : AT) (w : World) (hn : x.nodes ≤ m + 1) (hx : x.mem w) (hnx : x.nodes ≤ 800000) :
    Calls Try.prog 17 #[.agg #[.int .i64 x.k, .int .i64 x.n, .string x.s, x.sv]] w fun e w' => e = .returned (.int .i64 x.dp) ∧ Below w.heap.size w w' := by
  obtain ⟨hxs, hxm⟩ := AT.mem_mk.1 hx
  obtain ⟨ad, cx, ex, lx, mx, ax⟩ := sv_form hxs
  have hlx := len_nodes x.l
  have hnx2 := hnx
  rw [AT.nodes_mk] at hnx2
  obtain ⟨r, hr⟩ : ∃ r : Nat, x.dp = r := ⟨_, rfl⟩
  have HR : Hid (r = ATs.dp x.l + 1) := by show r = _; rw [← hr, AT.dp_mk]
  have HN := Lib.hid hn
  have HNX := Lib.hid hnx2
  rw [hr, ex]
  have HX := Lib.hid hxm
  have HAX := Lib.hid ax
  have HI := Lib.hid ih
  have hl1 : x.l.length ≤ 800000 := by omega
  obtain ⟨nx, hnx'⟩ : ∃ n, x.l.length = n := ⟨_, rfl⟩
  rw [hnx'] at lx hl1 HAX ⊢
  have HLX := Lib.hid hnx'
  unfold maxLen at mx
  clear hr hxm ax ex ih hn hnx hx hxs hlx hnx2 hnx'
  obtain ⟨k1, hk1⟩ : ∃ k, x.k = k := ⟨_, rfl⟩
  obtain ⟨n1, hn1⟩ : ∃ k, x.n = k := ⟨_, rfl⟩
  obtain ⟨s1, hs1⟩ : ∃ k, x.s = k := ⟨_, rfl⟩
  rw [hk1, hn1, hs1]
  clear hk1 hn1 hs1
  go_enter Try.func17, Try.ntmps17
  go_wp2
  go_loopw [3, 9] (fun c vi wr => ∃ i p : Nat, vi = .int .i64 i ∧ c = .int .i64 p ∧ i ≤ nx ∧ p ≤ 800001 ∧ Hid (p = ATs.dp (x.l.take i) ∧ Below w.heap.size w wr)) (fun _ vi _ => nx - (intOf vi).toNat)
  case atStart => exact ⟨0, 0, rfl, rfl, Nat.zero_le _, by omega, by simp [ATs.dp], (Below.refl _ _).alloc (Nat.le_refl _) _⟩
  case round =>
    obtain ⟨i, p, rfl, rfl, hi, hp, HSt⟩ := hrel
    by_cases hlt : i < nx
    · obtain ⟨tx, htx⟩ : ∃ t, x.l[i]? = some t := ⟨x.l[i]'(by rw [HLX.out]; exact hlt), List.getElem?_eq_getElem _⟩
      obtain rfl : ad = some ⟨x.G, x.off, none⟩ := HAX.out (by omega)
      obtain ⟨⟨_, e0, e1, e2, e3⟩, em⟩ := mem_get HX.out htx
      have hb := HSt.out.2
      replace e0 := (hb.cell (World.block_lt_of_cell? _ _ e0)).trans e0
      replace e1 := (hb.cell (World.block_lt_of_cell? _ _ e1)).trans e1
      replace e2 := (hb.cell (World.block_lt_of_cell? _ _ e2)).trans e2
      replace e3 := (hb.cell (World.block_lt_of_cell? _ _ e3)).trans e3
      have hntx := nodes_mem (List.mem_of_getElem? htx)
      have hN := HN.out
      have hNX := HNX.out
      have hRR := HR.out
      rw [AT.nodes_mk] at hN
      obtain ⟨tad, tcap, tsv, _, _, _⟩ := sv_form (AT.mem_mk.1 em).1
      have hc1 := (fun (w1 : World) (h1 : Below wr.heap.size wr w1) => (HI.out tx w1 (by omega) (AT.mem_below (hb.trans (h1.mono hb.size)) (AT.ins_size _ em) em) (by omega)).mono (R' := fun e w' => e = .returned (.int .i64 tx.dp) ∧ Below w.heap.size w w') fun e w' hp => ⟨hp.1, (hb.trans (h1.mono hb.size)).trans (hp.2.mono (hb.trans (h1.mono hb.size)).size)⟩)
      rw [tsv] at e3 hc1
      have C := Lib.hid hc1
      have hs1 := dp_take x.l i tx htx
      have hs2 := dp_take_le x.l (i + 1)
      have hs3 := ATs.dp_le x.l
      have hp0 := HSt.out.1
      have q1 : max p tx.dp ≤ 800001 := by omega
      have HQ : Hid (max p tx.dp = ATs.dp (x.l.take (i + 1))) := by show _ = _; omega
      obtain ⟨c, hc⟩ : ∃ c, tx.dp = c := ⟨_, rfl⟩
      rw [hc] at C q1 HQ
      have i1 : (0 : Int) ≤ (i : Int) := by omega
      have i2 : (i : Int) < (nx : Int) := by omega
      have hi1 : i ≤ 800000 := by omega
      clear hntx hN hNX hRR em hb htx hs1 hs2 hs3 hp0 hc hc1 tsv HSt
      go_wp2_with fail
      refine (C.out _ ((Below.refl _ _).alloc (Nat.le_refl _) _)).mono ?_
      rintro _ w5 ⟨rfl, hb6⟩
      have HB6 := Lib.hid hb6
      clear hb6 e0 e1 e2 e3 C
      go_wp2
      go_roundw
      case rel => exact ⟨i + 1, max p c, by go_num, by first | go_num | (congr 1; omega), by omega, q1, HQ.out, HB6.out⟩
      case measure => simp [intOf]; omega
    · have hie : i = nx := by omega
      have HE : Hid (p + 1 = r) := by
        show p + 1 = r
        rw [HSt.out.1, HR.out, List.take_of_length_le (by rw [HLX.out]; omega)]
      have HB := Lib.hid HSt.out.2
      clear HSt
      go_wp2
      go_ret
      exact ⟨by rw [← HE.out]; rfl, HB.out⟩
theorem deepR_is : ∀ (m : Nat) (x : AT) (w : World), x.nodes ≤ m → x.mem w → x.nodes ≤ 800000 → Calls Try.prog 17 #[.agg #[.int .i64 x.k, .int .i64 x.n, .string x.s, x.sv]] w fun e w' => e = .returned (.int .i64 x.dp) ∧ Below w.heap.size w w'
  | 0, x, _, h, _, _ => by have := nodes_pos x; omega
  | m + 1, x, w, h, hx, h1 => deepR_step m (deepR_is m) x w h hx h1

end Go.Proofs.Ytkidcchafdiofaa
