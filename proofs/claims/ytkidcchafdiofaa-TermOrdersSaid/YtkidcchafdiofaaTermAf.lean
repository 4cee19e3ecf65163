/- The document's May and Check: contracts. Conditions: memory holds the term; it has at most 800000 parts. -/
import Derived.Test.YtkidcchafdiofaaTermAe
namespace Go.Proofs.Ytkidcchafdiofaa
open Go Go.RowKit
attribute [local go_sem ↓] Go.wp_at_zero Go.wp_at_succ

mutual
/-- may a term be? -/
def AT.ok : AT → Bool
  | .mk k n s _ _ _ l => mayB k n s l.length && ATs.ok l
def ATs.ok : List AT → Bool
  | [] => true
  | t :: r => AT.ok t && ATs.ok r
end
theorem AT.ok_mk {t : AT} : t.ok = (mayB t.k t.n t.s t.l.length && ATs.ok t.l) := by cases t; rfl
theorem ok_take : ∀ (l : List AT) (i : Nat) (t : AT), l[i]? = some t → ATs.ok (l.take (i + 1)) = (ATs.ok (l.take i) && t.ok)
  | [], _, _, h => by simp at h
  | a :: r, 0, t, h => by simp at h; subst h; simp [ATs.ok]
  | a :: r, i + 1, t, h => by
    rw [List.take_succ_cons, List.take_succ_cons, ATs.ok, ATs.ok, ok_take r i t (by simpa using h), Bool.and_assoc]
theorem ok_no : ∀ (l : List AT) (i : Nat) (t : AT), l[i]? = some t → t.ok = false → ATs.ok l = false
  | [], _, _, h, _ => by simp at h
  | a :: r, 0, t, h, h2 => by simp at h; subst h; simp [ATs.ok, h2]
  | a :: r, i + 1, t, h, h2 => by rw [ATs.ok, ok_no r i t (by simpa using h) h2, Bool.and_false]
theorem ok_leaf {x : AT} (h : ¬ (x.k = 4 ∧ mayB x.k x.n x.s x.l.length = true)) : x.ok = mayB x.k x.n x.s x.l.length := by
  rw [AT.ok_mk]
  cases hm : mayB x.k x.n x.s x.l.length with
  | false => rfl
  | true =>
    have hk : x.k ≠ 4 := fun hk => h ⟨hk, hm⟩
    have hl : x.l = [] := by
      unfold mayB at hm
      split at hm
      · simp only [Bool.and_eq_true, beq_iff_eq] at hm; exact List.length_eq_zero_iff.1 hm.2
      · split at hm
        · simp only [Bool.and_eq_true, beq_iff_eq] at hm; exact List.length_eq_zero_iff.1 hm.2
        · split at hm
          · simp only [Bool.and_eq_true, beq_iff_eq] at hm; exact List.length_eq_zero_iff.1 hm.2
          · cases hm
    rw [hl]; rfl

theorem may4 {n : Int} {s : ByteArray} {a : Nat} : mayB 4 n s a = (n == 0 && decide (s.size ≤ 1000) && decide (1 ≤ a) && decide (a ≤ 255)) := by
  unfold mayB
  rw [if_neg (by decide), if_neg (by decide), if_neg (by decide), if_pos rfl]

def MayPost (w : World) (r : Bool) (e : Ending) (w' : World) : Prop := e = .returned (.bool r) ∧ Below w.heap.size w w'
set_option maxRecDepth 100000 in
set_option maxHeartbeats 1600000 in
theorem mayR_other (k n : Int) (s : ByteArray) (ad : Option Addr) (a c : Nat) (w : World) (hk : k ≠ 4) :
    Calls Try.prog 35 #[.agg #[.int .i64 k, .int .i64 n, .string s, .slice ad a c]] w (MayPost w (mayB k n s a)) := by
  obtain ⟨r, hr⟩ : ∃ r, mayB k n s a = r := ⟨_, rfl⟩
  rw [hr]
  have HR := Lib.hid hr
  have k4 : (k == 4) = false := beq_eq_false_iff_ne.2 hk
  clear hr hk
  go_enter Try.func35, Try.ntmps35
  go_wp2
  all_goals
    go_ret
    refine ⟨congrArg (fun b => Ending.returned (Value.bool b)) ?_, (Below.refl _ _).alloc (Nat.le_refl _) _⟩
    rw [← HR.out]
    clear HR
    simp only [beq_iff_eq, beq_eq_false_iff_ne, ne_eq] at *
    unfold mayB
    first | (simp [*]; done) | (rw [Bool.eq_iff_iff]; simp [*]; first | done | omega)

set_option maxRecDepth 100000 in
set_option maxHeartbeats 1600000 in
theorem mayR_bad (n : Int) (s : ByteArray) (ad : Option Addr) (a c : Nat) (w : World) (h : mayB 4 n s a = false) :
    Calls Try.prog 35 #[.agg #[.int .i64 4, .int .i64 n, .string s, .slice ad a c]] w (MayPost w false) := by
  rw [may4] at h
  by_cases hn : n = 0
  case neg =>
    have n0 : (n != 0) = true := bne_iff_ne.2 hn
    clear h hn
    go_enter Try.func35, Try.ntmps35
    go_wp2
    go_ret
    exact ⟨rfl, (Below.refl _ _).alloc (Nat.le_refl _) _⟩
  subst hn
  by_cases hs : s.size ≤ 1000
  case neg =>
    have s0 : decide ((1000 : Int) < (s.size : Int)) = true := decide_eq_true (by omega)
    clear h hs
    go_enter Try.func35, Try.ntmps35
    go_wp2
    go_ret
    exact ⟨rfl, (Below.refl _ _).alloc (Nat.le_refl _) _⟩
  have s0 : decide ((1000 : Int) < (s.size : Int)) = false := decide_eq_false (by omega)
  by_cases ha : a = 0
  case pos =>
    subst ha
    clear h hs
    go_enter Try.func35, Try.ntmps35
    go_wp2
    go_ret
    exact ⟨rfl, (Below.refl _ _).alloc (Nat.le_refl _) _⟩
  have a0 : ((a : Int) == 0) = false := beq_eq_false_iff_ne.2 (by omega)
  have a1 : decide ((255 : Int) < (a : Int)) = true := decide_eq_true (by
    have h1 : ((0 : Int) == 0 && decide (s.size ≤ 1000) && decide (1 ≤ a)) = true := by simp [hs]; omega
    rw [h1, Bool.true_and] at h
    have := of_decide_eq_false h
    omega)
  clear h hs ha
  go_enter Try.func35, Try.ntmps35
  go_wp2
  go_ret
  exact ⟨rfl, (Below.refl _ _).alloc (Nat.le_refl _) _⟩

set_option maxRecDepth 100000 in
set_option maxHeartbeats 4000000 in
theorem mayR_step (m : Nat) (ih : ∀ (x : AT) (w : World), x.nodes ≤ m → x.mem w → x.nodes ≤ 800000 → Calls Try.prog 35 #[.agg #[.int .i64 x.k, .int .i64 x.n, .string x.s, x.sv]] w (MayPost w x.ok))
    (x : AT) (w : World) (hn : x.nodes ≤ m + 1) (hx : x.mem w) (hnx : x.nodes ≤ 800000) (hk : x.k = 4) (hmay : mayB x.k x.n x.s x.l.length = true) :
    Calls Try.prog 35 #[.agg #[.int .i64 x.k, .int .i64 x.n, .string x.s, x.sv]] w (MayPost w x.ok) := by
  obtain ⟨hxs, hxm⟩ := AT.mem_mk.1 hx
  obtain ⟨ad, cx, ex, lx, mx, ax⟩ := sv_form hxs
  obtain ⟨r, hr⟩ : ∃ r, x.ok = r := ⟨_, rfl⟩
  have HR : Hid (r = ATs.ok x.l) := by show r = _; rw [← hr, AT.ok_mk, hmay, Bool.true_and]
  have HN := Lib.hid hn
  have HNX := Lib.hid hnx
  rw [hr, ex]
  have HX := Lib.hid hxm
  have HAX := Lib.hid ax
  have HI := Lib.hid ih
  rw [hk, may4] at hmay
  simp only [Bool.and_eq_true, beq_iff_eq, decide_eq_true_eq] at hmay
  obtain ⟨⟨⟨hn0, hs0⟩, ha1⟩, ha2⟩ := hmay
  obtain ⟨nx, hnx'⟩ : ∃ n, x.l.length = n := ⟨_, rfl⟩
  rw [hnx'] at lx ha1 ha2 HAX ⊢
  have HLX := Lib.hid hnx'
  unfold maxLen at mx
  obtain ⟨s1, hs1⟩ : ∃ k, x.s = k := ⟨_, rfl⟩
  rw [hs1] at hs0
  rw [hk, hn0, hs1]
  have s0 : decide ((1000 : Int) < (s1.size : Int)) = false := decide_eq_false (by omega)
  have a0 : ((nx : Int) == 0) = false := beq_eq_false_iff_ne.2 (by omega)
  have a1 : decide ((255 : Int) < (nx : Int)) = false := decide_eq_false (by omega)
  clear hr hxm ax ex ih hn hnx hx hxs hnx' hs1 hk hn0 hs0
  go_enter Try.func35, Try.ntmps35
  go_wp2
  go_loopw [77] (fun vi wr => ∃ i : Nat, vi = .int .i64 i ∧ i ≤ nx ∧ Hid (ATs.ok (x.l.take i) = true ∧ Below w.heap.size w wr)) (fun vi _ => nx - (intOf vi).toNat)
  case atStart => exact ⟨0, rfl, Nat.zero_le _, by simp [ATs.ok], (Below.refl _ _).alloc (Nat.le_refl _) _⟩
  case round =>
    obtain ⟨i, rfl, hi, HSt⟩ := hrel
    by_cases hlt : i < nx
    · obtain ⟨tx, htx⟩ : ∃ t, x.l[i]? = some t := ⟨x.l[i]'(by rw [HLX.out]; exact hlt), List.getElem?_eq_getElem _⟩
      obtain rfl : ad = some ⟨x.G, x.off, none⟩ := HAX.out (by omega)
      obtain ⟨⟨_, e0, e1, e2, e3⟩, em⟩ := mem_get HX.out htx
      have hb := HSt.out.2
      replace e0 := (hb.cell (World.block_lt_of_cell? _ _ e0)).trans e0
      replace e1 := (hb.cell (World.block_lt_of_cell? _ _ e1)).trans e1
      replace e2 := (hb.cell (World.block_lt_of_cell? _ _ e2)).trans e2
      replace e3 := (hb.cell (World.block_lt_of_cell? _ _ e3)).trans e3
      have hntx := nodes_mem (List.mem_of_getElem? htx)
      have hN := HN.out
      have hNX := HNX.out
      rw [AT.nodes_mk] at hN hNX
      obtain ⟨tad, tcap, tsv, _, _, _⟩ := sv_form (AT.mem_mk.1 em).1
      have hc1 := (fun (w1 : World) (h1 : Below wr.heap.size wr w1) => (HI.out tx w1 (by omega) (AT.mem_below (hb.trans (h1.mono hb.size)) (AT.ins_size _ em) em) (by omega)).mono (R' := fun e w' => e = .returned (.bool tx.ok) ∧ Below w.heap.size w w') fun e w' hp => ⟨hp.1, (hb.trans (h1.mono hb.size)).trans (hp.2.mono (hb.trans (h1.mono hb.size)).size)⟩)
      rw [tsv] at e3 hc1
      have C := Lib.hid hc1
      have HT := Lib.hid (ok_take x.l i tx htx)
      have HO := Lib.hid (ok_no x.l i tx htx)
      have H0 := Lib.hid HSt.out.1
      obtain ⟨c, hc⟩ : ∃ c, tx.ok = c := ⟨_, rfl⟩
      rw [hc] at C HT HO
      have i1 : (0 : Int) ≤ (i : Int) := by omega
      have i2 : (i : Int) < (nx : Int) := by omega
      clear hntx hN hNX em hb htx hc hc1 tsv HSt
      go_wp2_with fail
      refine (C.out _ ((Below.refl _ _).alloc (Nat.le_refl _) _)).mono ?_
      rintro _ w5 ⟨rfl, hb6⟩
      have HB6 := Lib.hid hb6
      clear hb6 e0 e1 e2 e3 C
      cases c
      · have HE : Hid (r = false) := by show r = _; rw [HR.out, HO.out rfl]
        go_wp2
        go_ret
        exact ⟨by rw [HE.out]; rfl, HB6.out⟩
      · have HE : Hid (ATs.ok (x.l.take (i + 1)) = true) := by show _ = _; rw [HT.out, H0.out]; rfl
        go_wp2
        go_roundw
        case rel => exact ⟨i + 1, by go_num, by omega, HE.out, HB6.out⟩
        case measure => simp [intOf]; omega
    · have hie : i = nx := by omega
      have HE : Hid (r = true) := by
        show r = true
        rw [HR.out, ← HSt.out.1, List.take_of_length_le (by rw [HLX.out]; omega)]
      have HB := Lib.hid HSt.out.2
      clear HSt
      go_wp2
      go_ret
      exact ⟨by rw [HE.out]; rfl, HB.out⟩
theorem mayR_is : ∀ (m : Nat) (x : AT) (w : World), x.nodes ≤ m → x.mem w → x.nodes ≤ 800000 → Calls Try.prog 35 #[.agg #[.int .i64 x.k, .int .i64 x.n, .string x.s, x.sv]] w (MayPost w x.ok)
  | 0, x, _, h, _, _ => by have := nodes_pos x; omega
  | m + 1, x, w, h, hx, h1 => by
    by_cases hl : x.k = 4 ∧ mayB x.k x.n x.s x.l.length = true
    · exact mayR_step m (mayR_is m) x w h hx h1 hl.1 hl.2
    · obtain ⟨ad, cx, ex, _, _, _⟩ := sv_form (AT.mem_mk.1 hx).1
      rw [ok_leaf hl, ex]
      by_cases hk : x.k = 4
      · have hb : mayB x.k x.n x.s x.l.length = false := by
          cases hc : mayB x.k x.n x.s x.l.length with
          | false => rfl
          | true => exact absurd ⟨hk, hc⟩ hl
        rw [hb, hk]
        rw [hk] at hb
        exact mayR_bad x.n x.s ad x.l.length cx w hb
      · exact mayR_other x.k x.n x.s ad x.l.length cx w hk

end Go.Proofs.Ytkidcchafdiofaa
