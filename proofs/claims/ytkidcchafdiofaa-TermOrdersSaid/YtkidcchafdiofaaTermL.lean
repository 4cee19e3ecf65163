/- The document's Same: a contract. Conditions: memory holds both terms; each has at most 800000 parts. -/
import Derived.Test.YtkidcchafdiofaaTermD
import Derived.BigGuardPart
import Derived.Deep.RegionHeld3
import Derived.Deep.DrawnRows
namespace Go.Proofs.Ytkidcchafdiofaa
open Go Go.RowKit
attribute [local go_sem ↓] Go.wp_at_zero Go.wp_at_succ

mutual
/-- are two terms the same? -/
def AT.same : AT → AT → Bool
  | .mk k n s _ _ _ l, u => k == u.k && n == u.n && s.toList == u.s.toList && l.length == u.l.length && ATs.same l u.l
def ATs.same : List AT → List AT → Bool
  | [], _ => true
  | _ :: _, [] => true
  | t :: r, u :: v => AT.same t u && ATs.same r v
end
theorem AT.same_mk {t u : AT} : t.same u = (t.k == u.k && t.n == u.n && t.s.toList == u.s.toList && t.l.length == u.l.length && ATs.same t.l u.l) := by cases t; rfl
theorem same_take : ∀ (i : Nat) (l m : List AT), ATs.same (l.take i) (m.take i) = true → (∀ t u, l[i]? = some t → m[i]? = some u → t.same u = true) → ATs.same (l.take (i + 1)) (m.take (i + 1)) = true
  | _, [], m, _, _ => by simp [ATs.same]
  | _, t :: r, [], _, _ => by simp [ATs.same]
  | 0, t :: r, u :: v, _, h => by
    have := h t u (by simp) (by simp)
    simp [ATs.same, this]
  | i + 1, t :: r, u :: v, h0, h => by
    rw [List.take_succ_cons, List.take_succ_cons, ATs.same, Bool.and_eq_true] at h0 ⊢
    exact ⟨h0.1, same_take i r v h0.2 (fun t' u' h1 h2 => h t' u' (by simpa using h1) (by simpa using h2))⟩
theorem same_no : ∀ (i : Nat) (l m : List AT) (t u : AT), l[i]? = some t → m[i]? = some u → t.same u = false → ATs.same l m = false
  | _, [], m, t, u, h, _, _ => by simp at h
  | _, _ :: _, [], t, u, _, h, _ => by simp at h
  | 0, a :: r, b :: v, t, u, h1, h2, h => by
    simp at h1 h2
    subst h1 h2
    simp [ATs.same, h]
  | i + 1, a :: r, b :: v, t, u, h1, h2, h => by
    rw [ATs.same, same_no i r v t u (by simpa using h1) (by simpa using h2) h, Bool.and_false]

theorem mem_get {w : World} {G : Nat} : ∀ {l : List AT} {off i : Nat} {t : AT}, ATs.mem w G l off → l[i]? = some t → Head w G (off + i * 4) t ∧ t.mem w
  | [], _, _, _, _, h => by simp at h
  | a :: r, off, 0, t, hm, h => by
    simp at h
    subst h
    simpa using ⟨hm.1, hm.2.1⟩
  | a :: r, off, i + 1, t, hm, h => by
    have := mem_get hm.2.2 (i := i) (t := t) (by simpa using h)
    rw [show off + 4 + i * 4 = off + (i + 1) * 4 from by omega] at this
    exact this
theorem sv_form {sv : Value} {G off n : Nat} (h : SvOk sv G off n) : ∃ ad cap, sv = .slice ad n cap ∧ n ≤ cap ∧ cap ≤ maxLen ∧ (0 < n → ad = some ⟨G, off, none⟩) := by
  rcases h with ⟨h1, h2⟩ | ⟨c, h1, h2, h3⟩
  · exact ⟨none, 0, by rw [h1, h2], by omega, by unfold maxLen; omega, fun h => by omega⟩
  · exact ⟨_, c, h1, h2, h3, fun _ => rfl⟩

/-- what the box of a term that was handed over holds -/
def SameSt (W : World) (x y : AT) (i : Nat) (w : World) : Prop := Below W.heap.size W w ∧ ATs.same (x.l.take i) (y.l.take i) = true
set_option maxRecDepth 100000 in
set_option maxHeartbeats 4000000 in
theorem same_step (m : Nat) (ih : ∀ (x y : AT) (w : World), x.nodes ≤ m → x.mem w → y.mem w → y.nodes ≤ 800000 → x.nodes ≤ 800000 → Calls Try.prog 26 #[x.val, y.val] w fun e w' => e = .returned (.bool (x.same y)) ∧ Below w.heap.size w w')
    (x y : AT) (w : World) (hn : x.nodes ≤ m + 1) (hx : x.mem w) (hy : y.mem w) (hny : y.nodes ≤ 800000) (hnx : x.nodes ≤ 800000) :
    Calls Try.prog 26 #[.agg #[.int .i64 x.k, .int .i64 x.n, .string x.s, x.sv], .agg #[.int .i64 y.k, .int .i64 y.n, .string y.s, y.sv]] w fun e w' => e = .returned (.bool (x.same y)) ∧ Below w.heap.size w w' := by
  obtain ⟨hxs, hxm⟩ := AT.mem_mk.1 hx
  obtain ⟨hys, hym⟩ := AT.mem_mk.1 hy
  obtain ⟨ad, cx, ex, lx, mx, ax⟩ := sv_form hxs
  obtain ⟨bd, cy, ey, ly, my, ay⟩ := sv_form hys
  have hlx := len_nodes x.l
  have hly := len_nodes y.l
  have hnx2 := hnx
  have hny2 := hny
  rw [AT.nodes_mk] at hnx2 hny2
  obtain ⟨r, hr⟩ : ∃ r, x.same y = r := ⟨_, rfl⟩
  rw [hr, ex, ey]
  have HR := Lib.hid hr
  have HX := Lib.hid hxm
  have HY := Lib.hid hym
  have HAX := Lib.hid ax
  have HAY := Lib.hid ay
  have HEX := Lib.hid ex
  have HEY := Lib.hid ey
  have HI := Lib.hid ih
  have HN := Lib.hid hn
  have HNX := Lib.hid hnx
  have HNY := Lib.hid hny
  have hl1 : x.l.length ≤ 800000 := by omega
  have hl2 : y.l.length ≤ 800000 := by omega
  obtain ⟨nx, hnx'⟩ : ∃ n, x.l.length = n := ⟨_, rfl⟩
  obtain ⟨ny, hny'⟩ : ∃ n, y.l.length = n := ⟨_, rfl⟩
  rw [hnx'] at lx hl1 HAX HEX ⊢
  rw [hny'] at ly hl2 HAY HEY ⊢
  have HLX := Lib.hid hnx'
  have HLY := Lib.hid hny'
  unfold maxLen at mx my
  clear hr hxm hym ax ay ex ey ih hn hnx hny hx hy hxs hys hlx hly hnx2 hny2 hnx' hny'
  obtain ⟨k1, hk1⟩ : ∃ k, x.k = k := ⟨_, rfl⟩
  obtain ⟨k2, hk2⟩ : ∃ k, y.k = k := ⟨_, rfl⟩
  obtain ⟨n1, hn1⟩ : ∃ k, x.n = k := ⟨_, rfl⟩
  obtain ⟨n2, hn2⟩ : ∃ k, y.n = k := ⟨_, rfl⟩
  obtain ⟨s1, hs1⟩ : ∃ k, x.s = k := ⟨_, rfl⟩
  obtain ⟨s2, hs2⟩ : ∃ k, y.s = k := ⟨_, rfl⟩
  rw [hk1, hk2, hn1, hn2, hs1, hs2]
  have HSM : Hid (r = (k1 == k2 && n1 == n2 && s1.toList == s2.toList && nx == ny && ATs.same x.l y.l)) := by
    show r = _
    rw [← HR.out, AT.same_mk, HLX.out, HLY.out, hk1, hk2, hn1, hn2, hs1, hs2]
  clear hk1 hk2 hn1 hn2 hs1 hs2 HR
  have fin : ∀ A B : Obj, r = false → Ending.returned (Value.bool false) = Ending.returned (Value.bool r) ∧ Below w.heap.size w ((w.alloc A).alloc B) := fun A B h => ⟨by rw [h], ((Below.refl _ _).alloc (Nat.le_refl _) _).alloc (by simp) _⟩
  have FIN := Lib.hid fin
  clear fin
  by_cases hk : k1 = k2
  case neg =>
    have HF : Hid (r = false) := by show r = false; rw [HSM.out, beq_eq_false_iff_ne.2 hk]; simp
    have hk' : (k1 != k2) = true := by rw [bne_iff_ne]; exact hk
    clear hk
    go_enter Try.func26, Try.ntmps26
    go_wp2
    go_ret
    exact FIN.out _ _ HF.out
  subst hk
  by_cases hn : n1 = n2
  case neg =>
    have HF : Hid (r = false) := by show r = false; rw [HSM.out, beq_eq_false_iff_ne.2 hn]; simp
    have hn' : (n1 != n2) = true := by rw [bne_iff_ne]; exact hn
    clear hn
    go_enter Try.func26, Try.ntmps26
    go_wp2
    go_ret
    exact FIN.out _ _ HF.out
  subst hn
  by_cases hs : s1 = s2
  case neg =>
    have hs2 : ¬ s1.toList = s2.toList := fun h => hs (by
      rw [ByteArray.toList_eq, ByteArray.toList_eq] at h
      exact WideShapes.bytes_inj h)
    have HF : Hid (r = false) := by show r = false; rw [HSM.out, beq_eq_false_iff_ne.2 hs2]; simp
    clear hs
    go_enter Try.func26, Try.ntmps26
    go_wp2
    go_ret
    exact FIN.out _ _ HF.out
  subst hs
  by_cases hnn : nx = ny
  case neg =>
    have HF : Hid (r = false) := by show r = false; rw [HSM.out, beq_eq_false_iff_ne.2 hnn]; simp
    have hne : ((nx : Int) != (ny : Int)) = true := by
      rw [bne_iff_ne]
      omega
    clear hnn
    go_enter Try.func26, Try.ntmps26
    go_wp2
    go_ret
    exact FIN.out _ _ HF.out
  subst hnn
  have HR2 : Hid (r = ATs.same x.l y.l) := by show r = _; rw [HSM.out]; simp
  clear HSM FIN
  go_enter Try.func26, Try.ntmps26
  go_wp2
  have HW : Hid (Below w.heap.size w ((w.alloc (.cells #[.int .i64 k1, .int .i64 n1, .string s1, .slice ad nx cx] 27)).alloc (.cells #[.int .i64 k1, .int .i64 n1, .string s1, .slice bd nx cy] 27))) := ((Below.refl _ _).alloc (Nat.le_refl _) _).alloc (by simp) _
  have c3 : ((w.alloc (.cells #[.int .i64 k1, .int .i64 n1, .string s1, .slice ad nx cx] 27)).alloc (.cells #[.int .i64 k1, .int .i64 n1, .string s1, .slice bd nx cy] 27)).cell? ⟨w.heap.size, 3, none⟩ = some (.slice ad nx cx) := by go_simp
  have d3 : ((w.alloc (.cells #[.int .i64 k1, .int .i64 n1, .string s1, .slice ad nx cx] 27)).alloc (.cells #[.int .i64 k1, .int .i64 n1, .string s1, .slice bd nx cy] 27)).cell? ⟨w.heap.size + 1, 3, none⟩ = some (.slice bd nx cy) := by go_simp
  have HC3 := Lib.hid c3
  have HD3 := Lib.hid d3
  have hsz : ((w.alloc (.cells #[.int .i64 k1, .int .i64 n1, .string s1, .slice ad nx cx] 27)).alloc (.cells #[.int .i64 k1, .int .i64 n1, .string s1, .slice bd nx cy] 27)).heap.size = w.heap.size + 2 := by simp
  have HSZ := Lib.hid hsz
  clear c3 d3 hsz
  obtain ⟨W2, hW2⟩ : ∃ W2, ((w.alloc (.cells #[.int .i64 k1, .int .i64 n1, .string s1, .slice ad nx cx] 27)).alloc (.cells #[.int .i64 k1, .int .i64 n1, .string s1, .slice bd nx cy] 27)) = W2 := ⟨_, rfl⟩
  rw [hW2] at HW HC3 HD3 HSZ ⊢
  clear hW2
  go_loopw [37] (fun c wr => ∃ i : Nat, c = .int .i64 i ∧ i ≤ nx ∧ Hid (SameSt W2 x y i wr)) (fun c _ => nx - (intOf c).toNat)
  case atStart => exact ⟨0, rfl, Nat.zero_le _, Below.refl _ _, by simp [ATs.same]⟩
  case round =>
    obtain ⟨i, rfl, hi, HSt⟩ := hrel
    by_cases hlt : i < nx
    · obtain ⟨tx, htx⟩ : ∃ t, x.l[i]? = some t := ⟨x.l[i]'(by rw [HLX.out]; exact hlt), List.getElem?_eq_getElem _⟩
      obtain ⟨ty, hty⟩ : ∃ t, y.l[i]? = some t := ⟨y.l[i]'(by rw [HLY.out]; exact hlt), List.getElem?_eq_getElem _⟩
      obtain rfl : ad = some ⟨x.G, x.off, none⟩ := HAX.out (by omega)
      obtain rfl : bd = some ⟨y.G, y.off, none⟩ := HAY.out (by omega)
      obtain ⟨⟨_, e0, e1, e2, e3⟩, em⟩ := mem_get HX.out htx
      obtain ⟨⟨_, f0, f1, f2, f3⟩, fm⟩ := mem_get HY.out hty
      have hbw : Below w.heap.size w wr := HW.out.trans (HSt.out.1.mono (by rw [HSZ.out]; omega))
      have hwl : W2.heap.size ≤ wr.heap.size := HSt.out.1.size
      have HB := Lib.hid hbw
      have keep : ∀ w5, Below wr.heap.size wr w5 → w5.cell? ⟨w.heap.size, 3, none⟩ = some (.slice (some ⟨x.G, x.off, none⟩) nx cx) ∧ w5.cell? ⟨w.heap.size + 1, 3, none⟩ = some (.slice (some ⟨y.G, y.off, none⟩) nx cy) ∧
          w5.cell? ⟨x.G, x.off + i * 4, none⟩ = some (.int .i64 tx.k) ∧ w5.cell? ⟨x.G, x.off + i * 4 + 1, none⟩ = some (.int .i64 tx.n) ∧ w5.cell? ⟨x.G, x.off + i * 4 + 2, none⟩ = some (.string tx.s) ∧ w5.cell? ⟨x.G, x.off + i * 4 + 3, none⟩ = some tx.sv ∧
          w5.cell? ⟨y.G, y.off + i * 4, none⟩ = some (.int .i64 ty.k) ∧ w5.cell? ⟨y.G, y.off + i * 4 + 1, none⟩ = some (.int .i64 ty.n) ∧ w5.cell? ⟨y.G, y.off + i * 4 + 2, none⟩ = some (.string ty.s) ∧ w5.cell? ⟨y.G, y.off + i * 4 + 3, none⟩ = some ty.sv := by
        intro w5 hb5
        have h2 : Below W2.heap.size W2 w5 := HSt.out.1.trans (hb5.mono hwl)
        have hb : Below w.heap.size w w5 := hbw.trans (hb5.mono (by rw [HSZ.out] at hwl; omega))
        refine ⟨(h2.cell (p := ⟨w.heap.size, 3, none⟩) (by rw [HSZ.out]; show w.heap.size < _; omega)).trans HC3.out, (h2.cell (p := ⟨w.heap.size + 1, 3, none⟩) (by rw [HSZ.out]; show w.heap.size + 1 < _; omega)).trans HD3.out, ?_, ?_, ?_, ?_, ?_, ?_, ?_, ?_⟩
        · exact (hb.cell (World.block_lt_of_cell? _ _ e0)).trans e0
        · exact (hb.cell (World.block_lt_of_cell? _ _ e1)).trans e1
        · exact (hb.cell (World.block_lt_of_cell? _ _ e2)).trans e2
        · exact (hb.cell (World.block_lt_of_cell? _ _ e3)).trans e3
        · exact (hb.cell (World.block_lt_of_cell? _ _ f0)).trans f0
        · exact (hb.cell (World.block_lt_of_cell? _ _ f1)).trans f1
        · exact (hb.cell (World.block_lt_of_cell? _ _ f2)).trans f2
        · exact (hb.cell (World.block_lt_of_cell? _ _ f3)).trans f3
      have KEEP := Lib.hid keep
      have hntx := nodes_mem (List.mem_of_getElem? htx)
      have hnty := nodes_mem (List.mem_of_getElem? hty)
      have hN := HN.out
      have hNX := HNX.out
      have hNY := HNY.out
      rw [AT.nodes_mk] at hN hNX hNY
      have C := Lib.hid (fun (w1 : World) (h1 : Below wr.heap.size wr w1) => (HI.out tx ty w1 (by omega) (AT.mem_below (hbw.trans (h1.mono (by rw [HSZ.out] at hwl; omega))) (AT.ins_size _ em) em) (AT.mem_below (hbw.trans (h1.mono (by rw [HSZ.out] at hwl; omega))) (AT.ins_size _ fm) fm) (by omega) (by omega)).mono (R' := fun e w' => e = .returned (.bool (tx.same ty)) ∧ Below wr.heap.size wr w') fun e w' hp => ⟨hp.1, h1.trans (hp.2.mono h1.size)⟩)
      obtain ⟨q0, q1, q2, q3, q4, q5, q6, q7, q8, q9⟩ := keep wr (Below.refl _ _)
      obtain ⟨b, hb⟩ : ∃ b, tx.same ty = b := ⟨_, rfl⟩
      rw [hb] at C
      have HBB := Lib.hid hb
      have HTX := Lib.hid htx
      have HTY := Lib.hid hty
      have i1 : (0 : Int) ≤ (i : Int) := by omega
      have i2 : (i : Int) < (nx : Int) := by omega
      clear hntx hnty hN hNX hNY e0 e1 e2 e3 f0 f1 f2 f3 em fm keep hbw hb htx hty hwl
      have HS1 := Lib.hid (same_take i x.l y.l HSt.out.2)
      have hi1 : i ≤ 800000 := by omega
      go_wp2_with fail
      go_region_held3 (fun w' => w'.cell? ⟨w.heap.size, 3, none⟩ = some (.slice (some ⟨x.G, x.off, none⟩) nx cx) ∧ w'.cell? ⟨w.heap.size + 1, 3, none⟩ = some (.slice (some ⟨y.G, y.off, none⟩) nx cy) ∧
          w'.cell? ⟨x.G, x.off + i * 4, none⟩ = some (.int .i64 tx.k) ∧ w'.cell? ⟨x.G, x.off + i * 4 + 1, none⟩ = some (.int .i64 tx.n) ∧ w'.cell? ⟨x.G, x.off + i * 4 + 2, none⟩ = some (.string tx.s) ∧ w'.cell? ⟨x.G, x.off + i * 4 + 3, none⟩ = some tx.sv ∧
          w'.cell? ⟨y.G, y.off + i * 4, none⟩ = some (.int .i64 ty.k) ∧ w'.cell? ⟨y.G, y.off + i * 4 + 1, none⟩ = some (.int .i64 ty.n) ∧ w'.cell? ⟨y.G, y.off + i * 4 + 2, none⟩ = some (.string ty.s) ∧ w'.cell? ⟨y.G, y.off + i * 4 + 3, none⟩ = some ty.sv)
        (first | exact KEEP.out _ (by assumption) | go_keep)
        (first | (go_at_call 26; refine (C.out _ (by first | exact Below.refl _ _ | exact (Below.refl _ _).drew)).mono ?_; rintro _ w5 ⟨rfl, hb6⟩))
      have HB6 := Lib.hid hb6
      have HW5 : Hid (Below W2.heap.size W2 w5) := HSt.out.1.trans (hb6.mono HSt.out.1.size)
      have HW6 : Hid (Below w.heap.size w w5) := HB.out.trans (hb6.mono HB.out.size)
      clear hb6 q0 q1 q2 q3 q4 q5 q6 q7 q8 q9 C KEEP HSt
      cases b
      · have HE2 : Hid (r = false) := by
          show r = false
          rw [HR2.out, same_no i x.l y.l tx ty HTX.out HTY.out HBB.out]
        go_wp2
        go_ret
        exact ⟨by show Ending.returned (Value.bool false) = _; rw [HE2.out], HW6.out⟩
      · have HS2 := Lib.hid (HS1.out (fun t u h1 h2 => by
          rw [HTX.out] at h1
          rw [HTY.out] at h2
          cases h1
          cases h2
          exact HBB.out))
        go_wp2
        go_roundw
        case rel => exact ⟨i + 1, by go_num, by omega, HW5.out, HS2.out⟩
        case measure => simp [intOf]; omega
    · have hie : i = nx := by omega
      have HE2 : Hid (r = true) := by
        have h1 := HSt.out.2
        rw [List.take_of_length_le (by rw [HLX.out]; omega), List.take_of_length_le (by rw [HLY.out]; omega)] at h1
        show r = true
        rw [HR2.out, h1]
      have hbw : Hid (Below w.heap.size w wr) := HW.out.trans (HSt.out.1.mono (by rw [HSZ.out]; omega))
      clear HSt
      go_wp2
      go_ret
      exact ⟨by show Ending.returned (Value.bool true) = _; rw [HE2.out], hbw.out⟩

theorem same_is : ∀ (m : Nat) (x y : AT) (w : World), x.nodes ≤ m → x.mem w → y.mem w → y.nodes ≤ 800000 → x.nodes ≤ 800000 → Calls Try.prog 26 #[x.val, y.val] w fun e w' => e = .returned (.bool (x.same y)) ∧ Below w.heap.size w w'
  | 0, x, _, _, h, _, _, _, _ => by have := nodes_pos x; omega
  | m + 1, x, y, w, h, hx, hy, h1, h2 => same_step m (same_is m) x y w h hx hy h1 h2

end Go.Proofs.Ytkidcchafdiofaa
