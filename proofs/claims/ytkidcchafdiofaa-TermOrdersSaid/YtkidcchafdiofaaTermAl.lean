/- The document's All: a contract. Conditions: memory holds both rows of terms; each has at most 800000 parts. -/
import Derived.Test.YtkidcchafdiofaaTermAc
import Derived.BigGuardPart
import Derived.Deep.RegionHeld3
import Derived.Deep.DrawnRows
namespace Go.Proofs.Ytkidcchafdiofaa
open Go Go.RowKit
attribute [local go_sem ↓] Go.wp_at_zero Go.wp_at_succ

/-- what holds ahead of each of All's rounds -/
def AllSt (W : World) (l m : List AT) (i : Nat) (w : World) : Prop := Below W.heap.size W w ∧ ATs.same (l.take i) (m.take i) = true
set_option maxRecDepth 100000 in
set_option maxHeartbeats 4000000 in
theorem all_is (l m : List AT) (G off G' off' : Nat) (ad bd : Option Addr) (cx cy : Nat) (w : World) (hl : ATs.mem w G l off) (hm : ATs.mem w G' m off') (ax : 0 < l.length → ad = some ⟨G, off, none⟩) (ay : 0 < m.length → bd = some ⟨G', off', none⟩)
    (lx : l.length ≤ cx) (mx : cx ≤ 9223372036854775807) (ly : m.length ≤ cy) (my : cy ≤ 9223372036854775807) (h1 : ATs.nodes l ≤ 800000) (h2 : ATs.nodes m ≤ 800000) :
    Calls Try.prog 28 #[.slice ad l.length cx, .slice bd m.length cy] w fun e w' => e = .returned (.bool (l.length == m.length && ATs.same l m)) ∧ Below w.heap.size w w' := by
  have hlx := len_nodes l
  have hly := len_nodes m
  have HL := Lib.hid hl
  have HM := Lib.hid hm
  have HAX := Lib.hid ax
  have HAY := Lib.hid ay
  have HNX := Lib.hid h1
  have HNY := Lib.hid h2
  have hl1 : l.length ≤ 800000 := by omega
  have hl2 : m.length ≤ 800000 := by omega
  obtain ⟨nx, hnx⟩ : ∃ n, l.length = n := ⟨_, rfl⟩
  obtain ⟨ny, hny⟩ : ∃ n, m.length = n := ⟨_, rfl⟩
  rw [hnx] at HAX lx hl1 ⊢
  rw [hny] at HAY ly hl2 ⊢
  have HLX := Lib.hid hnx
  have HLY := Lib.hid hny
  clear hl hm ax ay h1 h2 hlx hly hnx hny
  by_cases hne : nx = ny
  case neg =>
    have hb : ((nx : Int) != (ny : Int)) = true := by rw [bne_iff_ne]; omega
    have hr : (nx == ny) = false := beq_eq_false_iff_ne.2 hne
    rw [hr, Bool.false_and]
    clear hne hr
    go_enter Try.func28, Try.ntmps28
    go_wp2
    go_ret
    exact ⟨rfl, Below.refl _ _⟩
  subst hne
  rw [beq_self_eq_true, Bool.true_and]
  obtain ⟨r, hr⟩ : ∃ r, ATs.same l m = r := ⟨_, rfl⟩
  rw [hr]
  have HR := Lib.hid hr
  clear hr
  go_enter Try.func28, Try.ntmps28
  go_wp2
  go_loopw [13] (fun c wr => ∃ i : Nat, c = .int .i64 i ∧ i ≤ nx ∧ Hid (AllSt w l m i wr)) (fun c _ => nx - (intOf c).toNat)
  case atStart => exact ⟨0, rfl, Nat.zero_le _, Below.refl _ _, by simp [ATs.same]⟩
  case round =>
    obtain ⟨i, rfl, hi, HSt⟩ := hrel
    by_cases hlt : i < nx
    · obtain ⟨tx, htx⟩ : ∃ t, l[i]? = some t := ⟨l[i]'(by rw [HLX.out]; exact hlt), List.getElem?_eq_getElem _⟩
      obtain ⟨ty, hty⟩ : ∃ t, m[i]? = some t := ⟨m[i]'(by rw [HLY.out]; exact hlt), List.getElem?_eq_getElem _⟩
      obtain rfl : ad = some ⟨G, off, none⟩ := HAX.out (by omega)
      obtain rfl : bd = some ⟨G', off', none⟩ := HAY.out (by omega)
      obtain ⟨⟨_, e0, e1, e2, e3⟩, em⟩ := mem_get HL.out htx
      obtain ⟨⟨_, f0, f1, f2, f3⟩, fm⟩ := mem_get HM.out hty
      have hbw := HSt.out.1
      have keep : ∀ w5, Below wr.heap.size wr w5 → w5.cell? ⟨G, off + i * 4, none⟩ = some (.int .i64 tx.k) ∧ w5.cell? ⟨G, off + i * 4 + 1, none⟩ = some (.int .i64 tx.n) ∧ w5.cell? ⟨G, off + i * 4 + 2, none⟩ = some (.string tx.s) ∧ w5.cell? ⟨G, off + i * 4 + 3, none⟩ = some tx.sv ∧
          w5.cell? ⟨G', off' + i * 4, none⟩ = some (.int .i64 ty.k) ∧ w5.cell? ⟨G', off' + i * 4 + 1, none⟩ = some (.int .i64 ty.n) ∧ w5.cell? ⟨G', off' + i * 4 + 2, none⟩ = some (.string ty.s) ∧ w5.cell? ⟨G', off' + i * 4 + 3, none⟩ = some ty.sv := by
        intro w5 hb5
        have hb : Below w.heap.size w w5 := hbw.trans (hb5.mono hbw.size)
        refine ⟨?_, ?_, ?_, ?_, ?_, ?_, ?_, ?_⟩
        · exact (hb.cell (World.block_lt_of_cell? _ _ e0)).trans e0
        · exact (hb.cell (World.block_lt_of_cell? _ _ e1)).trans e1
        · exact (hb.cell (World.block_lt_of_cell? _ _ e2)).trans e2
        · exact (hb.cell (World.block_lt_of_cell? _ _ e3)).trans e3
        · exact (hb.cell (World.block_lt_of_cell? _ _ f0)).trans f0
        · exact (hb.cell (World.block_lt_of_cell? _ _ f1)).trans f1
        · exact (hb.cell (World.block_lt_of_cell? _ _ f2)).trans f2
        · exact (hb.cell (World.block_lt_of_cell? _ _ f3)).trans f3
      have KEEP := Lib.hid keep
      have hntx := nodes_mem (List.mem_of_getElem? htx)
      have hnty := nodes_mem (List.mem_of_getElem? hty)
      have hNX := HNX.out
      have hNY := HNY.out
      have C := Lib.hid (fun (w1 : World) (h1 : Below wr.heap.size wr w1) => (same_is tx.nodes tx ty w1 (Nat.le_refl _) (AT.mem_below (hbw.trans (h1.mono hbw.size)) (AT.ins_size _ em) em) (AT.mem_below (hbw.trans (h1.mono hbw.size)) (AT.ins_size _ fm) fm) (by omega) (by omega)).mono (R' := fun e w' => e = .returned (.bool (tx.same ty)) ∧ Below wr.heap.size wr w') fun e w' hp => ⟨hp.1, h1.trans (hp.2.mono h1.size)⟩)
      obtain ⟨q0, q1, q2, q3, q4, q5, q6, q7⟩ := keep wr (Below.refl _ _)
      obtain ⟨b, hb⟩ : ∃ b, tx.same ty = b := ⟨_, rfl⟩
      rw [hb] at C
      have HBB := Lib.hid hb
      have HTX := Lib.hid htx
      have HTY := Lib.hid hty
      have i1 : (0 : Int) ≤ (i : Int) := by omega
      have i2 : (i : Int) < (nx : Int) := by omega
      have HB := Lib.hid hbw
      have HS1 := Lib.hid (same_take i l m HSt.out.2)
      clear hntx hnty hNX hNY e0 e1 e2 e3 f0 f1 f2 f3 em fm keep hbw hb htx hty HSt
      have hi1 : i ≤ 800000 := by omega
      go_wp2_with fail
      go_region_held3 (fun w' => w'.cell? ⟨G, off + i * 4, none⟩ = some (.int .i64 tx.k) ∧ w'.cell? ⟨G, off + i * 4 + 1, none⟩ = some (.int .i64 tx.n) ∧ w'.cell? ⟨G, off + i * 4 + 2, none⟩ = some (.string tx.s) ∧ w'.cell? ⟨G, off + i * 4 + 3, none⟩ = some tx.sv ∧
          w'.cell? ⟨G', off' + i * 4, none⟩ = some (.int .i64 ty.k) ∧ w'.cell? ⟨G', off' + i * 4 + 1, none⟩ = some (.int .i64 ty.n) ∧ w'.cell? ⟨G', off' + i * 4 + 2, none⟩ = some (.string ty.s) ∧ w'.cell? ⟨G', off' + i * 4 + 3, none⟩ = some ty.sv)
        (first | exact KEEP.out _ (by assumption) | go_keep)
        (first | (go_at_call 26; refine (C.out _ (by first | exact Below.refl _ _ | exact (Below.refl _ _).drew)).mono ?_; rintro _ w5 ⟨rfl, hb6⟩))
      all_goals
        have HW6 : Hid (Below w.heap.size w w5) := HB.out.trans (hb6.mono HB.out.size)
        clear hb6 q0 q1 q2 q3 q4 q5 q6 q7 C KEEP
        cases b
        · have HE2 : Hid (r = false) := by
            show r = false
            rw [← HR.out, same_no i l m tx ty HTX.out HTY.out HBB.out]
          go_wp2
          go_ret
          exact ⟨by rw [HE2.out]; rfl, HW6.out⟩
        · have HS2 := Lib.hid (HS1.out (fun t u h1 h2 => by
            rw [HTX.out] at h1
            rw [HTY.out] at h2
            cases h1
            cases h2
            exact HBB.out))
          go_wp2
          go_roundw
          case rel => exact ⟨i + 1, by go_num, by omega, HW6.out, HS2.out⟩
          case measure => simp [intOf]; omega
    · have hie : i = nx := by omega
      have HE2 : Hid (r = true) := by
        have h1 := HSt.out.2
        rw [List.take_of_length_le (by rw [HLX.out]; omega), List.take_of_length_le (by rw [HLY.out]; omega)] at h1
        show r = true
        rw [← HR.out, h1]
      have HB := Lib.hid HSt.out.1
      clear HSt
      go_wp2
      go_ret
      exact ⟨by rw [HE2.out]; rfl, HB.out⟩

end Go.Proofs.Ytkidcchafdiofaa
