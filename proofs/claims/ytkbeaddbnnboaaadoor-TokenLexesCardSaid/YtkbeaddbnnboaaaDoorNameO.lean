/- name.Get: a contract. Conditions: the text has at most 18000 bytes; the library's variables hold what their text lays. -/
import Derived.Test.YtkbeaddbnnboaaaDoorNameN
import Derived.IntWalk
namespace Go.Proofs.YtkbeaddbnnboaaaDoor
open Go Go.RowKit Go.Maps
open Go.WideMaps Go.WideElems

theorem ofNat_back (c : UInt8) : UInt8.ofNat ((c.toNat : Int)).toNat = c := by simp
theorem below_drewN (w : World) (k : Nat) : Below w.heap.size w (w.drewN k) := ⟨rfl, rfl, rfl, Nat.le_refl _, fun _ _ => rfl⟩
theorem step_true {q : Int} {c : UInt8} {t : List UInt8} (h : ((c.toNat : Int) == q) = true) (hd : dblB (c :: t) = true) : stepF q (c :: t) = .go [c] 2 := by
  show stepC q c t = _
  unfold stepC
  rw [if_pos h, if_pos hd]
theorem step_done {q : Int} {c : UInt8} {t : List UInt8} (h : ((c.toNat : Int) == q) = true) (hd : dblB (c :: t) = false) : stepF q (c :: t) = .done := by
  show stepC q c t = _
  unfold stepC
  rw [if_pos h, if_neg (by rw [hd]; simp)]
theorem step_esc {q : Int} {c : UInt8} {t b : List UInt8} {n : Nat} (h : ((c.toNat : Int) == q) = false) (h2 : ((c.toNat : Int) == 92) = true) (ho : escF (c :: t) = some (b, n)) : stepF q (c :: t) = .go b n := by
  show stepC q c t = _
  unfold stepC
  rw [if_neg (by rw [h]; simp), if_pos h2, ho]
theorem step_bad {q : Int} {c : UInt8} {t : List UInt8} (h : ((c.toNat : Int) == q) = false) (h2 : ((c.toNat : Int) == 92) = true) (ho : escF (c :: t) = none) : stepF q (c :: t) = .bad := by
  show stepC q c t = _
  unfold stepC
  rw [if_neg (by rw [h]; simp), if_pos h2, ho]
theorem step_line {q : Int} {c : UInt8} {t : List UInt8} (h : ((c.toNat : Int) == q) = false) (h2 : ((c.toNat : Int) == 92) = false) (h3 : ((c.toNat : Int) == 10) = true) : stepF q (c :: t) = .bad := by
  show stepC q c t = _
  unfold stepC
  rw [if_neg (by rw [h]; simp), if_neg (by rw [h2]; simp), if_pos h3]
theorem step_one {q : Int} {c : UInt8} {t : List UInt8} (h : ((c.toNat : Int) == q) = false) (h2 : ((c.toNat : Int) == 92) = false) (h3 : ((c.toNat : Int) == 10) = false) : stepF q (c :: t) = .go [c] 1 := by
  show stepC q c t = _
  unfold stepC
  rw [if_neg (by rw [h]; simp), if_neg (by rw [h2]; simp), if_neg (by rw [h3]; simp)]

set_option maxHeartbeats 4000000 in
theorem get_is (s : ByteArray) (q : Int) (w : World) (hs : s.size ≤ 18000) (htab : Tab w) :
    Calls Tryd.prog 72 #[.string s, .int .u8 q] w (GetPost w (getL q s.data.toList)) := by
  obtain ⟨r, hr⟩ : ∃ r, getL q s.data.toList = r := ⟨_, rfl⟩
  rw [hr]
  have HT := Lib.hid htab
  have H0 := Lib.hid (show GetRel w q s.size r (w.alloc (.cells #[.string s, .slice none 0 0, .map none] 98)) from
    ⟨s.data.toList, [], 0, ⟨s, .slice none 0 0, .map none, rfl, heap_alloc_new w _, World.ownsRow_nil _ _ _ _, .inl rfl⟩, (Below.refl _ _).alloc (Nat.le_refl _) _, by rw [Lib.size_eq]; rfl, Nat.le_refl _, hr⟩)
  clear hr htab
  go_enter Tryd.func72, Tryd.ntmps72
  go_wp2_with fail
  go_loopw [8] (fun _ wr => Hid (GetRel w q s.size r wr)) (fun _ wr => meas wr w.heap.size)
  case atStart => exact H0
  case round =>
    obtain ⟨l, g, m, h1, h2, hz, hg, hr⟩ := hrel.out
    have HR := Lib.hid h1
    have HB := Lib.hid h2
    have HZ := Lib.hid hz
    have HG := Lib.hid hr
    obtain ⟨S, gv, mv, hS, c, own, _⟩ := h1
    obtain ⟨c0, c1, _, f0, f1, _⟩ := reader_cells c
    have hSz := Lib.size_eq S
    rw [hS] at hSz
    have hsl : S.size ≤ 18000 := by omega
    have hgl : g.length ≤ 18000 := by omega
    have OWN := Lib.hid own
    have HSz := Lib.hid hSz
    have HC := Lib.hid c
    clear hrel h2 hr own c hz hSz
    rcases l with _ | ⟨c, t⟩
    · have he : S.toList.isEmpty = true := by rw [Lib.toList_data, hS]; rfl
      have hp := Lib.hid (HG.out.symm.trans (getF_bad (l := []) rfl))
      clear hS hsl
      go_wp2_with fail
      go_ret3
      cases hp.out
      exact ⟨rfl, HB.out⟩
    have he : S.toList.isEmpty = false := by rw [Lib.toList_data, hS]; rfl
    have hpos : 0 < S.size := by have := HSz.out; simp at this; omega
    have hc := at_0 hS hpos
    have hc0 : (0 : Int) ≤ (c.toNat : Int) := by omega
    have hc1 : (c.toNat : Int) ≤ 255 := by have := c.toNat_lt; omega
    have hlen : (c :: t).length ≤ 18000 := by have := HSz.out; omega
    have hwlt := Lib.hid HB.out.size
    cases hq : ((c.toNat : Int) == q)
    · cases h92 : ((c.toNat : Int) == 92)
      · cases h10 : ((c.toNat : Int) == 10)
        · have tk := take_one wr w.heap.size 1 (c :: t) g HR.out (by simp) (by omega) (by omega) (c.toNat : Int) hc0 hc1
          rw [ofNat_back] at tk
          have TK := Lib.hid tk
          have ST := Lib.hid (step_one (t := t) hq h92 h10)
          clear tk hS
          go_wp2_with fail
          refine TK.out.mono ?_
          rintro e w2 ⟨rfl, r2, b2⟩
          have HR2 := Lib.hid r2
          have HB2 := Lib.hid b2
          clear r2 b2
          go_wp2_with fail
          go_roundw
          case rel => exact GetRel.step HB.out HZ.out hg HG.out ST.out HR2.out HB2.out
          case measure => exact meas_step HR.out HR2.out ST.out
        · have hp := Lib.hid (HG.out.symm.trans (getF_bad (step_line (t := t) hq h92 h10)))
          clear hS
          go_wp2_with fail
          go_ret3
          cases hp.out
          exact ⟨rfl, HB.out⟩
      · have hE : Calls Tryd.prog 84 #[.pointer (some ⟨w.heap.size, 0, none⟩)] wr (EscPost wr w.heap.size (c :: t) g (escF (c :: t))) := by
          rcases t with _ | ⟨e, t⟩
          · exact escape_end wr w.heap.size g (.inr ⟨c, HR.out⟩)
          · exact escape_is wr w.heap.size c e t g HR.out (by simp at hlen; omega) (by omega) (HT.out.on HB.out)
        obtain ⟨o, ho⟩ : ∃ o, escF (c :: t) = o := ⟨_, rfl⟩
        rw [ho] at hE
        have ES := Lib.hid hE
        clear hE
        rcases o with _ | ⟨b, n⟩
        · have hp := Lib.hid (HG.out.symm.trans (getF_bad (step_bad hq h92 ho)))
          clear ho hS
          go_wp2_with fail
          refine ES.out.mono ?_
          rintro e w2 ⟨rfl, b2⟩
          go_wp2_with fail
          go_ret3
          cases hp.out
          exact ⟨rfl, HB.out.trans b2⟩
        · have ST := Lib.hid (step_esc hq h92 ho)
          clear ho hS
          go_wp2_with fail
          refine ES.out.mono ?_
          rintro e w2 ⟨rfl, r2, b2⟩
          have HR2 := Lib.hid r2
          have HB2 := Lib.hid b2
          clear r2 b2
          go_wp2_with fail
          go_roundw
          case rel => exact GetRel.step HB.out HZ.out hg HG.out ST.out HR2.out HB2.out
          case measure => exact meas_step HR.out HR2.out ST.out
    · have DB := Lib.hid (doubled_is wr w.heap.size (c :: t) g HR.out (by omega) (by simp))
      cases hdb : dblB (c :: t)
      · rw [hdb] at DB
        have hp := Lib.hid (HG.out.symm.trans (getF_done (step_done hq hdb)))
        have hm := Lib.hid (show ((s.size : Int) - (S.size : Int)) + 1 = ((m + 1 : Nat) : Int) by have := HZ.out; have := HSz.out; omega)
        clear hdb hS
        go_wp2_with fail
        refine DB.out.mono ?_
        rintro e w1 ⟨rfl, hw1⟩
        have hb1 : Below wr.heap.size wr w1 := by obtain ⟨x, rfl⟩ := hw1; exact below_drewN _ _
        have hc1' := HC.out
        rw [← hb1.block _ (heap_lt hc1')] at hc1'
        obtain ⟨d0, d1, _, g0, g1, _⟩ := reader_cells hc1'
        have hcv : ∀ x, (convert 38 9 gv).run Tryd.prog (w1.drewN x) = .ok (.string ⟨g.toArray⟩) (w1.drewN x) := fun x => conv_own (ownsRow_below (ownsRow_below OWN.out hb1) (below_drewN w1 x))
        have HB1 := Lib.hid hb1
        clear hw1 hb1 hc1' c0 c1 f0 f1
        have w1' : IntKind.i64.wrap ((s.size : Int) - (S.size : Int)) = (s.size : Int) - (S.size : Int) := IntWalk.i64_in _ (by omega)
        have w2' : IntKind.i64.wrap ((s.size : Int) - (S.size : Int) + 1) = (s.size : Int) - (S.size : Int) + 1 := IntWalk.i64_in _ (by omega)
        go_wp2_with fail
        go_quiet (fail)
        clear w1' w2'
        go_wp2_with fail
        go_ret3
        cases hp.out
        exact ⟨by rw [← hm.out]; rfl, (HB.out.trans (HB1.out.mono hwlt.out)).trans ((below_drewN _ _).mono (Nat.le_trans hwlt.out HB1.out.size))⟩
      · rw [hdb] at DB
        have ST := Lib.hid (step_true hq hdb)
        have hn2 : 2 ≤ (c :: t).length := by
          rcases t with _ | ⟨e, t⟩
          · simp [dblB] at hdb
          · simp
        clear hdb hS
        go_wp2_with fail
        refine DB.out.mono ?_
        rintro e w1 ⟨rfl, hw1⟩
        have hb1 : Below wr.heap.size wr w1 := by obtain ⟨x, rfl⟩ := hw1; exact below_drewN _ _
        have hc1' := HC.out
        rw [← hb1.block _ (heap_lt hc1')] at hc1'
        obtain ⟨d0, d1, _, g0, g1, _⟩ := reader_cells hc1'
        have tk := take_one w1 w.heap.size 2 (c :: t) g (HR.out.below hb1) hn2 (by omega) (by omega) (c.toNat : Int) hc0 hc1
        rw [ofNat_back] at tk
        have TK := Lib.hid tk
        have HB1 := Lib.hid (hb1.mono hwlt.out)
        clear hw1 hb1 hc1' c0 c1 f0 f1 tk
        go_wp2_with fail
        refine TK.out.mono ?_
        rintro e w2 ⟨rfl, r2, b2⟩
        have HR2 := Lib.hid r2
        have HB2 := Lib.hid b2
        clear r2 b2
        go_wp2_with fail
        go_roundw
        case rel => exact GetRel.step HB.out HZ.out hg HG.out ST.out HR2.out (HB1.out.trans HB2.out)
        case measure => exact meas_step HR.out HR2.out ST.out

end Go.Proofs.YtkbeaddbnnboaaaDoor
