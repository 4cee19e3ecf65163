/- name.Get's reader: its methods zero and number, and the map of escapes. Conditions: as each states. -/
import Derived.Test.YtkbeaddbnnboaaaDoorNameK
namespace Go.Proofs.YtkbeaddbnnboaaaDoor
open Go Go.RowKit Go.Maps
open Go.WideMaps Go.WideElems

/-- a 0 that is no number's first digit? -/
def zeroN : List UInt8 → Bool
  | [] => true
  | c :: _ => !octZ (c.toNat : Int) && !((c.toNat : Int) == 92)
def zeroB (e : UInt8) (t : List UInt8) : Bool := (e.toNat : Int) == 48 && zeroN t

set_option maxHeartbeats 800000 in
theorem zero_is (w : World) (br : Nat) (a e : UInt8) (t g : List UInt8) (h : RD w br (a :: e :: t) g) (hl : t.length ≤ 29998) :
    Calls Tryd.prog 93 #[.pointer (some ⟨br, 0, none⟩)] w fun e1 w' => e1 = .returned (.bool (zeroB e t)) ∧ w' = w := by
  obtain ⟨s, gv, mv, hs, h2, _, _⟩ := h
  obtain ⟨c0, _, _, f0, _, _⟩ := reader_cells h2
  have hsz : (a :: e :: t).length = s.size := by rw [← hs]; simp
  clear h2
  obtain ⟨r, hr⟩ : ∃ r, zeroB e t = r := ⟨_, rfl⟩
  rw [hr]
  have hs1 : 1 < s.size := by simp at hsz; omega
  have e1 := at_1 hs hs1
  unfold zeroB at hr
  cases h48 : ((e.toNat : Int) == 48)
  · rw [h48, Bool.false_and] at hr
    subst hr
    clear hs hsz
    go_enter Tryd.func93, Tryd.ntmps93
    go_wp2_with fail
    go_ret
    exact ⟨rfl, rfl⟩
  rw [h48, Bool.true_and] at hr
  rcases t with _ | ⟨c, t⟩
  · have hd : decide ((s.size : Int) < 3) = true := by simp at hsz ⊢; omega
    have hr2 : r = true := hr.symm
    subst hr2
    clear hs hsz hr
    go_enter Tryd.func93, Tryd.ntmps93
    go_wp2_with fail
    go_ret
    exact ⟨rfl, rfl⟩
  · have hd : decide ((s.size : Int) < 3) = false := by simp at hsz ⊢; omega
    have hs2 : 2 < s.size := by simp at hsz; omega
    have e2 := at_2 hs hs2
    have hr2 : (!octZ (c.toNat : Int) && !((c.toNat : Int) == 92)) = r := hr
    have O := Lib.hid (fun w => octal_is (c.toNat : Int) w)
    have HR := Lib.hid hr2
    clear hs hsz hr hr2
    cases ho : octZ (c.toNat : Int)
    · rw [ho] at O HR
      clear ho
      go_enter Tryd.func93, Tryd.ntmps93
      go_wp2_with (go_at_call 92; refine (O.out _).mono ?_; rintro e w' ⟨rfl, rfl⟩)
      go_ret
      cases HR.out
      exact ⟨rfl, rfl⟩
    · rw [ho] at O HR
      clear ho
      go_enter Tryd.func93, Tryd.ntmps93
      go_wp2_with (go_at_call 92; refine (O.out _).mono ?_; rintro e w' ⟨rfl, rfl⟩)
      go_ret
      cases HR.out
      exact ⟨rfl, rfl⟩

theorem numF_bd (base : Int) (hb : 0 ≤ base) : ∀ (l : List UInt8) (a n : Int), 0 ≤ a → a ≤ 255 → numF base a l = some n → 0 ≤ n ∧ n ≤ 255
  | [], a, n, h0, h1, h => by cases h; exact ⟨h0, h1⟩
  | c :: t, a, n, h0, h1, h => by
    unfold numF at h
    split at h
    · rename_i hc
      have hz : 0 ≤ hexZ (c.toNat : Int) := by unfold hexZ; (repeat' split) <;> omega
      exact numF_bd base hb t _ n (Int.add_nonneg (Int.mul_nonneg h0 hb) hz) hc.2 h
    · cases h
theorem numR_bd {base : Int} (hb : 0 ≤ base) {l : List UInt8} {n : Int} (h : numR base l = some n) : 0 ≤ n ∧ n ≤ 255 := by
  unfold numR at h
  split at h
  · cases h
  · exact numF_bd base hb l 0 n (by omega) (by omega) h

/-- digits up to a backslash: their byte, and how many bytes that took -/
def numAt (base : Int) (t : List UInt8) : Option (UInt8 × Nat) :=
  if Lib.indexByte t 92 < 0 then none
  else match numR base (t.take (Lib.indexByte t 92).toNat) with
    | none => none
    | some n => some (UInt8.ofNat n.toNat, (Lib.indexByte t 92).toNat + 1)

/-- what number comes to -/
def NumPost (w : World) (br n : Nat) (l g : List UInt8) (o : Option (UInt8 × Nat)) (e : Ending) (w' : World) : Prop := match o with
  | none => e = .returned (.bool false) ∧ Below br w w'
  | some (b, k) => e = .returned (.bool true) ∧ RD w' br (l.drop (n + k)) (g ++ [b]) ∧ Below br w w'

theorem index_lt {t : List UInt8} {i : Nat} (h : Lib.indexByte t 92 = (i : Int)) : i < t.length := by
  have := (Lib.indexByte_some h).1
  exact (List.getElem?_eq_some_iff.1 this).1

set_option maxHeartbeats 1600000 in
theorem number_is (w : World) (br n : Nat) (base : Int) (hb : 0 ≤ base) (l g : List UInt8) (h : RD w br l g) (hn : n ≤ l.length) (hl : l.length ≤ 20000) (hg : g.length ≤ 100000) (htab : Tab w)
    (HP : Hid (∀ (t : ByteArray) (w : World), t.size ≤ 20000 → Tab w → Calls Tryd.prog 98 #[.string t, .int .i64 base, .int .i64 8] w fun e w' => PP (numR base t.data.toList) e ∧ Below w.heap.size w w')) :
    Calls Tryd.prog 91 #[.pointer (some ⟨br, 0, none⟩), .int .i64 n, .int .i64 base] w (NumPost w br n l g (numAt base (l.drop n))) := by
  obtain ⟨s, gv, mv, hs, h2, h3, h4⟩ := h
  have hlt := heap_lt h2
  obtain ⟨c0, _, _, f0, _, _⟩ := reader_cells h2
  have hsz : s.size = l.length := by rw [← hs]; simp
  have hn' : n ≤ s.size := by omega
  have hl' : s.size ≤ 20000 := by omega
  have hd : (s.extract n s.size).data.toList = l.drop n := by rw [Lib.extract_to_end, hs]
  obtain ⟨ix, hix⟩ : ∃ ix, Lib.indexByte (l.drop n) 92 = ix := ⟨_, rfl⟩
  have IX := Lib.hid (fun w => Tryd.strings_IndexByte (s.extract n s.size) 92 w)
  rw [hd, show (92 : Int).toNat.toUInt8 = 92 from rfl, hix] at IX
  have HR := Lib.hid (show RD w br l g from ⟨s, gv, mv, hs, h2, h3, h4⟩)
  have hge : -1 ≤ ix := by rw [← hix]; exact Lib.indexByte_ge _ _
  clear h2 h3 h4
  unfold numAt
  rw [hix]
  by_cases hneg : ix < 0
  · rw [if_pos hneg]
    clear hs hsz hd hix
    go_enter Tryd.func91, Tryd.ntmps91
    go_wp2_with fail
    refine (IX.out _).mono ?_
    rintro e w1 ⟨rfl, rfl⟩
    go_wp2_with fail
    go_ret
    exact ⟨rfl, Below.refl _ _⟩
  rw [if_neg hneg]
  obtain ⟨i, rfl⟩ := Int.eq_ofNat_of_zero_le (show 0 ≤ ix by omega)
  have hil := index_lt hix
  rw [List.length_drop] at hil
  have hT : (s.extract n (n + i)).data.toList = (l.drop n).take i := by rw [Lib.extract_data, hs, show n + i - n = i by omega]
  have hTs : (s.extract n (n + i)).size ≤ 20000 := by
    have h1 : (s.extract n (n + i)).size = (s.extract n (n + i)).data.toList.length := (Lib.size_eq _).symm
    have h2 : ((l.drop n).take i).length ≤ i := List.length_take_le _ _
    rw [h1, hT]
    omega
  have P := Lib.hid (fun w h => HP.out (s.extract n (n + i)) w hTs h)
  rw [hT] at P
  rw [Int.toNat_natCast]
  obtain ⟨o, ho⟩ : ∃ o, numR base ((l.drop n).take i) = o := ⟨_, rfl⟩
  rw [ho] at P ⊢
  have HT := Lib.hid htab
  have hni : n + i < s.size := by omega
  have hlen := Lib.hid hsz
  clear hT hTs hs hsz hd hix hneg hge HP htab hil
  cases o with
  | none =>
    go_enter Tryd.func91, Tryd.ntmps91
    go_wp2_with fail
    refine (IX.out _).mono ?_
    rintro e w1 ⟨rfl, rfl⟩
    go_wp2_with fail
    refine (P.out _ HT.out).mono ?_
    rintro e w1 ⟨hp, b1⟩
    have hp' : ∃ (n : Int) (a : Addr), e = .returned (.tuple #[.int .u64 n, .iface 114 (.pointer (some a))]) := hp
    obtain ⟨x, a, rfl⟩ := hp'
    clear hp ho
    go_wp2_with fail
    go_ret
    exact ⟨rfl, b1.mono (by omega)⟩
  | some x =>
    obtain ⟨x0, x1⟩ := numR_bd hb ho
    have hwx : IntKind.u8.wrap x = x := by rw [IntKind.wrap_u8]; omega
    have HW := Lib.hid hwx
    go_enter Tryd.func91, Tryd.ntmps91
    go_wp2_with fail
    refine (IX.out _).mono ?_
    rintro e w1 ⟨rfl, rfl⟩
    go_wp2_with fail
    refine (P.out _ HT.out).mono ?_
    rintro e w1 ⟨hp, b1⟩
    have hp' : e = .returned (.tuple #[.int .u64 x, .nilIface]) := hp
    subst hp'
    clear hp ho
    have HR1 := Lib.hid (HR.out.below b1)
    have hb1 := Lib.hid b1
    have tk := take_one w1 br (n + (i + 1)) l g HR1.out (by have := hlen.out; omega) (by omega) hg x x0 x1
    rw [show ((n + (i + 1) : Nat) : Int) = (n : Int) + i + 1 by omega] at tk
    have TK := Lib.hid tk
    have hbr := Lib.hid (Nat.le_of_lt hlt)
    clear b1 tk
    go_wp2_with fail
    refine TK.out.mono ?_
    rintro e w2 ⟨rfl, r2, b2⟩
    have HR2 := Lib.hid r2
    have hb2 := Lib.hid b2
    clear r2 b2
    go_wp2_with fail
    go_ret
    exact ⟨rfl, HR2.out, (hb1.out.mono hbr.out).trans hb2.out⟩

end Go.Proofs.YtkbeaddbnnboaaaDoor
