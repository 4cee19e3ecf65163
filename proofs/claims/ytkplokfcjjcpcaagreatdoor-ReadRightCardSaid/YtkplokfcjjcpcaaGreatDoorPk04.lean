/- Joined texts: NameL NameM NameN NameO NameQ. Conditions: as each states. -/
import Derived.Test.YtkplokfcjjcpcaaGreatDoorPk03
import Derived.IntWalk
section
namespace Go.Proofs.YtkplokfcjjcpcaaGreatDoor
open Go Go.RowKit Go.Maps
open Go.WideMaps Go.WideElems
def zeroN : List UInt8 → Bool
  | [] => true
  | c :: _ => !octZ (c.toNat : Int) && !((c.toNat : Int) == 92)
def zeroB (e : UInt8) (t : List UInt8) : Bool := (e.toNat : Int) == 48 && zeroN t
set_option maxHeartbeats 800000 in
theorem zero_is (w : World) (br : Nat) (a e : UInt8) (t g : List UInt8) (h : RD w br (a :: e :: t) g) (hl : t.length ≤ 29998) :
    Calls Tryz.prog 241 #[.pointer (some ⟨br, 0, none⟩)] w fun e1 w' => e1 = .returned (.bool (zeroB e t)) ∧ w' = w := by
  obtain ⟨s, gv, mv, hs, h2, _, _⟩ := h
  obtain ⟨c0, _, _, f0, _, _⟩ := reader_cells h2
  have hsz : (a :: e :: t).length = s.size := by rw [← hs]; simp
  clear h2
  obtain ⟨r, hr⟩ : ∃ r, zeroB e t = r := ⟨_, rfl⟩
  rw [hr]
  have hs1 : 1 < s.size := by simp at hsz; omega
  have e1 := at_1 hs hs1
  unfold zeroB at hr
  cases h48 : ((e.toNat : Int) == 48)
  · rw [h48, Bool.false_and] at hr
    subst hr
    clear hs hsz
    go_enter Tryz.func241, Tryz.ntmps241
    go_wp2_with fail
    go_ret
    exact ⟨rfl, rfl⟩
  rw [h48, Bool.true_and] at hr
  rcases t with _ | ⟨c, t⟩
  · have hd : decide ((s.size : Int) < 3) = true := by simp at hsz ⊢; omega
    have hr2 : r = true := hr.symm
    subst hr2
    clear hs hsz hr
    go_enter Tryz.func241, Tryz.ntmps241
    go_wp2_with fail
    go_ret
    exact ⟨rfl, rfl⟩
  · have hd : decide ((s.size : Int) < 3) = false := by simp at hsz ⊢; omega
    have hs2 : 2 < s.size := by simp at hsz; omega
    have e2 := at_2 hs hs2
    have hr2 : (!octZ (c.toNat : Int) && !((c.toNat : Int) == 92)) = r := hr
    have O := Lib.hid (fun w => octal_is (c.toNat : Int) w)
    have HR := Lib.hid hr2
    clear hs hsz hr hr2
    cases ho : octZ (c.toNat : Int)
    · rw [ho] at O HR
      clear ho
      go_enter Tryz.func241, Tryz.ntmps241
      go_wp2_with (go_at_call 240; refine (O.out _).mono ?_; rintro e w' ⟨rfl, rfl⟩)
      go_ret
      cases HR.out
      exact ⟨rfl, rfl⟩
    · rw [ho] at O HR
      clear ho
      go_enter Tryz.func241, Tryz.ntmps241
      go_wp2_with (go_at_call 240; refine (O.out _).mono ?_; rintro e w' ⟨rfl, rfl⟩)
      go_ret
      cases HR.out
      exact ⟨rfl, rfl⟩
theorem numF_bd (base : Int) (hb : 0 ≤ base) : ∀ (l : List UInt8) (a n : Int), 0 ≤ a → a ≤ 255 → numF base a l = some n → 0 ≤ n ∧ n ≤ 255
  | [], a, n, h0, h1, h => by cases h; exact ⟨h0, h1⟩
  | c :: t, a, n, h0, h1, h => by
    unfold numF at h
    split at h
    · rename_i hc
      have hz : 0 ≤ hexZ (c.toNat : Int) := by unfold hexZ; (repeat' split) <;> omega
      exact numF_bd base hb t _ n (Int.add_nonneg (Int.mul_nonneg h0 hb) hz) hc.2 h
    · cases h
theorem numR_bd {base : Int} (hb : 0 ≤ base) {l : List UInt8} {n : Int} (h : numR base l = some n) : 0 ≤ n ∧ n ≤ 255 := by
  unfold numR at h
  split at h
  · cases h
  · exact numF_bd base hb l 0 n (by omega) (by omega) h
def numAt (base : Int) (t : List UInt8) : Option (UInt8 × Nat) :=
  if Lib.indexByte t 92 < 0 then none
  else match numR base (t.take (Lib.indexByte t 92).toNat) with
    | none => none
    | some n => some (UInt8.ofNat n.toNat, (Lib.indexByte t 92).toNat + 1)
def NumPost (w : World) (br n : Nat) (l g : List UInt8) (o : Option (UInt8 × Nat)) (e : Ending) (w' : World) : Prop := match o with
  | none => e = .returned (.bool false) ∧ Below br w w'
  | some (b, k) => e = .returned (.bool true) ∧ RD w' br (l.drop (n + k)) (g ++ [b]) ∧ Below br w w'
theorem index_lt {t : List UInt8} {i : Nat} (h : Lib.indexByte t 92 = (i : Int)) : i < t.length := by
  have := (Lib.indexByte_some h).1
  exact (List.getElem?_eq_some_iff.1 this).1
set_option maxHeartbeats 1600000 in
theorem number_is (w : World) (br n : Nat) (base : Int) (hb : 0 ≤ base) (l g : List UInt8) (h : RD w br l g) (hn : n ≤ l.length) (hl : l.length ≤ 20000) (hg : g.length ≤ 100000) (htab : Tab w)
    (HP : Hid (∀ (t : ByteArray) (w : World), t.size ≤ 20000 → Tab w → Calls Tryz.prog 247 #[.string t, .int .i64 base, .int .i64 8] w fun e w' => PP (numR base t.data.toList) e ∧ Below w.heap.size w w')) :
    Calls Tryz.prog 239 #[.pointer (some ⟨br, 0, none⟩), .int .i64 n, .int .i64 base] w (NumPost w br n l g (numAt base (l.drop n))) := by
  obtain ⟨s, gv, mv, hs, h2, h3, h4⟩ := h
  have hlt := heap_lt h2
  obtain ⟨c0, _, _, f0, _, _⟩ := reader_cells h2
  have hsz : s.size = l.length := by rw [← hs]; simp
  have hn' : n ≤ s.size := by omega
  have hl' : s.size ≤ 20000 := by omega
  have hd : (s.extract n s.size).data.toList = l.drop n := by rw [Lib.extract_to_end, hs]
  obtain ⟨ix, hix⟩ : ∃ ix, Lib.indexByte (l.drop n) 92 = ix := ⟨_, rfl⟩
  have IX := Lib.hid (fun w => Tryz.strings_IndexByte (s.extract n s.size) 92 w)
  rw [hd, show (92 : Int).toNat.toUInt8 = 92 from rfl, hix] at IX
  have HR := Lib.hid (show RD w br l g from ⟨s, gv, mv, hs, h2, h3, h4⟩)
  have hge : -1 ≤ ix := by rw [← hix]; exact Lib.indexByte_ge _ _
  clear h2 h3 h4
  unfold numAt
  rw [hix]
  by_cases hneg : ix < 0
  · rw [if_pos hneg]
    clear hs hsz hd hix
    go_enter Tryz.func239, Tryz.ntmps239
    go_wp2_with fail
    refine (IX.out _).mono ?_
    rintro e w1 ⟨rfl, rfl⟩
    go_wp2_with fail
    go_ret
    exact ⟨rfl, Below.refl _ _⟩
  rw [if_neg hneg]
  obtain ⟨i, rfl⟩ := Int.eq_ofNat_of_zero_le (show 0 ≤ ix by omega)
  have hil := index_lt hix
  rw [List.length_drop] at hil
  have hT : (s.extract n (n + i)).data.toList = (l.drop n).take i := by rw [Lib.extract_data, hs, show n + i - n = i by omega]
  have hTs : (s.extract n (n + i)).size ≤ 20000 := by
    have h1 : (s.extract n (n + i)).size = (s.extract n (n + i)).data.toList.length := (Lib.size_eq _).symm
    have h2 : ((l.drop n).take i).length ≤ i := List.length_take_le _ _
    rw [h1, hT]
    omega
  have P := Lib.hid (fun w h => HP.out (s.extract n (n + i)) w hTs h)
  rw [hT] at P
  rw [Int.toNat_natCast]
  obtain ⟨o, ho⟩ : ∃ o, numR base ((l.drop n).take i) = o := ⟨_, rfl⟩
  rw [ho] at P ⊢
  have HT := Lib.hid htab
  have hni : n + i < s.size := by omega
  have hlen := Lib.hid hsz
  clear hT hTs hs hsz hd hix hneg hge HP htab hil
  cases o with
  | none =>
    go_enter Tryz.func239, Tryz.ntmps239
    go_wp2_with fail
    refine (IX.out _).mono ?_
    rintro e w1 ⟨rfl, rfl⟩
    go_wp2_with fail
    refine (P.out _ HT.out).mono ?_
    rintro e w1 ⟨hp, b1⟩
    have hp' : ∃ (n : Int) (a : Addr), e = .returned (.tuple #[.int .u64 n, .iface 303 (.pointer (some a))]) := hp
    obtain ⟨x, a, rfl⟩ := hp'
    clear hp ho
    go_wp2_with fail
    go_ret
    exact ⟨rfl, b1.mono (by omega)⟩
  | some x =>
    obtain ⟨x0, x1⟩ := numR_bd hb ho
    have hwx : IntKind.u8.wrap x = x := by rw [IntKind.wrap_u8]; omega
    have HW := Lib.hid hwx
    go_enter Tryz.func239, Tryz.ntmps239
    go_wp2_with fail
    refine (IX.out _).mono ?_
    rintro e w1 ⟨rfl, rfl⟩
    go_wp2_with fail
    refine (P.out _ HT.out).mono ?_
    rintro e w1 ⟨hp, b1⟩
    have hp' : e = .returned (.tuple #[.int .u64 x, .nilIface]) := hp
    subst hp'
    clear hp ho
    have HR1 := Lib.hid (HR.out.below b1)
    have hb1 := Lib.hid b1
    have tk := take_one w1 br (n + (i + 1)) l g HR1.out (by have := hlen.out; omega) (by omega) hg x x0 x1
    rw [show ((n + (i + 1) : Nat) : Int) = (n : Int) + i + 1 by omega] at tk
    have TK := Lib.hid tk
    have hbr := Lib.hid (Nat.le_of_lt hlt)
    clear b1 tk
    go_wp2_with fail
    refine TK.out.mono ?_
    rintro e w2 ⟨rfl, r2, b2⟩
    have HR2 := Lib.hid r2
    have hb2 := Lib.hid b2
    clear r2 b2
    go_wp2_with fail
    go_ret
    exact ⟨rfl, HR2.out, (hb1.out.mono hbr.out).trans hb2.out⟩
end Go.Proofs.YtkplokfcjjcpcaaGreatDoor
end
section
namespace Go.Proofs.YtkplokfcjjcpcaaGreatDoor
open Go Go.RowKit Go.Maps
open Go.WideMaps Go.WideElems
def escV (c : Int) : Int := if c = 110 then 10 else if c = 114 then 13 else if c = 116 then 9 else if c = 97 then 7 else if c = 98 then 8 else if c = 102 then 12 else if c = 118 then 11 else if c = 48 then 0 else if c = 92 then 92 else if c = 39 then 39 else if c = 34 then 34 else if c = 96 then 96 else 0
def escO (c : Int) : Bool := c == 110 || c == 114 || c == 116 || c == 97 || c == 98 || c == 102 || c == 118 || c == 48 || c == 92 || c == 39 || c == 34 || c == 96
theorem esc_at : ∀ k : Fin 256, litI (escD.atKey (.int .u8 (k.val : Int)) (.lit (.int .u8 0))) = escV k.val ∧ Maps.has escD (.int .u8 (k.val : Int)) = escO k.val := by decide +kernel
theorem escV_bd (c : Int) : 0 ≤ escV c ∧ escV c ≤ 255 := by
  unfold escV
  (repeat' split) <;> omega
theorem look_esc {w : World} {b : Nat} (h : w.ownsMap Tryz.prog 5 (plainElem (H := Unit) Tryz.prog 5) b 12 escD) (c : Int) (h0 : 0 ≤ c) (h1 : c ≤ 255) :
    (Instr.lookup 277 (.map (some b)) (.int .u8 c) true).run Tryz.prog w = .ok (.tuple #[.int .u8 (escV c), .bool (escO c)]) w := by
  obtain ⟨h2, h3⟩ := esc_at ⟨c.toNat, by omega⟩
  simp only [Int.toNat_of_nonneg h0] at h2 h3
  exact look_u8 h c _ _ h0 h1 (litI_inv h2 (escV_bd c).1) h3
set_option maxRecDepth 100000 in
set_option maxHeartbeats 1600000 in
theorem escapes_is (w : World) :
    Calls Tryz.prog 242 #[] w fun e w' => e = .returned (.map (some w.heap.size)) ∧ w'.ownsMap Tryz.prog 5 (plainElem (H := Unit) Tryz.prog 5) w.heap.size 12 escD ∧ Below w.heap.size w w' := by
  have hmm := run_makeMap (P := Tryz.prog) 277 w
  have h0 := World.ownsMap_made w Tryz.prog 5 (plainElem (H := Unit) Tryz.prog 5)
  have b0 : Below w.heap.size w (w.alloc (.map #[] 0)) := (Below.refl _ _).alloc (Nat.le_refl _) _
  obtain ⟨w0, hw0⟩ : ∃ w0, w0 = w.alloc (.map #[] 0) := ⟨_, rfl⟩
  rw [← hw0] at h0 b0
  simp only [← hw0] at hmm
  clear hw0
  go_enter Tryz.func242, Tryz.ntmps242
  go_wp2_with (first | (refine wpList_insert_u8 w0 rfl _ _ _ rfl _ _ _ rfl h0 (by unfold maxLen; omega) _ _ rfl (by omega) (by omega) rfl (by omega) (by omega) ?_; intro w1 h1 g1; have b1 := b0.grown g1 (by have := b0.size; omega) (fun _ e => by cases e; exact Nat.le_refl _); clear h0 g1 b0) | (refine wpList_insert_u8 w1 rfl _ _ _ rfl _ _ _ rfl h1 (by unfold maxLen; omega) _ _ rfl (by omega) (by omega) rfl (by omega) (by omega) ?_; intro w2 h2 g2; have b2 := b1.grown g2 (by have := b1.size; omega) (fun _ e => by cases e; exact Nat.le_refl _); clear h1 g2 b1) | (refine wpList_insert_u8 w2 rfl _ _ _ rfl _ _ _ rfl h2 (by unfold maxLen; omega) _ _ rfl (by omega) (by omega) rfl (by omega) (by omega) ?_; intro w3 h3 g3; have b3 := b2.grown g3 (by have := b2.size; omega) (fun _ e => by cases e; exact Nat.le_refl _); clear h2 g3 b2) | (refine wpList_insert_u8 w3 rfl _ _ _ rfl _ _ _ rfl h3 (by unfold maxLen; omega) _ _ rfl (by omega) (by omega) rfl (by omega) (by omega) ?_; intro w4 h4 g4; have b4 := b3.grown g4 (by have := b3.size; omega) (fun _ e => by cases e; exact Nat.le_refl _); clear h3 g4 b3) | (refine wpList_insert_u8 w4 rfl _ _ _ rfl _ _ _ rfl h4 (by unfold maxLen; omega) _ _ rfl (by omega) (by omega) rfl (by omega) (by omega) ?_; intro w5 h5 g5; have b5 := b4.grown g5 (by have := b4.size; omega) (fun _ e => by cases e; exact Nat.le_refl _); clear h4 g5 b4) | (refine wpList_insert_u8 w5 rfl _ _ _ rfl _ _ _ rfl h5 (by unfold maxLen; omega) _ _ rfl (by omega) (by omega) rfl (by omega) (by omega) ?_; intro w6 h6 g6; have b6 := b5.grown g6 (by have := b5.size; omega) (fun _ e => by cases e; exact Nat.le_refl _); clear h5 g6 b5) | (refine wpList_insert_u8 w6 rfl _ _ _ rfl _ _ _ rfl h6 (by unfold maxLen; omega) _ _ rfl (by omega) (by omega) rfl (by omega) (by omega) ?_; intro w7 h7 g7; have b7 := b6.grown g7 (by have := b6.size; omega) (fun _ e => by cases e; exact Nat.le_refl _); clear h6 g7 b6) | (refine wpList_insert_u8 w7 rfl _ _ _ rfl _ _ _ rfl h7 (by unfold maxLen; omega) _ _ rfl (by omega) (by omega) rfl (by omega) (by omega) ?_; intro w8 h8 g8; have b8 := b7.grown g8 (by have := b7.size; omega) (fun _ e => by cases e; exact Nat.le_refl _); clear h7 g8 b7) | (refine wpList_insert_u8 w8 rfl _ _ _ rfl _ _ _ rfl h8 (by unfold maxLen; omega) _ _ rfl (by omega) (by omega) rfl (by omega) (by omega) ?_; intro w9 h9 g9; have b9 := b8.grown g9 (by have := b8.size; omega) (fun _ e => by cases e; exact Nat.le_refl _); clear h8 g9 b8) | (refine wpList_insert_u8 w9 rfl _ _ _ rfl _ _ _ rfl h9 (by unfold maxLen; omega) _ _ rfl (by omega) (by omega) rfl (by omega) (by omega) ?_; intro w10 h10 g10; have b10 := b9.grown g10 (by have := b9.size; omega) (fun _ e => by cases e; exact Nat.le_refl _); clear h9 g10 b9) | (refine wpList_insert_u8 w10 rfl _ _ _ rfl _ _ _ rfl h10 (by unfold maxLen; omega) _ _ rfl (by omega) (by omega) rfl (by omega) (by omega) ?_; intro w11 h11 g11; have b11 := b10.grown g11 (by have := b10.size; omega) (fun _ e => by cases e; exact Nat.le_refl _); clear h10 g11 b10) | (refine wpList_insert_u8 w11 rfl _ _ _ rfl _ _ _ rfl h11 (by unfold maxLen; omega) _ _ rfl (by omega) (by omega) rfl (by omega) (by omega) ?_; intro w12 h12 g12; have b12 := b11.grown g12 (by have := b11.size; omega) (fun _ e => by cases e; exact Nat.le_refl _); clear h11 g12 b11))
  go_ret
  exact ⟨rfl, h12, b12⟩
def escT (e : UInt8) (t : List UInt8) : Option (List UInt8 × Nat) :=
    if ((e.toNat : Int) == 10) = true then some ([], 2)
    else if ((e.toNat : Int) == 120) = true then (match numAt 16 t with | some (b, k) => some ([b], 2 + k) | none => none)
    else if (octZ (e.toNat : Int) && !zeroB e t) = true then (match numAt 8 (e :: t) with | some (b, k) => some ([b], 1 + k) | none => none)
    else if escO (e.toNat : Int) = true then some ([UInt8.ofNat (escV (e.toNat : Int)).toNat], 2) else none
def escF : List UInt8 → Option (List UInt8 × Nat)
  | _ :: e :: t => escT e t
  | _ => none
def EscPost (w : World) (br : Nat) (l g : List UInt8) (o : Option (List UInt8 × Nat)) (e : Ending) (w' : World) : Prop := match o with
  | none => e = .returned (.bool false) ∧ Below br w w'
  | some (b, k) => e = .returned (.bool true) ∧ RD w' br (l.drop k) (g ++ b) ∧ Below br w w'
theorem RD_map {w w1 : World} {br bm : Nat} {s : ByteArray} {gv : Value} {g : List UInt8} (h : w.heap[br]? = some (.cells #[.string s, gv, .map none] 283 (0, 0)))
    (h3 : w.ownsRow (br + 1) 5 1 gv g.length (bc g)) (hb : Below w.heap.size w w1) (hbm : br < bm) (hm : w1.ownsMap Tryz.prog 5 (plainElem (H := Unit) Tryz.prog 5) bm 12 escD) :
    (w1.setCell ⟨br, 2, none⟩ (.map (some bm))).heap[br]? = some (.cells #[.string s, gv, .map (some bm)] 283 (0, 0)) ∧ (w1.setCell ⟨br, 2, none⟩ (.map (some bm))).ownsRow (br + 1) 5 1 gv g.length (bc g) ∧
    (w1.setCell ⟨br, 2, none⟩ (.map (some bm))).ownsMap Tryz.prog 5 (plainElem (H := Unit) Tryz.prog 5) bm 12 escD ∧ Below br w (w1.setCell ⟨br, 2, none⟩ (.map (some bm))) := by
  refine ⟨?_, ownsRow_setCell_below (ownsRow_below h3 hb) (by simp) _, hm.setCell (by simp; omega) _, (hb.mono (by have := heap_lt h; omega)).setCell (by simp) _⟩
  rw [heap_setCell_same w1 br 2 _ _ _ (by rw [hb.block br (heap_lt h)]; exact h)]
  rfl
set_option maxHeartbeats 800000 in
theorem escape_end (w : World) (br : Nat) (g : List UInt8) (h : RD w br [] g ∨ ∃ a, RD w br [a] g) :
    Calls Tryz.prog 216 #[.pointer (some ⟨br, 0, none⟩)] w fun e w' => e = .returned (.bool false) ∧ Below br w w' := by
  have hr : ∃ l, RD w br l g ∧ l.length < 2 := by
    rcases h with h | ⟨a, h⟩
    · exact ⟨_, h, by simp⟩
    · exact ⟨_, h, by simp⟩
  clear h
  obtain ⟨l, ⟨s, gv, mv, hs, h2, _, _⟩, hl⟩ := hr
  obtain ⟨c0, _, _, f0, _, _⟩ := reader_cells h2
  have hsz : s.size < 2 := by have := Lib.size_eq s; rw [hs] at this; omega
  clear hs h2 hl
  go_enter Tryz.func216, Tryz.ntmps216
  go_wp2_with fail
  go_ret
  exact ⟨rfl, Below.refl _ _⟩
set_option maxHeartbeats 4000000 in
theorem escape_map (w : World) (br : Nat) (a e : UInt8) (t g : List UInt8) (HR : Hid (RD w br (a :: e :: t) g)) (hl : t.length ≤ 19000) (hg : g.length ≤ 100000) (s : ByteArray) (gv mv : Value)
    (c0 : w.cell? ⟨br, 0, none⟩ = some (.string s)) (_c1 : w.cell? ⟨br, 1, none⟩ = some gv) (c2 : w.cell? ⟨br, 2, none⟩ = some mv) (_f0 : w.frozen? ⟨br, 0, none⟩ = false) (_f1 : w.frozen? ⟨br, 1, none⟩ = false) (_f2 : w.frozen? ⟨br, 2, none⟩ = false)
    (hs1 : 1 < s.size) (hsz : s.size ≤ 20000) (hlt : br < w.heap.size) (e1 : s[1] = e) (hd : decide ((s.size : Int) < 2) = false) (H2 : Hid (w.heap[br]? = some (.cells #[.string s, gv, mv] 283 (0, 0)))) (H3 : Hid (w.ownsRow (br + 1) 5 1 gv g.length (bc g)))
    (H4 : Hid (mv = .map none ∨ ∃ bm, mv = .map (some bm) ∧ br < bm ∧ w.ownsMap Tryz.prog 5 (plainElem (H := Unit) Tryz.prog 5) bm 12 escD)) (hs' : Hid (s.data.toList = a :: e :: t)) (q0 : (0 : Int) ≤ (e.toNat : Int)) (q1 : (e.toNat : Int) ≤ 255)
    (e10 : ((e.toNat : Int) == 10) = false) (e120 : ((e.toNat : Int) == 120) = false) (OC : Hid (∀ w, Calls Tryz.prog 240 #[.int .u8 (e.toNat : Int)] w fun e1 w' => e1 = .returned (.bool (octZ (e.toNat : Int))) ∧ w' = w))
    (ZE : Hid (Calls Tryz.prog 241 #[.pointer (some ⟨br, 0, none⟩)] w fun e1 w' => e1 = .returned (.bool (zeroB e t)) ∧ w' = w)) (eo : (octZ (e.toNat : Int) && !zeroB e t) = false) :
    Calls Tryz.prog 216 #[.pointer (some ⟨br, 0, none⟩)] w (EscPost w br (a :: e :: t) g (if escO (e.toNat : Int) = true then some ([UInt8.ofNat (escV (e.toNat : Int)).toNat], 2) else none)) := by
  have hv := escV_bd (e.toNat : Int)
  obtain ⟨hv0, hv1⟩ := hv
  have eo' : octZ (e.toNat : Int) = false ∨ octZ (e.toNat : Int) = true ∧ zeroB e t = true := by
    cases h1 : octZ (e.toNat : Int)
    · exact .inl rfl
    · cases h2 : zeroB e t
      · rw [h1, h2] at eo; cases eo
      · exact .inr ⟨rfl, rfl⟩
  clear eo
  have hm4 := H4.out
  rcases hm4 with rfl | ⟨bm, rfl, hbm, hmap⟩
  · have hnil := run_eql_map_nil (P := Tryz.prog) w 277 5 5 none Tryz.underlying277
    cases hO : escO (e.toNat : Int)
    · rw [if_neg (by simp)]
      rcases eo' with eo1 | ⟨eo1, eo2⟩
      · rw [eo1] at OC
        clear eo1 ZE
        go_enter Tryz.func216, Tryz.ntmps216
        go_wp2_with ((go_at_call 240; refine (OC.out _).mono ?_; rintro e w' ⟨rfl, hw⟩; obtain rfl := hw.symm))
        refine (escapes_is _).mono ?_
        rintro e w1 ⟨rfl, hm1, b1⟩
        have hk := H2.out
        rw [← b1.block br hlt] at hk
        obtain ⟨d0, d1, d2, g0, g1, g2⟩ := reader_cells hk
        obtain ⟨r1, r2, r3, r4⟩ := RD_map H2.out H3.out b1 hlt hm1
        have hlook := look_esc r3 (e.toNat : Int) q0 q1
        rw [hO] at hlook
        have HB := Lib.hid r4
        clear r1 r2 r3 r4 hk hm1
        go_wp2_with fail
        go_ret
        exact ⟨rfl, HB.out⟩
      · rw [eo1] at OC
        rw [eo2] at ZE
        clear eo1 eo2
        go_enter Tryz.func216, Tryz.ntmps216
        go_wp2_with (first | (go_at_call 240; refine (OC.out _).mono ?_; rintro e w' ⟨rfl, hw⟩; obtain rfl := hw.symm) | (go_at_call 241; refine ZE.out.mono ?_; rintro e w' ⟨rfl, hw⟩; obtain rfl := hw.symm))
        refine (escapes_is _).mono ?_
        rintro e w1 ⟨rfl, hm1, b1⟩
        have hk := H2.out
        rw [← b1.block br hlt] at hk
        obtain ⟨d0, d1, d2, g0, g1, g2⟩ := reader_cells hk
        obtain ⟨r1, r2, r3, r4⟩ := RD_map H2.out H3.out b1 hlt hm1
        have hlook := look_esc r3 (e.toNat : Int) q0 q1
        rw [hO] at hlook
        have HB := Lib.hid r4
        clear r1 r2 r3 r4 hk hm1
        go_wp2_with fail
        go_ret
        exact ⟨rfl, HB.out⟩
    · rw [if_pos rfl]
      rcases eo' with eo1 | ⟨eo1, eo2⟩
      · rw [eo1] at OC
        clear eo1 ZE
        go_enter Tryz.func216, Tryz.ntmps216
        go_wp2_with ((go_at_call 240; refine (OC.out _).mono ?_; rintro e w' ⟨rfl, hw⟩; obtain rfl := hw.symm))
        refine (escapes_is _).mono ?_
        rintro e w1 ⟨rfl, hm1, b1⟩
        have hk := H2.out
        rw [← b1.block br hlt] at hk
        obtain ⟨d0, d1, d2, g0, g1, g2⟩ := reader_cells hk
        obtain ⟨r1, r2, r3, r4⟩ := RD_map H2.out H3.out b1 hlt hm1
        have hlook := look_esc r3 (e.toNat : Int) q0 q1
        rw [hO] at hlook
        have TK := (take_one (w1.setCell ⟨br, 2, none⟩ (.map (some w.heap.size))) br 2 (a :: e :: t) g ⟨s, gv, _, hs'.out, r1, r2, .inr ⟨_, rfl, hlt, r3⟩⟩ (by simp) (by simp; omega) hg _ hv0 hv1)
        rw [show (w1.setCell ⟨br, 2, none⟩ (.map (some w.heap.size))).heap.size = w1.heap.size by simp] at TK
        have TK := Lib.hid TK
        have HB := Lib.hid r4
        clear r1 r2 r3 r4 hk hm1
        go_wp2_with fail
        refine TK.out.mono ?_
        rintro e w2 ⟨rfl, r2, b2⟩
        have HR2 := Lib.hid r2
        clear r2
        go_wp2_with fail
        go_ret
        exact ⟨rfl, HR2.out, HB.out.trans b2⟩
      · rw [eo1] at OC
        rw [eo2] at ZE
        clear eo1 eo2
        go_enter Tryz.func216, Tryz.ntmps216
        go_wp2_with (first | (go_at_call 240; refine (OC.out _).mono ?_; rintro e w' ⟨rfl, hw⟩; obtain rfl := hw.symm) | (go_at_call 241; refine ZE.out.mono ?_; rintro e w' ⟨rfl, hw⟩; obtain rfl := hw.symm))
        refine (escapes_is _).mono ?_
        rintro e w1 ⟨rfl, hm1, b1⟩
        have hk := H2.out
        rw [← b1.block br hlt] at hk
        obtain ⟨d0, d1, d2, g0, g1, g2⟩ := reader_cells hk
        obtain ⟨r1, r2, r3, r4⟩ := RD_map H2.out H3.out b1 hlt hm1
        have hlook := look_esc r3 (e.toNat : Int) q0 q1
        rw [hO] at hlook
        have TK := (take_one (w1.setCell ⟨br, 2, none⟩ (.map (some w.heap.size))) br 2 (a :: e :: t) g ⟨s, gv, _, hs'.out, r1, r2, .inr ⟨_, rfl, hlt, r3⟩⟩ (by simp) (by simp; omega) hg _ hv0 hv1)
        rw [show (w1.setCell ⟨br, 2, none⟩ (.map (some w.heap.size))).heap.size = w1.heap.size by simp] at TK
        have TK := Lib.hid TK
        have HB := Lib.hid r4
        clear r1 r2 r3 r4 hk hm1
        go_wp2_with fail
        refine TK.out.mono ?_
        rintro e w2 ⟨rfl, r2, b2⟩
        have HR2 := Lib.hid r2
        clear r2
        go_wp2_with fail
        go_ret
        exact ⟨rfl, HR2.out, HB.out.trans b2⟩
  · have hnil := run_eql_map_nil (P := Tryz.prog) w 277 5 5 (some bm) Tryz.underlying277
    cases hO : escO (e.toNat : Int)
    · rw [if_neg (by simp)]
      rcases eo' with eo1 | ⟨eo1, eo2⟩
      · rw [eo1] at OC
        clear eo1 ZE
        have hlook := look_esc hmap (e.toNat : Int) q0 q1
        rw [hO] at hlook
        clear hmap
        go_enter Tryz.func216, Tryz.ntmps216
        go_wp2_with ((go_at_call 240; refine (OC.out _).mono ?_; rintro e w' ⟨rfl, hw⟩; obtain rfl := hw.symm))
        go_ret
        exact ⟨rfl, Below.refl _ _⟩
      · rw [eo1] at OC
        rw [eo2] at ZE
        clear eo1 eo2
        have hlook := look_esc hmap (e.toNat : Int) q0 q1
        rw [hO] at hlook
        clear hmap
        go_enter Tryz.func216, Tryz.ntmps216
        go_wp2_with (first | (go_at_call 240; refine (OC.out _).mono ?_; rintro e w' ⟨rfl, hw⟩; obtain rfl := hw.symm) | (go_at_call 241; refine ZE.out.mono ?_; rintro e w' ⟨rfl, hw⟩; obtain rfl := hw.symm))
        go_ret
        exact ⟨rfl, Below.refl _ _⟩
    · rw [if_pos rfl]
      rcases eo' with eo1 | ⟨eo1, eo2⟩
      · rw [eo1] at OC
        clear eo1 ZE
        have TK := Lib.hid (take_one w br 2 (a :: e :: t) g HR.out (by simp) (by simp; omega) hg _ hv0 hv1)
        have hlook := look_esc hmap (e.toNat : Int) q0 q1
        rw [hO] at hlook
        clear hmap
        go_enter Tryz.func216, Tryz.ntmps216
        go_wp2_with ((go_at_call 240; refine (OC.out _).mono ?_; rintro e w' ⟨rfl, hw⟩; obtain rfl := hw.symm))
        refine TK.out.mono ?_
        rintro e w2 ⟨rfl, r2, b2⟩
        have HR2 := Lib.hid r2
        clear r2
        go_wp2_with fail
        go_ret
        exact ⟨rfl, HR2.out, b2⟩
      · rw [eo1] at OC
        rw [eo2] at ZE
        clear eo1 eo2
        have TK := Lib.hid (take_one w br 2 (a :: e :: t) g HR.out (by simp) (by simp; omega) hg _ hv0 hv1)
        have hlook := look_esc hmap (e.toNat : Int) q0 q1
        rw [hO] at hlook
        clear hmap
        go_enter Tryz.func216, Tryz.ntmps216
        go_wp2_with (first | (go_at_call 240; refine (OC.out _).mono ?_; rintro e w' ⟨rfl, hw⟩; obtain rfl := hw.symm) | (go_at_call 241; refine ZE.out.mono ?_; rintro e w' ⟨rfl, hw⟩; obtain rfl := hw.symm))
        refine TK.out.mono ?_
        rintro e w2 ⟨rfl, r2, b2⟩
        have HR2 := Lib.hid r2
        clear r2
        go_wp2_with fail
        go_ret
        exact ⟨rfl, HR2.out, b2⟩
set_option maxHeartbeats 1600000 in
theorem escape_is (w : World) (br : Nat) (a e : UInt8) (t g : List UInt8) (h : RD w br (a :: e :: t) g) (hl : t.length ≤ 19000) (hg : g.length ≤ 100000) (htab : Tab w) :
    Calls Tryz.prog 216 #[.pointer (some ⟨br, 0, none⟩)] w (EscPost w br (a :: e :: t) g (escF (a :: e :: t))) := by
  have HR := Lib.hid h
  have HT := Lib.hid htab
  obtain ⟨s, gv, mv, hs, h2, h3, h4⟩ := h
  obtain ⟨c0, c1, c2, f0, f1, f2⟩ := reader_cells h2
  have hsz0 : s.size = (a :: e :: t).length := by rw [← hs, Lib.size_eq]
  have hs1 : 1 < s.size := by simp at hsz0; omega
  have hsz : s.size ≤ 20000 := by simp at hsz0; omega
  have hlt := heap_lt h2
  have e1 := at_1 hs hs1
  have hd : decide ((s.size : Int) < 2) = false := by simp; omega
  have H2 := Lib.hid h2
  have H3 := Lib.hid h3
  have H4 := Lib.hid h4
  have hs' := Lib.hid hs
  clear hs hsz0 h2 h3 h4 htab
  have q0 : (0 : Int) ≤ (e.toNat : Int) := by omega
  have q1 : (e.toNat : Int) ≤ 255 := by have := e.toNat_lt; omega
  rw [show escF (a :: e :: t) = escT e t from rfl]
  unfold escT
  cases e10 : ((e.toNat : Int) == 10)
  case true =>
    rw [if_pos rfl]
    have TK := Lib.hid (take_none w br 2 (a :: e :: t) g HR.out (by simp) (by simp; omega))
    go_enter Tryz.func216, Tryz.ntmps216
    go_wp2_with fail
    refine TK.out.mono ?_
    rintro e w2 ⟨rfl, r2, b2⟩
    have HR2 := Lib.hid r2
    clear r2
    go_wp2_with fail
    go_ret
    exact ⟨rfl, by rw [List.append_nil]; exact HR2.out, b2⟩
  rw [if_neg (by simp)]
  cases e120 : ((e.toNat : Int) == 120)
  case true =>
    rw [if_pos rfl]
    have NU := Lib.hid (number_is w br 2 16 (by omega) (a :: e :: t) g HR.out (by simp) (by simp; omega) hg HT.out (Lib.hid fun t w h1 h2 => parse_16 t h1 w h2))
    rw [show (a :: e :: t).drop 2 = t from rfl] at NU
    obtain ⟨o, ho⟩ : ∃ o, numAt 16 t = o := ⟨_, rfl⟩
    rw [ho] at NU ⊢
    clear ho
    rcases o with _ | ⟨b, k⟩
    · go_enter Tryz.func216, Tryz.ntmps216
      go_wp2_with fail
      refine NU.out.mono ?_
      rintro e w2 ⟨rfl, b2⟩
      go_wp2_with fail
      go_ret
      exact ⟨rfl, b2⟩
    · go_enter Tryz.func216, Tryz.ntmps216
      go_wp2_with fail
      refine NU.out.mono ?_
      rintro e w2 ⟨rfl, r2, b2⟩
      have HR2 := Lib.hid r2
      clear r2
      go_wp2_with fail
      go_ret
      exact ⟨rfl, HR2.out, b2⟩
  rw [if_neg (by simp)]
  have OC := Lib.hid (fun w => octal_is (e.toNat : Int) w)
  have ZE := Lib.hid (zero_is w br a e t g HR.out (by omega))
  cases eo : (octZ (e.toNat : Int) && !zeroB e t)
  case true =>
    rw [if_pos rfl]
    obtain ⟨eo1, eo2⟩ : octZ (e.toNat : Int) = true ∧ zeroB e t = false := by simpa using eo
    rw [eo1] at OC
    rw [eo2] at ZE
    clear eo eo1 eo2
    have NU := Lib.hid (number_is w br 1 8 (by omega) (a :: e :: t) g HR.out (by simp) (by simp; omega) hg HT.out (Lib.hid fun t w h1 h2 => parse_8 t h1 w h2))
    rw [show (a :: e :: t).drop 1 = e :: t from rfl] at NU
    obtain ⟨o, ho⟩ : ∃ o, numAt 8 (e :: t) = o := ⟨_, rfl⟩
    rw [ho] at NU ⊢
    clear ho
    rcases o with _ | ⟨b, k⟩
    · go_enter Tryz.func216, Tryz.ntmps216
      go_wp2_with (first | (go_at_call 240; refine (OC.out _).mono ?_; rintro e w' ⟨rfl, rfl⟩) | (go_at_call 241; refine ZE.out.mono ?_; rintro e w' ⟨rfl, rfl⟩))
      refine NU.out.mono ?_
      rintro e w2 ⟨rfl, b2⟩
      go_wp2_with fail
      go_ret
      exact ⟨rfl, b2⟩
    · go_enter Tryz.func216, Tryz.ntmps216
      go_wp2_with (first | (go_at_call 240; refine (OC.out _).mono ?_; rintro e w' ⟨rfl, rfl⟩) | (go_at_call 241; refine ZE.out.mono ?_; rintro e w' ⟨rfl, rfl⟩))
      refine NU.out.mono ?_
      rintro e w2 ⟨rfl, r2, b2⟩
      have HR2 := Lib.hid r2
      clear r2
      go_wp2_with fail
      go_ret
      exact ⟨rfl, HR2.out, b2⟩
  rw [if_neg (by simp)]
  exact escape_map w br a e t g HR hl hg s gv mv c0 c1 c2 f0 f1 f2 hs1 hsz hlt e1 hd H2 H3 H4 hs' q0 q1 e10 e120 OC ZE eo
end Go.Proofs.YtkplokfcjjcpcaaGreatDoor
end
section
namespace Go.Proofs.YtkplokfcjjcpcaaGreatDoor
open Go Go.RowKit Go.Maps
open Go.WideMaps Go.WideElems
inductive St
  | done
  | bad
  | go (b : List UInt8) (n : Nat)
def stepC (q : Int) (c : UInt8) (t : List UInt8) : St :=
    if ((c.toNat : Int) == q) = true then (if dblB (c :: t) = true then .go [c] 2 else .done)
    else if ((c.toNat : Int) == 92) = true then (match escF (c :: t) with | some (b, n) => .go b n | none => .bad)
    else if ((c.toNat : Int) == 10) = true then .bad else .go [c] 1
def stepF (q : Int) : List UInt8 → St
  | [] => .bad
  | c :: t => stepC q c t
def getF (q : Int) : Nat → List UInt8 → List UInt8 → Nat → Option (List UInt8 × Nat)
  | 0, _, _, _ => none
  | f + 1, l, acc, m => match stepF q l with
    | .done => some (acc, m + 1)
    | .bad => none
    | .go b n => getF q f (l.drop n) (acc ++ b) (m + n)
def getL (q : Int) (l : List UInt8) : Option (List UInt8 × Nat) := getF q (l.length + 1) l [] 0
theorem numAt_len {base : Int} {t : List UInt8} {b : UInt8} {k : Nat} (h : numAt base t = some (b, k)) : 1 ≤ k ∧ k ≤ t.length := by
  unfold numAt at h
  split at h
  · cases h
  · rename_i hneg
    split at h
    · cases h
    · simp at h
      obtain ⟨_, rfl⟩ := h
      have := index_lt (t := t) (i := (Lib.indexByte t 92).toNat) (by omega)
      omega
theorem escF_len {l : List UInt8} {b : List UInt8} {k : Nat} (h : escF l = some (b, k)) : 1 ≤ k ∧ k ≤ l.length ∧ b.length ≤ 1 := by
  match l, h with
  | a :: e :: t, h =>
    rw [show escF (a :: e :: t) = escT e t from rfl] at h
    unfold escT at h
    split at h
    · simp at h; obtain ⟨rfl, rfl⟩ := h; simp
    · split at h
      · split at h
        · rename_i b' k' hn
          have := numAt_len hn
          simp at h; obtain ⟨rfl, rfl⟩ := h; simp; omega
        · cases h
      · split at h
        · split at h
          · rename_i b' k' hn
            have := numAt_len hn
            simp at h this; obtain ⟨rfl, rfl⟩ := h; simp; omega
          · cases h
        · split at h
          · simp at h; obtain ⟨rfl, rfl⟩ := h; simp
          · cases h
theorem stepF_len {q : Int} {l b : List UInt8} {n : Nat} (h : stepF q l = .go b n) : 1 ≤ n ∧ n ≤ l.length ∧ b.length ≤ 1 := by
  match l, h with
  | c :: t, h =>
    rw [show stepF q (c :: t) = stepC q c t from rfl] at h
    unfold stepC at h
    split at h
    · split at h
      · rename_i hd
        simp at h; obtain ⟨rfl, rfl⟩ := h
        match t, hd with
        | _ :: _, _ => simp
      · cases h
    · split at h
      · split at h
        · rename_i b' n' he
          have := escF_len he
          simp at h; obtain ⟨rfl, rfl⟩ := h; exact this
        · cases h
      · split at h
        · cases h
        · simp at h; obtain ⟨rfl, rfl⟩ := h; simp
theorem getF_fuel (q : Int) : ∀ (f f' : Nat) (l acc : List UInt8) (m : Nat), l.length < f → l.length < f' → getF q f l acc m = getF q f' l acc m
  | 0, _, _, _, _, h, _ => by omega
  | _, 0, _, _, _, _, h => by omega
  | f + 1, f' + 1, l, acc, m, h, h' => by
    unfold getF
    cases hs : stepF q l with
    | done => rfl
    | bad => rfl
    | go b n =>
      have := stepF_len hs
      exact getF_fuel q f f' _ _ _ (by rw [List.length_drop]; omega) (by rw [List.length_drop]; omega)
theorem getF_go {q : Int} {l b acc : List UInt8} {n m : Nat} (h : stepF q l = .go b n) : getF q (l.length + 1) l acc m = getF q ((l.drop n).length + 1) (l.drop n) (acc ++ b) (m + n) := by
  have hl := stepF_len h
  rw [show getF q (l.length + 1) l acc m = getF q l.length (l.drop n) (acc ++ b) (m + n) by rw [getF, h]]
  exact getF_fuel q _ _ _ _ _ (by rw [List.length_drop]; omega) (by omega)
theorem getF_done {q : Int} {l acc : List UInt8} {m : Nat} (h : stepF q l = .done) : getF q (l.length + 1) l acc m = some (acc, m + 1) := by rw [getF, h]
theorem getF_bad {q : Int} {l acc : List UInt8} {m : Nat} (h : stepF q l = .bad) : getF q (l.length + 1) l acc m = none := by rw [getF, h]
abbrev ret3 (s : ByteArray) (n e : Int) : Ending := .returned (.tuple #[.string s, .int .i64 n, .int .i64 e])
def GetPost (w : World) (o : Option (List UInt8 × Nat)) (e : Ending) (w' : World) : Prop := match o with
  | none => e = ret3 ⟨#[]⟩ 0 5 ∧ Below w.heap.size w w'
  | some (b, k) => e = ret3 ⟨b.toArray⟩ k 0 ∧ Below w.heap.size w w'
def meas (w : World) (br : Nat) : Nat := match w.cell? ⟨br, 0, none⟩ with | some (.string s) => s.size | _ => 0
theorem meas_RD {w : World} {br : Nat} {l g : List UInt8} (h : RD w br l g) : meas w br = l.length := by
  obtain ⟨s, gv, mv, hs, h2, _, _⟩ := h
  obtain ⟨c0, _⟩ := reader_cells h2
  unfold meas
  rw [c0, ← hs]
  exact (Lib.size_eq s).symm
def GetRel (w : World) (q : Int) (z : Nat) (r : Option (List UInt8 × Nat)) (wr : World) : Prop :=
  ∃ (l g : List UInt8) (m : Nat), RD wr w.heap.size l g ∧ Below w.heap.size w wr ∧ l.length + m = z ∧ g.length ≤ m ∧ getF q (l.length + 1) l g m = r
theorem GetRel.step {w wr w1 : World} {q : Int} {z m n : Nat} {r : Option (List UInt8 × Nat)} {l g b : List UInt8} (hb : Below w.heap.size w wr) (hz : l.length + m = z) (hg : g.length ≤ m) (hr : getF q (l.length + 1) l g m = r)
    (hs : stepF q l = .go b n) (h1 : RD w1 w.heap.size (l.drop n) (g ++ b)) (h2 : Below w.heap.size wr w1) : GetRel w q z r w1 := by
  have hl := stepF_len hs
  exact ⟨l.drop n, g ++ b, m + n, h1, hb.trans h2, by rw [List.length_drop]; omega, by rw [List.length_append]; omega, by rw [← getF_go hs]; exact hr⟩
theorem meas_step {w w1 : World} {br n : Nat} {q : Int} {l g g' b : List UInt8} (h : RD w br l g) (h1 : RD w1 br (l.drop n) g') (hs : stepF q l = .go b n) : meas w1 br < meas w br := by
  have hl := stepF_len hs
  rw [meas_RD h, meas_RD h1, List.length_drop]
  omega
end Go.Proofs.YtkplokfcjjcpcaaGreatDoor
end
section
namespace Go.Proofs.YtkplokfcjjcpcaaGreatDoor
open Go Go.RowKit Go.Maps
open Go.WideMaps Go.WideElems
theorem ofNat_back (c : UInt8) : UInt8.ofNat ((c.toNat : Int)).toNat = c := by simp
theorem below_drewN (w : World) (k : Nat) : Below w.heap.size w (w.drewN k) := ⟨rfl, rfl, rfl, Nat.le_refl _, fun _ _ => rfl⟩
theorem step_true {q : Int} {c : UInt8} {t : List UInt8} (h : ((c.toNat : Int) == q) = true) (hd : dblB (c :: t) = true) : stepF q (c :: t) = .go [c] 2 := by
  show stepC q c t = _
  unfold stepC
  rw [if_pos h, if_pos hd]
theorem step_done {q : Int} {c : UInt8} {t : List UInt8} (h : ((c.toNat : Int) == q) = true) (hd : dblB (c :: t) = false) : stepF q (c :: t) = .done := by
  show stepC q c t = _
  unfold stepC
  rw [if_pos h, if_neg (by rw [hd]; simp)]
theorem step_esc {q : Int} {c : UInt8} {t b : List UInt8} {n : Nat} (h : ((c.toNat : Int) == q) = false) (h2 : ((c.toNat : Int) == 92) = true) (ho : escF (c :: t) = some (b, n)) : stepF q (c :: t) = .go b n := by
  show stepC q c t = _
  unfold stepC
  rw [if_neg (by rw [h]; simp), if_pos h2, ho]
theorem step_bad {q : Int} {c : UInt8} {t : List UInt8} (h : ((c.toNat : Int) == q) = false) (h2 : ((c.toNat : Int) == 92) = true) (ho : escF (c :: t) = none) : stepF q (c :: t) = .bad := by
  show stepC q c t = _
  unfold stepC
  rw [if_neg (by rw [h]; simp), if_pos h2, ho]
theorem step_line {q : Int} {c : UInt8} {t : List UInt8} (h : ((c.toNat : Int) == q) = false) (h2 : ((c.toNat : Int) == 92) = false) (h3 : ((c.toNat : Int) == 10) = true) : stepF q (c :: t) = .bad := by
  show stepC q c t = _
  unfold stepC
  rw [if_neg (by rw [h]; simp), if_neg (by rw [h2]; simp), if_pos h3]
theorem step_one {q : Int} {c : UInt8} {t : List UInt8} (h : ((c.toNat : Int) == q) = false) (h2 : ((c.toNat : Int) == 92) = false) (h3 : ((c.toNat : Int) == 10) = false) : stepF q (c :: t) = .go [c] 1 := by
  show stepC q c t = _
  unfold stepC
  rw [if_neg (by rw [h]; simp), if_neg (by rw [h2]; simp), if_neg (by rw [h3]; simp)]
set_option maxHeartbeats 4000000 in
theorem get_is (s : ByteArray) (q : Int) (w : World) (hs : s.size ≤ 18000) (htab : Tab w) :
    Calls Tryz.prog 175 #[.string s, .int .u8 q] w (GetPost w (getL q s.data.toList)) := by
  obtain ⟨r, hr⟩ : ∃ r, getL q s.data.toList = r := ⟨_, rfl⟩
  rw [hr]
  have HT := Lib.hid htab
  have H0 := Lib.hid (show GetRel w q s.size r (w.alloc (.cells #[.string s, .slice none 0 0, .map none] 283)) from
    ⟨s.data.toList, [], 0, ⟨s, .slice none 0 0, .map none, rfl, heap_alloc_new w _, World.ownsRow_nil _ _ _ _, .inl rfl⟩, (Below.refl _ _).alloc (Nat.le_refl _) _, by rw [Lib.size_eq]; rfl, Nat.le_refl _, hr⟩)
  clear hr htab
  go_enter Tryz.func175, Tryz.ntmps175
  go_wp2_with fail
  go_loopw [8] (fun _ wr => Hid (GetRel w q s.size r wr)) (fun _ wr => meas wr w.heap.size)
  case atStart => exact H0
  case round =>
    obtain ⟨l, g, m, h1, h2, hz, hg, hr⟩ := hrel.out
    have HR := Lib.hid h1
    have HB := Lib.hid h2
    have HZ := Lib.hid hz
    have HG := Lib.hid hr
    obtain ⟨S, gv, mv, hS, c, own, _⟩ := h1
    obtain ⟨c0, c1, _, f0, f1, _⟩ := reader_cells c
    have hSz := Lib.size_eq S
    rw [hS] at hSz
    have hsl : S.size ≤ 18000 := by omega
    have hgl : g.length ≤ 18000 := by omega
    have OWN := Lib.hid own
    have HSz := Lib.hid hSz
    have HC := Lib.hid c
    clear hrel h2 hr own c hz hSz
    rcases l with _ | ⟨c, t⟩
    · have he : S.toList.isEmpty = true := by rw [Lib.toList_data, hS]; rfl
      have hp := Lib.hid (HG.out.symm.trans (getF_bad (l := []) rfl))
      clear hS hsl
      go_wp2_with fail
      go_ret3
      cases hp.out
      exact ⟨rfl, HB.out⟩
    have he : S.toList.isEmpty = false := by rw [Lib.toList_data, hS]; rfl
    have hpos : 0 < S.size := by have := HSz.out; simp at this; omega
    have hc := at_0 hS hpos
    have hc0 : (0 : Int) ≤ (c.toNat : Int) := by omega
    have hc1 : (c.toNat : Int) ≤ 255 := by have := c.toNat_lt; omega
    have hlen : (c :: t).length ≤ 18000 := by have := HSz.out; omega
    have hwlt := Lib.hid HB.out.size
    cases hq : ((c.toNat : Int) == q)
    · cases h92 : ((c.toNat : Int) == 92)
      · cases h10 : ((c.toNat : Int) == 10)
        · have tk := take_one wr w.heap.size 1 (c :: t) g HR.out (by simp) (by omega) (by omega) (c.toNat : Int) hc0 hc1
          rw [ofNat_back] at tk
          have TK := Lib.hid tk
          have ST := Lib.hid (step_one (t := t) hq h92 h10)
          clear tk hS
          go_wp2_with fail
          refine TK.out.mono ?_
          rintro e w2 ⟨rfl, r2, b2⟩
          have HR2 := Lib.hid r2
          have HB2 := Lib.hid b2
          clear r2 b2
          go_wp2_with fail
          go_roundw
          case rel => exact GetRel.step HB.out HZ.out hg HG.out ST.out HR2.out HB2.out
          case measure => exact meas_step HR.out HR2.out ST.out
        · have hp := Lib.hid (HG.out.symm.trans (getF_bad (step_line (t := t) hq h92 h10)))
          clear hS
          go_wp2_with fail
          go_ret3
          cases hp.out
          exact ⟨rfl, HB.out⟩
      · have hE : Calls Tryz.prog 216 #[.pointer (some ⟨w.heap.size, 0, none⟩)] wr (EscPost wr w.heap.size (c :: t) g (escF (c :: t))) := by
          rcases t with _ | ⟨e, t⟩
          · exact escape_end wr w.heap.size g (.inr ⟨c, HR.out⟩)
          · exact escape_is wr w.heap.size c e t g HR.out (by simp at hlen; omega) (by omega) (HT.out.on HB.out)
        obtain ⟨o, ho⟩ : ∃ o, escF (c :: t) = o := ⟨_, rfl⟩
        rw [ho] at hE
        have ES := Lib.hid hE
        clear hE
        rcases o with _ | ⟨b, n⟩
        · have hp := Lib.hid (HG.out.symm.trans (getF_bad (step_bad hq h92 ho)))
          clear ho hS
          go_wp2_with fail
          refine ES.out.mono ?_
          rintro e w2 ⟨rfl, b2⟩
          go_wp2_with fail
          go_ret3
          cases hp.out
          exact ⟨rfl, HB.out.trans b2⟩
        · have ST := Lib.hid (step_esc hq h92 ho)
          clear ho hS
          go_wp2_with fail
          refine ES.out.mono ?_
          rintro e w2 ⟨rfl, r2, b2⟩
          have HR2 := Lib.hid r2
          have HB2 := Lib.hid b2
          clear r2 b2
          go_wp2_with fail
          go_roundw
          case rel => exact GetRel.step HB.out HZ.out hg HG.out ST.out HR2.out HB2.out
          case measure => exact meas_step HR.out HR2.out ST.out
    · have DB := Lib.hid (doubled_is wr w.heap.size (c :: t) g HR.out (by omega) (by simp))
      cases hdb : dblB (c :: t)
      · rw [hdb] at DB
        have hp := Lib.hid (HG.out.symm.trans (getF_done (step_done hq hdb)))
        have hm := Lib.hid (show ((s.size : Int) - (S.size : Int)) + 1 = ((m + 1 : Nat) : Int) by have := HZ.out; have := HSz.out; omega)
        clear hdb hS
        go_wp2_with fail
        refine DB.out.mono ?_
        rintro e w1 ⟨rfl, hw1⟩
        have hb1 : Below wr.heap.size wr w1 := by obtain ⟨x, rfl⟩ := hw1; exact below_drewN _ _
        have hc1' := HC.out
        rw [← hb1.block _ (heap_lt hc1')] at hc1'
        obtain ⟨d0, d1, _, g0, g1, _⟩ := reader_cells hc1'
        have hcv : ∀ x, (convert 151 9 gv).run Tryz.prog (w1.drewN x) = .ok (.string ⟨g.toArray⟩) (w1.drewN x) := fun x => conv_own (ownsRow_below (ownsRow_below OWN.out hb1) (below_drewN w1 x))
        have HB1 := Lib.hid hb1
        clear hw1 hb1 hc1' c0 c1 f0 f1
        have w1' : IntKind.i64.wrap ((s.size : Int) - (S.size : Int)) = (s.size : Int) - (S.size : Int) := IntWalk.i64_in _ (by omega)
        have w2' : IntKind.i64.wrap ((s.size : Int) - (S.size : Int) + 1) = (s.size : Int) - (S.size : Int) + 1 := IntWalk.i64_in _ (by omega)
        go_wp2_with fail
        go_quiet (fail)
        clear w1' w2'
        go_wp2_with fail
        go_ret3
        cases hp.out
        exact ⟨by rw [← hm.out]; rfl, (HB.out.trans (HB1.out.mono hwlt.out)).trans ((below_drewN _ _).mono (Nat.le_trans hwlt.out HB1.out.size))⟩
      · rw [hdb] at DB
        have ST := Lib.hid (step_true hq hdb)
        have hn2 : 2 ≤ (c :: t).length := by
          rcases t with _ | ⟨e, t⟩
          · simp [dblB] at hdb
          · simp
        clear hdb hS
        go_wp2_with fail
        refine DB.out.mono ?_
        rintro e w1 ⟨rfl, hw1⟩
        have hb1 : Below wr.heap.size wr w1 := by obtain ⟨x, rfl⟩ := hw1; exact below_drewN _ _
        have hc1' := HC.out
        rw [← hb1.block _ (heap_lt hc1')] at hc1'
        obtain ⟨d0, d1, _, g0, g1, _⟩ := reader_cells hc1'
        have tk := take_one w1 w.heap.size 2 (c :: t) g (HR.out.below hb1) hn2 (by omega) (by omega) (c.toNat : Int) hc0 hc1
        rw [ofNat_back] at tk
        have TK := Lib.hid tk
        have HB1 := Lib.hid (hb1.mono hwlt.out)
        clear hw1 hb1 hc1' c0 c1 f0 f1 tk
        go_wp2_with fail
        refine TK.out.mono ?_
        rintro e w2 ⟨rfl, r2, b2⟩
        have HR2 := Lib.hid r2
        have HB2 := Lib.hid b2
        clear r2 b2
        go_wp2_with fail
        go_roundw
        case rel => exact GetRel.step HB.out HZ.out hg HG.out ST.out HR2.out (HB1.out.trans HB2.out)
        case measure => exact meas_step HR.out HR2.out ST.out
end Go.Proofs.YtkplokfcjjcpcaaGreatDoor
end
section
namespace Go.Proofs.YtkplokfcjjcpcaaGreatDoor
open Go Go.RowKit
end Go.Proofs.YtkplokfcjjcpcaaGreatDoor
end
