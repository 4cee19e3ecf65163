/- name.Get's reader: its method escape. Conditions: as each states. -/
import Derived.Test.YtkbeaddbnnboaaaDoorNameL
namespace Go.Proofs.YtkbeaddbnnboaaaDoor
open Go Go.RowKit Go.Maps
open Go.WideMaps Go.WideElems

def escV (c : Int) : Int := if c = 110 then 10 else if c = 114 then 13 else if c = 116 then 9 else if c = 97 then 7 else if c = 98 then 8 else if c = 102 then 12 else if c = 118 then 11 else if c = 48 then 0 else if c = 92 then 92 else if c = 39 then 39 else if c = 34 then 34 else if c = 96 then 96 else 0
def escO (c : Int) : Bool := c == 110 || c == 114 || c == 116 || c == 97 || c == 98 || c == 102 || c == 118 || c == 48 || c == 92 || c == 39 || c == 34 || c == 96
theorem esc_at : ∀ k : Fin 256, litI (escD.atKey (.int .u8 (k.val : Int)) (.lit (.int .u8 0))) = escV k.val ∧ Maps.has escD (.int .u8 (k.val : Int)) = escO k.val := by decide +kernel
theorem escV_bd (c : Int) : 0 ≤ escV c ∧ escV c ≤ 255 := by
  unfold escV
  (repeat' split) <;> omega
theorem look_esc {w : World} {b : Nat} (h : w.ownsMap Tryd.prog 5 (plainElem (H := Unit) Tryd.prog 5) b 12 escD) (c : Int) (h0 : 0 ≤ c) (h1 : c ≤ 255) :
    (Instr.lookup 54 (.map (some b)) (.int .u8 c) true).run Tryd.prog w = .ok (.tuple #[.int .u8 (escV c), .bool (escO c)]) w := by
  obtain ⟨h2, h3⟩ := esc_at ⟨c.toNat, by omega⟩
  simp only [Int.toNat_of_nonneg h0] at h2 h3
  exact look_u8 h c _ _ h0 h1 (litI_inv h2 (escV_bd c).1) h3

set_option maxRecDepth 100000 in
set_option maxHeartbeats 1600000 in
theorem escapes_is (w : World) :
    Calls Tryd.prog 94 #[] w fun e w' => e = .returned (.map (some w.heap.size)) ∧ w'.ownsMap Tryd.prog 5 (plainElem (H := Unit) Tryd.prog 5) w.heap.size 12 escD ∧ Below w.heap.size w w' := by
  have hmm := run_makeMap (P := Tryd.prog) 54 w
  have h0 := World.ownsMap_made w Tryd.prog 5 (plainElem (H := Unit) Tryd.prog 5)
  have b0 : Below w.heap.size w (w.alloc (.map #[] 0)) := (Below.refl _ _).alloc (Nat.le_refl _) _
  obtain ⟨w0, hw0⟩ : ∃ w0, w0 = w.alloc (.map #[] 0) := ⟨_, rfl⟩
  rw [← hw0] at h0 b0
  simp only [← hw0] at hmm
  clear hw0
  go_enter Tryd.func94, Tryd.ntmps94
  go_wp2_with (first | (refine wpList_insert_u8 w0 rfl _ _ _ rfl _ _ _ rfl h0 (by unfold maxLen; omega) _ _ rfl (by omega) (by omega) rfl (by omega) (by omega) ?_; intro w1 h1 g1; have b1 := b0.grown g1 (by have := b0.size; omega) (fun _ e => by cases e; exact Nat.le_refl _); clear h0 g1 b0) | (refine wpList_insert_u8 w1 rfl _ _ _ rfl _ _ _ rfl h1 (by unfold maxLen; omega) _ _ rfl (by omega) (by omega) rfl (by omega) (by omega) ?_; intro w2 h2 g2; have b2 := b1.grown g2 (by have := b1.size; omega) (fun _ e => by cases e; exact Nat.le_refl _); clear h1 g2 b1) | (refine wpList_insert_u8 w2 rfl _ _ _ rfl _ _ _ rfl h2 (by unfold maxLen; omega) _ _ rfl (by omega) (by omega) rfl (by omega) (by omega) ?_; intro w3 h3 g3; have b3 := b2.grown g3 (by have := b2.size; omega) (fun _ e => by cases e; exact Nat.le_refl _); clear h2 g3 b2) | (refine wpList_insert_u8 w3 rfl _ _ _ rfl _ _ _ rfl h3 (by unfold maxLen; omega) _ _ rfl (by omega) (by omega) rfl (by omega) (by omega) ?_; intro w4 h4 g4; have b4 := b3.grown g4 (by have := b3.size; omega) (fun _ e => by cases e; exact Nat.le_refl _); clear h3 g4 b3) | (refine wpList_insert_u8 w4 rfl _ _ _ rfl _ _ _ rfl h4 (by unfold maxLen; omega) _ _ rfl (by omega) (by omega) rfl (by omega) (by omega) ?_; intro w5 h5 g5; have b5 := b4.grown g5 (by have := b4.size; omega) (fun _ e => by cases e; exact Nat.le_refl _); clear h4 g5 b4) | (refine wpList_insert_u8 w5 rfl _ _ _ rfl _ _ _ rfl h5 (by unfold maxLen; omega) _ _ rfl (by omega) (by omega) rfl (by omega) (by omega) ?_; intro w6 h6 g6; have b6 := b5.grown g6 (by have := b5.size; omega) (fun _ e => by cases e; exact Nat.le_refl _); clear h5 g6 b5) | (refine wpList_insert_u8 w6 rfl _ _ _ rfl _ _ _ rfl h6 (by unfold maxLen; omega) _ _ rfl (by omega) (by omega) rfl (by omega) (by omega) ?_; intro w7 h7 g7; have b7 := b6.grown g7 (by have := b6.size; omega) (fun _ e => by cases e; exact Nat.le_refl _); clear h6 g7 b6) | (refine wpList_insert_u8 w7 rfl _ _ _ rfl _ _ _ rfl h7 (by unfold maxLen; omega) _ _ rfl (by omega) (by omega) rfl (by omega) (by omega) ?_; intro w8 h8 g8; have b8 := b7.grown g8 (by have := b7.size; omega) (fun _ e => by cases e; exact Nat.le_refl _); clear h7 g8 b7) | (refine wpList_insert_u8 w8 rfl _ _ _ rfl _ _ _ rfl h8 (by unfold maxLen; omega) _ _ rfl (by omega) (by omega) rfl (by omega) (by omega) ?_; intro w9 h9 g9; have b9 := b8.grown g9 (by have := b8.size; omega) (fun _ e => by cases e; exact Nat.le_refl _); clear h8 g9 b8) | (refine wpList_insert_u8 w9 rfl _ _ _ rfl _ _ _ rfl h9 (by unfold maxLen; omega) _ _ rfl (by omega) (by omega) rfl (by omega) (by omega) ?_; intro w10 h10 g10; have b10 := b9.grown g10 (by have := b9.size; omega) (fun _ e => by cases e; exact Nat.le_refl _); clear h9 g10 b9) | (refine wpList_insert_u8 w10 rfl _ _ _ rfl _ _ _ rfl h10 (by unfold maxLen; omega) _ _ rfl (by omega) (by omega) rfl (by omega) (by omega) ?_; intro w11 h11 g11; have b11 := b10.grown g11 (by have := b10.size; omega) (fun _ e => by cases e; exact Nat.le_refl _); clear h10 g11 b10) | (refine wpList_insert_u8 w11 rfl _ _ _ rfl _ _ _ rfl h11 (by unfold maxLen; omega) _ _ rfl (by omega) (by omega) rfl (by omega) (by omega) ?_; intro w12 h12 g12; have b12 := b11.grown g12 (by have := b11.size; omega) (fun _ e => by cases e; exact Nat.le_refl _); clear h11 g12 b11))
  go_ret
  exact ⟨rfl, h12, b12⟩

/-- an escape: what is got of it, and how many bytes it takes -/
def escT (e : UInt8) (t : List UInt8) : Option (List UInt8 × Nat) :=
    if ((e.toNat : Int) == 10) = true then some ([], 2)
    else if ((e.toNat : Int) == 120) = true then (match numAt 16 t with | some (b, k) => some ([b], 2 + k) | none => none)
    else if (octZ (e.toNat : Int) && !zeroB e t) = true then (match numAt 8 (e :: t) with | some (b, k) => some ([b], 1 + k) | none => none)
    else if escO (e.toNat : Int) = true then some ([UInt8.ofNat (escV (e.toNat : Int)).toNat], 2) else none
def escF : List UInt8 → Option (List UInt8 × Nat)
  | _ :: e :: t => escT e t
  | _ => none
/-- what escape comes to -/
def EscPost (w : World) (br : Nat) (l g : List UInt8) (o : Option (List UInt8 × Nat)) (e : Ending) (w' : World) : Prop := match o with
  | none => e = .returned (.bool false) ∧ Below br w w'
  | some (b, k) => e = .returned (.bool true) ∧ RD w' br (l.drop k) (g ++ b) ∧ Below br w w'

theorem RD_map {w w1 : World} {br bm : Nat} {s : ByteArray} {gv : Value} {g : List UInt8} (h : w.heap[br]? = some (.cells #[.string s, gv, .map none] 98 (0, 0)))
    (h3 : w.ownsRow (br + 1) 5 1 gv g.length (bc g)) (hb : Below w.heap.size w w1) (hbm : br < bm) (hm : w1.ownsMap Tryd.prog 5 (plainElem (H := Unit) Tryd.prog 5) bm 12 escD) :
    (w1.setCell ⟨br, 2, none⟩ (.map (some bm))).heap[br]? = some (.cells #[.string s, gv, .map (some bm)] 98 (0, 0)) ∧ (w1.setCell ⟨br, 2, none⟩ (.map (some bm))).ownsRow (br + 1) 5 1 gv g.length (bc g) ∧
    (w1.setCell ⟨br, 2, none⟩ (.map (some bm))).ownsMap Tryd.prog 5 (plainElem (H := Unit) Tryd.prog 5) bm 12 escD ∧ Below br w (w1.setCell ⟨br, 2, none⟩ (.map (some bm))) := by
  refine ⟨?_, ownsRow_setCell_below (ownsRow_below h3 hb) (by simp) _, hm.setCell (by simp; omega) _, (hb.mono (by have := heap_lt h; omega)).setCell (by simp) _⟩
  rw [heap_setCell_same w1 br 2 _ _ _ (by rw [hb.block br (heap_lt h)]; exact h)]
  rfl

set_option maxHeartbeats 800000 in
theorem escape_end (w : World) (br : Nat) (g : List UInt8) (h : RD w br [] g ∨ ∃ a, RD w br [a] g) :
    Calls Tryd.prog 84 #[.pointer (some ⟨br, 0, none⟩)] w fun e w' => e = .returned (.bool false) ∧ Below br w w' := by
  have hr : ∃ l, RD w br l g ∧ l.length < 2 := by
    rcases h with h | ⟨a, h⟩
    · exact ⟨_, h, by simp⟩
    · exact ⟨_, h, by simp⟩
  clear h
  obtain ⟨l, ⟨s, gv, mv, hs, h2, _, _⟩, hl⟩ := hr
  obtain ⟨c0, _, _, f0, _, _⟩ := reader_cells h2
  have hsz : s.size < 2 := by have := Lib.size_eq s; rw [hs] at this; omega
  clear hs h2 hl
  go_enter Tryd.func84, Tryd.ntmps84
  go_wp2_with fail
  go_ret
  exact ⟨rfl, Below.refl _ _⟩

set_option maxHeartbeats 4000000 in
theorem escape_map (w : World) (br : Nat) (a e : UInt8) (t g : List UInt8) (HR : Hid (RD w br (a :: e :: t) g)) (hl : t.length ≤ 19000) (hg : g.length ≤ 100000) (s : ByteArray) (gv mv : Value)
    (c0 : w.cell? ⟨br, 0, none⟩ = some (.string s)) (_c1 : w.cell? ⟨br, 1, none⟩ = some gv) (c2 : w.cell? ⟨br, 2, none⟩ = some mv) (_f0 : w.frozen? ⟨br, 0, none⟩ = false) (_f1 : w.frozen? ⟨br, 1, none⟩ = false) (_f2 : w.frozen? ⟨br, 2, none⟩ = false)
    (hs1 : 1 < s.size) (hsz : s.size ≤ 20000) (hlt : br < w.heap.size) (e1 : s[1] = e) (hd : decide ((s.size : Int) < 2) = false) (H2 : Hid (w.heap[br]? = some (.cells #[.string s, gv, mv] 98 (0, 0)))) (H3 : Hid (w.ownsRow (br + 1) 5 1 gv g.length (bc g)))
    (H4 : Hid (mv = .map none ∨ ∃ bm, mv = .map (some bm) ∧ br < bm ∧ w.ownsMap Tryd.prog 5 (plainElem (H := Unit) Tryd.prog 5) bm 12 escD)) (hs' : Hid (s.data.toList = a :: e :: t)) (q0 : (0 : Int) ≤ (e.toNat : Int)) (q1 : (e.toNat : Int) ≤ 255)
    (e10 : ((e.toNat : Int) == 10) = false) (e120 : ((e.toNat : Int) == 120) = false) (OC : Hid (∀ w, Calls Tryd.prog 92 #[.int .u8 (e.toNat : Int)] w fun e1 w' => e1 = .returned (.bool (octZ (e.toNat : Int))) ∧ w' = w))
    (ZE : Hid (Calls Tryd.prog 93 #[.pointer (some ⟨br, 0, none⟩)] w fun e1 w' => e1 = .returned (.bool (zeroB e t)) ∧ w' = w)) (eo : (octZ (e.toNat : Int) && !zeroB e t) = false) :
    Calls Tryd.prog 84 #[.pointer (some ⟨br, 0, none⟩)] w (EscPost w br (a :: e :: t) g (if escO (e.toNat : Int) = true then some ([UInt8.ofNat (escV (e.toNat : Int)).toNat], 2) else none)) := by
  have hv := escV_bd (e.toNat : Int)
  obtain ⟨hv0, hv1⟩ := hv
  have eo' : octZ (e.toNat : Int) = false ∨ octZ (e.toNat : Int) = true ∧ zeroB e t = true := by
    cases h1 : octZ (e.toNat : Int)
    · exact .inl rfl
    · cases h2 : zeroB e t
      · rw [h1, h2] at eo; cases eo
      · exact .inr ⟨rfl, rfl⟩
  clear eo
  have hm4 := H4.out
  rcases hm4 with rfl | ⟨bm, rfl, hbm, hmap⟩
  · have hnil := run_eql_map_nil (P := Tryd.prog) w 54 5 5 none Tryd.underlying54
    cases hO : escO (e.toNat : Int)
    · rw [if_neg (by simp)]
      rcases eo' with eo1 | ⟨eo1, eo2⟩
      · rw [eo1] at OC
        clear eo1 ZE
        go_enter Tryd.func84, Tryd.ntmps84
        go_wp2_with ((go_at_call 92; refine (OC.out _).mono ?_; rintro e w' ⟨rfl, hw⟩; obtain rfl := hw.symm))
        refine (escapes_is _).mono ?_
        rintro e w1 ⟨rfl, hm1, b1⟩
        have hk := H2.out
        rw [← b1.block br hlt] at hk
        obtain ⟨d0, d1, d2, g0, g1, g2⟩ := reader_cells hk
        obtain ⟨r1, r2, r3, r4⟩ := RD_map H2.out H3.out b1 hlt hm1
        have hlook := look_esc r3 (e.toNat : Int) q0 q1
        rw [hO] at hlook
        have HB := Lib.hid r4
        clear r1 r2 r3 r4 hk hm1
        go_wp2_with fail
        go_ret
        exact ⟨rfl, HB.out⟩
      · rw [eo1] at OC
        rw [eo2] at ZE
        clear eo1 eo2
        go_enter Tryd.func84, Tryd.ntmps84
        go_wp2_with (first | (go_at_call 92; refine (OC.out _).mono ?_; rintro e w' ⟨rfl, hw⟩; obtain rfl := hw.symm) | (go_at_call 93; refine ZE.out.mono ?_; rintro e w' ⟨rfl, hw⟩; obtain rfl := hw.symm))
        refine (escapes_is _).mono ?_
        rintro e w1 ⟨rfl, hm1, b1⟩
        have hk := H2.out
        rw [← b1.block br hlt] at hk
        obtain ⟨d0, d1, d2, g0, g1, g2⟩ := reader_cells hk
        obtain ⟨r1, r2, r3, r4⟩ := RD_map H2.out H3.out b1 hlt hm1
        have hlook := look_esc r3 (e.toNat : Int) q0 q1
        rw [hO] at hlook
        have HB := Lib.hid r4
        clear r1 r2 r3 r4 hk hm1
        go_wp2_with fail
        go_ret
        exact ⟨rfl, HB.out⟩
    · rw [if_pos rfl]
      rcases eo' with eo1 | ⟨eo1, eo2⟩
      · rw [eo1] at OC
        clear eo1 ZE
        go_enter Tryd.func84, Tryd.ntmps84
        go_wp2_with ((go_at_call 92; refine (OC.out _).mono ?_; rintro e w' ⟨rfl, hw⟩; obtain rfl := hw.symm))
        refine (escapes_is _).mono ?_
        rintro e w1 ⟨rfl, hm1, b1⟩
        have hk := H2.out
        rw [← b1.block br hlt] at hk
        obtain ⟨d0, d1, d2, g0, g1, g2⟩ := reader_cells hk
        obtain ⟨r1, r2, r3, r4⟩ := RD_map H2.out H3.out b1 hlt hm1
        have hlook := look_esc r3 (e.toNat : Int) q0 q1
        rw [hO] at hlook
        have TK := (take_one (w1.setCell ⟨br, 2, none⟩ (.map (some w.heap.size))) br 2 (a :: e :: t) g ⟨s, gv, _, hs'.out, r1, r2, .inr ⟨_, rfl, hlt, r3⟩⟩ (by simp) (by simp; omega) hg _ hv0 hv1)
        rw [show (w1.setCell ⟨br, 2, none⟩ (.map (some w.heap.size))).heap.size = w1.heap.size by simp] at TK
        have TK := Lib.hid TK
        have HB := Lib.hid r4
        clear r1 r2 r3 r4 hk hm1
        go_wp2_with fail
        refine TK.out.mono ?_
        rintro e w2 ⟨rfl, r2, b2⟩
        have HR2 := Lib.hid r2
        clear r2
        go_wp2_with fail
        go_ret
        exact ⟨rfl, HR2.out, HB.out.trans b2⟩
      · rw [eo1] at OC
        rw [eo2] at ZE
        clear eo1 eo2
        go_enter Tryd.func84, Tryd.ntmps84
        go_wp2_with (first | (go_at_call 92; refine (OC.out _).mono ?_; rintro e w' ⟨rfl, hw⟩; obtain rfl := hw.symm) | (go_at_call 93; refine ZE.out.mono ?_; rintro e w' ⟨rfl, hw⟩; obtain rfl := hw.symm))
        refine (escapes_is _).mono ?_
        rintro e w1 ⟨rfl, hm1, b1⟩
        have hk := H2.out
        rw [← b1.block br hlt] at hk
        obtain ⟨d0, d1, d2, g0, g1, g2⟩ := reader_cells hk
        obtain ⟨r1, r2, r3, r4⟩ := RD_map H2.out H3.out b1 hlt hm1
        have hlook := look_esc r3 (e.toNat : Int) q0 q1
        rw [hO] at hlook
        have TK := (take_one (w1.setCell ⟨br, 2, none⟩ (.map (some w.heap.size))) br 2 (a :: e :: t) g ⟨s, gv, _, hs'.out, r1, r2, .inr ⟨_, rfl, hlt, r3⟩⟩ (by simp) (by simp; omega) hg _ hv0 hv1)
        rw [show (w1.setCell ⟨br, 2, none⟩ (.map (some w.heap.size))).heap.size = w1.heap.size by simp] at TK
        have TK := Lib.hid TK
        have HB := Lib.hid r4
        clear r1 r2 r3 r4 hk hm1
        go_wp2_with fail
        refine TK.out.mono ?_
        rintro e w2 ⟨rfl, r2, b2⟩
        have HR2 := Lib.hid r2
        clear r2
        go_wp2_with fail
        go_ret
        exact ⟨rfl, HR2.out, HB.out.trans b2⟩
  · have hnil := run_eql_map_nil (P := Tryd.prog) w 54 5 5 (some bm) Tryd.underlying54
    cases hO : escO (e.toNat : Int)
    · rw [if_neg (by simp)]
      rcases eo' with eo1 | ⟨eo1, eo2⟩
      · rw [eo1] at OC
        clear eo1 ZE
        have hlook := look_esc hmap (e.toNat : Int) q0 q1
        rw [hO] at hlook
        clear hmap
        go_enter Tryd.func84, Tryd.ntmps84
        go_wp2_with ((go_at_call 92; refine (OC.out _).mono ?_; rintro e w' ⟨rfl, hw⟩; obtain rfl := hw.symm))
        go_ret
        exact ⟨rfl, Below.refl _ _⟩
      · rw [eo1] at OC
        rw [eo2] at ZE
        clear eo1 eo2
        have hlook := look_esc hmap (e.toNat : Int) q0 q1
        rw [hO] at hlook
        clear hmap
        go_enter Tryd.func84, Tryd.ntmps84
        go_wp2_with (first | (go_at_call 92; refine (OC.out _).mono ?_; rintro e w' ⟨rfl, hw⟩; obtain rfl := hw.symm) | (go_at_call 93; refine ZE.out.mono ?_; rintro e w' ⟨rfl, hw⟩; obtain rfl := hw.symm))
        go_ret
        exact ⟨rfl, Below.refl _ _⟩
    · rw [if_pos rfl]
      rcases eo' with eo1 | ⟨eo1, eo2⟩
      · rw [eo1] at OC
        clear eo1 ZE
        have TK := Lib.hid (take_one w br 2 (a :: e :: t) g HR.out (by simp) (by simp; omega) hg _ hv0 hv1)
        have hlook := look_esc hmap (e.toNat : Int) q0 q1
        rw [hO] at hlook
        clear hmap
        go_enter Tryd.func84, Tryd.ntmps84
        go_wp2_with ((go_at_call 92; refine (OC.out _).mono ?_; rintro e w' ⟨rfl, hw⟩; obtain rfl := hw.symm))
        refine TK.out.mono ?_
        rintro e w2 ⟨rfl, r2, b2⟩
        have HR2 := Lib.hid r2
        clear r2
        go_wp2_with fail
        go_ret
        exact ⟨rfl, HR2.out, b2⟩
      · rw [eo1] at OC
        rw [eo2] at ZE
        clear eo1 eo2
        have TK := Lib.hid (take_one w br 2 (a :: e :: t) g HR.out (by simp) (by simp; omega) hg _ hv0 hv1)
        have hlook := look_esc hmap (e.toNat : Int) q0 q1
        rw [hO] at hlook
        clear hmap
        go_enter Tryd.func84, Tryd.ntmps84
        go_wp2_with (first | (go_at_call 92; refine (OC.out _).mono ?_; rintro e w' ⟨rfl, hw⟩; obtain rfl := hw.symm) | (go_at_call 93; refine ZE.out.mono ?_; rintro e w' ⟨rfl, hw⟩; obtain rfl := hw.symm))
        refine TK.out.mono ?_
        rintro e w2 ⟨rfl, r2, b2⟩
        have HR2 := Lib.hid r2
        clear r2
        go_wp2_with fail
        go_ret
        exact ⟨rfl, HR2.out, b2⟩


set_option maxHeartbeats 1600000 in
theorem escape_is (w : World) (br : Nat) (a e : UInt8) (t g : List UInt8) (h : RD w br (a :: e :: t) g) (hl : t.length ≤ 19000) (hg : g.length ≤ 100000) (htab : Tab w) :
    Calls Tryd.prog 84 #[.pointer (some ⟨br, 0, none⟩)] w (EscPost w br (a :: e :: t) g (escF (a :: e :: t))) := by
  have HR := Lib.hid h
  have HT := Lib.hid htab
  obtain ⟨s, gv, mv, hs, h2, h3, h4⟩ := h
  obtain ⟨c0, c1, c2, f0, f1, f2⟩ := reader_cells h2
  have hsz0 : s.size = (a :: e :: t).length := by rw [← hs, Lib.size_eq]
  have hs1 : 1 < s.size := by simp at hsz0; omega
  have hsz : s.size ≤ 20000 := by simp at hsz0; omega
  have hlt := heap_lt h2
  have e1 := at_1 hs hs1
  have hd : decide ((s.size : Int) < 2) = false := by simp; omega
  have H2 := Lib.hid h2
  have H3 := Lib.hid h3
  have H4 := Lib.hid h4
  have hs' := Lib.hid hs
  clear hs hsz0 h2 h3 h4 htab
  have q0 : (0 : Int) ≤ (e.toNat : Int) := by omega
  have q1 : (e.toNat : Int) ≤ 255 := by have := e.toNat_lt; omega
  rw [show escF (a :: e :: t) = escT e t from rfl]
  unfold escT
  cases e10 : ((e.toNat : Int) == 10)
  case true =>
    rw [if_pos rfl]
    have TK := Lib.hid (take_none w br 2 (a :: e :: t) g HR.out (by simp) (by simp; omega))
    go_enter Tryd.func84, Tryd.ntmps84
    go_wp2_with fail
    refine TK.out.mono ?_
    rintro e w2 ⟨rfl, r2, b2⟩
    have HR2 := Lib.hid r2
    clear r2
    go_wp2_with fail
    go_ret
    exact ⟨rfl, by rw [List.append_nil]; exact HR2.out, b2⟩
  rw [if_neg (by simp)]
  cases e120 : ((e.toNat : Int) == 120)
  case true =>
    rw [if_pos rfl]
    have NU := Lib.hid (number_is w br 2 16 (by omega) (a :: e :: t) g HR.out (by simp) (by simp; omega) hg HT.out (Lib.hid fun t w h1 h2 => parse_16 t h1 w h2))
    rw [show (a :: e :: t).drop 2 = t from rfl] at NU
    obtain ⟨o, ho⟩ : ∃ o, numAt 16 t = o := ⟨_, rfl⟩
    rw [ho] at NU ⊢
    clear ho
    rcases o with _ | ⟨b, k⟩
    · go_enter Tryd.func84, Tryd.ntmps84
      go_wp2_with fail
      refine NU.out.mono ?_
      rintro e w2 ⟨rfl, b2⟩
      go_wp2_with fail
      go_ret
      exact ⟨rfl, b2⟩
    · go_enter Tryd.func84, Tryd.ntmps84
      go_wp2_with fail
      refine NU.out.mono ?_
      rintro e w2 ⟨rfl, r2, b2⟩
      have HR2 := Lib.hid r2
      clear r2
      go_wp2_with fail
      go_ret
      exact ⟨rfl, HR2.out, b2⟩
  rw [if_neg (by simp)]
  have OC := Lib.hid (fun w => octal_is (e.toNat : Int) w)
  have ZE := Lib.hid (zero_is w br a e t g HR.out (by omega))
  cases eo : (octZ (e.toNat : Int) && !zeroB e t)
  case true =>
    rw [if_pos rfl]
    obtain ⟨eo1, eo2⟩ : octZ (e.toNat : Int) = true ∧ zeroB e t = false := by simpa using eo
    rw [eo1] at OC
    rw [eo2] at ZE
    clear eo eo1 eo2
    have NU := Lib.hid (number_is w br 1 8 (by omega) (a :: e :: t) g HR.out (by simp) (by simp; omega) hg HT.out (Lib.hid fun t w h1 h2 => parse_8 t h1 w h2))
    rw [show (a :: e :: t).drop 1 = e :: t from rfl] at NU
    obtain ⟨o, ho⟩ : ∃ o, numAt 8 (e :: t) = o := ⟨_, rfl⟩
    rw [ho] at NU ⊢
    clear ho
    rcases o with _ | ⟨b, k⟩
    · go_enter Tryd.func84, Tryd.ntmps84
      go_wp2_with (first | (go_at_call 92; refine (OC.out _).mono ?_; rintro e w' ⟨rfl, rfl⟩) | (go_at_call 93; refine ZE.out.mono ?_; rintro e w' ⟨rfl, rfl⟩))
      refine NU.out.mono ?_
      rintro e w2 ⟨rfl, b2⟩
      go_wp2_with fail
      go_ret
      exact ⟨rfl, b2⟩
    · go_enter Tryd.func84, Tryd.ntmps84
      go_wp2_with (first | (go_at_call 92; refine (OC.out _).mono ?_; rintro e w' ⟨rfl, rfl⟩) | (go_at_call 93; refine ZE.out.mono ?_; rintro e w' ⟨rfl, rfl⟩))
      refine NU.out.mono ?_
      rintro e w2 ⟨rfl, r2, b2⟩
      have HR2 := Lib.hid r2
      clear r2
      go_wp2_with fail
      go_ret
      exact ⟨rfl, HR2.out, b2⟩
  rw [if_neg (by simp)]
  exact escape_map w br a e t g HR hl hg s gv mv c0 c1 c2 f0 f1 f2 hs1 hsz hlt e1 hd H2 H3 H4 hs' q0 q1 e10 e120 OC ZE eo

end Go.Proofs.YtkbeaddbnnboaaaDoor
