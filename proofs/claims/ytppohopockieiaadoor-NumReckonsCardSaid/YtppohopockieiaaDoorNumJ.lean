/- num.One by its table, and num.Two and num.One at each operator. Conditions: the arguments fit int64. -/
import Derived.Test.YtppohopockieiaaDoorNumE
import Derived.Test.YtppohopockieiaaDoorNumI
namespace Go.Proofs.YtppohopockieiaaDoor
open Go Go.RowKit Go.Maps Go.Shelf
open Go.WideMaps Go.WideElems

/-- the table of operators of one number -/
def oneD : DataW Unit :=
  DataW.put (DataW.put (DataW.put (DataW.put (DataW.put (.map []) (.string [45]) (.lit (.int .i64 (47 : Nat)))) (.string [43]) (.lit (.int .i64 (48 : Nat)))) (.string [97, 98, 115]) (.lit (.int .i64 (49 : Nat)))) (.string [115, 105, 103, 110]) (.lit (.int .i64 (50 : Nat)))) (.string [92]) (.lit (.int .i64 (51 : Nat)))

set_option maxHeartbeats 2000000 in
theorem ofOne_is (w : World) :
    Calls Tryd.prog 27 #[] w fun e w' => e = .returned (.map (some w.heap.size)) ∧ w'.ownsMap Tryd.prog 9 fnR w.heap.size 5 oneD ∧ Below w.heap.size w w' := by
  have hmm := run_makeMap (P := Tryd.prog) 45 w
  have h0 := World.ownsMap_made w Tryd.prog 9 fnR
  have b0 : Below w.heap.size w (w.alloc (.map #[] 0)) := (Below.refl _ _).alloc (Nat.le_refl _) _
  obtain ⟨w0, hw0⟩ : ∃ w0, w0 = w.alloc (.map #[] 0) := ⟨_, rfl⟩
  rw [← hw0] at h0 b0
  simp only [← hw0] at hmm
  clear hw0
  go_enter Tryd.func27, Tryd.ntmps27
  go_wp2_with (first | (refine wpList_insert_fn w0 rfl _ _ _ 45 rfl 9 43 strKey Tryd.underlying45 _ _ _ rfl h0 (by unfold maxLen; omega) _ _ rfl (keyOf_str (by decide)) _ rfl ?_; intro w1 h1 g1; have b1 := b0.grown g1 (by have := b0.size; omega) (fun _ e => by cases e; exact Nat.le_refl _); clear h0 g1 b0) | (refine wpList_insert_fn w1 rfl _ _ _ 45 rfl 9 43 strKey Tryd.underlying45 _ _ _ rfl h1 (by unfold maxLen; omega) _ _ rfl (keyOf_str (by decide)) _ rfl ?_; intro w2 h2 g2; have b2 := b1.grown g2 (by have := b1.size; omega) (fun _ e => by cases e; exact Nat.le_refl _); clear h1 g2 b1) | (refine wpList_insert_fn w2 rfl _ _ _ 45 rfl 9 43 strKey Tryd.underlying45 _ _ _ rfl h2 (by unfold maxLen; omega) _ _ rfl (keyOf_str (by decide)) _ rfl ?_; intro w3 h3 g3; have b3 := b2.grown g3 (by have := b2.size; omega) (fun _ e => by cases e; exact Nat.le_refl _); clear h2 g3 b2) | (refine wpList_insert_fn w3 rfl _ _ _ 45 rfl 9 43 strKey Tryd.underlying45 _ _ _ rfl h3 (by unfold maxLen; omega) _ _ rfl (keyOf_str (by decide)) _ rfl ?_; intro w4 h4 g4; have b4 := b3.grown g4 (by have := b3.size; omega) (fun _ e => by cases e; exact Nat.le_refl _); clear h3 g4 b3) | (refine wpList_insert_fn w4 rfl _ _ _ 45 rfl 9 43 strKey Tryd.underlying45 _ _ _ rfl h4 (by unfold maxLen; omega) _ _ rfl (keyOf_str (by decide)) _ rfl ?_; intro w5 h5 g5; have b5 := b4.grown g5 (by have := b4.size; omega) (fun _ e => by cases e; exact Nat.le_refl _); clear h4 g5 b4))
  go_ret
  exact ⟨rfl, h5, b5⟩

set_option maxHeartbeats 400000 in
theorem one_by (s : ByteArray) (hs : s.size ≤ maxLen) (f : Nat) (he : ∀ args w, (callFunc f args).run Tryd.prog w = .ok (.enter f args) w) (hat : oneD.atKey (.string s.data.toList) .nil = .lit (.int .i64 f)) (a n q : Int)
    (c : ∀ w, Calls Tryd.prog f #[.int .i64 a] w fun e w' => e = ret n q ∧ Below w.heap.size w w') (w : World) :
    Calls Tryd.prog 13 #[.string s, .int .i64 a] w fun e w' => e = ret n q ∧ Below w.heap.size w w' := by
  have C := Lib.hid c
  have hat' := Lib.hid hat
  clear c hat
  have zero : ∀ w, (zeroValue 43).run Tryd.prog w = .ok .nilFunc w := fun w => by kernel_rfl
  go_enter Tryd.func13, Tryd.ntmps13
  go_wp2_with (first | (go_at_call 27; refine (ofOne_is _).mono ?_; rintro e w1 ⟨rfl, hown, hbl⟩; have hrun := own_fn_there hown strKey Tryd.underlying45 (zero w1) (keyOf_str hs) hat'.out; clear hown) | (go_at_fn f; refine (C.out _).mono ?_; rintro e w2 ⟨rfl, hbm⟩))
  go_ret2
  exact ⟨rfl, hbl.trans (hbm.mono hbl.size)⟩

set_option maxHeartbeats 400000 in
theorem one_not (s : ByteArray) (hs : s.size ≤ maxLen) (hat : oneD.atKey (.string s.data.toList) .nil = .nil) (a : Int) (w : World) :
    Calls Tryd.prog 13 #[.string s, .int .i64 a] w fun e w' => e = ret 0 8 ∧ Below w.heap.size w w' := by
  have hat' := Lib.hid hat
  clear hat
  have zero : ∀ w, (zeroValue 43).run Tryd.prog w = .ok .nilFunc w := fun w => by kernel_rfl
  go_enter Tryd.func13, Tryd.ntmps13
  go_wp2_with (go_at_call 27; refine (ofOne_is _).mono ?_; rintro e w1 ⟨rfl, hown, hbl⟩; have hrun := own_fn_not hown strKey Tryd.underlying45 (zero w1) (keyOf_str hs) hat'.out; clear hown)
  go_ret2
  exact ⟨rfl, hbl⟩

set_option maxHeartbeats 400000 in
theorem two_not (s : ByteArray) (hs : s.size ≤ maxLen) (hat : twoD.atKey (.string s.data.toList) .nil = .nil) (a b : Int) (w : World) :
    Calls Tryd.prog 11 #[.string s, .int .i64 a, .int .i64 b] w fun e w' => e = ret 0 8 ∧ Below w.heap.size w w' := by
  have hat' := Lib.hid hat
  clear hat
  have zero : ∀ w, (zeroValue 33).run Tryd.prog w = .ok .nilFunc w := fun w => by kernel_rfl
  go_enter Tryd.func11, Tryd.ntmps11
  go_wp2_with (go_at_call 19; refine (ofTwo_is _).mono ?_; rintro e w1 ⟨rfl, hown, hbl⟩; have hrun := own_fn_not hown strKey Tryd.underlying35 (zero w1) (keyOf_str hs) hat'.out; clear hown)
  go_ret2
  exact ⟨rfl, hbl⟩

theorem at_product : twoD.atKey (.string [42]) .nil = .lit (.int .i64 (33 : Nat)) := by kernel_rfl
theorem two_product (a b n q : Int) (ha : inR a) (hb : inR b) (h : clip (a * b) = (n, q)) (w : World) :
    Calls Tryd.prog 11 #[.string { data := #[42] }, .int .i64 a, .int .i64 b] w fun e w' => e = ret n q ∧ Below w.heap.size w w' :=
  two_by _ (by decide) _ (enters_of Tryd.func33 (by kernel_rfl) rfl) at_product a b n q (fun w => by have := product_is a b w ha hb; rw [h] at this; exact this) w
theorem at_least : twoD.atKey (.string [109, 105, 110]) .nil = .lit (.int .i64 (38 : Nat)) := by kernel_rfl
theorem two_least (a b n q : Int) (_ha : inR a) (_hb : inR b) (h : (minZ a b, 0) = (n, q)) (w : World) :
    Calls Tryd.prog 11 #[.string { data := #[109, 105, 110] }, .int .i64 a, .int .i64 b] w fun e w' => e = ret n q ∧ Below w.heap.size w w' :=
  two_by _ (by decide) _ (enters_of Tryd.func38 (by kernel_rfl) rfl) at_least a b n q (fun w => by have := least_is a b w; cases h; exact this) w
theorem at_greatest : twoD.atKey (.string [109, 97, 120]) .nil = .lit (.int .i64 (39 : Nat)) := by kernel_rfl
theorem two_greatest (a b n q : Int) (_ha : inR a) (_hb : inR b) (h : (maxZ a b, 0) = (n, q)) (w : World) :
    Calls Tryd.prog 11 #[.string { data := #[109, 97, 120] }, .int .i64 a, .int .i64 b] w fun e w' => e = ret n q ∧ Below w.heap.size w w' :=
  two_by _ (by decide) _ (enters_of Tryd.func39 (by kernel_rfl) rfl) at_greatest a b n q (fun w => by have := greatest_is a b w; cases h; exact this) w
theorem at_and : twoD.atKey (.string [47, 92]) .nil = .lit (.int .i64 (40 : Nat)) := by kernel_rfl
theorem two_and (a b n q : Int) (_ha : inR a) (_hb : inR b) (h : (andZ a b, 0) = (n, q)) (w : World) :
    Calls Tryd.prog 11 #[.string { data := #[47, 92] }, .int .i64 a, .int .i64 b] w fun e w' => e = ret n q ∧ Below w.heap.size w w' :=
  two_by _ (by decide) _ (enters_of Tryd.func40 (by kernel_rfl) rfl) at_and a b n q (fun w => by have := and_is a b w; cases h; exact this) w
theorem at_or : twoD.atKey (.string [92, 47]) .nil = .lit (.int .i64 (41 : Nat)) := by kernel_rfl
theorem two_or (a b n q : Int) (_ha : inR a) (_hb : inR b) (h : (orZ a b, 0) = (n, q)) (w : World) :
    Calls Tryd.prog 11 #[.string { data := #[92, 47] }, .int .i64 a, .int .i64 b] w fun e w' => e = ret n q ∧ Below w.heap.size w w' :=
  two_by _ (by decide) _ (enters_of Tryd.func41 (by kernel_rfl) rfl) at_or a b n q (fun w => by have := or_is a b w; cases h; exact this) w
theorem at_xor : twoD.atKey (.string [120, 111, 114]) .nil = .lit (.int .i64 (42 : Nat)) := by kernel_rfl
theorem two_xor (a b n q : Int) (_ha : inR a) (_hb : inR b) (h : (xorZ a b, 0) = (n, q)) (w : World) :
    Calls Tryd.prog 11 #[.string { data := #[120, 111, 114] }, .int .i64 a, .int .i64 b] w fun e w' => e = ret n q ∧ Below w.heap.size w w' :=
  two_by _ (by decide) _ (enters_of Tryd.func42 (by kernel_rfl) rfl) at_xor a b n q (fun w => by have := xor_is a b w; cases h; exact this) w
theorem at_left : twoD.atKey (.string [60, 60]) .nil = .lit (.int .i64 (43 : Nat)) := by kernel_rfl
theorem two_left (a b n q : Int) (ha : inR a) (hb : inR b) (h : leftR a b = (n, q)) (w : World) :
    Calls Tryd.prog 11 #[.string { data := #[60, 60] }, .int .i64 a, .int .i64 b] w fun e w' => e = ret n q ∧ Below w.heap.size w w' :=
  two_by _ (by decide) _ (enters_of Tryd.func43 (by kernel_rfl) rfl) at_left a b n q (fun w => by have := left_is a b w ha hb; rw [h] at this; exact this) w
theorem at_right : twoD.atKey (.string [62, 62]) .nil = .lit (.int .i64 (44 : Nat)) := by kernel_rfl
theorem two_right (a b n q : Int) (ha : inR a) (hb : inR b) (h : rightR a b = (n, q)) (w : World) :
    Calls Tryd.prog 11 #[.string { data := #[62, 62] }, .int .i64 a, .int .i64 b] w fun e w' => e = ret n q ∧ Below w.heap.size w w' :=
  two_by _ (by decide) _ (enters_of Tryd.func44 (by kernel_rfl) rfl) at_right a b n q (fun w => by have := right_is a b w ha hb; rw [h] at this; exact this) w
theorem at_power : twoD.atKey (.string [42, 42]) .nil = .lit (.int .i64 (45 : Nat)) := by kernel_rfl
theorem two_power (a b n q : Int) (ha : inR a) (hb : inR b) (h : powR a b = (n, q)) (w : World) :
    Calls Tryd.prog 11 #[.string { data := #[42, 42] }, .int .i64 a, .int .i64 b] w fun e w' => e = ret n q ∧ Below w.heap.size w w' :=
  two_by _ (by decide) _ (enters_of Tryd.func45 (by kernel_rfl) rfl) at_power a b n q (fun w => by have := power_is a b w ha hb; rw [h] at this; exact this) w
theorem at_hat : twoD.atKey (.string [94]) .nil = .lit (.int .i64 (45 : Nat)) := by kernel_rfl
theorem two_hat (a b n q : Int) (ha : inR a) (hb : inR b) (h : powR a b = (n, q)) (w : World) :
    Calls Tryd.prog 11 #[.string { data := #[94] }, .int .i64 a, .int .i64 b] w fun e w' => e = ret n q ∧ Below w.heap.size w w' :=
  two_by _ (by decide) _ (enters_of Tryd.func45 (by kernel_rfl) rfl) at_hat a b n q (fun w => by have := power_is a b w ha hb; rw [h] at this; exact this) w
theorem at_negated : oneD.atKey (.string [45]) .nil = .lit (.int .i64 (47 : Nat)) := by kernel_rfl
theorem one_negated (a n q : Int) (ha : inR a) (h : clip (-a) = (n, q)) (w : World) :
    Calls Tryd.prog 13 #[.string { data := #[45] }, .int .i64 a] w fun e w' => e = ret n q ∧ Below w.heap.size w w' :=
  one_by _ (by decide) _ (enters_of Tryd.func47 (by kernel_rfl) rfl) at_negated a n q (fun w => by have := negated_is a w ha; rw [h] at this; exact this) w
theorem at_itself : oneD.atKey (.string [43]) .nil = .lit (.int .i64 (48 : Nat)) := by kernel_rfl
theorem one_itself (a n q : Int) (_ha : inR a) (h : (a, 0) = (n, q)) (w : World) :
    Calls Tryd.prog 13 #[.string { data := #[43] }, .int .i64 a] w fun e w' => e = ret n q ∧ Below w.heap.size w w' :=
  one_by _ (by decide) _ (enters_of Tryd.func48 (by kernel_rfl) rfl) at_itself a n q (fun w => (itself_is a w).mono fun e w' ⟨he, hw⟩ => ⟨by cases h; exact he, by rw [hw]; exact Below.refl _ _⟩) w
theorem at_distance : oneD.atKey (.string [97, 98, 115]) .nil = .lit (.int .i64 (49 : Nat)) := by kernel_rfl
theorem one_distance (a n q : Int) (ha : inR a) (h : clip (magZ a) = (n, q)) (w : World) :
    Calls Tryd.prog 13 #[.string { data := #[97, 98, 115] }, .int .i64 a] w fun e w' => e = ret n q ∧ Below w.heap.size w w' :=
  one_by _ (by decide) _ (enters_of Tryd.func49 (by kernel_rfl) rfl) at_distance a n q (fun w => (distance_is a w ha).mono fun e w' ⟨he, hw⟩ => ⟨by rw [h] at he; exact he, by rw [hw]; exact Below.refl _ _⟩) w
theorem at_sign : oneD.atKey (.string [115, 105, 103, 110]) .nil = .lit (.int .i64 (50 : Nat)) := by kernel_rfl
theorem one_sign (a n q : Int) (_ha : inR a) (h : (signZ a, 0) = (n, q)) (w : World) :
    Calls Tryd.prog 13 #[.string { data := #[115, 105, 103, 110] }, .int .i64 a] w fun e w' => e = ret n q ∧ Below w.heap.size w w' :=
  one_by _ (by decide) _ (enters_of Tryd.func50 (by kernel_rfl) rfl) at_sign a n q (fun w => (sign_is a w).mono fun e w' ⟨he, hw⟩ => ⟨by cases h; exact he, by rw [hw]; exact Below.refl _ _⟩) w
theorem at_turned : oneD.atKey (.string [92]) .nil = .lit (.int .i64 (51 : Nat)) := by kernel_rfl
theorem one_turned (a n q : Int) (ha : inR a) (h : (-1 - a, 0) = (n, q)) (w : World) :
    Calls Tryd.prog 13 #[.string { data := #[92] }, .int .i64 a] w fun e w' => e = ret n q ∧ Below w.heap.size w w' :=
  one_by _ (by decide) _ (enters_of Tryd.func51 (by kernel_rfl) rfl) at_turned a n q (fun w => (turned_is a w ha).mono fun e w' ⟨he, hw⟩ => ⟨by cases h; exact he, by rw [hw]; exact Below.refl _ _⟩) w

end Go.Proofs.YtppohopockieiaaDoor
