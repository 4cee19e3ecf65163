/- The law NumReckons returns true for every input: what any operator makes of any numbers is the document's; its walk. Conditions: the arguments fit their kinds; the library's table of powers of ten holds what its text lays. -/
import Derived.Test.YtppohopockieiaaDoorNumQ
import Derived.Maps.Views
namespace Go.Proofs.YtppohopockieiaaDoor
open Go Go.RowKit Go.Maps Go.Shelf

/-- no operator of two numbers -/
def noTwo (l : List UInt8) : Prop := l ≠ [43] ∧ l ≠ [45] ∧ l ≠ [42] ∧ l ≠ [47, 47] ∧ l ≠ [114, 101, 109] ∧ l ≠ [100, 105, 118] ∧ l ≠ [109, 111, 100] ∧ l ≠ [109, 105, 110] ∧ l ≠ [109, 97, 120] ∧ l ≠ [47, 92] ∧ l ≠ [92, 47] ∧ l ≠ [120, 111, 114] ∧ l ≠ [60, 60] ∧ l ≠ [62, 62] ∧ l ≠ [42, 42] ∧ l ≠ [94]
theorem ne_bool {s : ByteArray} {l : List UInt8} (h : s.data.toList ≠ l) : (s.toList == l) = false := by
  rw [Lib.toList_data]
  exact beq_eq_false_iff_ne.2 h

set_option maxRecDepth 100000 in
set_option maxHeartbeats 3200000 in
theorem rtwo_not (s : ByteArray) (h : noTwo s.data.toList) (a b : Int) (w : World) :
    Calls Tryd.prog 12 #[.string s, .int .i64 a, .int .i64 b] w fun e w' => e = ret 0 8 ∧ w' = w := by
  obtain ⟨k0, k1, k2, k3, k4, k5, k6, k7, k8, k9, k10, k11, k12, k13, k14, k15⟩ := h
  replace k0 := ne_bool k0
  replace k1 := ne_bool k1
  replace k2 := ne_bool k2
  replace k3 := ne_bool k3
  replace k4 := ne_bool k4
  replace k5 := ne_bool k5
  replace k6 := ne_bool k6
  replace k7 := ne_bool k7
  replace k8 := ne_bool k8
  replace k9 := ne_bool k9
  replace k10 := ne_bool k10
  replace k11 := ne_bool k11
  replace k12 := ne_bool k12
  replace k13 := ne_bool k13
  replace k14 := ne_bool k14
  replace k15 := ne_bool k15
  go_enter Tryd.func12, Tryd.ntmps12
  go_wp2
  go_ret2
  exact ⟨rfl, rfl⟩

/-- no operator of one number -/
def noOne (l : List UInt8) : Prop := l ≠ [45] ∧ l ≠ [43] ∧ l ≠ [97, 98, 115] ∧ l ≠ [115, 105, 103, 110] ∧ l ≠ [92]

set_option maxHeartbeats 800000 in
theorem rone_not (s : ByteArray) (h : noOne s.data.toList) (a : Int) (w : World) :
    Calls Tryd.prog 14 #[.string s, .int .i64 a] w fun e w' => e = ret 0 8 ∧ w' = w := by
  obtain ⟨k0, k1, k2, k3, k4⟩ := h
  replace k0 := ne_bool k0
  replace k1 := ne_bool k1
  replace k2 := ne_bool k2
  replace k3 := ne_bool k3
  replace k4 := ne_bool k4
  go_enter Tryd.func14, Tryd.ntmps14
  go_wp2
  go_ret2
  exact ⟨rfl, rfl⟩
set_option maxHeartbeats 800000 in
theorem rone_negated (a n q : Int) (ha : inR a) (h : clip (-a) = (n, q)) (w : World) :
    Calls Tryd.prog 14 #[.string { data := #[45] }, .int .i64 a] w fun e w' => e = ret n q ∧ w' = w := by
  have C := Lib.hid (fun w => rtwo_difference 0 a n q (by unfold inR; omega) ha (by rw [Int.zero_sub]; exact h) w)
  clear h ha
  go_enter Tryd.func14, Tryd.ntmps14
  go_wp2_with (go_at_call 12; refine (C.out _).mono ?_; rintro e w' ⟨rfl, rfl⟩)
  go_ret2
  exact ⟨rfl, rfl⟩
set_option maxHeartbeats 800000 in
theorem rone_itself (a n q : Int) (h : (a, (0 : Int)) = (n, q)) (w : World) :
    Calls Tryd.prog 14 #[.string { data := #[43] }, .int .i64 a] w fun e w' => e = ret n q ∧ w' = w := by
  cases h
  go_enter Tryd.func14, Tryd.ntmps14
  go_wp2
  go_ret2
  exact ⟨rfl, rfl⟩
set_option maxHeartbeats 800000 in
theorem rone_distance (a n q : Int) (ha : inR a) (h : clip (magZ a) = (n, q)) (w : World) :
    Calls Tryd.prog 14 #[.string { data := #[97, 98, 115] }, .int .i64 a] w fun e w' => e = ret n q ∧ w' = w := by
  by_cases h0 : a < 0
  · have hm : magZ a = -a := by unfold magZ; omega
    rw [hm] at h
    have C := Lib.hid (fun w => rtwo_difference 0 a n q (by unfold inR; omega) ha (by rw [Int.zero_sub]; exact h) w)
    clear h ha hm
    go_enter Tryd.func14, Tryd.ntmps14
    go_wp2_with (go_at_call 12; refine (C.out _).mono ?_; rintro e w' ⟨rfl, rfl⟩)
    go_ret2
    exact ⟨rfl, rfl⟩
  · have hm : magZ a = a := by unfold magZ; omega
    rw [hm, clip_in ha] at h
    cases h
    clear ha hm
    go_enter Tryd.func14, Tryd.ntmps14
    go_wp2
    go_ret2
    exact ⟨rfl, rfl⟩
set_option maxHeartbeats 800000 in
theorem rone_sign (a n q : Int) (h : (signZ a, (0 : Int)) = (n, q)) (w : World) :
    Calls Tryd.prog 14 #[.string { data := #[115, 105, 103, 110] }, .int .i64 a] w fun e w' => e = ret n q ∧ w' = w := by
  cases h
  unfold signZ
  by_cases h1 : a < 0
  · rw [if_pos h1]
    go_enter Tryd.func14, Tryd.ntmps14
    go_wp2
    go_ret2
    exact ⟨rfl, rfl⟩
  rw [if_neg h1]
  by_cases h2 : 0 < a
  · rw [if_pos h2]
    go_enter Tryd.func14, Tryd.ntmps14
    go_wp2
    go_ret2
    exact ⟨rfl, rfl⟩
  · rw [if_neg h2]
    go_enter Tryd.func14, Tryd.ntmps14
    go_wp2
    go_ret2
    exact ⟨rfl, rfl⟩
set_option maxHeartbeats 800000 in
theorem rone_turned (a n q : Int) (ha : inR a) (h : (-1 - a, (0 : Int)) = (n, q)) (w : World) :
    Calls Tryd.prog 14 #[.string { data := #[92] }, .int .i64 a] w fun e w' => e = ret n q ∧ w' = w := by
  cases h
  have g1 : -9223372036854775808 ≤ -1 - a := by unfold inR at ha; omega
  have g2 : -1 - a ≤ 9223372036854775807 := by unfold inR at ha; omega
  go_enter Tryd.func14, Tryd.ntmps14
  go_wp2
  go_ret2
  exact ⟨rfl, rfl⟩

/-- what both come to, alike -/
def AlikeTwo (s : ByteArray) (a b : Int) : Prop := ∃ n q : Int, (∀ w, Calls Tryd.prog 11 #[.string s, .int .i64 a, .int .i64 b] w fun e w' => e = ret n q ∧ Below w.heap.size w w') ∧ (∀ w, Calls Tryd.prog 12 #[.string s, .int .i64 a, .int .i64 b] w fun e w' => e = ret n q ∧ w' = w)
def AlikeOne (s : ByteArray) (a : Int) : Prop := ∃ n q : Int, (∀ w, Calls Tryd.prog 13 #[.string s, .int .i64 a] w fun e w' => e = ret n q ∧ Below w.heap.size w w') ∧ (∀ w, Calls Tryd.prog 14 #[.string s, .int .i64 a] w fun e w' => e = ret n q ∧ w' = w)
theorem str_of {s : ByteArray} {l : List UInt8} (h : s.data.toList = l) : s = { data := l.toArray } := Go.WideShapes.bytes_inj (by rw [h])

theorem lit_ne {l k : List UInt8} (h : l ≠ k) : Lit.string l ≠ Lit.string k := fun e => h (by injection e)
theorem two_none {l : List UInt8} (h : noTwo l) : twoD.atKey (.string l) .nil = .nil := by
  obtain ⟨k0, k1, k2, k3, k4, k5, k6, k7, k8, k9, k10, k11, k12, k13, k14, k15⟩ := h
  unfold twoD
  rw [atKey_put_other (lit_ne k15), atKey_put_other (lit_ne k14), atKey_put_other (lit_ne k13), atKey_put_other (lit_ne k12), atKey_put_other (lit_ne k11), atKey_put_other (lit_ne k10), atKey_put_other (lit_ne k9), atKey_put_other (lit_ne k8), atKey_put_other (lit_ne k7), atKey_put_other (lit_ne k6), atKey_put_other (lit_ne k5), atKey_put_other (lit_ne k4), atKey_put_other (lit_ne k3), atKey_put_other (lit_ne k2), atKey_put_other (lit_ne k1), atKey_put_other (lit_ne k0)]
  rfl
theorem one_none {l : List UInt8} (h : noOne l) : oneD.atKey (.string l) .nil = .nil := by
  obtain ⟨k0, k1, k2, k3, k4⟩ := h
  unfold oneD
  rw [atKey_put_other (lit_ne k4), atKey_put_other (lit_ne k3), atKey_put_other (lit_ne k2), atKey_put_other (lit_ne k1), atKey_put_other (lit_ne k0)]
  rfl

theorem alike_two (s : ByteArray) (hs : s.size ≤ maxLen) (a b : Int) (ha : inR a) (hb : inR b) : AlikeTwo s a b := by
  by_cases k_sum : s.data.toList = [43]
  · cases str_of k_sum
    exact ⟨(clip (a + b)).1, (clip (a + b)).2, two_sum a b _ _ ha hb rfl, rtwo_sum a b _ _ ha hb rfl⟩
  by_cases k_difference : s.data.toList = [45]
  · cases str_of k_difference
    exact ⟨(clip (a - b)).1, (clip (a - b)).2, two_difference a b _ _ ha hb rfl, rtwo_difference a b _ _ ha hb rfl⟩
  by_cases k_product : s.data.toList = [42]
  · cases str_of k_product
    exact ⟨(clip (a * b)).1, (clip (a * b)).2, two_product a b _ _ ha hb rfl, rtwo_product a b _ _ ha hb rfl⟩
  by_cases k_quotient : s.data.toList = [47, 47]
  · cases str_of k_quotient
    exact ⟨(quoR a b).1, (quoR a b).2, two_quotient a b _ _ ha hb rfl, rtwo_quotient a b _ _ ha hb rfl⟩
  by_cases k_rest : s.data.toList = [114, 101, 109]
  · cases str_of k_rest
    exact ⟨(remR a b).1, (remR a b).2, two_rest a b _ _ ha hb rfl, rtwo_rest a b _ _ ha hb rfl⟩
  by_cases k_floor : s.data.toList = [100, 105, 118]
  · cases str_of k_floor
    exact ⟨(divR a b).1, (divR a b).2, two_floor a b _ _ ha hb rfl, rtwo_floor a b _ _ ha hb rfl⟩
  by_cases k_modulus : s.data.toList = [109, 111, 100]
  · cases str_of k_modulus
    exact ⟨(modR a b).1, (modR a b).2, two_modulus a b _ _ ha hb rfl, rtwo_modulus a b _ _ ha hb rfl⟩
  by_cases k_least : s.data.toList = [109, 105, 110]
  · cases str_of k_least
    exact ⟨((minZ a b, (0 : Int))).1, ((minZ a b, (0 : Int))).2, two_least a b _ _ ha hb rfl, rtwo_least a b _ _ rfl⟩
  by_cases k_greatest : s.data.toList = [109, 97, 120]
  · cases str_of k_greatest
    exact ⟨((maxZ a b, (0 : Int))).1, ((maxZ a b, (0 : Int))).2, two_greatest a b _ _ ha hb rfl, rtwo_greatest a b _ _ rfl⟩
  by_cases k_and : s.data.toList = [47, 92]
  · cases str_of k_and
    exact ⟨((andZ a b, (0 : Int))).1, ((andZ a b, (0 : Int))).2, two_and a b _ _ ha hb rfl, rtwo_and a b _ _ ha hb rfl⟩
  by_cases k_or : s.data.toList = [92, 47]
  · cases str_of k_or
    exact ⟨((orZ a b, (0 : Int))).1, ((orZ a b, (0 : Int))).2, two_or a b _ _ ha hb rfl, rtwo_or a b _ _ ha hb rfl⟩
  by_cases k_xor : s.data.toList = [120, 111, 114]
  · cases str_of k_xor
    exact ⟨((xorZ a b, (0 : Int))).1, ((xorZ a b, (0 : Int))).2, two_xor a b _ _ ha hb rfl, rtwo_xor a b _ _ ha hb rfl⟩
  by_cases k_left : s.data.toList = [60, 60]
  · cases str_of k_left
    exact ⟨(leftR a b).1, (leftR a b).2, two_left a b _ _ ha hb rfl, rtwo_left a b _ _ ha hb rfl⟩
  by_cases k_right : s.data.toList = [62, 62]
  · cases str_of k_right
    exact ⟨(rightR a b).1, (rightR a b).2, two_right a b _ _ ha hb rfl, rtwo_right a b _ _ ha hb rfl⟩
  by_cases k_power : s.data.toList = [42, 42]
  · cases str_of k_power
    exact ⟨(powR a b).1, (powR a b).2, two_power a b _ _ ha hb rfl, rtwo_power a b _ _ ha hb rfl⟩
  by_cases k_hat : s.data.toList = [94]
  · cases str_of k_hat
    exact ⟨(powR a b).1, (powR a b).2, two_hat a b _ _ ha hb rfl, rtwo_hat a b _ _ ha hb rfl⟩
  · exact ⟨0, 8, two_not s hs (two_none ⟨k_sum, k_difference, k_product, k_quotient, k_rest, k_floor, k_modulus, k_least, k_greatest, k_and, k_or, k_xor, k_left, k_right, k_power, k_hat⟩) a b, rtwo_not s ⟨k_sum, k_difference, k_product, k_quotient, k_rest, k_floor, k_modulus, k_least, k_greatest, k_and, k_or, k_xor, k_left, k_right, k_power, k_hat⟩ a b⟩
theorem alike_one (s : ByteArray) (hs : s.size ≤ maxLen) (a : Int) (ha : inR a) : AlikeOne s a := by
  by_cases k_negated : s.data.toList = [45]
  · cases str_of k_negated
    exact ⟨(clip (-a)).1, (clip (-a)).2, one_negated a _ _ ha rfl, rone_negated a _ _ ha rfl⟩
  by_cases k_itself : s.data.toList = [43]
  · cases str_of k_itself
    exact ⟨((a, (0 : Int))).1, ((a, (0 : Int))).2, one_itself a _ _ ha rfl, rone_itself a _ _ rfl⟩
  by_cases k_distance : s.data.toList = [97, 98, 115]
  · cases str_of k_distance
    exact ⟨(clip (magZ a)).1, (clip (magZ a)).2, one_distance a _ _ ha rfl, rone_distance a _ _ ha rfl⟩
  by_cases k_sign : s.data.toList = [115, 105, 103, 110]
  · cases str_of k_sign
    exact ⟨((signZ a, (0 : Int))).1, ((signZ a, (0 : Int))).2, one_sign a _ _ ha rfl, rone_sign a _ _ rfl⟩
  by_cases k_turned : s.data.toList = [92]
  · cases str_of k_turned
    exact ⟨((-1 - a, (0 : Int))).1, ((-1 - a, (0 : Int))).2, one_turned a _ _ ha rfl, rone_turned a _ _ ha rfl⟩
  · exact ⟨0, 8, one_not s hs (one_none ⟨k_negated, k_itself, k_distance, k_sign, k_turned⟩) a, rone_not s ⟨k_negated, k_itself, k_distance, k_sign, k_turned⟩ a⟩

set_option maxHeartbeats 800000 in
theorem reckons_walk (s : ByteArray) (a b : Int) (w : World) (hs : s.size ≤ maxLen) (ha : inR a) (hb : inR b) (htab : Tab w) :
    Calls Tryd.prog 3 #[.string s, .int .i64 a, .int .i64 b] w fun e w' => e = .returned (.bool true) ∧ Below w.heap.size w w' := by
  obtain ⟨n, q, c1, c2⟩ := alike_two s hs a b ha hb
  obtain ⟨x, y, c3, c4⟩ := alike_one s hs a ha
  have C1 := Lib.hid c1
  have C2 := Lib.hid c2
  have C3 := Lib.hid c3
  have C4 := Lib.hid c4
  clear c1 c2 c3 c4 ha hb hs
  go_enter Tryd.func3, Tryd.ntmps3
  go_wp2_with fail
  refine (alive_is _ htab).mono ?_
  rintro e w1 ⟨rfl, b1⟩
  go_wp2_with fail
  refine (C1.out _).mono ?_
  rintro e w2 ⟨rfl, b2⟩
  go_wp2_with fail
  refine (C2.out _).mono ?_
  rintro e w3 ⟨rfl, rfl⟩
  go_wp2_with fail
  refine (C3.out _).mono ?_
  rintro e w4 ⟨rfl, b4⟩
  go_wp2_with fail
  refine (C4.out _).mono ?_
  rintro e w5 ⟨rfl, rfl⟩
  go_wp2_with fail
  go_ret
  exact ⟨rfl, bt (bt b1 b2) b4⟩

end Go.Proofs.YtppohopockieiaaDoor
