/- The law NamePlain returns true for every input: a plain atom with another byte within is none; letters behind letters, signs behind signs, stay plain; its walk. Conditions: the texts are some; the library's variables hold what their text lays. -/
import Derived.Test.YtnkkenchabcpoaaDoorNameP
import Derived.Test.YtnkkenchabcpoaaDoorNamePlainM
import Derived.Deep.QuietTactic
import Derived.BigQuiet
namespace Go.Proofs.YtnkkenchabcpoaaDoor
open Go Go.RowKit Go.Maps

theorem app_bytes (a b : ByteArray) : (a ++ b).data.toList = a.data.toList ++ b.data.toList := by simp
theorem app_size (a b : ByteArray) : (a ++ b).size = a.size + b.size := by
  rw [Lib.size_eq, app_bytes, List.length_append, ← Lib.size_eq, ← Lib.size_eq]

/-- a contract of Plain at one text -/
def PlainC (s : ByteArray) (r : Bool) : Prop := ∀ w, Calls Tryd.prog 12 #[.string s] w fun e w' => e = .returned (.bool r) ∧ Below w.heap.size w w'
def SortC (c k : Int) : Prop := ∀ w, Calls Tryd.prog 10 #[.int .u8 c] w fun e w' => e = .returned (.int .i64 k) ∧ w' = w
theorem plain_c (s : ByteArray) (r : Bool) (hs : s.size ≤ 4000) (h : plainB s.data.toList = r) : PlainC s r := fun w => by
  have := plain_is s w hs
  rw [h] at this
  exact this

set_option maxHeartbeats 800000 in
set_option maxRecDepth 100000 in
theorem plain_long (a b : ByteArray) (w : World) (htab : Tab w) (ha : a.size ≤ maxLen) (hb : b.size ≤ maxLen) (h : 500 < a.size ∨ a.size ≤ 500 ∧ 500 < b.size) :
    Calls Tryd.prog 6 #[.string a, .string b] w fun e w' => e = .returned (.bool true) ∧ Below w.heap.size w w' := by
  have HT := Lib.hid htab
  clear htab
  unfold maxLen at ha hb
  rcases h with h | ⟨h, h2⟩
  all_goals
    go_enter Tryd.func6, Tryd.ntmps6
    go_wp2_with fail
    refine (alive_is _ HT.out).mono ?_
    rintro e w1 ⟨rfl, b1⟩
    go_wp2_with fail
    go_ret
    exact ⟨rfl, b1⟩

set_option maxHeartbeats 800000 in
set_option maxRecDepth 100000 in
theorem plain_a_no (a b : ByteArray) (w : World) (htab : Tab w) (ha : a.size ≤ 500) (hb : b.size ≤ 500) (A : Hid (PlainC a false)) :
    Calls Tryd.prog 6 #[.string a, .string b] w fun e w' => e = .returned (.bool true) ∧ Below w.heap.size w w' := by
  have HT := Lib.hid htab
  clear htab
  go_enter Tryd.func6, Tryd.ntmps6
  go_wp2_with fail
  refine (alive_is _ HT.out).mono ?_
  rintro e w1 ⟨rfl, b1⟩
  go_wp2_with fail
  refine (A.out _).mono ?_
  rintro e w2 ⟨rfl, b2⟩
  go_wp2_with fail
  go_ret
  exact ⟨rfl, bt b1 b2⟩

set_option maxHeartbeats 800000 in
set_option maxRecDepth 100000 in
theorem plain_b_no (a b : ByteArray) (w : World) (htab : Tab w) (ha : a.size ≤ 500) (hb : b.size ≤ 500) (A : Hid (PlainC a true)) (B : Hid (PlainC b false)) :
    Calls Tryd.prog 6 #[.string a, .string b] w fun e w' => e = .returned (.bool true) ∧ Below w.heap.size w w' := by
  have HT := Lib.hid htab
  clear htab
  go_enter Tryd.func6, Tryd.ntmps6
  go_wp2_with fail
  refine (alive_is _ HT.out).mono ?_
  rintro e w1 ⟨rfl, b1⟩
  go_wp2_with fail
  refine (A.out _).mono ?_
  rintro e w2 ⟨rfl, b2⟩
  go_wp2_with fail
  refine (B.out _).mono ?_
  rintro e w3 ⟨rfl, b3⟩
  go_wp2_with fail
  go_ret
  exact ⟨rfl, bt (bt b1 b2) b3⟩

set_option maxHeartbeats 1600000 in
set_option maxRecDepth 100000 in
theorem plain_special (a b : ByteArray) (w : World) (htab : Tab w) (ha : a.size ≤ 500) (hb : b.size ≤ 500) (A : Hid (PlainC a true)) (B : Hid (PlainC b true)) (x1 x2 x3 x4 : Bool)
    (e1 : (a.toList == [91, 93]) = x1) (e2 : (b.toList == [91, 93]) = x2) (e3 : (a.toList == [123, 125]) = x3) (e4 : (b.toList == [123, 125]) = x4) (hx : (x1 || x2 || x3 || x4) = true) :
    Calls Tryd.prog 6 #[.string a, .string b] w fun e w' => e = .returned (.bool true) ∧ Below w.heap.size w w' := by
  have HT := Lib.hid htab
  clear htab
  cases x1
  · cases x2
    · cases x3
      · cases x4
        · cases hx
        · clear hx
          go_enter Tryd.func6, Tryd.ntmps6
          go_wp2_with fail
          refine (alive_is _ HT.out).mono ?_
          rintro e w1 ⟨rfl, b1⟩
          go_wp2_with fail
          refine (A.out _).mono ?_
          rintro e w2 ⟨rfl, b2⟩
          go_wp2_with fail
          refine (B.out _).mono ?_
          rintro e w3 ⟨rfl, b3⟩
          go_wp2_with fail
          go_ret
          exact ⟨rfl, bt (bt b1 b2) b3⟩
      · clear hx
        go_enter Tryd.func6, Tryd.ntmps6
        go_wp2_with fail
        refine (alive_is _ HT.out).mono ?_
        rintro e w1 ⟨rfl, b1⟩
        go_wp2_with fail
        refine (A.out _).mono ?_
        rintro e w2 ⟨rfl, b2⟩
        go_wp2_with fail
        refine (B.out _).mono ?_
        rintro e w3 ⟨rfl, b3⟩
        go_wp2_with fail
        go_ret
        exact ⟨rfl, bt (bt b1 b2) b3⟩
    · clear hx
      go_enter Tryd.func6, Tryd.ntmps6
      go_wp2_with fail
      refine (alive_is _ HT.out).mono ?_
      rintro e w1 ⟨rfl, b1⟩
      go_wp2_with fail
      refine (A.out _).mono ?_
      rintro e w2 ⟨rfl, b2⟩
      go_wp2_with fail
      refine (B.out _).mono ?_
      rintro e w3 ⟨rfl, b3⟩
      go_wp2_with fail
      go_ret
      exact ⟨rfl, bt (bt b1 b2) b3⟩
  · clear hx
    go_enter Tryd.func6, Tryd.ntmps6
    go_wp2_with fail
    refine (alive_is _ HT.out).mono ?_
    rintro e w1 ⟨rfl, b1⟩
    go_wp2_with fail
    refine (A.out _).mono ?_
    rintro e w2 ⟨rfl, b2⟩
    go_wp2_with fail
    refine (B.out _).mono ?_
    rintro e w3 ⟨rfl, b3⟩
    go_wp2_with fail
    go_ret
    exact ⟨rfl, bt (bt b1 b2) b3⟩

set_option maxHeartbeats 800000 in
set_option maxRecDepth 100000 in
theorem plain_solo1 (a b : ByteArray) (w : World) (htab : Tab w) (ha : a.size ≤ 500) (hb : b.size ≤ 500) (A : Hid (PlainC a true)) (B : Hid (PlainC b true))
    (e1 : (a.toList == [91, 93]) = false) (e2 : (b.toList == [91, 93]) = false) (e3 : (a.toList == [123, 125]) = false) (e4 : (b.toList == [123, 125]) = false) (pa : 0 < a.size) (pb : 0 < b.size)
    (k : Int) (K : Hid (SortC (a[0].toNat : Int) k)) (hk : (k == 6) = true) :
    Calls Tryd.prog 6 #[.string a, .string b] w fun e w' => e = .returned (.bool true) ∧ Below w.heap.size w w' := by
  have HT := Lib.hid htab
  clear htab
  go_enter Tryd.func6, Tryd.ntmps6
  go_wp2_with fail
  refine (alive_is _ HT.out).mono ?_
  rintro e w1 ⟨rfl, b1⟩
  go_wp2_with fail
  refine (A.out _).mono ?_
  rintro e w2 ⟨rfl, b2⟩
  go_wp2_with fail
  refine (B.out _).mono ?_
  rintro e w3 ⟨rfl, b3⟩
  go_wp2_with fail
  refine (K.out _).mono ?_
  rintro e w4 ⟨rfl, hw⟩
  obtain rfl := hw.symm
  go_wp2_with fail
  go_ret
  exact ⟨rfl, bt (bt b1 b2) b3⟩

set_option maxHeartbeats 1600000 in
set_option maxRecDepth 100000 in
theorem plain_solo (a b : ByteArray) (w : World) (htab : Tab w) (ha : a.size ≤ 500) (hb : b.size ≤ 500) (A : Hid (PlainC a true)) (B : Hid (PlainC b true))
    (e1 : (a.toList == [91, 93]) = false) (e2 : (b.toList == [91, 93]) = false) (e3 : (a.toList == [123, 125]) = false) (e4 : (b.toList == [123, 125]) = false) (pa : 0 < a.size) (pb : 0 < b.size)
    (k l : Int) (K : Hid (SortC (a[0].toNat : Int) k)) (L : Hid (SortC (b[0].toNat : Int) l)) (x : Bool) (hk : (k == 6) = x) (hl : (l == 6) = true) :
    Calls Tryd.prog 6 #[.string a, .string b] w fun e w' => e = .returned (.bool true) ∧ Below w.heap.size w w' := by
  have HT := Lib.hid htab
  clear htab
  cases x
  · go_enter Tryd.func6, Tryd.ntmps6
    go_wp2_with fail
    refine (alive_is _ HT.out).mono ?_
    rintro e w1 ⟨rfl, b1⟩
    go_wp2_with fail
    refine (A.out _).mono ?_
    rintro e w2 ⟨rfl, b2⟩
    go_wp2_with fail
    refine (B.out _).mono ?_
    rintro e w3 ⟨rfl, b3⟩
    go_wp2_with fail
    refine (K.out _).mono ?_
    rintro e w4 ⟨rfl, hw⟩
    obtain rfl := hw.symm
    go_wp2_with fail
    refine (L.out _).mono ?_
    rintro e w4 ⟨rfl, hw⟩
    obtain rfl := hw.symm
    go_wp2_with fail
    go_ret
    exact ⟨rfl, bt (bt b1 b2) b3⟩
  · exact plain_solo1 a b w HT.out ha hb A B e1 e2 e3 e4 pa pb k K hk

end Go.Proofs.YtnkkenchabcpoaaDoor
