/- The law NamePuts returns true for every input: any byte's sort, and how any atom is written, are the document's; its walk. Conditions: the arguments are some; the library's variables hold what their text lays. -/
import Derived.Test.YtnkkenchabcpoaaDoorNameP
import Derived.Test.YtnkkenchabcpoaaDoorNameU
namespace Go.Proofs.YtnkkenchabcpoaaDoor
open Go Go.RowKit Go.Maps

set_option maxHeartbeats 800000 in
theorem puts_in (s p : ByteArray) (c k : Int) (b : Bool) (w : World) (htab : Tab w) (hs : s.size ≤ 3000)
    (K : Hid (∀ w, Calls Tryd.prog 10 #[.int .u8 c] w fun e w' => e = .returned (.int .i64 k) ∧ w' = w)) (L : Hid (∀ w, Calls Tryd.prog 11 #[.int .u8 c] w fun e w' => e = .returned (.int .i64 k) ∧ w' = w))
    (A : Hid (∀ w, Calls Tryd.prog 12 #[.string s] w fun e w' => e = .returned (.bool b) ∧ Below w.heap.size w w')) (B : Hid (∀ w, Calls Tryd.prog 13 #[.string s] w fun e w' => e = .returned (.bool b) ∧ w' = w))
    (P : Hid (∀ w, Tab w → Calls Tryd.prog 14 #[.string s] w fun e w' => e = .returned (.string p) ∧ Below w.heap.size w w')) (Q : Hid (∀ w, Calls Tryd.prog 15 #[.string s] w fun e w' => e = .returned (.string p) ∧ Below w.heap.size w w')) :
    Calls Tryd.prog 3 #[.string s, .int .u8 c] w fun e w' => e = .returned (.bool true) ∧ Below w.heap.size w w' := by
  have HT := Lib.hid htab
  clear htab
  go_enter Tryd.func3, Tryd.ntmps3
  go_wp2_with fail
  refine (alive_is _ HT.out).mono ?_
  rintro e w1 ⟨rfl, b1⟩
  have T1 := Lib.hid (HT.out.on b1)
  go_wp2_with fail
  refine (K.out _).mono ?_
  rintro e w2 ⟨rfl, hw⟩
  obtain rfl := hw.symm
  clear hw
  go_wp2_with fail
  refine (L.out _).mono ?_
  rintro e w2 ⟨rfl, hw⟩
  obtain rfl := hw.symm
  clear hw
  go_wp2_with fail
  refine (A.out _).mono ?_
  rintro e w2 ⟨rfl, b2⟩
  have T2 := Lib.hid (T1.out.on b2)
  go_wp2_with fail
  refine (B.out _).mono ?_
  rintro e w3 ⟨rfl, hw⟩
  obtain rfl := hw.symm
  clear hw
  go_wp2_with fail
  refine (P.out _ T2.out).mono ?_
  rintro e w3 ⟨rfl, b3⟩
  go_wp2_with fail
  refine (Q.out _).mono ?_
  rintro e w4 ⟨rfl, b4⟩
  go_wp2_with fail
  go_ret
  exact ⟨rfl, bt (bt (bt b1 b2) b3) b4⟩

set_option maxHeartbeats 400000 in
theorem puts_walk (s : ByteArray) (c : Int) (w : World) (hs : s.size ≤ maxLen) (h0 : 0 ≤ c) (h1 : c ≤ 255) (htab : Tab w) :
    Calls Tryd.prog 3 #[.string s, .int .u8 c] w fun e w' => e = .returned (.bool true) ∧ Below w.heap.size w w' := by
  by_cases h : s.size ≤ 3000
  · have K := Lib.hid (fun w => sort_is c w h0 h1)
    have L := Lib.hid (fun w => ref_sort c w h0 h1)
    have A := fun w => plain_is s w (by omega)
    have B := fun w => ref_plain s w (by omega)
    cases hp : plainB s.data.toList
    · rw [hp] at A B
      exact puts_in s _ c _ false w htab h K L (Lib.hid A) (Lib.hid B) (Lib.hid fun w ht => put_quoted s w (by omega) ht hp) (Lib.hid fun w => ref_put_quoted s w (by omega) hp)
    · rw [hp] at A B
      exact puts_in s _ c _ true w htab h K L (Lib.hid A) (Lib.hid B) (Lib.hid fun w _ => put_plain s w (by omega) hp) (Lib.hid fun w => ref_put_plain s w (by omega) hp)
  have h' : 3000 < s.size := by omega
  have HT := Lib.hid htab
  clear htab h
  unfold maxLen at hs
  go_enter Tryd.func3, Tryd.ntmps3
  go_wp2_with fail
  refine (alive_is _ HT.out).mono ?_
  rintro e w1 ⟨rfl, b1⟩
  go_wp2_with fail
  go_ret
  exact ⟨rfl, b1⟩

end Go.Proofs.YtnkkenchabcpoaaDoor
