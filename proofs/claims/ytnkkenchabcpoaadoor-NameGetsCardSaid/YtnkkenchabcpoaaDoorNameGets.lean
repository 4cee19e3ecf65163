/- The law NameGets returns true for every input: what is within any quotes, or the error, is the document's; its walk. Conditions: the arguments are some; the library's variables hold what their text lays. -/
import Derived.Test.YtnkkenchabcpoaaDoorNameP
import Derived.Test.YtnkkenchabcpoaaDoorNameX
namespace Go.Proofs.YtnkkenchabcpoaaDoor
open Go Go.RowKit Go.Maps

set_option maxHeartbeats 800000 in
theorem gets_in (s x : ByteArray) (q n e0 : Int) (w : World) (htab : Tab w) (hs : s.size ≤ 3000)
    (A : Hid (∀ w, Tab w → Calls Tryd.prog 16 #[.string s, .int .u8 q] w fun e w' => e = ret3 x n e0 ∧ Below w.heap.size w w'))
    (B : Hid (∀ w, Calls Tryd.prog 17 #[.string s, .int .u8 q] w fun e w' => e = ret3 x n e0 ∧ Below w.heap.size w w')) :
    Calls Tryd.prog 4 #[.string s, .int .u8 q] w fun e w' => e = .returned (.bool true) ∧ Below w.heap.size w w' := by
  have HT := Lib.hid htab
  clear htab
  go_enter Tryd.func4, Tryd.ntmps4
  go_wp2_with fail
  refine (alive_is _ HT.out).mono ?_
  rintro e w1 ⟨rfl, b1⟩
  have T1 := Lib.hid (HT.out.on b1)
  go_wp2_with fail
  refine (A.out _ T1.out).mono ?_
  rintro e w2 ⟨rfl, b2⟩
  go_wp2_with fail
  refine (B.out _).mono ?_
  rintro e w3 ⟨rfl, b3⟩
  go_wp2_with fail
  go_ret
  exact ⟨rfl, bt (bt b1 b2) b3⟩

set_option maxHeartbeats 400000 in
theorem gets_walk (s : ByteArray) (q : Int) (w : World) (hs : s.size ≤ maxLen) (_h0 : 0 ≤ q) (_h1 : q ≤ 255) (htab : Tab w) :
    Calls Tryd.prog 4 #[.string s, .int .u8 q] w fun e w' => e = .returned (.bool true) ∧ Below w.heap.size w w' := by
  by_cases h : s.size ≤ 3000
  · have A := fun w ht => get_is s q w (by omega) ht
    have B := fun w => ref_get s q w (by omega)
    rcases hg : getL q s.data.toList with _ | ⟨b, k⟩
    · rw [hg] at A B
      exact gets_in s ⟨#[]⟩ q 0 5 w htab h (Lib.hid fun w ht => A w ht) (Lib.hid fun w => B w)
    · rw [hg] at A B
      exact gets_in s ⟨b.toArray⟩ q k 0 w htab h (Lib.hid fun w ht => A w ht) (Lib.hid fun w => B w)
  have h' : 3000 < s.size := by omega
  have HT := Lib.hid htab
  clear htab h
  unfold maxLen at hs
  go_enter Tryd.func4, Tryd.ntmps4
  go_wp2_with fail
  refine (alive_is _ HT.out).mono ?_
  rintro e w1 ⟨rfl, b1⟩
  go_wp2_with fail
  go_ret
  exact ⟨rfl, b1⟩

end Go.Proofs.YtnkkenchabcpoaaDoor
