/- The document's examples of layer 2 hold (alive). Conditions: the library's variables hold what their text lays. -/
import Derived.Test.YtnkkenchabcpoaaDoorNameO
namespace Go.Proofs.YtnkkenchabcpoaaDoor
open Go Go.RowKit Go.Maps

theorem get_at (l : List UInt8) (q : Int) (b : List UInt8) (k : Nat) (h : getL q l = some (b, k)) (hl : l.length ≤ 18000) (w : World) (htab : Tab w) :
    Calls Tryd.prog 16 #[.string ⟨l.toArray⟩, .int .u8 q] w fun e w' => e = ret3 ⟨b.toArray⟩ k 0 ∧ Below w.heap.size w w' := by
  have := get_is ⟨l.toArray⟩ q w (by show l.toArray.size ≤ 18000; simpa using hl) htab
  rw [show getL q (ByteArray.mk l.toArray).data.toList = some (b, k) from h] at this
  exact this
theorem put_at (l p : List UInt8) (h : putL l = p) (hl : l.length ≤ 4000) (w : World) (htab : Tab w) :
    Calls Tryd.prog 14 #[.string ⟨l.toArray⟩] w fun e w' => e = .returned (.string ⟨p.toArray⟩) ∧ Below w.heap.size w w' := by
  have := put_is ⟨l.toArray⟩ w (by show l.toArray.size ≤ 4000; simpa using hl) htab
  rw [show putL (ByteArray.mk l.toArray).data.toList = p from h] at this
  exact this

set_option maxHeartbeats 800000 in
theorem alive_is (w : World) (htab : Tab w) :
    Calls Tryd.prog 9 #[] w fun e w' => e = .returned (.bool true) ∧ Below w.heap.size w w' := by
  have HT := Lib.hid htab
  clear htab
  have C1 := Lib.hid (fun w => get_at [97, 39, 39, 98, 39, 32, 99] 39 [97, 39, 98] 5 (by decide +kernel) (by decide) w)
  have C2 := Lib.hid (fun w => put_at [102, 111, 111] [102, 111, 111] (by decide +kernel) (by decide) w)
  have C3 := Lib.hid (fun w => put_at [70, 111, 111] [39, 70, 111, 111, 39] (by decide +kernel) (by decide) w)
  have C4 := Lib.hid (fun w => put_at [91, 93] [91, 93] (by decide +kernel) (by decide) w)
  have C5 := Lib.hid (fun w => put_at [105, 116, 39, 115] [39, 105, 116, 92, 39, 115, 39] (by decide +kernel) (by decide) w)
  go_enter Tryd.func9, Tryd.ntmps9
  go_wp2_with fail
  refine (C1.out _ HT.out).mono ?_
  rintro e w1 ⟨rfl, b1⟩
  have T1 := Lib.hid (HT.out.on b1)
  go_wp2_with fail
  refine (C2.out _ T1.out).mono ?_
  rintro e w2 ⟨rfl, b2⟩
  have T2 := Lib.hid (T1.out.on b2)
  go_wp2_with fail
  refine (C3.out _ T2.out).mono ?_
  rintro e w3 ⟨rfl, b3⟩
  have T3 := Lib.hid (T2.out.on b3)
  go_wp2_with fail
  refine (C4.out _ T3.out).mono ?_
  rintro e w4 ⟨rfl, b4⟩
  have T4 := Lib.hid (T3.out.on b4)
  go_wp2_with fail
  refine (C5.out _ T4.out).mono ?_
  rintro e w5 ⟨rfl, b5⟩
  go_wp2_with fail
  go_ret
  exact ⟨rfl, bt (bt (bt (bt b1 b2) b3) b4) b5⟩

end Go.Proofs.YtnkkenchabcpoaaDoor
