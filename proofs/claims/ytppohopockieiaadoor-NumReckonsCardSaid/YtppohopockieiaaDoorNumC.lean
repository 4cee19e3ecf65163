/- num.Two by its table: what an operator's function comes to, Two comes to. Conditions: the text's length is at most maxLen. -/
import Derived.Test.YtppohopockieiaaDoorNumB
import Derived.Shelf.Abstract
namespace Go.Proofs.YtppohopockieiaaDoor
open Go Go.RowKit Go.Maps Go.Shelf
open Go.WideMaps Go.WideElems

theorem enters31 : ∀ args w, (callFunc 31 args).run Tryd.prog w = .ok (.enter 31 args) w := enters_of Tryd.func31 (by kernel_rfl) rfl

set_option maxHeartbeats 400000 in
theorem two_by (s : ByteArray) (hs : s.size ≤ maxLen) (f : Nat) (he : ∀ args w, (callFunc f args).run Tryd.prog w = .ok (.enter f args) w) (hat : twoD.atKey (.string s.data.toList) .nil = .lit (.int .i64 f)) (a b n q : Int)
    (c : ∀ w, Calls Tryd.prog f #[.agg #[.int .i64 a, .int .i64 b]] w fun e w' => e = ret n q ∧ Below w.heap.size w w') (w : World) :
    Calls Tryd.prog 11 #[.string s, .int .i64 a, .int .i64 b] w fun e w' => e = ret n q ∧ Below w.heap.size w w' := by
  have C := Lib.hid c
  have hat' := Lib.hid hat
  clear c hat
  have zero : ∀ w, (zeroValue 33).run Tryd.prog w = .ok .nilFunc w := fun w => by kernel_rfl
  go_enter Tryd.func11, Tryd.ntmps11
  go_wp2_with (first | (go_at_call 19; refine (ofTwo_is _).mono ?_; rintro e w1 ⟨rfl, hown, hbl⟩; have hrun := own_fn_there hown strKey Tryd.underlying35 (zero w1) (keyOf_str hs) hat'.out; clear hown) | (go_at_fn f; refine (C.out _).mono ?_; rintro e w2 ⟨rfl, hbm⟩))
  go_ret2
  exact ⟨rfl, hbl.trans (hbm.mono hbl.size)⟩

end Go.Proofs.YtppohopockieiaaDoor
