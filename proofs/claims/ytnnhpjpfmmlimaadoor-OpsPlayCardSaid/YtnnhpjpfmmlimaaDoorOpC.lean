/- The program's table of operators: what a name is in a sort. Conditions: as each states; the listed variables read as the text lays them. -/
import Derived.Test.YtnnhpjpfmmlimaaDoorOpB
namespace Go.Proofs.YtnnhpjpfmmlimaaDoor
open Go Go.RowKit Go.Maps
open Go.WideMaps Go.WideElems

def shapesL : List Value := [.int .i64 0, .int .i64 0, .int .i64 0, .int .i64 2, .int .i64 1, .int .i64 1, .int .i64 2, .int .i64 1, .int .i64 0, .int .i64 2, .int .i64 0, .int .i64 1, .int .i64 1, .int .i64 0, .int .i64 1, .int .i64 1, .int .i64 0, .int .i64 0, .int .i64 3, .int .i64 1, .int .i64 0, .int .i64 3, .int .i64 0, .int .i64 0]
def rivalsL : List Value := [.int .i64 0, .int .i64 0, .int .i64 3, .int .i64 2]
/-- the listed variables, as the program's text lays them -/
structure Lay (w : World) : Prop where
  sp : ∀ c : Nat, c < 256 → w.cell? ⟨1, c, none⟩ = some (.int .u8 (if Lib.isSp (UInt8.ofNat c) then 1 else 0))
  sh : ∀ i v, shapesL[i]? = some v → w.cell? ⟨0, i, none⟩ = some v
  rv : ∀ i v, rivalsL[i]? = some v → w.cell? ⟨2, i, none⟩ = some v
theorem Lay.on {w w' : World} (h : Lay w) (b : Below w.heap.size w w') : Lay w' :=
  ⟨fun c hc => (b.cell (p := ⟨1, c, none⟩) (World.block_lt_of_cell? _ _ (h.sp c hc))).trans (h.sp c hc),
   fun i v hi => (b.cell (p := ⟨0, i, none⟩) (World.block_lt_of_cell? _ _ (h.sh i v hi))).trans (h.sh i v hi),
   fun i v hi => (b.cell (p := ⟨2, i, none⟩) (World.block_lt_of_cell? _ _ (h.rv i v hi))).trans (h.rv i v hi)⟩

set_option maxHeartbeats 800000 in
theorem has_is (a m : Nat) (L : List Df) (n : ByteArray) (s : Int) (w : World) (h : Tb w a m L) (hn : n.size ≤ maxLen) (hs : s = 0 ∨ s = 1 ∨ s = 2 ∨ s = 3) :
    Calls Tryd.prog 31 #[.pointer (some ⟨a, 0, none⟩), .agg #[.string n, .int .i64 s]] w fun e w' => e = .returned (.bool (fnd L n s).isSome) ∧ Below w.heap.size w w' := by
  have hT := h.alloc (.cells #[.string n, .int .i64 s] 71)
  have F := find_is a m L n s _ hT hn hs
  have hW : Below w.heap.size w (w.alloc (.cells #[.string n, .int .i64 s] 71)) := (Below.refl _ _).alloc (Nat.le_refl _) _
  obtain ⟨p, hp⟩ : ∃ p, (getd (fnd L n s)).pri = p := ⟨_, rfl⟩
  obtain ⟨t, ht⟩ : ∃ t, (getd (fnd L n s)).typ = t := ⟨_, rfl⟩
  obtain ⟨x, hx⟩ : ∃ x, (getd (fnd L n s)).name = x := ⟨_, rfl⟩
  obtain ⟨b, hb⟩ : ∃ b, (fnd L n s).isSome = b := ⟨_, rfl⟩
  rw [hp, ht, hx, hb] at F
  rw [hb]
  have HF := Lib.hid F
  have HW := Lib.hid hW
  clear hp ht hx hb h hT F hW
  go_enter Tryd.func31, Tryd.ntmps31
  go_wp2_with fail
  refine HF.out.mono ?_
  rintro e w1 ⟨rfl, b1⟩
  have B1 := Lib.hid (HW.out.trans (b1.mono HW.out.size))
  clear b1
  go_wp2_with fail
  go_ret
  exact ⟨rfl, B1.out.alloc B1.out.size _⟩

theorem fixed_is (n : ByteArray) (w : World) :
    Calls Tryd.prog 30 #[.string n] w fun e w' => e = .returned (.bool (n.toList == [44] || n.toList == [124] || n.toList == [91, 93] || n.toList == [123, 125])) ∧ w' = w := by
  obtain ⟨b1, h1⟩ : ∃ b, (n.toList == [44]) = b := ⟨_, rfl⟩
  obtain ⟨b2, h2⟩ : ∃ b, (n.toList == [124]) = b := ⟨_, rfl⟩
  obtain ⟨b3, h3⟩ : ∃ b, (n.toList == [91, 93]) = b := ⟨_, rfl⟩
  obtain ⟨b4, h4⟩ : ∃ b, (n.toList == [123, 125]) = b := ⟨_, rfl⟩
  rw [h1, h2, h3, h4]
  cases b1 <;> cases b2 <;> cases b3 <;> cases b4 <;>
  · go_enter Tryd.func30, Tryd.ntmps30
    go_wp2_with fail
    go_ret
    exact ⟨rfl, rfl⟩

theorem clone_is (n : ByteArray) (w : World) (hn : n.size ≤ 2000) : Calls Tryd.prog 33 #[.string n] w fun e w' => e = .returned (.string n) ∧ Below w.heap.size w w' := by
  have C := Lib.hid (Tryd.stringslite_Clone n w (by omega))
  go_enter Tryd.func33, Tryd.ntmps33
  go_wp2_with fail
  refine C.out.mono ?_
  rintro e w1 ⟨rfl, b1⟩
  have B1 := Lib.hid b1
  clear b1
  go_wp2_with fail
  go_ret
  exact ⟨rfl, B1.out⟩

end Go.Proofs.YtnnhpjpfmmlimaaDoor
