/- The program's table of operators: priorities and sides. Conditions: the listed variables read as the text lays them. -/
import Derived.Test.YtnnhpjpfmmlimaaDoorOpC
namespace Go.Proofs.YtnnhpjpfmmlimaaDoor
open Go Go.RowKit Go.Maps
open Go.WideMaps Go.WideElems

def lft (t : Int) : Int := if t = 1 ∨ t = 2 ∨ t = 6 then 1 else 0
def rgt (t : Int) : Int := if t = 1 ∨ t = 3 ∨ t = 4 then 1 else 0
/-- a name's priority in a sort, and what its sides may have -/
def sidesZ (L : List Df) (n : ByteArray) (s : Int) : Int × Int × Int :=
  match fnd L n s with
  | none => (0, 0, 0)
  | some d => (d.pri, d.pri - lft d.typ, d.pri - rgt d.typ)

set_option maxRecDepth 100000 in
set_option maxHeartbeats 1600000 in
theorem sides_is (a m : Nat) (L : List Df) (n : ByteArray) (s : Int) (w : World) (hl : Lay w) (h : Tb w a m L) (hn : n.size ≤ maxLen) (hs : s = 0 ∨ s = 1 ∨ s = 2 ∨ s = 3) :
    Calls Tryd.prog 36 #[.pointer (some ⟨a, 0, none⟩), .agg #[.string n, .int .i64 s]] w fun e w' =>
      e = .returned (.tuple #[.int .i64 (sidesZ L n s).1, .int .i64 (sidesZ L n s).2.1, .int .i64 (sidesZ L n s).2.2]) ∧ Below w.heap.size w w' := by
  have hT := h.alloc (.cells #[.string n, .int .i64 s] 71)
  have F := find_is a m L n s _ hT hn hs
  have hW : Below w.heap.size w (w.alloc (.cells #[.string n, .int .i64 s] 71)) := (Below.refl _ _).alloc (Nat.le_refl _) _
  have HW := Lib.hid hW
  have HL := Lib.hid (hl.on hW)
  unfold sidesZ
  have wf := h.wf
  cases hf : fnd L n s with
  | none =>
    rw [hf] at F
    have HF := Lib.hid F
    clear F hT hW h hl hf wf
    unfold getd zdf at HF
    simp only [Option.getD_none, Option.isSome_none] at HF
    go_enter Tryd.func36, Tryd.ntmps36
    go_wp2_with fail
    refine HF.out.mono ?_
    rintro e w1 ⟨rfl, b1⟩
    have B1 := Lib.hid (HW.out.trans (b1.mono HW.out.size))
    clear b1
    go_wp2_with fail
    go_ret3
    exact ⟨rfl, B1.out.alloc B1.out.size _⟩
  | some d =>
    rw [hf] at F
    obtain ⟨p, t, x⟩ := d
    obtain ⟨hp1, hp2, ht1, ht2, _⟩ := wf.fit _ (fnd_mem hf).1
    simp only at hp1 hp2 ht1 ht2
    have HF := Lib.hid F
    clear F hT hW h hl hf wf
    unfold getd at HF
    simp only [Option.getD_some, Option.isSome_some] at HF ⊢
    obtain rfl | rfl | rfl | rfl | rfl | rfl | rfl : t = 1 ∨ t = 2 ∨ t = 3 ∨ t = 4 ∨ t = 5 ∨ t = 6 ∨ t = 7 := by omega
    all_goals
      have HP := Lib.hid (And.intro hp1 hp2)
      clear hp1 hp2 ht1 ht2
      go_enter Tryd.func36, Tryd.ntmps36
      go_wp2_with fail
      refine HF.out.mono ?_
      rintro e w1 ⟨rfl, b1⟩
      have B1 := Lib.hid (HW.out.trans (b1.mono HW.out.size))
      have L1 := HL.out.on b1
      have lt1 := World.block_lt_of_cell? _ _ (L1.sh 0 _ rfl)
      have hne : ∀ k, (⟨0, k, none⟩ : Addr).block ≠ w1.heap.size := fun k => Nat.ne_of_lt lt1
      obtain ⟨s3, s4, s5⟩ := And.intro (L1.sh 3 _ rfl) (And.intro (L1.sh 4 _ rfl) (L1.sh 5 _ rfl))
      obtain ⟨s6, s7, s8⟩ := And.intro (L1.sh 6 _ rfl) (And.intro (L1.sh 7 _ rfl) (L1.sh 8 _ rfl))
      obtain ⟨s9, s10, s11⟩ := And.intro (L1.sh 9 _ rfl) (And.intro (L1.sh 10 _ rfl) (L1.sh 11 _ rfl))
      obtain ⟨s12, s13, s14⟩ := And.intro (L1.sh 12 _ rfl) (And.intro (L1.sh 13 _ rfl) (L1.sh 14 _ rfl))
      obtain ⟨s15, s16, s17⟩ := And.intro (L1.sh 15 _ rfl) (And.intro (L1.sh 16 _ rfl) (L1.sh 17 _ rfl))
      obtain ⟨s18, s19, s20⟩ := And.intro (L1.sh 18 _ rfl) (And.intro (L1.sh 19 _ rfl) (L1.sh 20 _ rfl))
      obtain ⟨s21, s22, s23⟩ := And.intro (L1.sh 21 _ rfl) (And.intro (L1.sh 22 _ rfl) (L1.sh 23 _ rfl))
      have lt0 : 0 < w1.heap.size := lt1
      clear L1 b1 lt1
      go_wp2_with fail
      obtain ⟨hp1, hp2⟩ := HP.out
      go_quiet (fail)
      go_wp2_with fail
      go_ret3
      refine ⟨by simp [lft, rgt], ((B1.out.alloc B1.out.size _).alloc ?_ _).trans ⟨rfl, rfl, rfl, Nat.le_refl _, fun _ _ => rfl⟩⟩
      have := B1.out.size
      simp
      omega

set_option maxHeartbeats 800000 in
theorem prefix_is (a m : Nat) (L : List Df) (n : ByteArray) (w : World) (hl : Lay w) (h : Tb w a m L) (hn : n.size ≤ maxLen) :
    Calls Tryd.prog 14 #[.pointer (some ⟨a, 0, none⟩), .string n] w fun e w' => e = .returned (.tuple #[.int .i64 (sidesZ L n 1).1, .int .i64 (sidesZ L n 1).2.2]) ∧ Below w.heap.size w w' := by
  have F := Lib.hid (sides_is a m L n 1 w hl h hn (by decide))
  clear h hl
  go_enter Tryd.func14, Tryd.ntmps14
  go_wp2_with fail
  refine F.out.mono ?_
  rintro e w1 ⟨rfl, b1⟩
  have B1 := Lib.hid b1
  clear b1
  go_wp2_with fail
  go_ret2
  exact ⟨rfl, B1.out⟩

set_option maxHeartbeats 800000 in
theorem infix_is (a m : Nat) (L : List Df) (n : ByteArray) (w : World) (hl : Lay w) (h : Tb w a m L) (hn : n.size ≤ maxLen) :
    Calls Tryd.prog 16 #[.pointer (some ⟨a, 0, none⟩), .string n] w fun e w' => e = .returned (.tuple #[.int .i64 (sidesZ L n 2).1, .int .i64 (sidesZ L n 2).2.1, .int .i64 (sidesZ L n 2).2.2]) ∧ Below w.heap.size w w' := by
  have F := Lib.hid (sides_is a m L n 2 w hl h hn (by decide))
  clear h hl
  go_enter Tryd.func16, Tryd.ntmps16
  go_wp2_with fail
  refine F.out.mono ?_
  rintro e w1 ⟨rfl, b1⟩
  have B1 := Lib.hid b1
  clear b1
  go_wp2_with fail
  go_ret3
  exact ⟨rfl, B1.out⟩

set_option maxHeartbeats 800000 in
theorem postfix_is (a m : Nat) (L : List Df) (n : ByteArray) (w : World) (hl : Lay w) (h : Tb w a m L) (hn : n.size ≤ maxLen) :
    Calls Tryd.prog 18 #[.pointer (some ⟨a, 0, none⟩), .string n] w fun e w' => e = .returned (.tuple #[.int .i64 (sidesZ L n 3).1, .int .i64 (sidesZ L n 3).2.1]) ∧ Below w.heap.size w w' := by
  have F := Lib.hid (sides_is a m L n 3 w hl h hn (by decide))
  clear h hl
  go_enter Tryd.func18, Tryd.ntmps18
  go_wp2_with fail
  refine F.out.mono ?_
  rintro e w1 ⟨rfl, b1⟩
  have B1 := Lib.hid b1
  clear b1
  go_wp2_with fail
  go_ret2
  exact ⟨rfl, B1.out⟩

def isZ (L : List Df) (n : ByteArray) : Bool := (fnd L n 1).isSome || (fnd L n 2).isSome || (fnd L n 3).isSome
set_option maxHeartbeats 800000 in
theorem is_is (a m : Nat) (L : List Df) (n : ByteArray) (w : World) (h : Tb w a m L) (hn : n.size ≤ maxLen) :
    Calls Tryd.prog 20 #[.pointer (some ⟨a, 0, none⟩), .string n] w fun e w' => e = .returned (.bool (isZ L n)) ∧ Below w.heap.size w w' := by
  have F1 := Lib.hid (has_is a m L n 1 w h hn (by decide))
  have F2 := Lib.hid (fun w1 (b : Below w.heap.size w w1) => has_is a m L n 2 w1 (h.on b) hn (by decide))
  have F3 := Lib.hid (fun w1 (b : Below w.heap.size w w1) => has_is a m L n 3 w1 (h.on b) hn (by decide))
  unfold isZ
  clear h
  cases h1 : (fnd L n 1).isSome
  · cases h2 : (fnd L n 2).isSome
    · obtain ⟨b3, h3⟩ : ∃ b, (fnd L n 3).isSome = b := ⟨_, rfl⟩
      rw [h1] at F1
      rw [h2] at F2
      rw [h3] at F3 ⊢
      clear h1 h2 h3
      go_enter Tryd.func20, Tryd.ntmps20
      go_wp2_with fail
      refine F1.out.mono ?_
      rintro e w1 ⟨rfl, b1⟩
      have B1 := Lib.hid b1
      clear b1
      go_wp2_with fail
      refine (F2.out _ B1.out).mono ?_
      rintro e w2 ⟨rfl, b2⟩
      have B2 := Lib.hid (bt B1.out b2)
      clear b2
      go_wp2_with fail
      refine (F3.out _ B2.out).mono ?_
      rintro e w3 ⟨rfl, b3⟩
      have B3 := Lib.hid (bt B2.out b3)
      clear b3
      go_wp2_with fail
      go_ret
      exact ⟨rfl, B3.out⟩
    · rw [h1] at F1
      rw [h2] at F2
      clear h1 h2
      go_enter Tryd.func20, Tryd.ntmps20
      go_wp2_with fail
      refine F1.out.mono ?_
      rintro e w1 ⟨rfl, b1⟩
      have B1 := Lib.hid b1
      clear b1
      go_wp2_with fail
      refine (F2.out _ B1.out).mono ?_
      rintro e w2 ⟨rfl, b2⟩
      have B2 := Lib.hid (bt B1.out b2)
      clear b2
      go_wp2_with fail
      go_ret
      exact ⟨rfl, B2.out⟩
  · rw [h1] at F1
    clear h1
    go_enter Tryd.func20, Tryd.ntmps20
    go_wp2_with fail
    refine F1.out.mono ?_
    rintro e w1 ⟨rfl, b1⟩
    have B1 := Lib.hid b1
    clear b1
    go_wp2_with fail
    go_ret
    exact ⟨rfl, B1.out⟩

end Go.Proofs.YtnnhpjpfmmlimaaDoor
