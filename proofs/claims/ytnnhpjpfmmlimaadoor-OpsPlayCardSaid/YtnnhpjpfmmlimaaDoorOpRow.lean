/- What the rows of this seat share: the listed variables as the program's text lays them, what they give a walk, and arguments that are rows of operators. Conditions: none. -/
import Derived.Test.YtnnhpjpfmmlimaaDoorOpM
import Derived.Test.YtnnhpjpfmmlimaaDoorTie
import Derived.ProofKit
import Derived.LaidMore
import Derived.LaidLaws
import Derived.OpenShut
import Derived.RowKitTokens
import Derived.Lib.LaidTab
import Derived.Lib.LaidU8
import Derived.Lib.SmallJoins
import Derived.Deep.DeepLaidRun
import Derived.Deep.Slices
import Derived.Deep.Fields
import Derived.Stop.Joined
import Derived.Stop.LaidErr
import Derived.SevenTiedAt
namespace Go.Proofs.YtnnhpjpfmmlimaaDoor
open Go Go.ChangeShapes Go.WideShapes Go.ChangeAt Go.WideMaps Go.WideElems Go.RowKit Go.Deep Go.Joins
open Go.ChangeMaps (open_string shut_string)

theorem own : ownKnob Tryd.prog.godebug = none := by kernel_rfl
/-- the list that each row of this seat bears -/
def laid4 : List (String × DataW Unit) := [("unicode.White_Space", Rows.laid_unicode_White_Space), ("strings.asciiSpace", Rows.laid_strings_asciiSpace), ("prolix/ops.shapes", Rows.laid_prolix_ops_shapes), ("prolix/ops.rivals", Rows.laid_prolix_ops_rivals)]
set_option maxRecDepth 100000 in
theorem door_met (os : Os) (args : Array Value) : laidMetH Tryd.prog laid4 ((World.doorLaid Tryd.prog 50 os).forCall (fun _ _ => 0) ⟨#[], args, []⟩).memory :=
  laidMetH_of_parts3 (fuel := 8) (laidMet_of_run3 8 (by kernel_rfl) (by kernel_rfl) (by kernel_rfl)) (by kernel_rfl) (by kernel_rfl)

theorem gSp : Tryd.prog.globalNamed "strings.asciiSpace" = some 1 := by kernel_rfl
theorem tSp : (Tryd.prog.globals[1]?).map (·.type) = some 83 := by kernel_rfl
theorem gSh : Tryd.prog.globalNamed "prolix/ops.shapes" = some 0 := by kernel_rfl
theorem tSh : (Tryd.prog.globals[0]?).map (·.type) = some 69 := by kernel_rfl
theorem gRv : Tryd.prog.globalNamed "prolix/ops.rivals" = some 2 := by kernel_rfl
theorem tRv : (Tryd.prog.globals[2]?).map (·.type) = some 88 := by kernel_rfl
theorem cShape : Tryd.prog.cellsOf 68 = 3 := by kernel_rfl
theorem cShapes : Tryd.prog.cellsOf 69 = 24 := by kernel_rfl

def shapeZ : List (List Int) := [[0, 0, 0], [2, 1, 1], [2, 1, 0], [2, 0, 1], [1, 0, 1], [1, 0, 0], [3, 1, 0], [3, 0, 0]]
theorem shapes_dat : Rows.laid_prolix_ops_shapes (H := Unit) = .agg (shapeZ.map fun zs => .agg (zs.map fun z => .lit (.int .i64 z))) := rfl
theorem shape_field : ∀ (i : Nat) (f : Field), (match Tryd.prog.underlying 68 with | some (.struct fs) => fs | _ => #[])[i]? = some f → Tryd.prog.underlying f.type = some (.int .i64) ∧ f.offset = i ∧ Tryd.prog.cellsOf f.type = 1 := by
  rw [Tryd.underlying68]
  intro i f hf
  have hi : i < 3 := by
    have := (Array.getElem?_eq_some_iff.1 hf).1
    simpa using this
  obtain rfl | rfl | rfl : i = 0 ∨ i = 1 ∨ i = 2 := by omega
  all_goals
    cases hf
    exact ⟨Tryd.underlying3, rfl, intCells⟩
theorem shapes_size {w : World} {name : String} {cs : Array Value} {ds : List (DataW Unit)} {p : List MemPlace} {fuel : Nat} (_h : w.var? Tryd.prog name = some cs) (ht : DataW.trod (fun _ => ()) Tryd.prog w 0 (fun _ => true) false fuel 69 cs.toList = some (.agg ds, p)) : cs.size = 24 := by
  cases fuel with
  | zero => simp [DataW.trod] at ht
  | succ fuel =>
    simp only [DataW.trod, Tryd.underlying69] at ht
    split at ht
    · rename_i h0
      rw [cShapes] at h0
      simpa using h0
    · cases ht

set_option maxRecDepth 100000 in
theorem lay_of {W : World} (h : laidMetH Tryd.prog laid4 W) : Lay W := by
  rw [MakeChecks.laidMetH_plain _ _ _ (by kernel_rfl)] at h
  have h1 := Lib.tabIs_of_head (zs := Lib.asciiSpaceTab) gSp tSp Tryd.underlying83 Tryd.underlying5 (by kernel_rfl) (by kernel_rfl) h.tail
  have h3 := Lib.tabIs_of_head (zs := [0, 0, 3, 2]) gRv tRv Tryd.underlying88 Tryd.underlying3 (by kernel_rfl) (by kernel_rfl) h.tail.tail.tail
  obtain ⟨g, t, cs, fuel, p, hg, ht, hv, hd⟩ := Lib.laidMet.reads h.tail.tail (n := "prolix/ops.shapes") (d := Rows.laid_prolix_ops_shapes) (List.mem_cons_self)
  obtain rfl := Option.some.inj (gSh.symm.trans hg)
  obtain rfl := Option.some.inj (tSh.symm.trans ht)
  rw [shapes_dat] at hd
  have hsz := shapes_size hv hd
  refine ⟨fun c hc => ?_, fun i v hi => ?_, fun i v hi => ?_⟩
  · rw [h1.cell gSp c (by rw [Lib.asciiSpaceTab_length]; exact hc), Lib.asciiSpaceTab_at c hc]
  · have hi24 : i < 24 := by
      have := (List.getElem?_eq_some_iff.1 hi).1
      simpa [shapesL] using this
    obtain ⟨f', d, q, hds, htr⟩ := Lib.array_elem Tryd.underlying69 hd (i / 3) (by omega)
    rw [cShape] at htr
    rw [List.getElem?_map] at hds
    obtain ⟨zs, hzs⟩ : ∃ zs, shapeZ[i / 3]? = some zs := ⟨_, List.getElem?_eq_getElem (by show i / 3 < 8; omega)⟩
    rw [hzs] at hds
    obtain rfl := Option.some.inj hds
    have hi3 := Lib.ints_of_struct (fs := (match Tryd.prog.underlying 68 with | some (.struct fs) => fs | _ => #[])) (by rw [Tryd.underlying68]) shape_field (by rw [Tryd.underlying68, cShape]; rfl) htr
    have hval : cs.toList[i]? = (zs.map fun z => Value.int .i64 z)[i % 3]? := by
      rw [← hi3, List.getElem?_take, if_pos (by omega), List.getElem?_drop]
      congr 1
      omega
    have hL : shapesL[i]? = (zs.map fun z => Value.int .i64 z)[i % 3]? := by
      have : ∀ i, i < 24 → ∀ zs, shapeZ[i / 3]? = some zs → shapesL[i]? = (zs.map fun z => Value.int .i64 z)[i % 3]? := by
        intro i hi zs hz
        have : i = 0 ∨ i = 1 ∨ i = 2 ∨ i = 3 ∨ i = 4 ∨ i = 5 ∨ i = 6 ∨ i = 7 ∨ i = 8 ∨ i = 9 ∨ i = 10 ∨ i = 11 ∨ i = 12 ∨ i = 13 ∨ i = 14 ∨ i = 15 ∨ i = 16 ∨ i = 17 ∨ i = 18 ∨ i = 19 ∨ i = 20 ∨ i = 21 ∨ i = 22 ∨ i = 23 := by omega
        rcases this with rfl | rfl | rfl | rfl | rfl | rfl | rfl | rfl | rfl | rfl | rfl | rfl | rfl | rfl | rfl | rfl | rfl | rfl | rfl | rfl | rfl | rfl | rfl | rfl <;> (cases hz; rfl)
      exact this i hi24 zs hzs
    rw [hL, ← hval] at hi
    have := World.var?_cell gSh hv i
    rw [this]
    simpa using hi
  · have hi4 : i < 4 := by
      have := (List.getElem?_eq_some_iff.1 hi).1
      simpa [rivalsL] using this
    have := h3.cell gRv i (by simpa using hi4)
    rw [this]
    obtain rfl | rfl | rfl | rfl : i = 0 ∨ i = 1 ∨ i = 2 ∨ i = 3 := by omega
    all_goals exact hi

end Go.Proofs.YtnnhpjpfmmlimaaDoor
