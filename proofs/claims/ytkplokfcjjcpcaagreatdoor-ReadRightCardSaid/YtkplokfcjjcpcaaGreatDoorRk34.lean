/- Joined texts: RdLaid. Conditions: as each states. -/
import Derived.Test.YtkplokfcjjcpcaaGreatDoorRk33
import Derived.Test.YtkplokfcjjcpcaaGreatDoorPk31
import Derived.Lib.LaidU8
import Derived.Lib.SmallJoins
import Derived.Deep.DeepLaidRun
import Derived.Deep.Slices
import Derived.Deep.Fields
namespace Go.Proofs.YtkplokfcjjcpcaaGreatDoor
open Go Go.RowKit Go.Deep Go.Joins
def laidX (X : List (String × DataW Unit)) : List (String × DataW Unit) := ("math/bits.deBruijn32tab", Rows.laid_math_bits_deBruijn32tab) :: ("math/bits.deBruijn64tab", Rows.laid_math_bits_deBruijn64tab) :: ("internal/strconv.uint64pow10", Rows.laid_internal_strconv_uint64pow10) :: ("strconv.ErrRange", Rows.laid_strconv_ErrRange) :: ("strconv.ErrSyntax", Rows.laid_strconv_ErrSyntax) :: ("unicode.White_Space", Rows.laid_unicode_White_Space) :: ("strings.asciiSpace", Rows.laid_strings_asciiSpace) :: ("prolix/ops.shapes", Rows.laid_prolix_ops_shapes) :: X
def laid9 : List (String × DataW Unit) := [("math/bits.deBruijn32tab", Rows.laid_math_bits_deBruijn32tab), ("math/bits.deBruijn64tab", Rows.laid_math_bits_deBruijn64tab), ("internal/strconv.uint64pow10", Rows.laid_internal_strconv_uint64pow10), ("strconv.ErrRange", Rows.laid_strconv_ErrRange), ("strconv.ErrSyntax", Rows.laid_strconv_ErrSyntax), ("unicode.White_Space", Rows.laid_unicode_White_Space), ("strings.asciiSpace", Rows.laid_strings_asciiSpace), ("prolix/ops.shapes", Rows.laid_prolix_ops_shapes), ("prolix/ops.rivals", Rows.laid_prolix_ops_rivals)]
set_option maxRecDepth 100000 in
theorem door_met9 (os : Os) (args : Array Value) : laidMetH Tryz.prog laid9 ((World.doorLaid Tryz.prog 103 os).forCall (fun _ _ => 0) ⟨#[], args, []⟩).memory :=
  laidMetH_of_parts3 (fuel := 8) (laidMet_of_run3 8 (by kernel_rfl) (by kernel_rfl) (by kernel_rfl)) (by kernel_rfl) (by kernel_rfl)
theorem gPow : Tryz.prog.globalNamed "internal/strconv.uint64pow10" = some 5 := by kernel_rfl
theorem tPow : (Tryz.prog.globals[5]?).map (·.type) = some 275 := by kernel_rfl
theorem gSp : Tryz.prog.globalNamed "strings.asciiSpace" = some 1 := by kernel_rfl
theorem tSp : (Tryz.prog.globals[1]?).map (·.type) = some 186 := by kernel_rfl
theorem gSh : Tryz.prog.globalNamed "prolix/ops.shapes" = some 0 := by kernel_rfl
theorem tSh : (Tryz.prog.globals[0]?).map (·.type) = some 132 := by kernel_rfl
theorem gRv : Tryz.prog.globalNamed "prolix/ops.rivals" = some 2 := by kernel_rfl
theorem tRv : (Tryz.prog.globals[2]?).map (·.type) = some 191 := by kernel_rfl
theorem cShape : Tryz.prog.cellsOf 131 = 3 := by kernel_rfl
theorem cShapes : Tryz.prog.cellsOf 132 = 24 := by kernel_rfl
def shapeZ : List (List Int) := [[0, 0, 0], [2, 1, 1], [2, 1, 0], [2, 0, 1], [1, 0, 1], [1, 0, 0], [3, 1, 0], [3, 0, 0]]
theorem shapes_dat : Rows.laid_prolix_ops_shapes (H := Unit) = .agg (shapeZ.map fun zs => .agg (zs.map fun z => .lit (.int .i64 z))) := rfl
theorem shape_field : ∀ (i : Nat) (f : Field), (match Tryz.prog.underlying 131 with | some (.struct fs) => fs | _ => #[])[i]? = some f → Tryz.prog.underlying f.type = some (.int .i64) ∧ f.offset = i ∧ Tryz.prog.cellsOf f.type = 1 := by
  rw [Tryz.underlying131]
  intro i f hf
  have hi : i < 3 := by
    have := (Array.getElem?_eq_some_iff.1 hf).1
    simpa using this
  obtain rfl | rfl | rfl : i = 0 ∨ i = 1 ∨ i = 2 := by omega
  all_goals
    cases hf
    exact ⟨Tryz.underlying3, rfl, by kernel_rfl⟩
theorem shapes_size {w : World} {name : String} {cs : Array Value} {ds : List (DataW Unit)} {p : List MemPlace} {fuel : Nat} (_h : w.var? Tryz.prog name = some cs) (ht : DataW.trod (fun _ => ()) Tryz.prog w 0 (fun _ => true) false fuel 132 cs.toList = some (.agg ds, p)) : cs.size = 24 := by
  cases fuel with
  | zero => simp [DataW.trod] at ht
  | succ fuel =>
    simp only [DataW.trod, Tryz.underlying132] at ht
    split at ht
    · rename_i h0
      rw [cShapes] at h0
      simpa using h0
    · cases ht
set_option maxRecDepth 100000 in
theorem tab_plain {X : List (String × DataW Unit)} {W : World} (h : laidMet Tryz.prog (laidX X) W) : Tab W := by
  have h1 := Lib.tabIs_of_head (zs := [0, 1, 56, 2, 57, 49, 28, 3, 61, 58, 42, 50, 38, 29, 17, 4, 62, 47, 59, 36, 45, 43, 51, 22, 53, 39, 33, 30, 24, 18, 12, 5, 63, 55, 48, 27, 60, 41, 37, 16, 46, 35, 44, 21, 52, 32, 23, 11, 54, 26, 40, 15, 34, 20, 31, 10, 25, 14, 19, 9, 13, 8, 7, 6]) gBr tBr Tryz.underlying296 Tryz.underlying5 (by kernel_rfl) (by kernel_rfl) h.tail
  obtain ⟨a2, s2, hv2, _⟩ := laid_sentinel h.tail.tail.tail gRange tRange Tryz.underlying202 rowErr Tryz.underlying309 Tryz.underlying311 rfl rfl Tryz.underlying9 cellsErr cellsStr
  obtain ⟨a3, s3, hv3, _⟩ := laid_sentinel h.tail.tail.tail.tail gSyntax tSyntax Tryz.underlying202 rowErr Tryz.underlying309 Tryz.underlying311 rfl rfl Tryz.underlying9 cellsErr cellsStr
  refine ⟨?_, ⟨_, World.var?_cell gSyntax hv3 0, .inr ⟨_, _, rfl⟩⟩, ⟨_, World.var?_cell gRange hv2 0, .inr ⟨_, _, rfl⟩⟩⟩
  exact h1.cell gBr 15 (by decide)
set_option maxRecDepth 100000 in
theorem ops_plain {X : List (String × DataW Unit)} {W : World} {RV : List Value} (h : laidMet Tryz.prog (laidX X) W) (hrv : ∀ i v, RV[i]? = some v → W.cell? ⟨2, i, none⟩ = some v) : Ops.Lay RV W := by
  have h1 := Lib.tabIs_of_head (zs := Lib.asciiSpaceTab) gSp tSp Tryz.underlying186 Tryz.underlying5 (by kernel_rfl) (by kernel_rfl) h.tail.tail.tail.tail.tail.tail
  obtain ⟨g, t, cs, fuel, p, hg, ht, hv, hd⟩ := Lib.laidMet.reads h.tail.tail.tail.tail.tail.tail.tail (n := "prolix/ops.shapes") (d := Rows.laid_prolix_ops_shapes) (List.mem_cons_self)
  obtain rfl := Option.some.inj (gSh.symm.trans hg)
  obtain rfl := Option.some.inj (tSh.symm.trans ht)
  rw [shapes_dat] at hd
  have hsz := shapes_size hv hd
  refine ⟨fun c hc => ?_, fun i v hi => ?_, hrv, Nat.lt_trans (by decide) (World.block_lt_of_cell? _ _ (tab_plain h).1)⟩
  · rw [h1.cell gSp c (by rw [Lib.asciiSpaceTab_length]; exact hc), Lib.asciiSpaceTab_at c hc]
  · have hi24 : i < 24 := by
      have := (List.getElem?_eq_some_iff.1 hi).1
      simpa [Ops.shapesL] using this
    obtain ⟨f', d, q, hds, htr⟩ := Lib.array_elem Tryz.underlying132 hd (i / 3) (by omega)
    rw [cShape] at htr
    rw [List.getElem?_map] at hds
    obtain ⟨zs, hzs⟩ : ∃ zs, shapeZ[i / 3]? = some zs := ⟨_, List.getElem?_eq_getElem (by show i / 3 < 8; omega)⟩
    rw [hzs] at hds
    obtain rfl := Option.some.inj hds
    have hi3 := Lib.ints_of_struct (fs := (match Tryz.prog.underlying 131 with | some (.struct fs) => fs | _ => #[])) (by rw [Tryz.underlying131]) shape_field (by rw [Tryz.underlying131, cShape]; rfl) htr
    have hval : cs.toList[i]? = (zs.map fun z => Value.int .i64 z)[i % 3]? := by
      rw [← hi3, List.getElem?_take, if_pos (by omega), List.getElem?_drop]
      congr 1
      omega
    have hL : Ops.shapesL[i]? = (zs.map fun z => Value.int .i64 z)[i % 3]? := by
      have : ∀ i, i < 24 → ∀ zs, shapeZ[i / 3]? = some zs → Ops.shapesL[i]? = (zs.map fun z => Value.int .i64 z)[i % 3]? := by
        intro i hi zs hz
        have : i = 0 ∨ i = 1 ∨ i = 2 ∨ i = 3 ∨ i = 4 ∨ i = 5 ∨ i = 6 ∨ i = 7 ∨ i = 8 ∨ i = 9 ∨ i = 10 ∨ i = 11 ∨ i = 12 ∨ i = 13 ∨ i = 14 ∨ i = 15 ∨ i = 16 ∨ i = 17 ∨ i = 18 ∨ i = 19 ∨ i = 20 ∨ i = 21 ∨ i = 22 ∨ i = 23 := by omega
        rcases this with rfl | rfl | rfl | rfl | rfl | rfl | rfl | rfl | rfl | rfl | rfl | rfl | rfl | rfl | rfl | rfl | rfl | rfl | rfl | rfl | rfl | rfl | rfl | rfl <;> (cases hz; rfl)
      exact this i hi24 zs hzs
    rw [hL, ← hval] at hi
    have := World.var?_cell gSh hv i
    rw [this]
    simpa using hi
theorem rv_plain {W : World} (h : laidMet Tryz.prog laid9 W) (i : Nat) (v : Value) (hi : Ops.rivalsL[i]? = some v) : W.cell? ⟨2, i, none⟩ = some v := by
  have h3 := Lib.tabIs_of_head (zs := [0, 0, 3, 2]) gRv tRv Tryz.underlying191 Tryz.underlying3 (by kernel_rfl) (by kernel_rfl) h.tail.tail.tail.tail.tail.tail.tail.tail
  have hi4 : i < 4 := by
    have := (List.getElem?_eq_some_iff.1 hi).1
    simpa [Ops.rivalsL] using this
  have := h3.cell gRv i (by simpa using hi4)
  rw [this]
  obtain rfl | rfl | rfl | rfl : i = 0 ∨ i = 1 ∨ i = 2 ∨ i = 3 := by omega
  all_goals exact hi
set_option maxRecDepth 100000 in
theorem layA_plain {X : List (String × DataW Unit)} {W : World} (h : laidMet Tryz.prog (laidX X) W) (hs : W.ShapedOpen Tryz.prog) : LayA W :=
  ⟨⟨tab_plain h, cell_of_shapedOpen_int (zero := #[.int .i64 0]) (t := 3) hs (of_decide_eq_true (by kernel_rfl)) (by kernel_rfl) rfl (by kernel_rfl) (by kernel_rfl) Tryz.underlying3⟩, ops_plain h (fun i v hi => by simp at hi), Lib.tabIs_of_head gPow tPow Tryz.underlying275 Tryz.underlying241 (by kernel_rfl) (by kernel_rfl) h.tail.tail⟩
theorem lay9_of {W : World} (h : laidMetH Tryz.prog laid9 W) (hs : W.ShapedOpen Tryz.prog) : LayA W ∧ Ops.Lay Ops.rivalsL W := by
  rw [MakeChecks.laidMetH_plain _ _ _ (by kernel_rfl)] at h
  exact ⟨layA_plain (X := [("prolix/ops.rivals", Rows.laid_prolix_ops_rivals)]) h hs, ops_plain (X := [("prolix/ops.rivals", Rows.laid_prolix_ops_rivals)]) h (rv_plain h)⟩
end Go.Proofs.YtkplokfcjjcpcaaGreatDoor
