/- The law's alive, and the document's Sort. Conditions: the listed variables read as the text lays them. -/
import Derived.Test.YtnnhpjpfmmlimaaDoorOpM
namespace Go.Proofs.YtnnhpjpfmmlimaaDoor
open Go Go.RowKit Go.Maps
open Go.WideMaps Go.WideElems

theorem fnd_data (L : List Df) (n : ByteArray) (s : Int) : fnd L n s = L.find? (fun d => (d.name.data.toList == n.data.toList) && (srt d.typ == s)) := by
  unfold fnd
  congr 1
  funext d
  unfold Df.is
  rw [Lib.toList_data, Lib.toList_data]
theorem minus_in : sidesZ firstL ⟨#[45]⟩ 2 = (500, 500, 499) := by
  unfold sidesZ
  rw [fnd_data]
  rfl
theorem minus_pre : sidesZ firstL ⟨#[45]⟩ 1 = (200, 200, 200) := by
  unfold sidesZ
  rw [fnd_data]
  rfl
theorem is_in : (fnd firstL ⟨#[105, 115]⟩ 2).isSome = true := by
  rw [fnd_data]
  rfl
theorem is_is' : isZ firstL ⟨#[105, 115]⟩ = true := by
  unfold isZ
  rw [is_in]
  simp
theorem foo_no : isZ firstL ⟨#[102, 111, 111]⟩ = false := by
  unfold isZ
  rw [fnd_data, fnd_data, fnd_data]
  rfl
theorem is_op : opZ firstL ⟨700, 6, ⟨#[105, 115]⟩⟩ = (15, firstL) := by
  have h1 : argB 700 6 ⟨#[105, 115]⟩ = false := by decide +kernel
  have h2 : fixedB ⟨#[105, 115]⟩ = false := by
    unfold fixedB
    rw [Lib.toList_data]
    rfl
  unfold opZ
  rw [if_neg (by simp only; rw [h1]; simp), if_neg (by simp only; rw [h2]; simp), if_neg (by simp), if_pos (by exact is_in)]

set_option maxHeartbeats 800000 in
theorem alive_is (w : World) (hl : Lay w) : Calls Tryd.prog 7 #[] w fun e w' => e = .returned (.bool true) ∧ Below w.heap.size w w' := by
  have HL := Lib.hid hl
  have NEW := Lib.hid (new_is w hl)
  clear hl
  go_enter Tryd.func7, Tryd.ntmps7
  go_wp2_with fail
  refine NEW.out.mono ?_
  rintro e w1 ⟨rfl, m, hm, ht, hb⟩
  have I := infix_is w.heap.size m firstL ⟨#[45]⟩ w1 (HL.out.on hb) ht (by decide)
  rw [minus_in] at I
  have HI := Lib.hid I
  have HT := Lib.hid ht
  have HB := Lib.hid hb
  have HM := Lib.hid hm
  clear ht hb NEW I hm
  go_wp2_with fail
  refine HI.out.mono ?_
  rintro e w2 ⟨rfl, b2⟩
  have P := prefix_is w.heap.size m firstL ⟨#[45]⟩ w2 (HL.out.on (HB.out.trans (b2.mono HB.out.size))) (HT.out.on b2) (by decide)
  rw [minus_pre] at P
  have HP := Lib.hid P
  have T2 := Lib.hid (HT.out.on b2)
  have B2 := Lib.hid (HB.out.trans (b2.mono HB.out.size))
  clear b2 P
  go_wp2_with fail
  refine HP.out.mono ?_
  rintro e w3 ⟨rfl, b3⟩
  have O := op_is w.heap.size m firstL ⟨700, 6, ⟨#[105, 115]⟩⟩ w3 (HL.out.on (B2.out.trans (b3.mono B2.out.size))) (T2.out.on b3) (by rw [first_len]; omega)
  have HO := Lib.hid O
  have B3 := Lib.hid (B2.out.trans (b3.mono B2.out.size))
  clear b3 O
  go_wp2_with fail
  refine HO.out.mono ?_
  rintro e w4 ⟨rfl, t4, g4⟩
  rw [is_op] at t4 ⊢
  have B4 := Lib.hid (B3.out.grown g4 B3.out.size (fun j hj => by cases hj; exact Nat.le_of_lt HM.out))
  have S1 := Lib.hid (is_is w.heap.size m firstL ⟨#[105, 115]⟩ w4 t4 (by decide))
  rw [is_is'] at S1
  have T4 := Lib.hid t4
  clear t4 g4
  go_wp2_with fail
  refine S1.out.mono ?_
  rintro e w5 ⟨rfl, b5⟩
  have S2 := Lib.hid (is_is w.heap.size m firstL ⟨#[102, 111, 111]⟩ w5 (T4.out.on b5) (by decide))
  rw [foo_no] at S2
  have B5 := Lib.hid (B4.out.trans (b5.mono B4.out.size))
  clear b5
  go_wp2_with fail
  refine S2.out.mono ?_
  rintro e w6 ⟨rfl, b6⟩
  have B6 := Lib.hid (B5.out.trans (b6.mono B5.out.size))
  clear b6
  go_wp2_with fail
  refine (op_nil _ _ _ _).mono ?_
  rintro e w7 ⟨rfl, hw⟩
  obtain rfl := hw.symm
  go_wp2_with fail
  go_ret
  exact ⟨rfl, B6.out⟩

theorem srt_is (t : Int) (w : World) : Calls Tryd.prog 26 #[.int .i64 t] w fun e w' => e = .returned (.int .i64 (srt t)) ∧ w' = w := by
  unfold srt
  by_cases h1 : t ≤ 3
  · rw [if_pos h1]
    go_enter Tryd.func26, Tryd.ntmps26
    go_wp2_with fail
    go_ret
    exact ⟨rfl, rfl⟩
  · rw [if_neg h1]
    by_cases h2 : t ≤ 5
    · rw [if_pos h2]
      go_enter Tryd.func26, Tryd.ntmps26
      go_wp2_with fail
      go_ret
      exact ⟨rfl, rfl⟩
    · rw [if_neg h2]
      go_enter Tryd.func26, Tryd.ntmps26
      go_wp2_with fail
      go_ret
      exact ⟨rfl, rfl⟩

end Go.Proofs.YtnnhpjpfmmlimaaDoor
