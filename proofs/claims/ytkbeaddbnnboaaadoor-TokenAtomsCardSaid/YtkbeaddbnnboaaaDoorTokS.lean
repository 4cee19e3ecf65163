/- The law TokenAtoms returns true for every plain atom but [] and {}: its walk. Conditions: the library's variables hold what their text lays. -/
import Derived.Test.YtkbeaddbnnboaaaDoorTokR
import Derived.Test.YtkbeaddbnnboaaaDoorRegA
namespace Go.Proofs.YtkbeaddbnnboaaaDoor
open Go Go.RowKit Go.Maps

def depsP : List (List Nat) := [[], [], [1], [2], [0, 3], [4], [5], [5, 6], [5, 7], [8], [8, 9], [8, 10], [8, 11], [12], [12, 13], [12, 14], [12, 15], [12], [12, 16, 17], [8, 12, 18], [8, 19], [20], [20, 21], [20, 22], [20, 23], [20, 24], [20], [20, 26], [20, 25, 27], [8, 20, 28], [8, 29], [30], [30, 31], [30, 32], [30, 33], [30, 34], [30, 35], [36], [36, 37], [36, 38], [36, 39], [36, 40], [30, 36, 41], [8, 30, 42], [5, 8, 43], [5, 44]]
def listP (g cp : Nat) (s : ByteArray) : List Value :=
  [(.bool false), (.slice (some ⟨g, 0, none⟩) 2 cp), (.int .i64 2), (.bool false), (.bool false), (.bool false), (.bool false), (.bool true), (.bool true), (.slice (some ⟨g, 0, none⟩) 2 cp), (.int .i64 2), (.bool false), (.bool false), (.slice (some ⟨g, 0, none⟩) 2 cp), (.pointer (some ⟨g, 0, none⟩)), (.pointer (some ⟨g, 3, none⟩)), (.string s), (.string s), (.bool false), (.bool false), (.bool false), (.slice (some ⟨g, 0, none⟩) 2 cp), (.pointer (some ⟨g, 0, none⟩)), (.pointer (some ⟨g, 0, none⟩)), (.int .i64 1), (.bool true), (.string s), (.bool true), (.bool false), (.bool false), (.bool false), (.slice (some ⟨g, 0, none⟩) 2 cp), (.pointer (some ⟨g, 0, none⟩)), (.pointer (some ⟨g, 0, none⟩)), (.int .i64 1), (.bool false), (.bool false), undef, undef, undef, undef, undef, (.bool false), (.bool false), (.bool false), (.bool false)]

set_option maxRecDepth 100000 in
set_option maxHeartbeats 3200000 in
theorem atoms_plain (s : ByteArray) (n : Nat) (w : World) (ht : Lay w) (hs : s.size ≤ 500) (hn : n < 4294967296) (h1 : s.data.toList ≠ [91, 93]) (h2 : s.data.toList ≠ [123, 125]) (hpb : plainB s.data.toList = true) :
    Calls Tryd.prog 5 #[.string s, .int .u32 n] w fun e w' => e = .returned (.bool true) ∧ Below w.heap.size w w' := by
  have HT := Lib.hid ht
  have PUT := Lib.hid (fun w => put_is s w (by omega))
  have hpl := put_len s hs
  obtain ⟨P, hP⟩ : ∃ P : ByteArray, (⟨(putL s.data.toList).toArray⟩ : ByteArray) = P := ⟨_, rfl⟩
  have hPl : P.data.toList = putL s.data.toList := by rw [← hP]
  have hPs : P.size ≤ 2502 := by rw [Lib.size_eq, hPl]; exact hpl
  rw [hP] at PUT
  have hLl : (P ++ ⟨#[32]⟩).data.toList = putL s.data.toList ++ [32] := by rw [ByteArray.data_append, Array.toList_append, hPl]
  have hlx := atom_one _ h1 h2
  rw [← hLl] at hlx
  have LX := Lib.hid (fun w ht => lex_at ((P ++ ⟨#[32]⟩).data.toList) _ hlx (by rw [hLl, List.length_append]; simp; omega) 2 0 0 rfl rfl rfl (by decide) w ht)
  rw [bytes_back] at LX
  have e1 : (s.toList == [91, 93]) = false := by rw [Lib.toList_data, beq_eq_false_iff_ne]; exact h1
  have e2 : (s.toList == [123, 125]) = false := by rw [Lib.toList_data, beq_eq_false_iff_ne]; exact h2
  have PL := Lib.hid (fun w => plain_is s w (by omega))
  have hk : (atomT s.data.toList).k = 1 := by unfold atomT; rw [hpb]; rfl
  rw [hpb] at PL
  have HK := Lib.hid hk
  clear ht hpl hlx hP hPl hLl h1 h2 hpb hk
  go_enter Tryd.func5, Tryd.ntmps5
  go_wp2_with fail
  refine (alive_is _ HT.out).mono ?_
  rintro e w1 ⟨rfl, b1⟩
  have T1 := Lib.hid (HT.out.on b1)
  have B1 := Lib.hid b1
  clear b1
  go_wp2_with fail
  refine (PUT.out _ T1.out.1).mono ?_
  rintro e w2 ⟨rfl, b2⟩
  have T2 := Lib.hid (T1.out.on b2)
  have B2 := Lib.hid (bt B1.out b2)
  clear b2
  go_wp2_with fail
  refine (LX.out _ T2.out).mono ?_
  rintro e w3 ⟨⟨g, cp, rfl, _, r1⟩, b3⟩
  have T3 := Lib.hid (T2.out.on b3)
  have B3 := Lib.hid (bt B2.out b3)
  have y0 := r1.cell 0 (.int .i64 (atomT s.data.toList).k) rfl
  have y3 := r1.cell 3 (.string ⟨s.data.toList.toArray⟩) rfl
  rw [bytes_back] at y3
  rw [HK.out] at y0
  have KEEP := Lib.hid (fun w5 (hb : Below w3.heap.size w3 w5) => And.intro ((hb.cell (p := ⟨g, 0, none⟩) r1.lt).trans y0) ((hb.cell (p := ⟨g, 3, none⟩) r1.lt).trans y3))
  have hc1 := r1.fits
  have hc2 := r1.max
  clear b3 r1
  have y0' : w3.cell? ⟨g, 0, none⟩ = some (.int .i64 1) := y0
  replace KEEP : Hid (∀ w5, Below w3.heap.size w3 w5 → w5.cell? ⟨g, 0, none⟩ = some (.int .i64 1) ∧ w5.cell? ⟨g, 3, none⟩ = some (.string s)) := KEEP
  clear y0
  go_wp2_with fail
  refine wp_region_inv (some 37 :: some 38 :: some 39 :: some 40 :: some 41 :: some 42 :: some 43 :: some 44 :: some 45 :: some 46 :: some 47 :: some 48 :: some 49 :: some 50 :: some 51 :: some 52 :: some 53 :: some 54 :: some 55 :: some 56 :: some 57 :: some 58 :: some 59 :: some 60 :: some 61 :: some 62 :: some 63 :: some 64 :: some 65 :: some 66 :: some 67 :: some 68 :: some 69 :: some 70 :: some 71 :: some 72 :: some 73 :: some 74 :: some 75 :: some 76 :: some 77 :: some 78 :: some 79 :: some 80 :: some 81 :: some 82 :: []) depsP (fun i v _ => v = (listP g cp s).getD i undef) ?FP (by kernel_rfl) (by kernel_rfl) (by kernel_rfl) (by kernel_rfl) (by kernel_rfl) ?hFP (fun _ _ _ _ _ h => h) ?stepP ?finP
  case hFP =>
    intro vals
    simp only [putD, Act.put, List.setIfInBounds_toArray, List.set_cons_zero, List.set_cons_succ, Nat.reduceAdd]
    exact rfl
  case stepP =>
    change StepsD _ _ _ _ _ _ _ (0 :: 1 :: 2 :: 3 :: 4 :: 5 :: 6 :: 7 :: 8 :: 9 :: 10 :: 11 :: 12 :: 13 :: 14 :: 15 :: 16 :: 17 :: 18 :: 19 :: 20 :: 21 :: 22 :: 23 :: 24 :: 25 :: 26 :: 27 :: 28 :: 29 :: 30 :: 31 :: 32 :: 33 :: 34 :: 35 :: 36 :: 37 :: 38 :: 39 :: 40 :: 41 :: 42 :: 43 :: 44 :: 45 :: [])
    refine stepsD_cons rfl (fun vals w hw hf K hK => ?_) ?_
    · clear hf
      have hk := hK (.bool false) w (Ltr.refl w) rfl
      clear hK hw
      go_simp
      exact hk
    refine stepsD_cons rfl (fun vals w hw hf K hK => ?_) ?_
    · clear hf
      have hk := hK (.slice (some ⟨g, 0, none⟩) 2 cp) w (Ltr.refl w) rfl
      clear hK hw
      go_simp
      exact hk
    refine stepsD_cons rfl (fun vals w hw hf K hK => ?_) ?_
    · obtain ⟨e1, _⟩ := hf
      replace e1 : vals 1 = (.slice (some ⟨g, 0, none⟩) 2 cp) := e1
      have hk := hK (.int .i64 2) w (Ltr.refl w) rfl
      clear hK hw
      go_simp
      simp only [e1] at hk
      exact hk
    refine stepsD_cons rfl (fun vals w hw hf K hK => ?_) ?_
    · obtain ⟨e2, _⟩ := hf
      replace e2 : vals 2 = (.int .i64 2) := e2
      have hk := hK (.bool false) w (Ltr.refl w) rfl
      clear hK hw
      go_simp
      simp only [e2] at hk
      exact hk
    refine stepsD_cons rfl (fun vals w hw hf K hK => ?_) ?_
    · obtain ⟨e0, e3, _⟩ := hf
      replace e0 : vals 0 = (.bool false) := e0
      replace e3 : vals 3 = (.bool false) := e3
      have hk := hK (.bool false) w (Ltr.refl w) rfl
      clear hK hw
      go_simp
      simp only [e0, e3] at hk
      exact hk
    refine stepsD_cons rfl (fun vals w hw hf K hK => ?_) ?_
    · obtain ⟨e4, _⟩ := hf
      replace e4 : vals 4 = (.bool false) := e4
      have hk := hK (.bool false) w (Ltr.refl w) rfl
      clear hK hw
      go_simp
      simp only [e4] at hk
      exact hk
    refine stepsD_cons rfl (fun vals w hw hf K hK => ?_) ?_
    · obtain ⟨e5, _⟩ := hf
      replace e5 : vals 5 = (.bool false) := e5
      have hk := hK (.bool false) w (Ltr.refl w) rfl
      clear hK hw
      go_simp
      simp only [e5] at hk
      exact hk
    refine stepsD_cons rfl (fun vals w hw hf K hK => ?_) ?_
    · obtain ⟨e5, e6, _⟩ := hf
      replace e5 : vals 5 = (.bool false) := e5
      replace e6 : vals 6 = (.bool false) := e6
      have hk := hK (.bool true) w (Ltr.refl w) rfl
      clear hK hw
      go_simp
      simp only [e5, e6] at hk
      exact hk
    refine stepsD_cons rfl (fun vals w hw hf K hK => ?_) ?_
    · obtain ⟨e5, e7, _⟩ := hf
      replace e5 : vals 5 = (.bool false) := e5
      replace e7 : vals 7 = (.bool true) := e7
      have hk := hK (.bool true) w (Ltr.refl w) rfl
      clear hK hw
      go_simp
      simp only [e5, e7] at hk
      exact hk
    refine stepsD_cons rfl (fun vals w hw hf K hK => ?_) ?_
    · obtain ⟨e8, _⟩ := hf
      replace e8 : vals 8 = (.bool true) := e8
      have hk := hK (.slice (some ⟨g, 0, none⟩) 2 cp) w (Ltr.refl w) rfl
      clear hK hw
      go_simp
      simp only [e8] at hk
      exact hk
    refine stepsD_cons rfl (fun vals w hw hf K hK => ?_) ?_
    · obtain ⟨e8, e9, _⟩ := hf
      replace e8 : vals 8 = (.bool true) := e8
      replace e9 : vals 9 = (.slice (some ⟨g, 0, none⟩) 2 cp) := e9
      have hk := hK (.int .i64 2) w (Ltr.refl w) rfl
      clear hK hw
      go_simp
      simp only [e8, e9] at hk
      exact hk
    refine stepsD_cons rfl (fun vals w hw hf K hK => ?_) ?_
    · obtain ⟨e8, e10, _⟩ := hf
      replace e8 : vals 8 = (.bool true) := e8
      replace e10 : vals 10 = (.int .i64 2) := e10
      have hk := hK (.bool false) w (Ltr.refl w) rfl
      clear hK hw
      go_simp
      simp only [e8, e10] at hk
      exact hk
    refine stepsD_cons rfl (fun vals w hw hf K hK => ?_) ?_
    · obtain ⟨e8, e11, _⟩ := hf
      replace e8 : vals 8 = (.bool true) := e8
      replace e11 : vals 11 = (.bool false) := e11
      have hk := hK (.bool false) w (Ltr.refl w) rfl
      clear hK hw
      go_simp
      simp only [e8, e11] at hk
      exact hk
    refine stepsD_cons rfl (fun vals w hw hf K hK => ?_) ?_
    · obtain ⟨e12, _⟩ := hf
      replace e12 : vals 12 = (.bool false) := e12
      have hk := hK (.slice (some ⟨g, 0, none⟩) 2 cp) w (Ltr.refl w) rfl
      clear hK hw
      go_simp
      simp only [e12] at hk
      exact hk
    refine stepsD_cons rfl (fun vals w hw hf K hK => ?_) ?_
    · obtain ⟨e12, e13, _⟩ := hf
      replace e12 : vals 12 = (.bool false) := e12
      replace e13 : vals 13 = (.slice (some ⟨g, 0, none⟩) 2 cp) := e13
      have hk := hK (.pointer (some ⟨g, 0, none⟩)) w (Ltr.refl w) rfl
      clear hK hw
      go_simp
      simp only [e12, e13] at hk
      exact hk
    refine stepsD_cons rfl (fun vals w hw hf K hK => ?_) ?_
    · obtain ⟨e12, e14, _⟩ := hf
      replace e12 : vals 12 = (.bool false) := e12
      replace e14 : vals 14 = (.pointer (some ⟨g, 0, none⟩)) := e14
      have hk := hK (.pointer (some ⟨g, 3, none⟩)) w (Ltr.refl w) rfl
      clear hK hw
      go_simp
      simp only [e12, e14] at hk
      exact hk
    refine stepsD_cons rfl (fun vals w hw hf K hK => ?_) ?_
    · obtain ⟨e12, e15, _⟩ := hf
      replace e12 : vals 12 = (.bool false) := e12
      replace e15 : vals 15 = (.pointer (some ⟨g, 3, none⟩)) := e15
      have hk := hK (.string s) w (Ltr.refl w) rfl
      obtain ⟨q0, q3⟩ := KEEP.out w hw
      clear hK hw
      go_simp
      simp only [e12, e15] at hk
      exact hk
    refine stepsD_cons rfl (fun vals w hw hf K hK => ?_) ?_
    · obtain ⟨e12, _⟩ := hf
      replace e12 : vals 12 = (.bool false) := e12
      have hk := hK (.string s) w (Ltr.refl w) rfl
      clear hK hw
      go_simp
      simp only [e12] at hk
      exact hk
    refine stepsD_cons rfl (fun vals w hw hf K hK => ?_) ?_
    · obtain ⟨e12, e16, e17, _⟩ := hf
      replace e12 : vals 12 = (.bool false) := e12
      replace e16 : vals 16 = (.string s) := e16
      replace e17 : vals 17 = (.string s) := e17
      have hk := hK (.bool false) w (Ltr.refl w) rfl
      clear hK hw
      go_simp
      simp only [e12, e16, e17] at hk
      exact hk
    refine stepsD_cons rfl (fun vals w hw hf K hK => ?_) ?_
    · obtain ⟨e8, e12, e18, _⟩ := hf
      replace e8 : vals 8 = (.bool true) := e8
      replace e12 : vals 12 = (.bool false) := e12
      replace e18 : vals 18 = (.bool false) := e18
      have hk := hK (.bool false) w (Ltr.refl w) rfl
      clear hK hw
      go_simp
      simp only [e8, e12, e18] at hk
      exact hk
    refine stepsD_cons rfl (fun vals w hw hf K hK => ?_) ?_
    · obtain ⟨e8, e19, _⟩ := hf
      replace e8 : vals 8 = (.bool true) := e8
      replace e19 : vals 19 = (.bool false) := e19
      have hk := hK (.bool false) w (Ltr.refl w) rfl
      clear hK hw
      go_simp
      simp only [e8, e19] at hk
      exact hk
    refine stepsD_cons rfl (fun vals w hw hf K hK => ?_) ?_
    · obtain ⟨e20, _⟩ := hf
      replace e20 : vals 20 = (.bool false) := e20
      have hk := hK (.slice (some ⟨g, 0, none⟩) 2 cp) w (Ltr.refl w) rfl
      clear hK hw
      go_simp
      simp only [e20] at hk
      exact hk
    refine stepsD_cons rfl (fun vals w hw hf K hK => ?_) ?_
    · obtain ⟨e20, e21, _⟩ := hf
      replace e20 : vals 20 = (.bool false) := e20
      replace e21 : vals 21 = (.slice (some ⟨g, 0, none⟩) 2 cp) := e21
      have hk := hK (.pointer (some ⟨g, 0, none⟩)) w (Ltr.refl w) rfl
      clear hK hw
      go_simp
      simp only [e20, e21] at hk
      exact hk
    refine stepsD_cons rfl (fun vals w hw hf K hK => ?_) ?_
    · obtain ⟨e20, e22, _⟩ := hf
      replace e20 : vals 20 = (.bool false) := e20
      replace e22 : vals 22 = (.pointer (some ⟨g, 0, none⟩)) := e22
      have hk := hK (.pointer (some ⟨g, 0, none⟩)) w (Ltr.refl w) rfl
      clear hK hw
      go_simp
      simp only [e20, e22] at hk
      exact hk
    refine stepsD_cons rfl (fun vals w hw hf K hK => ?_) ?_
    · obtain ⟨e20, e23, _⟩ := hf
      replace e20 : vals 20 = (.bool false) := e20
      replace e23 : vals 23 = (.pointer (some ⟨g, 0, none⟩)) := e23
      have hk := hK (.int .i64 1) w (Ltr.refl w) rfl
      obtain ⟨q0, q3⟩ := KEEP.out w hw
      clear hK hw
      go_simp
      simp only [e20, e23] at hk
      exact hk
    refine stepsD_cons rfl (fun vals w hw hf K hK => ?_) ?_
    · obtain ⟨e20, e24, _⟩ := hf
      replace e20 : vals 20 = (.bool false) := e20
      replace e24 : vals 24 = (.int .i64 1) := e24
      have hk := hK (.bool true) w (Ltr.refl w) rfl
      clear hK hw
      go_simp
      simp only [e20, e24] at hk
      exact hk
    refine stepsD_cons rfl (fun vals w hw hf K hK => ?_) ?_
    · obtain ⟨e20, _⟩ := hf
      replace e20 : vals 20 = (.bool false) := e20
      have hk := hK (.string s) w (Ltr.refl w) rfl
      clear hK hw
      go_simp
      simp only [e20] at hk
      exact hk
    refine stepsD_cons rfl (fun vals w hw hf K hK => ?_) ?_
    · obtain ⟨e20, e26, _⟩ := hf
      replace e20 : vals 20 = (.bool false) := e20
      replace e26 : vals 26 = (.string s) := e26
      have HK := Lib.hid (fun w' (hl : Ltr w w') => hK (.bool true) w' hl rfl)
      clear hK hw
      go_simp
      refine (PL.out _).mono ?_
      rintro _ w' ⟨rfl, hl⟩
      have hk := HK.out w' hl
      simp only [e20, e26] at hk
      exact hk
    refine stepsD_cons rfl (fun vals w hw hf K hK => ?_) ?_
    · obtain ⟨e20, e25, e27, _⟩ := hf
      replace e20 : vals 20 = (.bool false) := e20
      replace e25 : vals 25 = (.bool true) := e25
      replace e27 : vals 27 = (.bool true) := e27
      have hk := hK (.bool false) w (Ltr.refl w) rfl
      clear hK hw
      go_simp
      simp only [e20, e25, e27] at hk
      exact hk
    refine stepsD_cons rfl (fun vals w hw hf K hK => ?_) ?_
    · obtain ⟨e8, e20, e28, _⟩ := hf
      replace e8 : vals 8 = (.bool true) := e8
      replace e20 : vals 20 = (.bool false) := e20
      replace e28 : vals 28 = (.bool false) := e28
      have hk := hK (.bool false) w (Ltr.refl w) rfl
      clear hK hw
      go_simp
      simp only [e8, e20, e28] at hk
      exact hk
    refine stepsD_cons rfl (fun vals w hw hf K hK => ?_) ?_
    · obtain ⟨e8, e29, _⟩ := hf
      replace e8 : vals 8 = (.bool true) := e8
      replace e29 : vals 29 = (.bool false) := e29
      have hk := hK (.bool false) w (Ltr.refl w) rfl
      clear hK hw
      go_simp
      simp only [e8, e29] at hk
      exact hk
    refine stepsD_cons rfl (fun vals w hw hf K hK => ?_) ?_
    · obtain ⟨e30, _⟩ := hf
      replace e30 : vals 30 = (.bool false) := e30
      have hk := hK (.slice (some ⟨g, 0, none⟩) 2 cp) w (Ltr.refl w) rfl
      clear hK hw
      go_simp
      simp only [e30] at hk
      exact hk
    refine stepsD_cons rfl (fun vals w hw hf K hK => ?_) ?_
    · obtain ⟨e30, e31, _⟩ := hf
      replace e30 : vals 30 = (.bool false) := e30
      replace e31 : vals 31 = (.slice (some ⟨g, 0, none⟩) 2 cp) := e31
      have hk := hK (.pointer (some ⟨g, 0, none⟩)) w (Ltr.refl w) rfl
      clear hK hw
      go_simp
      simp only [e30, e31] at hk
      exact hk
    refine stepsD_cons rfl (fun vals w hw hf K hK => ?_) ?_
    · obtain ⟨e30, e32, _⟩ := hf
      replace e30 : vals 30 = (.bool false) := e30
      replace e32 : vals 32 = (.pointer (some ⟨g, 0, none⟩)) := e32
      have hk := hK (.pointer (some ⟨g, 0, none⟩)) w (Ltr.refl w) rfl
      clear hK hw
      go_simp
      simp only [e30, e32] at hk
      exact hk
    refine stepsD_cons rfl (fun vals w hw hf K hK => ?_) ?_
    · obtain ⟨e30, e33, _⟩ := hf
      replace e30 : vals 30 = (.bool false) := e30
      replace e33 : vals 33 = (.pointer (some ⟨g, 0, none⟩)) := e33
      have hk := hK (.int .i64 1) w (Ltr.refl w) rfl
      obtain ⟨q0, q3⟩ := KEEP.out w hw
      clear hK hw
      go_simp
      simp only [e30, e33] at hk
      exact hk
    refine stepsD_cons rfl (fun vals w hw hf K hK => ?_) ?_
    · obtain ⟨e30, e34, _⟩ := hf
      replace e30 : vals 30 = (.bool false) := e30
      replace e34 : vals 34 = (.int .i64 1) := e34
      have hk := hK (.bool false) w (Ltr.refl w) rfl
      clear hK hw
      go_simp
      simp only [e30, e34] at hk
      exact hk
    refine stepsD_cons rfl (fun vals w hw hf K hK => ?_) ?_
    · obtain ⟨e30, e35, _⟩ := hf
      replace e30 : vals 30 = (.bool false) := e30
      replace e35 : vals 35 = (.bool false) := e35
      have hk := hK (.bool false) w (Ltr.refl w) rfl
      clear hK hw
      go_simp
      simp only [e30, e35] at hk
      exact hk
    refine stepsD_cons rfl (fun vals w hw hf K hK => ?_) ?_
    · obtain ⟨e36, _⟩ := hf
      replace e36 : vals 36 = (.bool false) := e36
      have hk := hK undef w (Ltr.refl w) rfl
      clear hK hw
      go_simp
      simp only [e36] at hk
      exact hk
    refine stepsD_cons rfl (fun vals w hw hf K hK => ?_) ?_
    · obtain ⟨e36, e37, _⟩ := hf
      replace e36 : vals 36 = (.bool false) := e36
      replace e37 : vals 37 = undef := e37
      have hk := hK undef w (Ltr.refl w) rfl
      clear hK hw
      go_simp
      simp only [e36, e37] at hk
      exact hk
    refine stepsD_cons rfl (fun vals w hw hf K hK => ?_) ?_
    · obtain ⟨e36, e38, _⟩ := hf
      replace e36 : vals 36 = (.bool false) := e36
      replace e38 : vals 38 = undef := e38
      have hk := hK undef w (Ltr.refl w) rfl
      clear hK hw
      go_simp
      simp only [e36, e38] at hk
      exact hk
    refine stepsD_cons rfl (fun vals w hw hf K hK => ?_) ?_
    · obtain ⟨e36, e39, _⟩ := hf
      replace e36 : vals 36 = (.bool false) := e36
      replace e39 : vals 39 = undef := e39
      have hk := hK undef w (Ltr.refl w) rfl
      clear hK hw
      go_simp
      simp only [e36, e39] at hk
      exact hk
    refine stepsD_cons rfl (fun vals w hw hf K hK => ?_) ?_
    · obtain ⟨e36, e40, _⟩ := hf
      replace e36 : vals 36 = (.bool false) := e36
      replace e40 : vals 40 = undef := e40
      have hk := hK undef w (Ltr.refl w) rfl
      clear hK hw
      go_simp
      simp only [e36, e40] at hk
      exact hk
    refine stepsD_cons rfl (fun vals w hw hf K hK => ?_) ?_
    · obtain ⟨e30, e36, e41, _⟩ := hf
      replace e30 : vals 30 = (.bool false) := e30
      replace e36 : vals 36 = (.bool false) := e36
      replace e41 : vals 41 = undef := e41
      have hk := hK (.bool false) w (Ltr.refl w) rfl
      clear hK hw
      go_simp
      simp only [e30, e36, e41] at hk
      exact hk
    refine stepsD_cons rfl (fun vals w hw hf K hK => ?_) ?_
    · obtain ⟨e8, e30, e42, _⟩ := hf
      replace e8 : vals 8 = (.bool true) := e8
      replace e30 : vals 30 = (.bool false) := e30
      replace e42 : vals 42 = (.bool false) := e42
      have hk := hK (.bool false) w (Ltr.refl w) rfl
      clear hK hw
      go_simp
      simp only [e8, e30, e42] at hk
      exact hk
    refine stepsD_cons rfl (fun vals w hw hf K hK => ?_) ?_
    · obtain ⟨e5, e8, e43, _⟩ := hf
      replace e5 : vals 5 = (.bool false) := e5
      replace e8 : vals 8 = (.bool true) := e8
      replace e43 : vals 43 = (.bool false) := e43
      have hk := hK (.bool false) w (Ltr.refl w) rfl
      clear hK hw
      go_simp
      simp only [e5, e8, e43] at hk
      exact hk
    refine stepsD_cons rfl (fun vals w hw hf K hK => ?_) ?_
    · obtain ⟨e5, e44, _⟩ := hf
      replace e5 : vals 5 = (.bool false) := e5
      replace e44 : vals 44 = (.bool false) := e44
      have hk := hK (.bool false) w (Ltr.refl w) rfl
      clear hK hw
      go_simp
      simp only [e5, e44] at hk
      exact hk
    exact stepsD_nil
  case finP =>
  intro vals w4 hw hΦ
  have e45 : vals 45 = .bool false := hΦ 45 (by decide)
  have BK : Hid (Below w3.heap.size w3 w4) := Lib.hid hw
  clear hΦ hw
  simp only [e45]
  clear KEEP
  go_wp2_with fail
  have DL := Lib.hid (fun (X : ByteArray) (hX : X.data.toList = digL 10 21 n) w ht => lex_at ((X ++ ⟨#[95]⟩ ++ X).data.toList) ⟨[⟨3, 1, (n : Int), [], false, false⟩, ⟨4, 1, 0, 95 :: digL 10 21 n, false, true⟩, ⟨0, 1, 0, [], false, false⟩], 0, 0⟩ (by
    rw [ByteArray.data_append, Array.toList_append, ByteArray.data_append, Array.toList_append, hX, List.append_assoc]
    exact lex_dec (Nat.lt_of_lt_of_le hn (by omega)) hn) (by
    have := digL_len 10 21 n
    rw [ByteArray.data_append, Array.toList_append, ByteArray.data_append, Array.toList_append, hX]
    simp
    omega) 3 0 0 rfl rfl rfl (by decide) w ht)
  go_loop [10, 11] (fun v i => ∃ (k : Nat) (A : ByteArray), v = .string A ∧ i = .int .u64 k ∧ k < 4294967296 ∧ Hid (DecSt n k A)) (fun _ i => (intOf i).toNat)
  case atStart => exact ⟨n, ⟨#[]⟩, rfl, rfl, hn, DecSt.start hn⟩
  case round =>
    obtain ⟨k, A, rfl, rfl, hk, HD⟩ := hrel
    have hA := HD.out.small
    obtain ⟨E, hE⟩ : ∃ E : ByteArray, ⟨#[dch (k % 10)]⟩ = E := ⟨_, rfl⟩
    have cv : ∀ w, (convert 5 9 (.int .u8 (48 + (k : Int) % 10))).run Tryd.prog w = .ok (.string E) w := by
      have enc := (enc_dig k).trans hE
      intro w
      go_simp
    have hEs : E.size ≤ 1 := by rw [← hE]; exact Nat.le_refl _
    have HE := Lib.hid hE
    clear hE
    by_cases h10 : k < 10
    · have HX := HD.out.last h10
      rw [HE.out] at HX
      replace HX := Lib.hid HX
      clear HE
      go_wp2_with fail
      rw [← bytes_back (E ++ A ++ ⟨#[95]⟩ ++ (E ++ A))]
      refine (DL.out _ HX.out _ (T3.out.on BK.out)).mono ?_
      rintro e w5 ⟨⟨g5, c5, rfl, _, r5⟩, b5⟩
      have x0 := r5.cell 0 (.int .i64 3) rfl
      have x2 := r5.cell 2 (.int .i64 n) rfl
      have x6 := r5.cell 6 (.int .i64 4) rfl
      have x9 := r5.cell 9 (.string ⟨(95 :: digL 10 21 n).toArray⟩) rfl
      have x11 := r5.cell 11 (.bool true) rfl
      rw [show (⟨(95 :: digL 10 21 n).toArray⟩ : ByteArray) = ⟨#[95]⟩ ++ (E ++ A) from (bytes_eq (by rw [ByteArray.data_append, Array.toList_append, HX.out]; rfl)).symm] at x9
      have hc5 := r5.fits
      have hm5 := r5.max
      have HB := Lib.hid (bt (bt B3.out BK.out) b5)
      clear r5 b5 DL HX HD
      go_wp2_with fail
      go_ret
      exact ⟨rfl, HB.out⟩
    · have HX := HD.out.next h10
      rw [HE.out] at HX
      replace HX := Lib.hid HX
      clear HE
      go_wp2_with fail
      go_round
      case rel => exact ⟨k / 10, _, rfl, by go_num, by omega, HX⟩
      case measure => simp [intOf]; omega


theorem atoms_walk (s : ByteArray) (n : Int) (W : World) (hs : s.size ≤ maxLen) (h0 : 0 ≤ n) (h1 : n ≤ 4294967295) (ht : Lay W) :
    Calls Tryd.prog 5 #[.string s, .int .u32 n] W fun e w' => e = .returned (.bool true) ∧ Below W.heap.size W w' := by
  obtain ⟨k, rfl⟩ : ∃ k : Nat, n = k := ⟨n.toNat, by omega⟩
  by_cases h5 : s.size ≤ 500
  · by_cases h2 : s = ⟨#[91, 93]⟩ ∨ s = ⟨#[123, 125]⟩
    · exact atoms_two s k W ht (by omega) h2
    · have ha : s.data.toList ≠ [91, 93] := fun h => h2 (.inl (by rw [← bytes_back s, h]))
      have hb : s.data.toList ≠ [123, 125] := fun h => h2 (.inr (by rw [← bytes_back s, h]))
      cases hp : plainB s.data.toList with
      | false => exact atoms_quoted s k W ht h5 (by omega) ha hb hp
      | true => exact atoms_plain s k W ht h5 (by omega) ha hb hp
  · exact atoms_long s k W ht (by omega) hs

end Go.Proofs.YtkbeaddbnnboaaaDoor
