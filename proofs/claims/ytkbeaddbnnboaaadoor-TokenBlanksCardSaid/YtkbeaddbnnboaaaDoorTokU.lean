/- The law TokenBlanks returns true for every input: its walk. Conditions: the library's variables hold what their text lays. -/
import Derived.Test.YtkbeaddbnnboaaaDoorTokT
import Derived.Test.YtkbeaddbnnboaaaDoorTokR
import Derived.Deep.QuietTactic
namespace Go.Proofs.YtkbeaddbnnboaaaDoor
open Go Go.RowKit Go.Maps

set_option maxRecDepth 100000 in
set_option maxHeartbeats 1600000 in
theorem blanks_long (s t : ByteArray) (w : World) (ht : Lay w) (h : 300 < s.size ∨ 300 < t.size) (hs2 : s.size ≤ maxLen) (ht2 : t.size ≤ maxLen) :
    Calls Tryd.prog 6 #[.string s, .string t] w fun e w' => e = .returned (.bool true) ∧ Below w.heap.size w w' := by
  have HT := Lib.hid ht
  clear ht
  unfold maxLen at hs2 ht2
  by_cases h5 : s.size ≤ 300
  · have h6 : 300 < t.size := by omega
    clear h
    go_enter Tryd.func6, Tryd.ntmps6
    go_wp2_with fail
    refine (alive_is _ HT.out).mono ?_
    rintro e w1 ⟨rfl, b1⟩
    go_wp2_with fail
    go_ret
    exact ⟨rfl, b1⟩
  · clear h
    go_enter Tryd.func6, Tryd.ntmps6
    go_wp2_with fail
    refine (alive_is _ HT.out).mono ?_
    rintro e w1 ⟨rfl, b1⟩
    go_wp2_with fail
    go_ret
    exact ⟨rfl, b1⟩

set_option maxRecDepth 100000 in
set_option maxHeartbeats 3200000 in
theorem blanks_short (s t : ByteArray) (w : World) (ht : Lay w) (hs : s.size ≤ 300) (hs2 : t.size ≤ 300) :
    Calls Tryd.prog 6 #[.string s, .string t] w fun e w' => e = .returned (.bool true) ∧ Below w.heap.size w w' := by
  have HT := Lib.hid ht
  have PUT := Lib.hid (fun w => put_is s w (by omega))
  have PUT2 := Lib.hid (fun w => put_is t w (by omega))
  obtain ⟨P, hP⟩ : ∃ P : ByteArray, (⟨(putL s.data.toList).toArray⟩ : ByteArray) = P := ⟨_, rfl⟩
  obtain ⟨Q, hQ⟩ : ∃ Q : ByteArray, (⟨(putL t.data.toList).toArray⟩ : ByteArray) = Q := ⟨_, rfl⟩
  have hPl : P.data.toList = putL s.data.toList := by rw [← hP]
  have hQl : Q.data.toList = putL t.data.toList := by rw [← hQ]
  have hPs : P.size ≤ 2502 := by rw [Lib.size_eq, hPl]; exact put_len s (by omega)
  have hQs : Q.size ≤ 2502 := by rw [Lib.size_eq, hQl]; exact put_len t (by omega)
  have hP2 : P.size ≤ 1502 := by rw [Lib.size_eq, hPl]; exact put_len3 s (by omega)
  have hQ2 : Q.size ≤ 1502 := by rw [Lib.size_eq, hQl]; exact put_len3 t (by omega)
  rw [hP] at PUT
  rw [hQ] at PUT2
  have hX : (P ++ ⟨#[32]⟩ ++ Q ++ ⟨#[32]⟩).data.toList = putL s.data.toList ++ [32] ++ putL t.data.toList ++ [32] := by simp [ByteArray.data_append, Array.toList_append, hPl, hQl]
  have hY : (P ++ ⟨#[32, 47, 42, 32, 110, 111, 116, 101, 32, 42, 47, 32, 37, 32, 109, 111, 114, 101, 10, 9]⟩ ++ Q ++ ⟨#[10]⟩).data.toList = putL s.data.toList ++ gap1 ++ putL t.data.toList ++ [10] := by simp [ByteArray.data_append, Array.toList_append, hPl, hQl, gap1]
  obtain ⟨h3, h5, hxy⟩ := xy_len s.data.toList t.data.toList
  have hat := @xy_at s.data.toList t.data.toList
  obtain ⟨m, hm⟩ : ∃ m, (lexX s.data.toList t.data.toList).toks.length = m := ⟨_, rfl⟩
  rw [hm] at h3 h5 hxy
  have LX := Lib.hid (fun w ht => lex_own ((P ++ ⟨#[32]⟩ ++ Q ++ ⟨#[32]⟩).data.toList) (lexX s.data.toList t.data.toList) (by rw [hX]; exact blanks_x _ _) (by rw [← Lib.size_eq]; simp only [ByteArray.size_append]; show P.size + 1 + Q.size + 1 ≤ 5000; omega) m 0 0 hm rfl rfl (by omega) w ht)
  have LY := Lib.hid (fun w ht => lex_own ((P ++ ⟨#[32, 47, 42, 32, 110, 111, 116, 101, 32, 42, 47, 32, 37, 32, 109, 111, 114, 101, 10, 9]⟩ ++ Q ++ ⟨#[10]⟩).data.toList) (lexY s.data.toList t.data.toList) (by rw [hY]; exact blanks_y _ _) (by rw [← Lib.size_eq]; simp only [ByteArray.size_append]; show P.size + 20 + Q.size + 1 ≤ 5000; omega) m 0 0 hxy rfl rfl (by omega) w ht)
  rw [bytes_back] at LX LY
  obtain ⟨X, hXt⟩ : ∃ X, (lexX s.data.toList t.data.toList).toks = X := ⟨_, rfl⟩
  obtain ⟨Y, hYt⟩ : ∃ Y, (lexY s.data.toList t.data.toList).toks = Y := ⟨_, rfl⟩
  rw [hXt] at LX hm
  rw [hYt] at LY hxy
  rw [hXt, hYt] at hat
  have HAT : Hid (∀ (i : Nat) (a : Tok), X[i]? = some a → ∃ n, Y[i]? = some ⟨a.k, n, a.n, a.s, a.open', a.tight⟩) := Lib.hid (fun i a h => hat h)
  have HM := Lib.hid hm
  clear ht hP hQ hPl hQl hX hY hat hm hxy hXt hYt
  go_enter Tryd.func6, Tryd.ntmps6
  go_wp2_with fail
  refine (alive_is _ HT.out).mono ?_
  rintro e w1 ⟨rfl, b1⟩
  have T1 := Lib.hid (HT.out.on b1)
  have B1 := Lib.hid b1
  clear b1
  go_wp2_with fail
  refine (PUT.out _ T1.out.1).mono ?_
  rintro e w2 ⟨rfl, b2⟩
  have T2 := Lib.hid (T1.out.on b2)
  have B2 := Lib.hid (bt B1.out b2)
  clear b2
  go_wp2_with fail
  refine (PUT2.out _ T2.out.1).mono ?_
  rintro e w3 ⟨rfl, b3⟩
  have T3 := Lib.hid (T2.out.on b3)
  have B3 := Lib.hid (bt B2.out b3)
  clear b3
  go_wp2_with fail
  refine (LX.out _ T3.out).mono ?_
  rintro e w4 ⟨⟨A, ca, rfl, ha, r4, p4⟩, b4⟩
  have T4 := Lib.hid (T3.out.on b4)
  have B4 := Lib.hid (bt B3.out b4)
  have R4 := Lib.hid r4
  have HA := Lib.hid (And.intro ha (And.intro p4 r4.lt))
  clear b4 r4 ha p4
  go_wp2_with fail
  refine (LY.out _ T4.out).mono ?_
  rintro e w5 ⟨⟨B, cb, rfl, hb, r5, p5⟩, b5⟩
  have B5 := Lib.hid (bt B4.out b5)
  have ra := R4.out.on b5
  have hca := ra.fits
  have hcb := r5.fits
  have hma := ra.max
  have hmb := r5.max
  have START : Hid (BlSt w A B (tokCells X) (tokCells Y) 0 w5) :=
    ⟨B5.out, HA.out.2.1.on b5, p5, fun j u _ hu => ra.cell j u hu, fun j u _ hu => r5.cell j u hu, Nat.ne_of_lt (Nat.lt_of_lt_of_le HA.out.2.2 hb), Nat.le_trans B3.out.size HA.out.1, Nat.le_trans B4.out.size hb⟩
  clear b5 ra r5 hb R4 HA p5
  go_wp2_with fail
  go_loopw [63] (fun vi wr => ∃ i : Nat, vi = .int .i64 i ∧ i ≤ m ∧ Hid (BlSt w A B (tokCells X) (tokCells Y) i wr)) (fun vi _ => m - (intOf vi).toNat)
  case atStart => exact ⟨0, rfl, Nat.zero_le _, START⟩
  case round =>
    obtain ⟨i, rfl, hi, HS⟩ := hrel
    by_cases hlt : i < m
    · obtain ⟨a, hga⟩ : ∃ a, X[i]? = some a := ⟨X[i]'(by rw [HM.out]; exact hlt), List.getElem?_eq_getElem _⟩
      obtain ⟨z, hgb⟩ := HAT.out i a hga
      obtain ⟨ak, al, an, az, ao, ai⟩ := a
      obtain ⟨f1, f2, f3, f4⟩ := HS.out.stores hga hgb
      obtain ⟨W2, hW2⟩ : ∃ W2, W2 = ((wr.setCell ⟨A, i * 6 + 1, none⟩ (.int .i64 0)).setCell ⟨B, i * 6 + 1, none⟩ (.int .i64 0)) := ⟨_, rfl⟩
      obtain ⟨⟨q0, q1, q2, q3, q4, q5⟩, p0, p1, p2, p3, p4, p5⟩ := HS.out.loads hga hgb W2 hW2
      have NX := HS.out.next (.int .i64 0) (.int .i64 0)
      rw [← hW2] at NX
      replace NX := Lib.hid NX
      obtain ⟨S, hS⟩ : ∃ S : ByteArray, (⟨az.toArray⟩ : ByteArray) = S := ⟨_, rfl⟩
      simp only [hS] at q3 p3
      have HW := Lib.hid hW2
      clear hgb hga HS hW2 hS
      go_wp2_with fail
      rw [← HW.out]
      clear f1 f2 f3 f4
      go_quiet (fail)
      go_wp2_with fail
      go_round
      case rel => exact ⟨i + 1, by go_num, by omega, NX.out.drewN _⟩
      case measure => simp [intOf]; omega
    · obtain rfl : i = m := by omega
      have HB := Lib.hid HS.out.below
      go_wp2_with fail
      go_ret
      exact ⟨rfl, HB.out⟩

theorem blanks_walk (s t : ByteArray) (W : World) (hs : s.size ≤ maxLen) (hs2 : t.size ≤ maxLen) (ht : Lay W) :
    Calls Tryd.prog 6 #[.string s, .string t] W fun e w' => e = .returned (.bool true) ∧ Below W.heap.size W w' := by
  by_cases h : 300 < s.size ∨ 300 < t.size
  · exact blanks_long s t W ht h hs hs2
  · exact blanks_short s t W ht (by omega) (by omega)

end Go.Proofs.YtkbeaddbnnboaaaDoor
