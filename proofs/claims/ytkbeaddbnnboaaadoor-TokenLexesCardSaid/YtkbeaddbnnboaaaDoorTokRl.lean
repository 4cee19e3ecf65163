/- The law TokenLexes returns true for every input: its walk. Conditions: the library's variables hold what their text lays. -/
import Derived.Test.YtkbeaddbnnboaaaDoorTokRk
import Derived.Deep.QuietTactic
namespace Go.Proofs.YtkbeaddbnnboaaaDoor
open Go Go.RowKit Go.Maps

/-- a token's cells in its row -/
theorem cells_get : ∀ (l : List Tok) (i c : Nat) (a : Tok) (v : Value), l[i]? = some a → a.cells[c]? = some v → (tokCells l)[i * 6 + c]? = some v
  | [], i, c, a, v, h, _ => by simp at h
  | t :: l, 0, c, a, v, h, hc => by
    simp only [List.getElem?_cons_zero, Option.some.injEq] at h
    subst h
    have hlt := (List.getElem?_eq_some_iff.1 hc).1
    rw [show tokCells (t :: l) = t.cells ++ tokCells l from rfl, List.getElem?_append_left (by omega), Nat.zero_mul, Nat.zero_add]
    exact hc
  | t :: l, i + 1, c, a, v, h, hc => by
    have h6 : t.cells.length = 6 := rfl
    rw [show tokCells (t :: l) = t.cells ++ tokCells l from rfl, List.getElem?_append_right (by rw [h6]; omega), h6, show (i + 1) * 6 + c - 6 = i * 6 + c by omega]
    exact cells_get l i c a v (by simpa using h) hc

set_option maxRecDepth 100000 in
set_option maxHeartbeats 1600000 in
theorem same_is' (X : List Tok) (n b1 b2 : Nat) (hn : X.length = n) (v1 v2 : Value) (w : World) (h1 : w.ownsRow b1 30 6 v1 n (tokCells X)) (h2 : w.ownsRow b2 30 6 v2 n (tokCells X)) :
    Calls Tryd.prog 11 #[v1, v2] w fun e w' => e = .returned (.bool true) ∧ ∃ q, w' = w.drewN q := by
  have CELLS : Hid (0 < n → ∃ g1 c1 g2 c2, (v1 = .slice (some ⟨g1, 0, none⟩) n c1 ∧ v2 = .slice (some ⟨g2, 0, none⟩) n c2) ∧ (n ≤ c1 ∧ c1 ≤ 9223372036854775807 ∧ n ≤ c2 ∧ c2 ≤ 9223372036854775807) ∧ ∀ i a c u, X[i]? = some a → a.cells[c]? = some u → w.cell? ⟨g1, i * 6 + c, none⟩ = some u ∧ w.cell? ⟨g2, i * 6 + c, none⟩ = some u) := by
    intro h0
    obtain ⟨g1, c1, e1, _, r1⟩ := row_form h1 h0
    obtain ⟨g2, c2, e2, _, r2⟩ := row_form h2 h0
    exact ⟨g1, c1, g2, c2, ⟨e1, e2⟩, ⟨r1.fits, r1.max, r2.fits, r2.max⟩, fun i a c u ha hu => ⟨r1.cell _ _ (cells_get X i c a u ha hu), r2.cell _ _ (cells_get X i c a u ha hu)⟩⟩
  obtain ⟨a1, k1, rfl⟩ := owns_slice h1
  obtain ⟨a2, k2, rfl⟩ := owns_slice h2
  have HN := Lib.hid hn
  clear h1 h2 hn
  go_enter Tryd.func11, Tryd.ntmps11
  go_wp2_with fail
  go_loopw [13] (fun vi wr => ∃ i : Nat, vi = .int .i64 i ∧ i ≤ n ∧ ∃ q, wr = w.drewN q) (fun vi _ => n - (intOf vi).toNat)
  case atStart => exact ⟨0, rfl, Nat.zero_le _, 0, rfl⟩
  case round =>
    obtain ⟨i, rfl, hi, q, rfl⟩ := hrel
    by_cases hlt : i < n
    · obtain ⟨a, hga⟩ : ∃ a, X[i]? = some a := ⟨X[i]'(by rw [HN.out]; exact hlt), List.getElem?_eq_getElem _⟩
      obtain ⟨g1, c1, g2, c2, ⟨e1, e2⟩, ⟨l1, l2, l3, l4⟩, hc⟩ := CELLS.out (by omega)
      cases e1
      cases e2
      obtain ⟨p0, q0⟩ := hc i a 0 _ hga rfl
      obtain ⟨p1, q1⟩ := hc i a 1 _ hga rfl
      obtain ⟨p2, q2⟩ := hc i a 2 _ hga rfl
      obtain ⟨p3, q3⟩ := hc i a 3 _ hga rfl
      obtain ⟨p4, q4⟩ := hc i a 4 _ hga rfl
      obtain ⟨p5, q5⟩ := hc i a 5 _ hga rfl
      obtain ⟨ak, al, an, az, ao, ai⟩ := a
      obtain ⟨S, hS⟩ : ∃ S : ByteArray, (⟨az.toArray⟩ : ByteArray) = S := ⟨_, rfl⟩
      simp only [hS] at p3 q3
      simp only [Nat.add_zero] at p0 q0
      clear hc hga hS CELLS
      go_wp2_with fail
      go_quiet (fail)
      go_wp2_with fail
      go_round
      case rel => exact ⟨i + 1, by go_num, by omega, q + nq, rfl⟩
      case measure => simp [intOf]; omega
    · obtain rfl : i = n := by omega
      go_wp2_with fail
      go_ret
      exact ⟨rfl, q, rfl⟩

set_option maxRecDepth 100000 in
set_option maxHeartbeats 1600000 in
theorem lexes_walk (s : ByteArray) (w : World) (hs : s.size ≤ maxLen) (ht : Lay w) :
    Calls Tryd.prog 3 #[.string s] w fun e w' => e = .returned (.bool true) ∧ Below w.heap.size w w' := by
  have HT := Lib.hid ht
  clear ht
  unfold maxLen at hs
  by_cases h5 : s.size ≤ 3000
  · obtain ⟨⟨X, ln, ec⟩, hR⟩ : ∃ R, lexN s.data.toList 1 0 = R := ⟨_, rfl⟩
    have L1 : Hid (∀ w, Lay w → Calls Tryd.prog 9 #[.string s] w (LexPost w ⟨X, ln, ec⟩)) := fun w ht => by
      rw [← hR]
      exact lex_is s w (by omega) ht
    have L2 : Hid (∀ w, Calls Tryd.prog 10 #[.string s] w (LexPost w ⟨X, ln, ec⟩)) := fun w => by
      rw [← hR]
      exact ref_lex_is s w h5
    clear hR
    go_enter Tryd.func3, Tryd.ntmps3
    go_wp2_with fail
    refine (alive_is _ HT.out).mono ?_
    rintro e w1 ⟨rfl, b1⟩
    have T1 := Lib.hid (HT.out.on b1)
    have B1 := Lib.hid b1
    clear b1
    go_wp2_with fail
    refine (L1.out _ T1.out).mono ?_
    rintro e w2 ⟨⟨v1, rfl, o1⟩, b2⟩
    have B2 := Lib.hid (bt B1.out b2)
    have O1 := Lib.hid o1
    clear b2 o1
    go_wp2_with fail
    refine (L2.out _).mono ?_
    rintro e w3 ⟨⟨v2, rfl, o2⟩, b3⟩
    have B3 := Lib.hid (bt B2.out b3)
    have O13 := Lib.hid (owns_same O1.out (fun g hg => b3.block g (O1.out.lt g hg).2))
    have O2 := Lib.hid o2
    clear b3 o2 O1
    go_wp2_with fail
    refine (same_is' X X.length _ _ rfl _ _ _ O13.out O2.out).mono ?_
    rintro _ w8 ⟨rfl, qq, rfl⟩
    go_wp2_with fail
    go_ret
    exact ⟨rfl, B3.out.trans ⟨rfl, rfl, rfl, Nat.le_refl _, fun _ _ => rfl⟩⟩
  · go_enter Tryd.func3, Tryd.ntmps3
    go_wp2_with fail
    refine (alive_is _ HT.out).mono ?_
    rintro e w1 ⟨rfl, b1⟩
    go_wp2_with fail
    go_ret
    exact ⟨rfl, b1⟩

end Go.Proofs.YtkbeaddbnnboaaaDoor
