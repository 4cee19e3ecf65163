/- The law TokenParts returns true for every input: its walk. Conditions: the library's variables hold what their text lays. -/
import Derived.Test.YtkbeaddbnnboaaaDoorTokAa
namespace Go.Proofs.YtkbeaddbnnboaaaDoor
open Go Go.RowKit Go.Maps

set_option maxRecDepth 100000 in
set_option maxHeartbeats 1600000 in
theorem parts_long (a b : ByteArray) (w : World) (ht : Lay w) (h : 2000 < a.size ∨ 2000 < b.size) (hs : a.size ≤ maxLen) (hs2 : b.size ≤ maxLen) :
    Calls Tryd.prog 4 #[.string a, .string b] w fun e w' => e = .returned (.bool true) ∧ Below w.heap.size w w' := by
  have HT := Lib.hid ht
  clear ht
  unfold maxLen at hs hs2
  by_cases h5 : a.size ≤ 2000
  · have h6 : 2000 < b.size := by omega
    clear h
    go_enter Tryd.func4, Tryd.ntmps4
    go_wp2_with fail
    refine (alive_is _ HT.out).mono ?_
    rintro e w1 ⟨rfl, b1⟩
    go_wp2_with fail
    go_ret
    exact ⟨rfl, b1⟩
  · clear h
    go_enter Tryd.func4, Tryd.ntmps4
    go_wp2_with fail
    refine (alive_is _ HT.out).mono ?_
    rintro e w1 ⟨rfl, b1⟩
    go_wp2_with fail
    go_ret
    exact ⟨rfl, b1⟩

abbrev dotB : ByteArray := ⟨#[32, 46, 10]⟩
set_option maxRecDepth 100000 in
set_option maxHeartbeats 1600000 in
theorem parts_badA (a b : ByteArray) (w : World) (ht : Lay w) (hs : a.size ≤ 2000) (hs2 : b.size ≤ 2000) (RA RB : LexR) (HA : Hid (lexN (a ++ ⟨#[32, 46, 10]⟩).data.toList 1 0 = RA)) (HB : Hid (lexN b.data.toList 1 0 = RB)) (h : RA.e ≠ 0) :
    Calls Tryd.prog 4 #[.string a, .string b] w fun e w' => e = .returned (.bool true) ∧ Below w.heap.size w w' := by
  have HT := Lib.hid ht
  have LA : Hid (∀ w, Lay w → Calls Tryd.prog 9 #[.string (a ++ ⟨#[32, 46, 10]⟩)] w (LexPost w RA)) := fun w ht => by
    rw [← HA.out]
    exact lex_is _ w (by simp only [ByteArray.size_append]; show a.size + 3 ≤ 5000; omega) ht
  have LB : Hid (∀ w, Lay w → Calls Tryd.prog 9 #[.string b] w (LexPost w RB)) := fun w ht => by
    rw [← HB.out]
    exact lex_is _ w (by omega) ht
  obtain ⟨ta, na, ea⟩ := RA
  have h1 : ¬ ea = 0 := h
  clear h
  clear ht HA HB
  go_enter Tryd.func4, Tryd.ntmps4
  go_wp2_with fail
  refine (alive_is _ HT.out).mono ?_
  rintro e w1 ⟨rfl, b1⟩
  have T1 := Lib.hid (HT.out.on b1)
  have B1 := Lib.hid b1
  clear b1
  go_wp2_with fail
  refine (LA.out _ T1.out).mono ?_
  rintro e w2 ⟨⟨v1, rfl, o1⟩, b2⟩
  have T2 := Lib.hid (T1.out.on b2)
  have B2 := Lib.hid (bt B1.out b2)
  have O1 := Lib.hid o1
  clear b2 o1
  go_wp2_with fail
  refine (LB.out _ T2.out).mono ?_
  rintro e w3 ⟨⟨v2, rfl, o2⟩, b3⟩
  have B3 := Lib.hid (bt B2.out b3)
  have HBB := Lib.hid B3.out
  clear b3 o2
  go_wp2_with fail
  go_ret
  exact ⟨rfl, HBB.out⟩

set_option maxRecDepth 100000 in
set_option maxHeartbeats 1600000 in
theorem parts_badB (a b : ByteArray) (w : World) (ht : Lay w) (hs : a.size ≤ 2000) (hs2 : b.size ≤ 2000) (RA RB : LexR) (HA : Hid (lexN (a ++ ⟨#[32, 46, 10]⟩).data.toList 1 0 = RA)) (HB : Hid (lexN b.data.toList 1 0 = RB)) (h0 : RA.e = 0) (h : RB.e ≠ 0) :
    Calls Tryd.prog 4 #[.string a, .string b] w fun e w' => e = .returned (.bool true) ∧ Below w.heap.size w w' := by
  have HT := Lib.hid ht
  have LA : Hid (∀ w, Lay w → Calls Tryd.prog 9 #[.string (a ++ ⟨#[32, 46, 10]⟩)] w (LexPost w RA)) := fun w ht => by
    rw [← HA.out]
    exact lex_is _ w (by simp only [ByteArray.size_append]; show a.size + 3 ≤ 5000; omega) ht
  have LB : Hid (∀ w, Lay w → Calls Tryd.prog 9 #[.string b] w (LexPost w RB)) := fun w ht => by
    rw [← HB.out]
    exact lex_is _ w (by omega) ht
  obtain ⟨ta, na, ea⟩ := RA
  obtain ⟨tb, nb, eb⟩ := RB
  obtain rfl : ea = 0 := h0
  have h1 : ¬ eb = 0 := h
  clear h
  clear ht HA HB
  go_enter Tryd.func4, Tryd.ntmps4
  go_wp2_with fail
  refine (alive_is _ HT.out).mono ?_
  rintro e w1 ⟨rfl, b1⟩
  have T1 := Lib.hid (HT.out.on b1)
  have B1 := Lib.hid b1
  clear b1
  go_wp2_with fail
  refine (LA.out _ T1.out).mono ?_
  rintro e w2 ⟨⟨v1, rfl, o1⟩, b2⟩
  have T2 := Lib.hid (T1.out.on b2)
  have B2 := Lib.hid (bt B1.out b2)
  have O1 := Lib.hid o1
  clear b2 o1
  go_wp2_with fail
  refine (LB.out _ T2.out).mono ?_
  rintro e w3 ⟨⟨v2, rfl, o2⟩, b3⟩
  have B3 := Lib.hid (bt B2.out b3)
  have HBB := Lib.hid B3.out
  clear b3 o2
  go_wp2_with fail
  go_ret
  exact ⟨rfl, HBB.out⟩

end Go.Proofs.YtkbeaddbnnboaaaDoor
