/- The law TokenParts returns true for every input: its walk where no text is behind. Conditions: the library's variables hold what their text lays. -/
import Derived.Test.YtkbeaddbnnboaaaDoorTokAb
namespace Go.Proofs.YtkbeaddbnnboaaaDoor
open Go Go.RowKit Go.Maps

set_option maxRecDepth 100000 in
set_option maxHeartbeats 3200000 in
theorem parts_few (a b : ByteArray) (w : World) (ht : Lay w) (hs : a.size ≤ 2000) (hs2 : b.size ≤ 2000) (Y1 : List Tok) (RB : LexR) (n1 m : Nat) (HA : Hid (lexN (a ++ ⟨#[32, 46, 10]⟩).data.toList 1 0 = ⟨Y1, 0, 0⟩)) (HB : Hid (lexN b.data.toList 1 0 = RB)) (hb : RB.e = 0) (hn1 : Y1.length = n1) (hm : RB.toks.length = m) (hm0 : 0 < m) (h1 : n1 = 1) :
    Calls Tryd.prog 4 #[.string a, .string b] w fun e w' => e = .returned (.bool true) ∧ Below w.heap.size w w' := by
  obtain ⟨X, lb, eb⟩ := RB
  obtain rfl : eb = 0 := hb
  obtain rfl : X.length = m := hm
  obtain ⟨m, hm⟩ : ∃ m, X.length = m := ⟨_, rfl⟩
  have HT := Lib.hid ht
  have LA : Hid (∀ w, Lay w → Calls Tryd.prog 9 #[.string (a ++ ⟨#[32, 46, 10]⟩)] w (LexPost w ⟨Y1, 0, 0⟩)) := fun w ht => by
    rw [← HA.out]
    exact lex_is _ w (by simp only [ByteArray.size_append]; show a.size + 3 ≤ 5000; omega) ht
  have LB : Hid (∀ w, Lay w → Calls Tryd.prog 9 #[.string b] w (LexPost w ⟨X, lb, 0⟩)) := fun w ht => by
    rw [← HB.out]
    exact lex_is _ w (by omega) ht
  clear ht HA HB
  go_enter Tryd.func4, Tryd.ntmps4
  go_wp2_with fail
  refine (alive_is _ HT.out).mono ?_
  rintro e w1 ⟨rfl, b1⟩
  have T1 := Lib.hid (HT.out.on b1)
  have B1 := Lib.hid b1
  clear b1
  go_wp2_with fail
  refine (LA.out _ T1.out).mono ?_
  rintro e w2 ⟨⟨v1, rfl, o1⟩, b2⟩
  have T2 := Lib.hid (T1.out.on b2)
  have B2 := Lib.hid (bt B1.out b2)
  have O1 := Lib.hid o1
  clear b2 o1
  go_wp2_with fail
  refine (LB.out _ T2.out).mono ?_
  rintro e w3 ⟨⟨v2, rfl, o2⟩, b3⟩
  have B3 := Lib.hid (bt B2.out b3)
  have HBB := Lib.hid B3.out
  have o1' := O1.out
  have o2' := o2
  simp only [hn1] at o1'
  simp only [hm] at o2'
  obtain ⟨g1, c1, e1, l1, r1⟩ := row_form o1' (by omega)
  obtain ⟨g2, c2, e2, l2, r2⟩ := row_form o2' (by rw [← hm]; exact hm0)
  subst e1
  subst e2
  have r1' := r1.on b3
  have f1 := r1.fits
  have f2 := r1.max
  have f3 := r2.fits
  have f4 := r2.max
  subst h1
  clear b3 o2 o1' o2' r1 r2 r1' O1 l1 l2
  go_wp2_with fail
  go_ret
  exact ⟨rfl, HBB.out⟩

set_option maxRecDepth 100000 in
set_option maxHeartbeats 3200000 in
theorem parts_other (a b : ByteArray) (w : World) (ht : Lay w) (hs : a.size ≤ 2000) (hs2 : b.size ≤ 2000) (Y1 : List Tok) (RB : LexR) (n1 m : Nat) (HA : Hid (lexN (a ++ ⟨#[32, 46, 10]⟩).data.toList 1 0 = ⟨Y1, 0, 0⟩)) (HB : Hid (lexN b.data.toList 1 0 = RB)) (hb : RB.e = 0) (hn1 : Y1.length = n1) (hm : RB.toks.length = m) (hm0 : 0 < m) (u : Nat) (x : Tok) (h2 : (n1 : Int) - 2 = (u : Int)) (hx : Y1[u]? = some x) (hxk : (x.k != 7) = true) :
    Calls Tryd.prog 4 #[.string a, .string b] w fun e w' => e = .returned (.bool true) ∧ Below w.heap.size w w' := by
  obtain ⟨X, lb, eb⟩ := RB
  obtain rfl : eb = 0 := hb
  obtain rfl : X.length = m := hm
  obtain ⟨m, hm⟩ : ∃ m, X.length = m := ⟨_, rfl⟩
  have HT := Lib.hid ht
  have LA : Hid (∀ w, Lay w → Calls Tryd.prog 9 #[.string (a ++ ⟨#[32, 46, 10]⟩)] w (LexPost w ⟨Y1, 0, 0⟩)) := fun w ht => by
    rw [← HA.out]
    exact lex_is _ w (by simp only [ByteArray.size_append]; show a.size + 3 ≤ 5000; omega) ht
  have LB : Hid (∀ w, Lay w → Calls Tryd.prog 9 #[.string b] w (LexPost w ⟨X, lb, 0⟩)) := fun w ht => by
    rw [← HB.out]
    exact lex_is _ w (by omega) ht
  clear ht HA HB
  go_enter Tryd.func4, Tryd.ntmps4
  go_wp2_with fail
  refine (alive_is _ HT.out).mono ?_
  rintro e w1 ⟨rfl, b1⟩
  have T1 := Lib.hid (HT.out.on b1)
  have B1 := Lib.hid b1
  clear b1
  go_wp2_with fail
  refine (LA.out _ T1.out).mono ?_
  rintro e w2 ⟨⟨v1, rfl, o1⟩, b2⟩
  have T2 := Lib.hid (T1.out.on b2)
  have B2 := Lib.hid (bt B1.out b2)
  have O1 := Lib.hid o1
  clear b2 o1
  go_wp2_with fail
  refine (LB.out _ T2.out).mono ?_
  rintro e w3 ⟨⟨v2, rfl, o2⟩, b3⟩
  have B3 := Lib.hid (bt B2.out b3)
  have HBB := Lib.hid B3.out
  have o1' := O1.out
  have o2' := o2
  simp only [hn1] at o1'
  simp only [hm] at o2'
  obtain ⟨g1, c1, e1, l1, r1⟩ := row_form o1' (by omega)
  obtain ⟨g2, c2, e2, l2, r2⟩ := row_form o2' (by rw [← hm]; exact hm0)
  subst e1
  subst e2
  have r1' := r1.on b3
  have f1 := r1.fits
  have f2 := r1.max
  have f3 := r2.fits
  have f4 := r2.max
  have q := r1'.cell _ _ (cells_get Y1 u 0 x _ hx rfl)
  simp only [Nat.add_zero] at q
  clear b3 o2 o1' o2' r1 r2 r1' O1 l1 l2 hx
  go_wp2_with fail
  go_ret
  exact ⟨rfl, HBB.out⟩

end Go.Proofs.YtkbeaddbnnboaaaDoor
