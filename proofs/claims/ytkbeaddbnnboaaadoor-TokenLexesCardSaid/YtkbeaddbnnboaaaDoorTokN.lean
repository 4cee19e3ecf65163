/- The document's examples of layer 4 hold (alive). Conditions: the library's variables hold what their text lays. -/
import Derived.Test.YtkbeaddbnnboaaaDoorTokM
namespace Go.Proofs.YtkbeaddbnnboaaaDoor
open Go Go.RowKit Go.Maps

/-- a row of tokens in memory, read cell by cell -/
structure TokRow (w : World) (g n cap : Nat) (xs : List Value) : Prop where
  fits : n ≤ cap
  max : cap ≤ 9223372036854775807
  lt : g < w.heap.size
  cell : ∀ j u, xs[j]? = some u → w.cell? ⟨g, j, none⟩ = some u
theorem TokRow.on {w w' : World} {g n cap : Nat} {xs : List Value} (h : TokRow w g n cap xs) (hb : Below w.heap.size w w') : TokRow w' g n cap xs :=
  ⟨h.fits, h.max, Nat.lt_of_lt_of_le h.lt hb.size, fun j u hu => (hb.cell (p := ⟨g, j, none⟩) h.lt).trans (h.cell j u hu)⟩
theorem row_form {w : World} {b n : Nat} {v : Value} {xs : List Value} (h : w.ownsRow b 30 6 v n xs) (hn : 0 < n) : ∃ g cap, v = .slice (some ⟨g, 0, none⟩) n cap ∧ b ≤ g ∧ TokRow w g n cap xs := by
  obtain ⟨h1, ⟨_, h0⟩ | ⟨g, cap, cur, hv, h2, h3, h4, h5, h6, h7⟩⟩ := h
  · omega
  · refine ⟨g, cap, hv, h2, h4, by unfold maxLen at h5; omega, heap_lt h3, fun j u hu => ?_⟩
    have hj : j < n * 6 := by rw [← h1]; exact (List.getElem?_eq_some_iff.1 hu).1
    refine cell_of_heap h3 ?_
    rw [← h7, List.getElem?_take, if_pos hj] at hu
    simpa using hu
theorem lex_at (l : List UInt8) (R : LexR) (h : lexN l 1 0 = R) (hl : l.length ≤ 5000) (n : Nat) (line ec : Int) (hn : R.toks.length = n) (hline : R.line = line) (hec : R.e = ec) (h0 : 0 < n) (w : World) (ht : Lay w) :
    Calls Tryd.prog 9 #[.string ⟨l.toArray⟩] w fun e w' => (∃ g cap, e = .returned (.tuple #[.slice (some ⟨g, 0, none⟩) n cap, .int .i64 line, .int .i64 ec]) ∧ w.heap.size ≤ g ∧ TokRow w' g n cap (tokCells R.toks)) ∧ Below w.heap.size w w' := by
  refine (lex_is ⟨l.toArray⟩ w (by rw [Lib.size_eq]; simpa using hl) ht).mono ?_
  rintro e w' ⟨⟨v, rfl, ho⟩, hb⟩
  rw [show lexN (ByteArray.mk l.toArray).data.toList 1 0 = R from h] at ho ⊢
  subst hn hline hec
  obtain ⟨g, cap, rfl, hg, hr⟩ := row_form ho h0
  exact ⟨⟨g, cap, rfl, hg, hr⟩, hb⟩

def exA : LexR := ⟨[⟨1, 1, 0, [97], false, false⟩, ⟨1, 1, 0, [58, 45], false, true⟩, ⟨1, 1, 0, [98], false, true⟩, ⟨7, 1, 0, [], false, true⟩, ⟨0, 1, 0, [], false, false⟩], 0, 0⟩
def exB : LexR := ⟨[⟨4, 1, 0, [88], false, false⟩, ⟨1, 1, 0, [61], false, true⟩, ⟨1, 1, 0, [45], false, false⟩, ⟨3, 1, 1, [], false, true⟩, ⟨0, 1, 0, [], false, false⟩], 0, 0⟩
def exC : LexR := ⟨[⟨1, 1, 0, [102], true, false⟩, ⟨6, 1, 0, [40], false, true⟩, ⟨0, 1, 0, [], false, false⟩], 0, 0⟩
theorem ex_a : lexN [97, 58, 45, 98, 46] 1 0 = exA := by kernel_rfl
theorem ex_b : lexN [88, 61, 32, 45, 49] 1 0 = exB := by kernel_rfl
theorem ex_c : lexN [102, 40] 1 0 = exC := by kernel_rfl

set_option maxRecDepth 100000 in
set_option maxHeartbeats 1600000 in
theorem alive_is (w : World) (ht : Lay w) :
    Calls Tryd.prog 8 #[] w fun e w' => e = .returned (.bool true) ∧ Below w.heap.size w w' := by
  have HT := Lib.hid ht
  have C1 := Lib.hid (fun w => lex_at [97, 58, 45, 98, 46] exA ex_a (by decide) 5 0 0 rfl rfl rfl (by decide) w)
  have C2 := Lib.hid (fun w => lex_at [88, 61, 32, 45, 49] exB ex_b (by decide) 5 0 0 rfl rfl rfl (by decide) w)
  have C3 := Lib.hid (fun w => lex_at [102, 40] exC ex_c (by decide) 3 0 0 rfl rfl rfl (by decide) w)
  clear ht
  go_enter Tryd.func8, Tryd.ntmps8
  go_wp2_with fail
  refine (C1.out _ HT.out).mono ?_
  rintro e w1 ⟨⟨g1, c1, rfl, _, r1⟩, b1⟩
  have T1 := Lib.hid (HT.out.on b1)
  have R1 := Lib.hid r1
  clear r1
  go_wp2_with fail
  refine (C2.out _ T1.out).mono ?_
  rintro e w2 ⟨⟨g2, c2, rfl, _, r2⟩, b2⟩
  have T2 := Lib.hid (T1.out.on b2)
  have R12 := Lib.hid (R1.out.on b2)
  have R2 := Lib.hid r2
  clear r2
  go_wp2_with fail
  refine (C3.out _ T2.out).mono ?_
  rintro e w3 ⟨⟨g3, c3, rfl, _, r3⟩, b3⟩
  have R13 := R12.out.on b3
  have R23 := R2.out.on b3
  have y1 := R13.cell 9 (.string ⟨#[58, 45]⟩) rfl
  have y2 := R13.cell 18 (.int .i64 7) rfl
  have y3 := R23.cell 20 (.int .i64 1) rfl
  have y4 := R23.cell 23 (.bool true) rfl
  have y5 := R23.cell 17 (.bool false) rfl
  have y6 := r3.cell 4 (.bool true) rfl
  have HB := Lib.hid (bt (bt b1 b2) b3)
  clear b1 b2 b3 C1 C2 C3 R1 R2 R12 T1 T2 R13 R23 r3
  go_wp2_with fail
  go_ret
  exact ⟨rfl, HB.out⟩
end Go.Proofs.YtkbeaddbnnboaaaDoor
