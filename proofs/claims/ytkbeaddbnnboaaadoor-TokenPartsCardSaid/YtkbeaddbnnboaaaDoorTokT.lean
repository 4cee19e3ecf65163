/- The mathematics of TokenBlanks: two atoms, whatever blanks and comments stand between them. Conditions: none. -/
import Derived.Test.YtkbeaddbnnboaaaDoorTokQ
import Derived.Lib.CutLaws
namespace Go.Proofs.YtkbeaddbnnboaaaDoor
open Go Go.RowKit Go.Maps

/-- the tokens of an atom as it is written, ahead of a blank -/
def atomToks (s : List UInt8) (n : Int) : List Tok :=
  if s = [91, 93] then [⟨6, n, 0, [91], false, false⟩, ⟨6, n, 0, [93], false, true⟩]
  else if s = [123, 125] then [⟨6, n, 0, [123], false, false⟩, ⟨6, n, 0, [125], false, true⟩]
  else [⟨(atomT s).k, n, 0, s, false, false⟩]
theorem toks_len (s : List UInt8) (n : Int) : 1 ≤ (atomToks s n).length ∧ (atomToks s n).length ≤ 2 := by
  unfold atomToks
  split
  · simp
  · split <;> simp
/-- the same but for the line -/
def Tok.off (t : Tok) : Tok := ⟨t.k, 0, t.n, t.s, t.open', t.tight⟩
theorem toks_off (s : List UInt8) (n m : Int) : (atomToks s n).map Tok.off = (atomToks s m).map Tok.off := by
  unfold atomToks
  split
  · rfl
  · split <;> rfl
theorem lex_put {l s r : List UInt8} {c : UInt8} {n : Int} {k j : Nat} (hj : skipN l = j) (hd : l.drop j = putL s ++ c :: r) (hc : blankB c) (hjk : (decide (j = 0) && decide (0 < k)) = false) (hk : k < 16383) :
    lexN l n k = (lexN (c :: r) (n + nlC (l.take j)) (k + (atomToks s (n + nlC (l.take j))).length)).after (atomToks s (n + nlC (l.take j))) := by
  unfold atomToks
  split
  · rename_i h; subst h
    rw [lex_two (a := 91) (b := 93) (c := c) (r := r) (.inl ⟨rfl, rfl⟩) hj hd hc hk, hjk]
    rfl
  · split
    · rename_i h; subst h
      rw [lex_two (a := 123) (b := 125) (c := c) (r := r) (.inr ⟨rfl, rfl⟩) hj hd hc hk, hjk]
      rfl
    · rename_i h1 h2
      rw [lex_atom hj hd hc h1 h2 (by omega), hjk]
      rfl

def gap1 : List UInt8 := [32, 47, 42, 32, 110, 111, 116, 101, 32, 42, 47, 32, 37, 32, 109, 111, 114, 101, 10, 9]
theorem gap_bl {c : UInt8} {t : List UInt8} (hc : blankB c) : gapN (c :: t) = 1 :=
  gap_blank (by rw [show sortZ (c.toNat : Int) = 1 from hc]; rfl)
theorem skip_blank {c : UInt8} {t : List UInt8} (hc : blankB c) : skipN (c :: t) = 1 + skipN t := by
  rw [skipN_on (by rw [gap_bl hc]; decide), gap_bl hc]
  rfl
theorem gap_note (t : List UInt8) : gapN (47 :: 42 :: 32 :: 110 :: 111 :: 116 :: 101 :: 32 :: 42 :: 47 :: t) = 10 := by rfl
theorem gap_more (t : List UInt8) : gapN (37 :: 32 :: 109 :: 111 :: 114 :: 101 :: 10 :: t) = 6 := by rfl
theorem b32 : blankB 32 := (by decide : sortZ (((32 : UInt8).toNat : Nat) : Int) = 1)
theorem b10 : blankB 10 := (by decide : sortZ (((10 : UInt8).toNat : Nat) : Int) = 1)
theorem b9 : blankB 9 := (by decide : sortZ (((9 : UInt8).toNat : Nat) : Int) = 1)
theorem skip_gap (t : List UInt8) : skipN (gap1 ++ t) = 20 + skipN t := by
  show skipN (32 :: 47 :: 42 :: 32 :: 110 :: 111 :: 116 :: 101 :: 32 :: 42 :: 47 :: 32 :: 37 :: 32 :: 109 :: 111 :: 114 :: 101 :: 10 :: 9 :: t) = _
  rw [skip_blank b32, skipN_on (by rw [gap_note]; decide), gap_note]
  show 1 + (10 + skipN (32 :: 37 :: 32 :: 109 :: 111 :: 114 :: 101 :: 10 :: 9 :: t)) = _
  rw [skip_blank b32, skipN_on (by rw [gap_more]; decide), gap_more]
  show 1 + (10 + (1 + (6 + skipN (10 :: 9 :: t)))) = _
  rw [skip_blank b10, skip_blank b9]
  omega

def endTok (n : Int) : Tok := ⟨0, n, 0, [], false, false⟩
theorem lex_nl (n : Int) (k : Nat) : lexN [10] n k = ⟨[endTok (n + 1)], 0, 0⟩ := by
  rw [lex_end (j := 1) (by decide) rfl]
  simp [nlC, Lib.countByte, endTok]
theorem after_mk (ts us : List Tok) (a b : Int) : LexR.after ⟨us, a, b⟩ ts = ⟨ts ++ us, a, b⟩ := rfl
def lexX (s t : List UInt8) : LexR := ⟨atomToks s 1 ++ (atomToks t 1 ++ [endTok 1]), 0, 0⟩
def lexY (s t : List UInt8) : LexR := ⟨atomToks s 1 ++ (atomToks t 2 ++ [endTok 3]), 0, 0⟩
theorem blanks_x (s t : List UInt8) : lexN (putL s ++ [32] ++ putL t ++ [32]) 1 0 = lexX s t := by
  have hs := toks_len s 1
  rw [show putL s ++ [32] ++ putL t ++ [32] = putL s ++ 32 :: (putL t ++ [32]) by simp]
  rw [lex_put (j := 0) (s := s) (skip_atom b32) rfl b32 rfl (by omega)]
  rw [lex_put (j := 1) (s := t) (c := 32) (r := []) (by rw [skip_blank b32, skip_atom b32]) rfl b32 rfl (by simp [nlC, Lib.countByte]; omega)]
  rw [lex_blank, after_mk, after_mk]
  simp [lexX, nlC, Lib.countByte, endTok]
theorem blanks_y (s t : List UInt8) : lexN (putL s ++ gap1 ++ putL t ++ [10]) 1 0 = lexY s t := by
  have hs := toks_len s 1
  rw [show putL s ++ gap1 ++ putL t ++ [10] = putL s ++ 32 :: (gap1.drop 1 ++ (putL t ++ [10])) by simp [gap1]]
  rw [lex_put (j := 0) (s := s) (skip_atom b32) rfl b32 rfl (by omega)]
  rw [show (32 : UInt8) :: (gap1.drop 1 ++ (putL t ++ [10])) = gap1 ++ (putL t ++ [10]) from rfl]
  rw [lex_put (j := 20) (s := t) (c := 10) (r := []) (by rw [skip_gap, skip_atom b10]) (List.drop_left' rfl) b10 rfl (by simp [nlC, Lib.countByte]; omega)]
  rw [lex_nl, after_mk, after_mk]
  have h20 : nlC (List.take 20 (gap1 ++ (putL t ++ [10]))) = 1 := by
    rw [List.take_left' (show gap1.length = 20 from rfl)]
    rfl
  rw [h20]
  rfl
theorem xy_off (s t : List UInt8) : (lexX s t).toks.map Tok.off = (lexY s t).toks.map Tok.off := by
  simp only [lexX, lexY, List.map_append, toks_off t 2 1]
  rfl
theorem xy_len (s t : List UInt8) : 3 ≤ (lexX s t).toks.length ∧ (lexX s t).toks.length ≤ 5 ∧ (lexY s t).toks.length = (lexX s t).toks.length := by
  have h1 := toks_len s 1
  have h2 := toks_len t 1
  have h3 := congrArg List.length (xy_off s t)
  simp only [List.length_map] at h3
  simp only [lexX, lexY, List.length_append, List.length_singleton] at h3 ⊢
  omega
theorem xy_at {s t : List UInt8} {i : Nat} {a : Tok} (h : (lexX s t).toks[i]? = some a) : ∃ n, (lexY s t).toks[i]? = some ⟨a.k, n, a.n, a.s, a.open', a.tight⟩ := by
  have h1 := congrArg (fun l => l[i]?) (xy_off s t)
  simp only [List.getElem?_map, h, Option.map_some] at h1
  rcases hy : (lexY s t).toks[i]? with _ | b
  · rw [hy] at h1; cases h1
  · rw [hy] at h1
    simp only [Option.map_some, Option.some.injEq, Tok.off, Tok.mk.injEq] at h1
    obtain ⟨e1, _, e2, e3, e4, e5⟩ := h1
    exact ⟨b.line, by rw [e1, e2, e3, e4, e5]⟩

theorem put_len3 (s : ByteArray) (hs : s.size ≤ 300) : (putL s.data.toList).length ≤ 1502 := by
  unfold putL
  have h3 := putB_len s.data.toList
  rw [← Lib.size_eq] at h3
  split
  · rw [← Lib.size_eq]; omega
  · rw [List.length_append]; simp; omega

/-- a token's cells in its row -/
theorem cells_get : ∀ (l : List Tok) (i c : Nat) (a : Tok) (v : Value), l[i]? = some a → a.cells[c]? = some v → (tokCells l)[i * 6 + c]? = some v
  | [], i, c, a, v, h, _ => by simp at h
  | t :: l, 0, c, a, v, h, hc => by
    simp only [List.getElem?_cons_zero, Option.some.injEq] at h
    subst h
    have hlt := (List.getElem?_eq_some_iff.1 hc).1
    rw [show tokCells (t :: l) = t.cells ++ tokCells l from rfl, List.getElem?_append_left (by omega), Nat.zero_mul, Nat.zero_add]
    exact hc
  | t :: l, i + 1, c, a, v, h, hc => by
    have h6 : t.cells.length = 6 := rfl
    rw [show tokCells (t :: l) = t.cells ++ tokCells l from rfl, List.getElem?_append_right (by rw [h6]; omega), h6, show (i + 1) * 6 + c - 6 = i * 6 + c by omega]
    exact cells_get l i c a v (by simpa using h) hc

/-- a block of the walk's own, never shared -/
def PlainAt (w : World) (b : Nat) : Prop := ∃ c T, w.heap[b]? = some (.cells c T (0, 0))
theorem PlainAt.free {w : World} {b : Nat} (h : PlainAt w b) (o : Nat) : w.frozen? ⟨b, o, none⟩ = false := by
  obtain ⟨c, T, h⟩ := h
  exact free_of_heap h
theorem PlainAt.set {w : World} {b : Nat} (h : PlainAt w b) (p : Addr) (v : Value) : PlainAt (w.setCell p v) b := by
  obtain ⟨c, T, h⟩ := h
  by_cases hb : b = p.block
  · subst hb
    exact ⟨if p.spot.isSome then c else c.setIfInBounds p.off v, T, by simp [World.setCell, Array.getElem?_modify, h]⟩
  · exact ⟨c, T, by rw [Below.heap_setCell _ _ _ _ hb]; exact h⟩

theorem PlainAt.on {w w' : World} {b : Nat} (h : PlainAt w b) (hb : Below w.heap.size w w') : PlainAt w' b := by
  obtain ⟨c, T, h⟩ := h
  exact ⟨c, T, (hb.block b (heap_lt h)).trans h⟩
theorem lex_own (l : List UInt8) (R : LexR) (h : lexN l 1 0 = R) (hl : l.length ≤ 5000) (n : Nat) (line ec : Int) (hn : R.toks.length = n) (hline : R.line = line) (hec : R.e = ec) (h0 : 0 < n) (w : World) (ht : Lay w) :
    Calls Tryd.prog 9 #[.string ⟨l.toArray⟩] w fun e w' => (∃ g cap, e = .returned (.tuple #[.slice (some ⟨g, 0, none⟩) n cap, .int .i64 line, .int .i64 ec]) ∧ w.heap.size ≤ g ∧ TokRow w' g n cap (tokCells R.toks) ∧ PlainAt w' g) ∧ Below w.heap.size w w' := by
  refine (lex_is ⟨l.toArray⟩ w (by rw [Lib.size_eq]; simpa using hl) ht).mono ?_
  rintro e w' ⟨⟨v, rfl, ho⟩, hb⟩
  rw [show lexN (ByteArray.mk l.toArray).data.toList 1 0 = R from h] at ho ⊢
  subst hn hline hec
  obtain ⟨g, cap, rfl, hg, hr⟩ := row_form ho h0
  refine ⟨⟨g, cap, rfl, hg, hr, ?_⟩, hb⟩
  obtain ⟨_, ⟨_, h1⟩ | ⟨g', cap', cur, hv, _, h3, _⟩⟩ := ho
  · omega
  · cases hv
    exact ⟨_, _, h3⟩

/-- ahead of a round of the loop that puts all lines to 0: the tokens from the i-th on are as they were -/
structure BlSt (W : World) (A B : Nat) (X Y : List Value) (i : Nat) (wr : World) : Prop where
  below : Below W.heap.size W wr
  pa : PlainAt wr A
  pb : PlainAt wr B
  xa : ∀ j u, i * 6 ≤ j → X[j]? = some u → wr.cell? ⟨A, j, none⟩ = some u
  yb : ∀ j u, i * 6 ≤ j → Y[j]? = some u → wr.cell? ⟨B, j, none⟩ = some u
  ne : A ≠ B
  la : W.heap.size ≤ A
  lb : W.heap.size ≤ B
theorem BlSt.next {W : World} {A B i : Nat} {X Y : List Value} {wr : World} (h : BlSt W A B X Y i wr) (u v : Value) : BlSt W A B X Y (i + 1) ((wr.setCell ⟨A, i * 6 + 1, none⟩ u).setCell ⟨B, i * 6 + 1, none⟩ v) := by
  refine ⟨(h.below.setCell h.la _).setCell h.lb _, (h.pa.set _ _).set _ _, (h.pb.set _ _).set _ _, fun j x hj hx => ?_, fun j x hj hx => ?_, h.ne, h.la, h.lb⟩
  · rw [World.cell?_setCell_other _ _ _ _ (by intro e; injection e with e; first | exact h.ne e | exact h.ne e.symm), World.cell?_setCell_other _ _ _ _ (by intro e; injection e with _ e; omega)]
    exact h.xa j x (by omega) hx
  · rw [World.cell?_setCell_other _ _ _ _ (by intro e; injection e with _ e; omega), World.cell?_setCell_other _ _ _ _ (by intro e; injection e with e; first | exact h.ne e | exact h.ne e.symm)]
    exact h.yb j x (by omega) hx
theorem BlSt.drewN {W : World} {A B i : Nat} {X Y : List Value} {wr : World} (h : BlSt W A B X Y i wr) (n : Nat) : BlSt W A B X Y i (wr.drewN n) :=
  ⟨⟨h.below.os, h.below.tape, h.below.output, h.below.size, h.below.block⟩, h.pa, h.pb, h.xa, h.yb, h.ne, h.la, h.lb⟩
/-- the i-th tokens' cells behind the two stores -/
theorem BlSt.loads {W : World} {A B i : Nat} {X Y : List Tok} {wr : World} (h : BlSt W A B (tokCells X) (tokCells Y) i wr) {a b : Tok} (ha : X[i]? = some a) (hb : Y[i]? = some b) :
    ∀ w2, w2 = ((wr.setCell ⟨A, i * 6 + 1, none⟩ (.int .i64 0)).setCell ⟨B, i * 6 + 1, none⟩ (.int .i64 0)) →
    (w2.cell? ⟨A, i * 6, none⟩ = some (.int .i64 a.k) ∧ w2.cell? ⟨A, i * 6 + 1, none⟩ = some (.int .i64 0) ∧ w2.cell? ⟨A, i * 6 + 2, none⟩ = some (.int .i64 a.n) ∧ w2.cell? ⟨A, i * 6 + 3, none⟩ = some (.string ⟨a.s.toArray⟩) ∧ w2.cell? ⟨A, i * 6 + 4, none⟩ = some (.bool a.open') ∧ w2.cell? ⟨A, i * 6 + 5, none⟩ = some (.bool a.tight)) ∧
    (w2.cell? ⟨B, i * 6, none⟩ = some (.int .i64 b.k) ∧ w2.cell? ⟨B, i * 6 + 1, none⟩ = some (.int .i64 0) ∧ w2.cell? ⟨B, i * 6 + 2, none⟩ = some (.int .i64 b.n) ∧ w2.cell? ⟨B, i * 6 + 3, none⟩ = some (.string ⟨b.s.toArray⟩) ∧ w2.cell? ⟨B, i * 6 + 4, none⟩ = some (.bool b.open') ∧ w2.cell? ⟨B, i * 6 + 5, none⟩ = some (.bool b.tight)) := by
  intro w2 hw
  have hn := h.ne
  have x1 := h.xa _ _ (by omega) (cells_get X i 1 a _ ha rfl)
  have y1 := h.yb _ _ (by omega) (cells_get Y i 1 b _ hb rfl)
  have xo : ∀ c v, c ≠ 1 → a.cells[c]? = some v → w2.cell? ⟨A, i * 6 + c, none⟩ = some v := fun c v hc hv => by
    rw [hw, World.cell?_setCell_other _ _ _ _ (by intro e; injection e with e; first | exact hn e | exact hn e.symm), World.cell?_setCell_other _ _ _ _ (by intro e; injection e with _ e; omega)]
    exact h.xa _ _ (by omega) (cells_get X i c a _ ha hv)
  have yo : ∀ c v, c ≠ 1 → b.cells[c]? = some v → w2.cell? ⟨B, i * 6 + c, none⟩ = some v := fun c v hc hv => by
    rw [hw, World.cell?_setCell_other _ _ _ _ (by intro e; injection e with _ e; omega), World.cell?_setCell_other _ _ _ _ (by intro e; injection e with e; first | exact hn e | exact hn e.symm)]
    exact h.yb _ _ (by omega) (cells_get Y i c b _ hb hv)
  refine ⟨⟨xo 0 _ (by decide) rfl, ?_, xo 2 _ (by decide) rfl, xo 3 _ (by decide) rfl, xo 4 _ (by decide) rfl, xo 5 _ (by decide) rfl⟩, yo 0 _ (by decide) rfl, ?_, yo 2 _ (by decide) rfl, yo 3 _ (by decide) rfl, yo 4 _ (by decide) rfl, yo 5 _ (by decide) rfl⟩
  · rw [hw, World.cell?_setCell_other _ _ _ _ (by intro e; injection e with e; first | exact hn e | exact hn e.symm)]
    exact World.cell?_setCell_same _ _ _ x1
  · rw [hw]
    refine World.cell?_setCell_same _ _ _ (?_ : _ = some (.int .i64 b.line))
    rw [World.cell?_setCell_other _ _ _ _ (by intro e; injection e with e; first | exact hn e | exact hn e.symm)]
    exact y1
theorem BlSt.stores {W : World} {A B i : Nat} {X Y : List Tok} {wr : World} (h : BlSt W A B (tokCells X) (tokCells Y) i wr) {a b : Tok} (ha : X[i]? = some a) (hb : Y[i]? = some b) :
    wr.frozen? ⟨A, i * 6 + 1, none⟩ = false ∧ wr.cell? ⟨A, i * 6 + 1, none⟩ = some (.int .i64 a.line) ∧ (wr.setCell ⟨A, i * 6 + 1, none⟩ (.int .i64 0)).frozen? ⟨B, i * 6 + 1, none⟩ = false ∧ (wr.setCell ⟨A, i * 6 + 1, none⟩ (.int .i64 0)).cell? ⟨B, i * 6 + 1, none⟩ = some (.int .i64 b.line) := by
  have hn := h.ne
  refine ⟨h.pa.free _, h.xa _ _ (by omega) (cells_get X i 1 a _ ha rfl), (h.pb.set _ _).free _, ?_⟩
  rw [World.cell?_setCell_other _ _ _ _ (by intro e; injection e with e; first | exact hn e | exact hn e.symm)]
  exact h.yb _ _ (by omega) (cells_get Y i 1 b _ hb rfl)

end Go.Proofs.YtkbeaddbnnboaaaDoor
