/- The document's Same, and what the walk of TokenParts carries. Conditions: rows of tokens that stand in memory. -/
import Derived.Test.YtkbeaddbnnboaaaDoorTokZ
import Derived.Deep.QuietTactic
namespace Go.Proofs.YtkbeaddbnnboaaaDoor
open Go Go.RowKit Go.Maps

set_option maxRecDepth 100000 in
set_option maxHeartbeats 1600000 in
theorem same_is' (X : List Tok) (n b1 b2 : Nat) (hn : X.length = n) (v1 v2 : Value) (w : World) (h1 : w.ownsRow b1 30 6 v1 n (tokCells X)) (h2 : w.ownsRow b2 30 6 v2 n (tokCells X)) :
    Calls Tryd.prog 11 #[v1, v2] w fun e w' => e = .returned (.bool true) ∧ ∃ q, w' = w.drewN q := by
  have CELLS : Hid (0 < n → ∃ g1 c1 g2 c2, (v1 = .slice (some ⟨g1, 0, none⟩) n c1 ∧ v2 = .slice (some ⟨g2, 0, none⟩) n c2) ∧ (n ≤ c1 ∧ c1 ≤ 9223372036854775807 ∧ n ≤ c2 ∧ c2 ≤ 9223372036854775807) ∧ ∀ i a c u, X[i]? = some a → a.cells[c]? = some u → w.cell? ⟨g1, i * 6 + c, none⟩ = some u ∧ w.cell? ⟨g2, i * 6 + c, none⟩ = some u) := by
    intro h0
    obtain ⟨g1, c1, e1, _, r1⟩ := row_form h1 h0
    obtain ⟨g2, c2, e2, _, r2⟩ := row_form h2 h0
    exact ⟨g1, c1, g2, c2, ⟨e1, e2⟩, ⟨r1.fits, r1.max, r2.fits, r2.max⟩, fun i a c u ha hu => ⟨r1.cell _ _ (cells_get X i c a u ha hu), r2.cell _ _ (cells_get X i c a u ha hu)⟩⟩
  obtain ⟨a1, k1, rfl⟩ := owns_slice h1
  obtain ⟨a2, k2, rfl⟩ := owns_slice h2
  have HN := Lib.hid hn
  clear h1 h2 hn
  go_enter Tryd.func11, Tryd.ntmps11
  go_wp2_with fail
  go_loopw [13] (fun vi wr => ∃ i : Nat, vi = .int .i64 i ∧ i ≤ n ∧ ∃ q, wr = w.drewN q) (fun vi _ => n - (intOf vi).toNat)
  case atStart => exact ⟨0, rfl, Nat.zero_le _, 0, rfl⟩
  case round =>
    obtain ⟨i, rfl, hi, q, rfl⟩ := hrel
    by_cases hlt : i < n
    · obtain ⟨a, hga⟩ : ∃ a, X[i]? = some a := ⟨X[i]'(by rw [HN.out]; exact hlt), List.getElem?_eq_getElem _⟩
      obtain ⟨g1, c1, g2, c2, ⟨e1, e2⟩, ⟨l1, l2, l3, l4⟩, hc⟩ := CELLS.out (by omega)
      cases e1
      cases e2
      obtain ⟨p0, q0⟩ := hc i a 0 _ hga rfl
      obtain ⟨p1, q1⟩ := hc i a 1 _ hga rfl
      obtain ⟨p2, q2⟩ := hc i a 2 _ hga rfl
      obtain ⟨p3, q3⟩ := hc i a 3 _ hga rfl
      obtain ⟨p4, q4⟩ := hc i a 4 _ hga rfl
      obtain ⟨p5, q5⟩ := hc i a 5 _ hga rfl
      obtain ⟨ak, al, an, az, ao, ai⟩ := a
      obtain ⟨S, hS⟩ : ∃ S : ByteArray, (⟨az.toArray⟩ : ByteArray) = S := ⟨_, rfl⟩
      simp only [hS] at p3 q3
      simp only [Nat.add_zero] at p0 q0
      clear hc hga hS CELLS
      go_wp2_with fail
      go_quiet (fail)
      go_wp2_with fail
      go_round
      case rel => exact ⟨i + 1, by go_num, by omega, q + nq, rfl⟩
      case measure => simp [intOf]; omega
    · obtain rfl : i = n := by omega
      go_wp2_with fail
      go_ret
      exact ⟨rfl, q, rfl⟩

/-- the lines of tokens -/
theorem lex_lines : ∀ (N : Nat) (l : List UInt8) (n : Int) (k : Nat), l.length ≤ N → k + l.length ≤ 16000 → ∀ t ∈ (lexN l n k).toks, n ≤ t.line ∧ t.line ≤ n + l.length := by
  have fin : ∀ (l : List UInt8) (n : Int) (k : Nat), (l.drop (skipN l) = [] ∨ tokT (l.drop (skipN l)) = none) → ∀ t ∈ (lexN l n k).toks, n ≤ t.line ∧ t.line ≤ n + l.length := by
    intro l n k h t ht
    have h1 := nlC_le (l.take (skipN l))
    rw [List.length_take] at h1
    by_cases hd : l.drop (skipN l) = []
    · rw [lexN_end hd] at ht
      simp only [List.mem_singleton] at ht
      subst ht
      simp only
      omega
    · rw [lexN_bad hd (h.resolve_left hd)] at ht
      simp at ht
  intro N
  induction N with
  | zero =>
    intro l n k hN _
    exact fin l n k (.inl (by rw [List.eq_nil_of_length_eq_zero (l := l) (by omega)]; rfl))
  | succ N ih =>
    intro l n k hN hk
    by_cases hd : l.drop (skipN l) = []
    · exact fin l n k (.inl hd)
    · rcases ht : tokT (l.drop (skipN l)) with _ | ⟨t, z⟩
      · exact fin l n k (.inr ht)
      · have h3 := tok_len _ _ ht
        have h4 := skipN_le l
        rw [List.length_drop] at h3
        rw [lexN_on hd ht (by omega)]
        have h5 := nlC_le (l.take (skipN l))
        have h6 := nlC_le ((l.drop (skipN l)).take z)
        rw [List.length_take] at h5 h6
        rw [List.length_drop] at h6
        have hi := ih ((l.drop (skipN l)).drop z) (n + nlC (l.take (skipN l)) + nlC ((l.drop (skipN l)).take z)) (k + 1) (by rw [List.length_drop, List.length_drop]; omega) (by rw [List.length_drop, List.length_drop]; omega)
        intro u hu
        simp only [LexR.cons, List.mem_cons] at hu
        rcases hu with rfl | hu
        · simp only
          omega
        · have := hi u hu
          rw [List.length_drop, List.length_drop] at this
          omega
/-- a row's cell, of which token -/
theorem cells_of : ∀ (l : List Tok) (j : Nat) (u : Value), (tokCells l)[j]? = some u → ∃ a, l[j / 6]? = some a ∧ a.cells[j % 6]? = some u
  | [], j, u, h => by simp [tokCells] at h
  | t :: l, j, u, h => by
    have h6 : t.cells.length = 6 := rfl
    rw [show tokCells (t :: l) = t.cells ++ tokCells l from rfl] at h
    by_cases hj : j < 6
    · rw [List.getElem?_append_left (by omega)] at h
      rw [Nat.div_eq_of_lt hj, Nat.mod_eq_of_lt hj]
      exact ⟨t, rfl, h⟩
    · rw [List.getElem?_append_right (by omega), h6] at h
      obtain ⟨a, ha, hu⟩ := cells_of l (j - 6) u h
      rw [show j = (j - 6) + 6 by omega]
      exact ⟨a, by rw [Nat.add_div_right _ (by omega)]; simpa using ha, by rw [Nat.add_mod_right]; exact hu⟩
theorem owns_pre {w : World} {b n m : Nat} {e : TypeId} {g cap : Nat} {X Y : List Tok} (h : w.ownsRow b e 6 (.slice (some ⟨g, 0, none⟩) n cap) n (tokCells (X ++ Y))) (hm : X.length = m) (hn : n = m + Y.length) : w.ownsRow b e 6 (.slice (some ⟨g, 0, none⟩) m cap) m (tokCells X) := by
  obtain ⟨_, ⟨h0, _⟩ | ⟨g', cap', cur, hv, h2, h3, h4, h5, h6, h7⟩⟩ := h
  · cases h0
  · cases hv
    refine ⟨by rw [tokCells_len, hm], .inr ⟨g, cap, cur, rfl, h2, h3, by omega, h5, h6, ?_⟩⟩
    rw [tokCells_app] at h7
    have hl := tokCells_len X
    rw [hm] at hl
    rw [← List.take_left (l₁ := tokCells X) (l₂ := tokCells Y), ← h7, List.take_take, hl, Nat.min_eq_left (by omega)]
theorem sh_cells (a : Tok) (d : Int) : ∀ c, c ≠ 1 → (a.sh d).cells[c]? = a.cells[c]?
  | 0, _ => rfl
  | 1, h => absurd rfl h
  | _ + 2, _ => rfl
/-- the second text's tokens, while their lines are put behind the first one's; the other two rows -/
structure PtSt (W : World) (g : Nat) (d : Int) (X : List Tok) (v1 v3 : Value) (n1 n3 : Nat) (T1 T3 : List Tok) (i : Nat) (wr : World) : Prop where
  below : Below W.heap.size W wr
  own1 : wr.ownsRow W.heap.size 30 6 v1 n1 (tokCells T1)
  own3 : wr.ownsRow W.heap.size 30 6 v3 n3 (tokCells T3)
  ne1 : v1.ownBlock ≠ some g
  ne3 : v3.ownBlock ≠ some g
  ne13 : ∀ b, v3.ownBlock = some b → v1.ownBlock ≠ some b
  plain : PlainAt wr g
  lg : W.heap.size ≤ g
  cells : ∀ j a c u, X[j]? = some a → (if j < i then (a.sh d).cells else a.cells)[c]? = some u → wr.cell? ⟨g, j * 6 + c, none⟩ = some u
theorem heap_push_lt {w : World} {o : Obj} {k : Nat} (h : k < w.heap.size) : (w.alloc o).heap[k]? = w.heap[k]? := Below.heap_alloc _ _ _ h
theorem PtSt.next {W : World} {g : Nat} {d : Int} {X : List Tok} {v1 v3 : Value} {n1 n3 : Nat} {T1 T3 : List Tok} {i : Nat} {wr : World} (h : PtSt W g d X v1 v3 n1 n3 T1 T3 i wr) {a : Tok} (ha : X[i]? = some a) (o : Obj) :
    PtSt W g d X v1 v3 n1 n3 T1 T3 (i + 1) ((wr.alloc o).setCell ⟨g, i * 6 + 1, none⟩ (.int .i64 (a.line + d))) := by
  have hb1 : Below wr.heap.size wr (wr.alloc o) := (Below.refl _ _).alloc (Nat.le_refl _) _
  have hglt : g < wr.heap.size := by obtain ⟨c, T, hc⟩ := h.plain; exact heap_lt hc
  have keep : ∀ k, k < wr.heap.size → k ≠ g → ((wr.alloc o).setCell ⟨g, i * 6 + 1, none⟩ (.int .i64 (a.line + d))).heap[k]? = wr.heap[k]? := fun k hk hkg => by
    rw [heap_set_ne hkg]
    exact heap_push_lt hk
  refine ⟨(h.below.trans (hb1.mono h.below.size)).setCell h.lg _, owns_same h.own1 fun k hk => keep k (h.own1.lt k hk).2 (fun e => h.ne1 (by rw [hk, e])), owns_same h.own3 fun k hk => keep k (h.own3.lt k hk).2 (fun e => h.ne3 (by rw [hk, e])), h.ne1, h.ne3, h.ne13, (h.plain.on hb1).set _ _, h.lg, fun j t c u ht hu => ?_⟩
  by_cases hji : j = i ∧ c = 1
  · obtain ⟨rfl, rfl⟩ := hji
    obtain rfl : a = t := Option.some.inj (ha.symm.trans ht)
    rw [if_pos (by omega)] at hu
    cases hu
    have h0 := h.cells j a 1 _ ha (by rw [if_neg (by omega)]; rfl)
    exact World.cell?_setCell_same _ _ _ (cell_later hb1 h0)
  · have hc6 : c < 6 := by
      have := (List.getElem?_eq_some_iff.1 hu).1
      split at this <;> exact this
    rw [World.cell?_setCell_other _ _ _ _ (by
      intro e
      injection e with _ e
      exact hji (by omega))]
    refine cell_later hb1 (h.cells j t c u ht ?_)
    by_cases hj : j < i
    · rw [if_pos (by omega)] at hu
      rw [if_pos hj]
      exact hu
    · rw [if_neg hj]
      by_cases hj2 : j < i + 1
      · rw [if_pos hj2, sh_cells _ _ _ (fun e => hji ⟨by omega, e⟩)] at hu
        exact hu
      · rw [if_neg hj2] at hu
        exact hu
theorem owns_plain {w : World} {b n g cap : Nat} {e : TypeId} {xs : List Value} (h : w.ownsRow b e 6 (.slice (some ⟨g, 0, none⟩) n cap) n xs) : PlainAt w g := by
  obtain ⟨_, ⟨h0, _⟩ | ⟨g', cap', cur, hv, _, h3, _⟩⟩ := h
  · cases h0
  · cases hv
    exact ⟨_, _, h3⟩
/-- all lines are changed: the row's cells -/
theorem PtSt.all {W : World} {g : Nat} {d : Int} {X : List Tok} {v1 v3 : Value} {n1 n3 : Nat} {T1 T3 : List Tok} {wr : World} (h : PtSt W g d X v1 v3 n1 n3 T1 T3 X.length wr) : ∀ j u, (tokCells (X.map (Tok.sh d)))[j]? = some u → wr.cell? ((⟨g, 0, none⟩ : Addr).add j) = some u := by
  intro j u hu
  obtain ⟨a, ha, hc⟩ := cells_of _ j u hu
  rw [List.getElem?_map] at ha
  rcases hx : X[j / 6]? with _ | t
  · rw [hx] at ha; cases ha
  · rw [hx] at ha
    obtain rfl : t.sh d = a := by simpa using ha
    have hlt := (List.getElem?_eq_some_iff.1 hx).1
    have := h.cells (j / 6) t (j % 6) u hx (by rw [if_pos hlt]; exact hc)
    rw [show j / 6 * 6 + j % 6 = j by omega] at this
    rw [show (⟨g, 0, none⟩ : Addr).add j = ⟨g, j, none⟩ by unfold Addr.add; split <;> simp_all]
    exact this
theorem tok_ones (X : List Tok) : ∀ u ∈ tokCells X, u.oneCell' = true := by
  intro u hu
  simp only [tokCells, List.mem_flatMap, Tok.cells, List.mem_cons, List.not_mem_nil, or_false] at hu
  obtain ⟨t, _, rfl | rfl | rfl | rfl | rfl | rfl⟩ := hu <;> rfl

end Go.Proofs.YtkbeaddbnnboaaaDoor
