/- The mathematics of Lex: each token has a byte; fuel; what holds ahead of each token. Conditions: none. -/
import Derived.Test.YtkbeaddbnnboaaaDoorTokK
import Derived.Deep.AppendLies
namespace Go.Proofs.YtkbeaddbnnboaaaDoor
open Go Go.RowKit Go.Maps

theorem letters_len {a b : Int} {l : List UInt8} {t : Tk} {z : Nat} (h : lettersT a b l = some (t, z)) : 1 ≤ z ∧ z ≤ l.length := by
  rcases l with _ | ⟨c, r⟩
  · cases h
  · simp only [lettersT] at h
    split at h
    · split at h
      · cases h
      · simp only [Option.some.injEq, Prod.mk.injEq] at h
        obtain ⟨_, rfl⟩ := h
        exact ⟨by omega, runB_le _ _⟩
    · cases h
theorem alone_len {a b : Int} {l : List UInt8} {t : Tk} {z : Nat} (h : aloneT a b l = some (t, z)) : 1 ≤ z ∧ z ≤ l.length := by
  rcases l with _ | ⟨c, r⟩
  · cases h
  · simp only [aloneT] at h
    split at h
    · simp only [Option.some.injEq, Prod.mk.injEq] at h
      obtain ⟨_, rfl⟩ := h
      simp
    · cases h
theorem stop_len {l : List UInt8} {t : Tk} {z : Nat} (h : stopT l = some (t, z)) : 1 ≤ z ∧ z ≤ l.length := by
  rcases l with _ | ⟨c, _ | ⟨d, r⟩⟩
  · cases h
  all_goals
    simp only [stopT] at h
    repeat' split at h
    all_goals first
      | cases h; done
      | (simp only [Option.some.injEq, Prod.mk.injEq] at h
         obtain ⟨_, rfl⟩ := h
         simp)
theorem signs_len {l : List UInt8} {t : Tk} {z : Nat} (h : signsT l = some (t, z)) : 1 ≤ z ∧ z ≤ l.length := by
  unfold signsT at h
  split at h
  · cases h
  · split at h
    · cases h
    · simp only [Option.some.injEq, Prod.mk.injEq] at h
      obtain ⟨_, rfl⟩ := h
      exact ⟨by omega, runB_le _ _⟩
theorem digits_len {f : Nat} {b : Int} {l : List UInt8} {t : Tk} {z : Nat} (hf : f ≤ l.length) (h : digitsT f b l = some (t, z)) : 1 ≤ z ∧ z ≤ l.length := by
  unfold digitsT at h
  split at h
  · split at h
    · cases h
    · simp only [Option.some.injEq, Prod.mk.injEq] at h
      obtain ⟨_, rfl⟩ := h
      have := runB_le (digZ b) (l.drop f)
      rw [List.length_drop] at this
      omega
  · cases h
theorem char_len {l : List UInt8} {t : Tk} {z : Nat} (h2 : 2 ≤ l.length) (h : charT l = some (t, z)) : 1 ≤ z ∧ z ≤ l.length := by
  rw [charT_o] at h
  split at h
  · cases h
  · rename_i hlt
    rw [List.length_drop] at hlt
    unfold charO at h
    split at h
    · simp only [Option.some.injEq, Prod.mk.injEq] at h
      obtain ⟨_, rfl⟩ := h
      omega
    · cases h
theorem numT_len {l : List UInt8} {t : Tk} {z : Nat} (h : numberT l = some (t, z)) : 1 ≤ z ∧ z ≤ l.length := by
  unfold numberT at h
  split at h
  · rename_i hp; exact digits_len (prefix_two hp) h
  · split at h
    · rename_i hp; exact digits_len (prefix_two hp) h
    · split at h
      · rename_i hp; exact digits_len (prefix_two hp) h
      · split at h
        · rename_i hp; exact char_len (prefix_two hp) h
        · exact digits_len (Nat.zero_le _) h
theorem within_len {q k : Int} {l : List UInt8} {t : Tk} {z : Nat} (h : withinT q k l = some (t, z)) : 1 ≤ z ∧ z ≤ l.length := by
  rcases l with _ | ⟨c, r⟩
  · cases h
  · simp only [withinT] at h
    split at h
    · split at h
      · rename_i hg
        have := getL_len hg
        simp only [Option.some.injEq, Prod.mk.injEq] at h
        obtain ⟨_, rfl⟩ := h
        simp
        omega
      · cases h
    · cases h
theorem or_len {a b : Option (Tk × Nat)} {l : List UInt8} (ha : ∀ t z, a = some (t, z) → 1 ≤ z ∧ z ≤ l.length) (hb : ∀ t z, b = some (t, z) → 1 ≤ z ∧ z ≤ l.length) : ∀ t z, a.or b = some (t, z) → 1 ≤ z ∧ z ≤ l.length := by
  intro t z h
  rcases a with _ | x
  · exact hb t z h
  · exact ha t z h
theorem tok_len {l : List UInt8} : ∀ t z, tokT l = some (t, z) → 1 ≤ z ∧ z ≤ l.length :=
  or_len (fun _ _ => stop_len) <| or_len (fun _ _ => letters_len) <| or_len (fun _ _ => signs_len) <| or_len (fun _ _ => alone_len) <| or_len (fun _ _ => letters_len) <| or_len (fun _ _ => numT_len) <| or_len (fun _ _ => within_len) <| or_len (fun _ _ => within_len) fun _ _ => alone_len

theorem lexF_fuel : ∀ (f f' : Nat) (l : List UInt8) (n : Int) (k : Nat), l.length < f → l.length < f' → lexF f l n k = lexF f' l n k
  | 0, _, _, _, _, h, _ => by omega
  | _, 0, _, _, _, _, h => by omega
  | f + 1, f' + 1, l, n, k, h, h' => by
    simp only [lexF]
    split
    · rfl
    · split
      · rfl
      · rename_i t z ht
        have h1 := tok_len _ _ ht
        have h2 := skipN_le l
        rw [List.length_drop] at h1
        rw [lexF_fuel f f' _ _ _ (by rw [List.length_drop, List.length_drop]; omega) (by rw [List.length_drop, List.length_drop]; omega)]
def lexN (l : List UInt8) (n : Int) (k : Nat) : LexR := lexF (l.length + 1) l n k
theorem lexN_end {l : List UInt8} {n : Int} {k : Nat} (h : l.drop (skipN l) = []) : lexN l n k = ⟨[⟨0, n + nlC (l.take (skipN l)), 0, [], false, false⟩], 0, 0⟩ := by
  unfold lexN
  simp only [lexF]
  rw [if_pos h]
theorem lexN_bad {l : List UInt8} {n : Int} {k : Nat} (h : l.drop (skipN l) ≠ []) (ht : tokT (l.drop (skipN l)) = none) : lexN l n k = ⟨[], n + nlC (l.take (skipN l)), 5⟩ := by
  unfold lexN
  simp only [lexF]
  rw [if_neg h, ht]
theorem lexN_on {l : List UInt8} {n : Int} {k z : Nat} {t : Tk} (h : l.drop (skipN l) ≠ []) (ht : tokT (l.drop (skipN l)) = some (t, z)) (hk : k < 16384) :
    lexN l n k = (lexN ((l.drop (skipN l)).drop z) (n + nlC (l.take (skipN l)) + nlC ((l.drop (skipN l)).take z)) (k + 1)).cons ⟨t.k, n + nlC (l.take (skipN l)), t.n, t.s, Lib.hasPrefix ((l.drop (skipN l)).drop z) [40], decide (skipN l = 0) && decide (0 < k)⟩ := by
  have h1 := tok_len _ _ ht
  rw [List.length_drop] at h1
  rw [show lexN l n k = lexF (l.length + 1) l n k from rfl]
  simp only [lexF]
  rw [if_neg h, ht]
  show (if k = 16384 then _ else _) = _
  rw [if_neg (by omega)]
  unfold lexN
  rw [lexF_fuel l.length (((l.drop (skipN l)).drop z).length + 1) _ _ _ (by rw [List.length_drop, List.length_drop]; omega) (by omega)]

/-- tokens ahead of an answer -/
def LexR.after (r : LexR) (ts : List Tok) : LexR := ⟨ts ++ r.toks, r.line, r.e⟩
theorem after_cons (r : LexR) (ts : List Tok) (t : Tok) : (r.cons t).after ts = r.after (ts ++ [t]) := by simp [LexR.after, LexR.cons]
theorem tokCells_app (a b : List Tok) : tokCells (a ++ b) = tokCells a ++ tokCells b := by simp [tokCells]
theorem tokCells_len (l : List Tok) : (tokCells l).length = l.length * 6 := by
  induction l with
  | nil => rfl
  | cons t l ih => rw [show tokCells (t :: l) = t.cells ++ tokCells l from rfl, List.length_append, ih, List.length_cons]; simp [Tok.cells]; omega

theorem owns_same {w w' : World} {b n : Nat} {e : TypeId} {size : Nat} {v : Value} {xs : List Value} (h : w.ownsRow b e size v n xs) (hh : ∀ g, v.ownBlock = some g → w'.heap[g]? = w.heap[g]?) : w'.ownsRow b e size v n xs := by
  obtain ⟨h1, h2 | ⟨g, cap, cur, hv, h3, h4, r⟩⟩ := h
  · exact ⟨h1, .inl h2⟩
  · exact ⟨h1, .inr ⟨g, cap, cur, hv, h3, by rw [hh g (by rw [hv]; rfl)]; exact h4, r⟩⟩
theorem owns_down {w : World} {b b' n : Nat} {e : TypeId} {size : Nat} {v : Value} {xs : List Value} (h : w.ownsRow b e size v n xs) (hb : b' ≤ b) : w.ownsRow b' e size v n xs := by
  obtain ⟨h1, h2 | ⟨g, cap, cur, hv, h3, r⟩⟩ := h
  · exact ⟨h1, .inl h2⟩
  · exact ⟨h1, .inr ⟨g, cap, cur, hv, Nat.le_trans hb h3, r⟩⟩
theorem owns_slice {w : World} {b n : Nat} {e : TypeId} {size : Nat} {v : Value} {xs : List Value} (h : w.ownsRow b e size v n xs) : ∃ ad cap, v = .slice ad n cap := by
  obtain ⟨_, ⟨rfl, rfl⟩ | ⟨g, cap, _, rfl, _⟩⟩ := h
  · exact ⟨none, 0, rfl⟩
  · exact ⟨_, _, rfl⟩

/-- what holds ahead of each token: l is left, in line n; the tokens ts were told; Q is the row's box -/
structure LexSt (s : ByteArray) (w wr : World) (Q : Nat) (v : Value) (ts : List Tok) (l : List UInt8) (n : Int) : Prop where
  pl : PL wr w.heap.size ⟨l.toArray⟩ n
  above : w.heap.size < Q
  row : wr.heap[Q]? = some (.cells (att9 w.heap.size) 45 (0, 0))
  own : wr.ownsRow (Q + 1) 30 6 v ts.length (tokCells ts)
  below : Below w.heap.size w wr
  low : 1 ≤ n
  high : n + l.length ≤ 5001
  many : ts.length + l.length ≤ 5000
  run : lexN s.data.toList 1 0 = (lexN l n ts.length).after ts

/-- what Lex answers -/
structure LexPost (w : World) (r : LexR) (e : Ending) (w' : World) : Prop where
  ex : ∃ v, e = .returned (.tuple #[v, .int .i64 r.line, .int .i64 r.e]) ∧ w'.ownsRow w.heap.size 30 6 v r.toks.length (tokCells r.toks)
  below : Below w.heap.size w w'

end Go.Proofs.YtkbeaddbnnboaaaDoor
