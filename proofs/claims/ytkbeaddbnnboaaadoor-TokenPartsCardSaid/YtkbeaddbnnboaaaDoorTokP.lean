/- Texts of atoms and of digits, read as tokens (plain mathematics). Conditions: none. -/
import Derived.Test.YtkbeaddbnnboaaaDoorTokO
namespace Go.Proofs.YtkbeaddbnnboaaaDoor
open Go Go.RowKit Go.Maps

theorem nlC_zero {l : List UInt8} (h : ∀ x ∈ l, x ≠ 10) : nlC l = 0 := by
  unfold nlC Lib.countByte
  rw [List.count_eq_zero]
  exact fun hm => h 10 hm rfl
theorem putC_no10 : ∀ k : Fin 256, (putC (UInt8.ofNat k.val)).all (fun b => b != 10) = true := by decide +kernel
theorem put_no10 (s : List UInt8) : nlC (putL s) = 0 := by
  refine nlC_zero fun x hx => ?_
  unfold putL at hx
  split at hx
  · rename_i hp
    rcases plain_forms hp with rfl | rfl | rfl | rfl | ⟨a, t, rfl, _, hall⟩ | ⟨_, _, hall, _⟩
    · simp at hx; rcases hx with rfl | rfl <;> decide
    · simp at hx; rcases hx with rfl; decide
    · simp at hx; rcases hx with rfl; decide
    · simp at hx; rcases hx with rfl | rfl <;> decide
    · intro e
      have := List.all_eq_true.1 hall x hx
      rw [e] at this
      revert this
      decide
    · intro e
      have := List.all_eq_true.1 hall x hx
      rw [e] at this
      revert this
      decide
  · unfold putB at hx
    rw [List.mem_append, List.mem_cons, List.mem_flatMap] at hx
    rcases hx with (rfl | ⟨c, _, hx⟩) | hx
    · decide
    · have h := putC_no10 ⟨c.toNat, c.toNat_lt⟩
      rw [UInt8.ofNat_toNat] at h
      simpa using List.all_eq_true.1 h x hx
    · simp at hx
      rw [hx]
      decide
theorem open_no {c : UInt8} {r : List UInt8} (hc : blankB c) : Lib.hasPrefix (c :: r) [40] = false := by
  show ((40 == c) && _) = false
  rw [beq_eq_false_iff_ne.2 (Ne.symm (ne_sort hc (by decide : sortZ (((40 : UInt8).toNat : Nat) : Int) ≠ 1)))]
  rfl
theorem put_ne (s : List UInt8) : putL s ≠ [] := by
  unfold putL
  split
  · rename_i hp
    rcases plain_forms hp with rfl | rfl | rfl | rfl | ⟨a, t, rfl, _, _⟩ | ⟨h, _⟩
    all_goals first | simp; done | exact h
  · unfold putB; simp
/-- where the gap has gone by -/
theorem lex_on {l r r' : List UInt8} {n n' : Int} {k z j : Nat} {t : Tk} {op : Bool} (hj : skipN l = j) (hd : l.drop j = r) (hr : r ≠ []) (ht : tokT r = some (t, z)) (hr' : r.drop z = r') (hn : n + nlC (l.take j) + nlC (r.take z) = n') (hop : Lib.hasPrefix r' [40] = op) (hk : k < 16384) :
    lexN l n k = (lexN r' n' (k + 1)).cons ⟨t.k, n + nlC (l.take j), t.n, t.s, op, decide (j = 0) && decide (0 < k)⟩ := by
  subst hj
  rw [lexN_on (by rw [hd]; exact hr) (by rw [hd]; exact ht) hk, hd, hr', hn, hop]
theorem lex_end {l : List UInt8} {n : Int} {k j : Nat} (hj : skipN l = j) (hd : l.drop j = []) : lexN l n k = ⟨[⟨0, n + nlC (l.take j), 0, [], false, false⟩], 0, 0⟩ := by
  subst hj
  exact lexN_end hd
/-- an atom behind j bytes of gap, then a blank -/
theorem lex_atom {l s r : List UInt8} {c : UInt8} {n : Int} {k j : Nat} (hj : skipN l = j) (hd : l.drop j = putL s ++ c :: r) (hc : blankB c) (h1 : s ≠ [91, 93]) (h2 : s ≠ [123, 125]) (hk : k < 16384) :
    lexN l n k = (lexN (c :: r) (n + nlC (l.take j)) (k + 1)).cons ⟨(atomT s).k, n + nlC (l.take j), 0, s, false, decide (j = 0) && decide (0 < k)⟩ := by
  obtain ⟨ht, _⟩ := tok_atom s r hc h1 h2
  exact lex_on hj hd (by simp) ht (List.drop_left' rfl) (by rw [List.take_left' rfl, put_no10]; simp) (open_no hc) hk
theorem skip_atom {s r : List UInt8} {c : UInt8} (hc : blankB c) : skipN (putL s ++ c :: r) = 0 := by
  by_cases h1 : s = [91, 93]
  · subst h1; exact skipN_0 (gap_no (by decide) (by decide) (pre_no (by decide)))
  by_cases h2 : s = [123, 125]
  · subst h2; exact skipN_0 (gap_no (by decide) (by decide) (pre_no (by decide)))
  exact skipN_0 (tok_atom s r hc h1 h2).2
theorem tok_bracket {c : UInt8} {r : List UInt8} (hc : sortZ (c.toNat : Int) = 7) (h48 : c ≠ 48) (hd : 10 ≤ digitZ (c.toNat : Int)) : tokT (c :: r) = some (⟨6, 0, [c]⟩, 1) := by
  have h39 : ((c.toNat : Int) == 39) = false := sort_not hc (by decide)
  have h34 : ((c.toNat : Int) == 34) = false := sort_not hc (by decide)
  exact tok_punct (stop_sort hc (by decide)) (letters_sort hc (by decide)) (signs_sort hc (by decide)) (alone_sort hc (by decide)) (letters_sort hc (by decide)) (numT_bad h48 hd) (within_no h39) (within_no h34) (alone_yes hc)
/-- [] and {}: two tokens -/
theorem lex_two {l r : List UInt8} {a b c : UInt8} {n : Int} {k j : Nat} (hab : a = 91 ∧ b = 93 ∨ a = 123 ∧ b = 125) (hj : skipN l = j) (hd : l.drop j = a :: b :: c :: r) (hc : blankB c) (hk : k < 16383) :
    lexN l n k = ((lexN (c :: r) (n + nlC (l.take j)) (k + 2)).cons ⟨6, n + nlC (l.take j), 0, [b], false, true⟩).cons ⟨6, n + nlC (l.take j), 0, [a], false, decide (j = 0) && decide (0 < k)⟩ := by
  have ha : sortZ (a.toNat : Int) = 7 ∧ sortZ (b.toNat : Int) = 7 ∧ a ≠ 48 ∧ b ≠ 48 ∧ 10 ≤ digitZ (a.toNat : Int) ∧ 10 ≤ digitZ (b.toNat : Int) ∧ a ≠ 10 ∧ b ≠ 10 ∧ b ≠ 40 ∧ gapN (b :: c :: r) = 0 := by
    rcases hab with ⟨rfl, rfl⟩ | ⟨rfl, rfl⟩
    all_goals exact ⟨by decide, by decide, by decide, by decide, by decide, by decide, by decide, by decide, by decide, gap_no (by decide) (by decide) (pre_no (by decide))⟩
  obtain ⟨a1, a2, a3, a4, a5, a6, a7, a8, a9, a10⟩ := ha
  rw [lex_on (r' := b :: c :: r) (n' := n + nlC (l.take j)) (op := false) hj hd (by simp) (tok_bracket a1 a3 a5) rfl (by rw [show (a :: b :: c :: r).take 1 = [a] from rfl, nlC_zero (l := [a]) (by simpa using a7)]; simp) (by show ((40 == b) && _) = false; rw [beq_eq_false_iff_ne.2 (Ne.symm a9)]; rfl) (by omega)]
  rw [lex_on (l := b :: c :: r) (r := b :: c :: r) (r' := c :: r) (n' := n + nlC (l.take j)) (op := false) (j := 0) (skipN_0 a10) rfl (by simp) (tok_bracket a2 a4 a6) rfl (by rw [show (b :: c :: r).take 1 = [b] from rfl, nlC_zero (l := [b]) (by simpa using a8)]; simp [nlC, Lib.countByte]) (open_no hc) (by omega)]
  simp [nlC, Lib.countByte]

/-- a digit's byte; the digits of a number -/
def dch (d : Nat) : UInt8 := if d < 10 then UInt8.ofNat (48 + d) else UInt8.ofNat (87 + d)
def digL (b : Nat) : Nat → Nat → List UInt8
  | 0, k => [dch (k % b)]
  | f + 1, k => if k < b then [dch (k % b)] else digL b f (k / b) ++ [dch (k % b)]
theorem dch_ok : ∀ d : Fin 16, digitZ ((dch d.val).toNat : Int) = d.val := by decide +kernel
theorem dch_val {d : Nat} (h : d < 16) : digitZ ((dch d).toNat : Int) = d := dch_ok ⟨d, h⟩
theorem digL_ne (b f k : Nat) : digL b f k ≠ [] := by
  cases f <;> simp only [digL]
  · simp
  · split <;> simp
theorem digL_len (b : Nat) : ∀ f k, (digL b f k).length ≤ f + 1
  | 0, _ => by simp [digL]
  | f + 1, k => by
    simp only [digL]
    split
    · simp
    · have := digL_len b f (k / b)
      simp
      omega
theorem digL_all {b : Nat} (hb : 2 ≤ b ∧ b ≤ 16) : ∀ f k, ∀ x ∈ digL b f k, ∃ d, d < b ∧ x = dch d
  | 0, k, x, hx => by
    simp only [digL, List.mem_singleton] at hx
    exact ⟨_, Nat.mod_lt _ (by omega), hx⟩
  | f + 1, k, x, hx => by
    simp only [digL] at hx
    split at hx
    · rw [List.mem_singleton] at hx
      exact ⟨_, Nat.mod_lt _ (by omega), hx⟩
    · rw [List.mem_append, List.mem_singleton] at hx
      rcases hx with hx | hx
      · exact digL_all hb f _ x hx
      · exact ⟨_, Nat.mod_lt _ (by omega), hx⟩
theorem digL_fold {b : Nat} (hb : 2 ≤ b ∧ b ≤ 16) : ∀ f k, k < b ^ (f + 1) → k < 4294967296 → foldP b (digL b f k) = ((k : Int), false) := by
  have one : ∀ k, k < b → foldP b [dch (k % b)] = ((k : Int), false) := fun k hk => by
    have := foldP_snoc b [] (dch (k % b))
    rw [List.nil_append] at this
    rw [this, show foldP (b : Int) [] = (0, false) from rfl]
    unfold stepP
    rw [dch_val (by have := Nat.mod_lt k (by omega : 0 < b); omega), Nat.mod_eq_of_lt hk]
    simp only [IntKind.wrap_u64, Int.zero_mul, Bool.false_or, Prod.mk.injEq, decide_eq_false_iff_not]
    refine ⟨by omega, ?_⟩
    have : (0 : Int) ≤ (9223372036854775808 - (k : Int)) / (b : Int) := Int.ediv_nonneg (by omega) (by omega)
    omega
  intro f
  induction f with
  | zero =>
    intro k h _
    simp only [digL]
    exact one k (by simpa using h)
  | succ f ih =>
    intro k h hk
    simp only [digL]
    split
    · rename_i hlt; exact one k hlt
    · rename_i hge
      have hdiv : k / b < b ^ (f + 1) := Nat.div_lt_of_lt_mul (by rw [Nat.pow_succ] at h; rw [Nat.mul_comm]; exact h)
      have hle : k / b ≤ k := Nat.div_le_self _ _
      rw [foldP_snoc, ih (k / b) hdiv (by omega)]
      unfold stepP
      rw [dch_val (by have := Nat.mod_lt k (by omega : 0 < b); omega)]
      have hmod : b * (k / b) + k % b = k := Nat.div_add_mod k b
      have hml : k % b < b := Nat.mod_lt k (by omega)
      generalize k / b = Q at *
      generalize k % b = R at *
      have hmod' : (Q : Int) * (b : Int) + (R : Int) = (k : Int) := by
        have h1 : ((b * Q + R : Nat) : Int) = (k : Int) := by rw [hmod]
        rw [Int.natCast_add, Int.natCast_mul, Int.mul_comm] at h1
        exact h1
      have h0 : (0 : Int) ≤ (Q : Int) * (b : Int) := Int.mul_nonneg (by omega) (by omega)
      have hq : (Q : Int) ≤ (9223372036854775808 - (R : Int)) / (b : Int) := by
        rw [Int.le_ediv_iff_mul_le (by omega)]
        omega
      simp only [IntKind.wrap_u64, Bool.false_or, Prod.mk.injEq, decide_eq_false_iff_not]
      generalize (Q : Int) * (b : Int) = q at *
      exact ⟨by omega, by omega⟩
theorem digL_parse {b f k : Nat} (hb : 2 ≤ b ∧ b ≤ 16) (h : k < b ^ (f + 1)) (hk : k < 4294967296) : parseR b (digL b f k) = ((k : Int), 0) := by
  have hall : digitsB b (digL b f k) = true := by
    unfold digitsB
    rw [List.all_eq_true]
    intro x hx
    obtain ⟨d, hd, rfl⟩ := digL_all hb f k x hx
    rw [dch_val (by omega)]
    simpa using hd
  unfold parseR
  rw [if_neg (by omega), if_neg (digL_ne b f k), hall, if_neg (by simp), digL_fold hb f k h hk, if_neg (by simp)]
  rw [IntWalk.wrap64_in _ (by omega)]
theorem dig_yes {b : Nat} (hb : 2 ≤ b ∧ b ≤ 16) {d : Nat} (hd : d < b) : digZ b ((dch d).toNat : Int) = true := by
  rw [digZ_one]
  unfold parseR
  have h1 : digitsB b [dch d] = true := by unfold digitsB; simp [dch_val (show d < 16 by omega)]; omega
  have h2 := digL_fold hb 0 d (by simpa using hd) (by omega)
  rw [show digL b 0 d = [dch d] by simp only [digL]; rw [Nat.mod_eq_of_lt hd]] at h2
  rw [if_neg (by omega), if_neg (by simp), h1, if_neg (by simp), h2]
  simp
theorem dig_no {b : Nat} (hb : 2 ≤ b ∧ b ≤ 16) {c : UInt8} (hc : 16 ≤ digitZ (c.toNat : Int)) : digZ b (c.toNat : Int) = false := by
  rw [digZ_one, parse_bad b (by omega) c (by omega)]
  rfl
/-- behind its prefix of so many bytes, ahead of a byte that is no digit -/
theorem digits_num {b f k : Nat} (hb : 2 ≤ b ∧ b ≤ 16) (h : k < b ^ (f + 1)) (hk : k < 4294967296) {c : UInt8} (hc : 16 ≤ digitZ (c.toNat : Int)) (pre r : List UInt8) :
    digitsT pre.length b (pre ++ (digL b f k ++ c :: r)) = some (⟨3, (k : Int), []⟩, pre.length + (digL b f k).length) := by
  unfold digitsT
  rw [List.drop_left' rfl, runB_app (fun x hx => by obtain ⟨d, hd, rfl⟩ := digL_all hb f k x hx; exact dig_yes hb hd) (dig_no hb hc), List.take_left' rfl, digL_parse hb h hk]
  have : (digL b f k).length ≠ 0 := fun e => digL_ne b f k (List.eq_nil_of_length_eq_zero e)
  rw [if_pos (by simp), if_neg (by omega)]

end Go.Proofs.YtkbeaddbnnboaaaDoor
