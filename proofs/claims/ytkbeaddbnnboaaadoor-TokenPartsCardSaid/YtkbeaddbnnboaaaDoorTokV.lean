/- The mathematics of TokenBases: a number told in 10, 16, 8, 2, and a byte's; the digits that the closure writes. Conditions: none. -/
import Derived.Test.YtkbeaddbnnboaaaDoorTokT
namespace Go.Proofs.YtkbeaddbnnboaaaDoor
open Go Go.RowKit Go.Maps

/-- a number's token, then the end -/
def lexV (v : Int) : LexR := ⟨[⟨3, 1, v, [], false, false⟩, ⟨0, 1, 0, [], false, false⟩], 0, 0⟩
theorem lex_num {x : UInt8} {D : List UInt8} {v : Int} (hx : sortZ (x.toNat : Int) = 4) (hn : numberT (x :: D ++ [32]) = some (⟨3, v, []⟩, D.length + 1)) (h10 : ∀ y ∈ x :: D, y ≠ 10) : lexN (x :: D ++ [32]) 1 0 = lexV v := by
  have ht : tokT (x :: D ++ [32]) = some (⟨3, v, []⟩, D.length + 1) := tok_number (stop_sort hx (by decide)) (letters_sort hx (by decide)) (signs_sort hx (by decide)) (alone_sort hx (by decide)) (letters_sort hx (by decide)) hn
  have hg : gapN (x :: D ++ [32]) = 0 := gap_sort hx (by decide) (by decide) (pre_no (ne_sort hx (by decide)))
  have htk : List.take (D.length + 1) (x :: D ++ [32]) = x :: D := List.take_left' rfl
  rw [lex_on (j := 0) (n' := 1) (op := false) (r' := [32]) (skipN_0 hg) rfl (by simp) ht (List.drop_left' rfl) (by rw [List.drop_zero, htk, nlC_zero h10]; simp [nlC, Lib.countByte]) rfl (by omega), lex_blank]
  simp [LexR.cons, lexV, nlC, Lib.countByte]

theorem dch16 : ∀ d : Fin 16, dch d.val ≠ 10 := by decide +kernel
theorem dig_all {b f k : Nat} (hb : 2 ≤ b ∧ b ≤ 16) {x : UInt8} (hx : x ∈ digL b f k) : x ≠ 10 := by
  obtain ⟨d, hd, rfl⟩ := digL_all hb f k x hx
  exact dch16 ⟨d, by omega⟩
theorem lex_ten {f k : Nat} (hf : k < 10 ^ (f + 1)) (hk : k < 4294967296) : lexN (digL 10 f k ++ [32]) 1 0 = lexV k := by
  have hn := num_plain (f := f) (k := k) (c := 32) (r := []) (by decide) (by decide) (by decide) (by decide)
  have hd := digits_num (b := 10) (f := f) (k := k) (by omega) hf hk (c := 32) (by decide) [] []
  rw [List.nil_append, List.length_nil, Nat.zero_add] at hd
  have hz := hn.trans hd
  have hall := fun x => dig_all (b := 10) (f := f) (k := k) (by omega) (x := x)
  have hsort := fun x => dec_all (f := f) (k := k) (x := x)
  rcases he : digL 10 f k with _ | ⟨x, D⟩
  · exact absurd he (digL_ne 10 f k)
  · rw [he] at hz hall hsort
    exact lex_num (hsort x (by simp)).1 hz hall
theorem lex_pre {b f k : Nat} {q : UInt8} (hb : 2 ≤ b ∧ b ≤ 16) (hf : k < b ^ (f + 1)) (hk : k < 4294967296) (hq : q ≠ 10) (hn : ∀ t, numberT (48 :: q :: t) = digitsT 2 b (48 :: q :: t)) : lexN ([48, q] ++ digL b f k ++ [32]) 1 0 = lexV k := by
  have hd := digits_num (b := b) (f := f) (k := k) hb hf hk (c := 32) (by decide) [48, q] []
  have hz : numberT (48 :: q :: digL b f k ++ [32]) = some (⟨3, (k : Int), []⟩, (q :: digL b f k).length + 1) := by
    refine (hn (digL b f k ++ [32])).trans (hd.trans ?_)
    simp only [List.length_cons, List.length_nil]
    rw [show 0 + 1 + 1 + (digL b f k).length = (digL b f k).length + 1 + 1 by omega]
  refine lex_num (x := 48) (D := q :: digL b f k) (by decide) hz ?_
  intro y hy
  rcases List.mem_cons.1 hy with rfl | hy
  · decide
  · rcases List.mem_cons.1 hy with rfl | hy
    · exact hq
    · exact dig_all hb hy
theorem lex_hex {f k : Nat} (hf : k < 16 ^ (f + 1)) (hk : k < 4294967296) : lexN ([48, 120] ++ digL 16 f k ++ [32]) 1 0 = lexV k := lex_pre (by omega) hf hk (by decide) (fun _ => rfl)
theorem lex_oct {f k : Nat} (hf : k < 8 ^ (f + 1)) (hk : k < 4294967296) : lexN ([48, 111] ++ digL 8 f k ++ [32]) 1 0 = lexV k := lex_pre (by omega) hf hk (by decide) (fun _ => rfl)
theorem lex_bin {f k : Nat} (hf : k < 2 ^ (f + 1)) (hk : k < 4294967296) : lexN ([48, 98] ++ digL 2 f k ++ [32]) 1 0 = lexV k := lex_pre (by omega) hf hk (by decide) (fun _ => rfl)

theorem char_fin : ∀ c : Fin 256, c.val ≠ 39 → c.val ≠ 92 → c.val ≠ 10 → (charZ [UInt8.ofNat c.val, 32] = 1 ∧ getL 39 [UInt8.ofNat c.val, 39] = some ([UInt8.ofNat c.val], 2)) := by decide +kernel
theorem lex_char (c : UInt8) (h1 : c ≠ 39) (h2 : c ≠ 92) (h3 : c ≠ 10) : lexN [48, 39, c, 32] 1 0 = lexV c.toNat := by
  have hlt : c.toNat < 256 := c.toNat_lt
  have hc : UInt8.ofNat c.toNat = c := by simp
  have ne : ∀ k : Nat, k < 256 → c ≠ UInt8.ofNat k → c.toNat ≠ k := fun k hk h e => h (by rw [← e]; exact hc.symm)
  obtain ⟨a, b⟩ := char_fin ⟨c.toNat, hlt⟩ (ne 39 (by omega) h1) (ne 92 (by omega) h2) (ne 10 (by omega) h3)
  simp only [hc] at a b
  have hct : charT [48, 39, c, 32] = some (⟨3, (c.toNat : Int), []⟩, 3) := by
    unfold charT
    rw [show List.drop 2 [48, 39, c, 32] = [c, 32] from rfl, a, if_neg (by simp), show List.take 1 [c, 32] ++ [39] = [c, 39] from rfl, b]
  refine lex_num (x := 48) (D := [39, c]) (by decide) hct ?_
  intro y hy
  simp only [List.mem_cons, List.not_mem_nil, or_false] at hy
  rcases hy with rfl | rfl | rfl
  · decide
  · decide
  · exact h3

theorem digit_at : ∀ d : Fin 16, (⟨#[48, 49, 50, 51, 52, 53, 54, 55, 56, 57, 97, 98, 99, 100, 101, 102]⟩ : ByteArray).extract d.val (d.val + 1) = ⟨#[dch d.val]⟩ := by decide +kernel
/-- ahead of a round of the loop that writes the digits of n in a base -/
structure BasSt (b n k : Nat) (A : ByteArray) : Prop where
  ex : ∃ f, digL b 33 n = digL b (f + 1) k ++ A.data.toList ∧ k < b ^ f
  small : A.size ≤ 34
theorem BasSt.start {b n : Nat} (hb : 2 ≤ b) (h : n < 4294967296) : BasSt b n n ⟨#[]⟩ :=
  ⟨⟨32, by simp, Nat.lt_of_lt_of_le h (Nat.pow_le_pow_left hb 32)⟩, by decide⟩
theorem BasSt.size {b n : Nat} {B : ByteArray} {X : List UInt8} (h : digL b 33 n = X ++ B.data.toList) : B.size ≤ 34 := by
  have := digL_len b 33 n
  rw [h, List.length_append, ← Lib.size_eq] at this
  omega
theorem BasSt.next {b n k : Nat} {A : ByteArray} (hb : 2 ≤ b) (h : BasSt b n k A) (hk : ¬ k < b) : BasSt b n (k / b) (⟨#[dch (k % b)]⟩ ++ A) := by
  obtain ⟨⟨f, hf, hlt⟩, _⟩ := h
  have h1 : digL b 33 n = digL b f (k / b) ++ (⟨#[dch (k % b)]⟩ ++ A : ByteArray).data.toList := by
    rw [hf, ByteArray.data_append, Array.toList_append]
    simp only [digL]
    rw [if_neg hk]
    simp
  refine ⟨?_, BasSt.size h1⟩
  rcases f with _ | f
  · simp at hlt; omega
  · exact ⟨f, h1, Nat.div_lt_of_lt_mul (by rw [Nat.pow_succ] at hlt; rw [Nat.mul_comm]; exact hlt)⟩
theorem BasSt.last {b n k : Nat} {A : ByteArray} (h : BasSt b n k A) (hk : k < b) : (⟨#[dch (k % b)]⟩ ++ A : ByteArray) = ⟨(digL b 33 n).toArray⟩ := by
  obtain ⟨⟨f, hf, _⟩, _⟩ := h
  refine bytes_eq ?_
  rw [hf, ByteArray.data_append, Array.toList_append]
  simp only [digL]
  rw [if_pos hk]

end Go.Proofs.YtkbeaddbnnboaaaDoor
