/- The mathematics of TokenAtoms: an atom and a blank; a number, then a name. Conditions: none. -/
import Derived.Test.YtkbeaddbnnboaaaDoorTokP
namespace Go.Proofs.YtkbeaddbnnboaaaDoor
open Go Go.RowKit Go.Maps

theorem lex_blank (n : Int) (k : Nat) : lexN [32] n k = ⟨[⟨0, n, 0, [], false, false⟩], 0, 0⟩ := by
  rw [lex_end (j := 1) (by decide) rfl]
  simp [nlC, Lib.countByte]
theorem atom_one (s : List UInt8) (h1 : s ≠ [91, 93]) (h2 : s ≠ [123, 125]) : lexN (putL s ++ [32]) 1 0 = ⟨[⟨(atomT s).k, 1, 0, s, false, false⟩, ⟨0, 1, 0, [], false, false⟩], 0, 0⟩ := by
  have hc : blankB 32 := (by decide : sortZ (((32 : UInt8).toNat : Nat) : Int) = 1)
  rw [lex_atom (j := 0) (s := s) (skip_atom hc) rfl hc h1 h2 (by omega), lex_blank]
  simp [LexR.cons, nlC, Lib.countByte]

theorem dch10 : ∀ d : Fin 10, sortZ ((dch d.val).toNat : Int) = 4 ∧ dch d.val ≠ 120 ∧ dch d.val ≠ 111 ∧ dch d.val ≠ 98 ∧ dch d.val ≠ 39 ∧ dch d.val ≠ 10 ∧ dch d.val ≠ 40 := by decide +kernel
theorem dec_all {f k : Nat} {x : UInt8} (hx : x ∈ digL 10 f k) : sortZ (x.toNat : Int) = 4 ∧ x ≠ 120 ∧ x ≠ 111 ∧ x ≠ 98 ∧ x ≠ 39 ∧ x ≠ 10 ∧ x ≠ 40 := by
  obtain ⟨d, hd, rfl⟩ := digL_all (by omega) f k x hx
  exact dch10 ⟨d, hd⟩
theorem pre_two {x y a b : UInt8} {t : List UInt8} (h : y ≠ b) : Lib.hasPrefix (x :: y :: t) [a, b] = false := by
  show ((a == x) && ((b == y) && _)) = false
  rw [beq_eq_false_iff_ne.2 (Ne.symm h)]
  simp
theorem num_plain {f k : Nat} {c : UInt8} {r : List UInt8} (h1 : c ≠ 120) (h2 : c ≠ 111) (h3 : c ≠ 98) (h4 : c ≠ 39) : numberT (digL 10 f k ++ c :: r) = digitsT 0 10 (digL 10 f k ++ c :: r) := by
  have hall := fun x => dec_all (f := f) (k := k) (x := x)
  have hne := digL_ne 10 f k
  obtain ⟨_, _, _, he, y1, y2, y3, y4⟩ : ∃ x y t, digL 10 f k ++ c :: r = x :: y :: t ∧ y ≠ 120 ∧ y ≠ 111 ∧ y ≠ 98 ∧ y ≠ 39 := by
    rcases hd : digL 10 f k with _ | ⟨x, _ | ⟨y, t⟩⟩
    · exact absurd hd hne
    · exact ⟨x, c, r, rfl, h1, h2, h3, h4⟩
    · have := hall y (by rw [hd]; simp)
      exact ⟨x, y, t ++ c :: r, rfl, this.2.1, this.2.2.1, this.2.2.2.1, this.2.2.2.2.1⟩
  unfold numberT
  rw [he, pre_two y1, pre_two y2, pre_two y3, pre_two y4]
  rfl
theorem dec_tok {f k : Nat} {c : UInt8} {r : List UInt8} (h1 : c ≠ 120) (h2 : c ≠ 111) (h3 : c ≠ 98) (h4 : c ≠ 39) (hc : 16 ≤ digitZ (c.toNat : Int)) (hf : k < 10 ^ (f + 1)) (hk : k < 4294967296) :
    tokT (digL 10 f k ++ c :: r) = some (⟨3, (k : Int), []⟩, (digL 10 f k).length) ∧ gapN (digL 10 f k ++ c :: r) = 0 := by
  have hn := num_plain (f := f) (k := k) (r := r) h1 h2 h3 h4
  have hd := digits_num (b := 10) (f := f) (k := k) (by omega) hf hk hc [] r
  rw [List.nil_append, List.length_nil, Nat.zero_add] at hd
  have hdz : numberT (digL 10 f k ++ c :: r) = some (⟨3, (k : Int), []⟩, (digL 10 f k).length) := hn.trans hd
  obtain ⟨x, t, he⟩ : ∃ x t, digL 10 f k = x :: t := by
    rcases hd : digL 10 f k with _ | ⟨x, t⟩
    · exact absurd hd (digL_ne 10 f k)
    · exact ⟨x, t, rfl⟩
  have hx := (dec_all (f := f) (k := k) (x := x) (by rw [he]; simp)).1
  rw [he, List.cons_append] at hdz ⊢
  exact ⟨tok_number (stop_sort hx (by decide)) (letters_sort hx (by decide)) (signs_sort hx (by decide)) (alone_sort hx (by decide)) (letters_sort hx (by decide)) hdz, gap_sort hx (by decide) (by decide) (pre_no (ne_sort hx (by decide)))⟩
theorem dec_nl {f k : Nat} : nlC (digL 10 f k) = 0 := nlC_zero fun _ hx => (dec_all hx).2.2.2.2.2.1
theorem lex_dec {f k : Nat} (hf : k < 10 ^ (f + 1)) (hk : k < 4294967296) :
    lexN (digL 10 f k ++ 95 :: digL 10 f k) 1 0 = ⟨[⟨3, 1, (k : Int), [], false, false⟩, ⟨4, 1, 0, 95 :: digL 10 f k, false, true⟩, ⟨0, 1, 0, [], false, false⟩], 0, 0⟩ := by
  obtain ⟨ht, hg⟩ := dec_tok (f := f) (k := k) (c := 95) (r := digL 10 f k) (by decide) (by decide) (by decide) (by decide) (by decide) hf hk
  rw [lex_on (j := 0) (n' := 1) (op := false) (skipN_0 hg) rfl (by simp) ht (List.drop_left' rfl) (by rw [List.drop_zero, List.take_left' rfl, dec_nl]; simp [nlC, Lib.countByte]) rfl (by omega)]
  have h95 : sortZ (((95 : UInt8).toNat : Nat) : Int) = 3 := by decide
  have hl : ∀ x ∈ (95 : UInt8) :: digL 10 f k, letterZ (x.toNat : Int) = true := by
    intro x hx
    rcases List.mem_cons.1 hx with rfl | hx
    · decide
    · unfold letterZ
      rw [(dec_all hx).1]
      rfl
  have hn := letters_run (a := 3) (k := 4) (r := []) hl ⟨95, _, rfl, h95⟩ (.inl rfl)
  rw [List.append_nil] at hn
  have ht2 : tokT (95 :: digL 10 f k) = some (⟨4, 0, 95 :: digL 10 f k⟩, (95 :: digL 10 f k).length) :=
    tok_named (stop_sort h95 (by decide)) (letters_sort h95 (by decide)) (signs_sort h95 (by decide)) (alone_sort h95 (by decide)) hn
  rw [lex_on (j := 0) (n' := 1) (op := false) (r' := []) (skipN_0 (gap_sort h95 (by decide) (by decide) (pre_no (by decide)))) rfl (by simp) ht2 (List.drop_length ..) (by
    rw [List.drop_zero, List.take_length, nlC_zero (l := 95 :: digL 10 f k) (fun x hx => by
      rcases List.mem_cons.1 hx with rfl | hx
      · decide
      · exact (dec_all hx).2.2.2.2.2.1)]
    simp [nlC, Lib.countByte]) rfl (by omega)]
  rw [lex_end (j := 0) (by decide) rfl]
  simp [LexR.cons, nlC, Lib.countByte]

/-- where the loop of digits stands: the last ones are written -/
theorem dec_step {f k : Nat} (h : ¬ k < 10) (acc : List UInt8) : digL 10 (f + 1) k ++ acc = digL 10 f (k / 10) ++ (dch (k % 10) :: acc) := by
  simp only [digL]
  rw [if_neg h]
  simp
theorem dec_last {f k : Nat} (h : k < 10) (acc : List UInt8) : digL 10 (f + 1) k ++ acc = dch (k % 10) :: acc := by
  simp only [digL]
  rw [if_pos h]
  rfl

theorem enc_fin : ∀ d : Fin 10, Utf8.encode (48 + (d.val : Int)) = ⟨#[dch d.val]⟩ := by decide +kernel
theorem enc_dig (k : Nat) : Utf8.encode (48 + (k : Int) % 10) = ⟨#[dch (k % 10)]⟩ := by
  have := enc_fin ⟨k % 10, Nat.mod_lt _ (by omega)⟩
  rw [show ((k : Int) % 10) = ((k % 10 : Nat) : Int) by omega]
  exact this
/-- ahead of a round of the loop that writes the digits of n -/
structure DecSt (n : Nat) (k : Nat) (A : ByteArray) : Prop where
  ex : ∃ f, digL 10 21 n = digL 10 (f + 1) k ++ A.data.toList ∧ k < 10 ^ f
  small : A.size ≤ 22
theorem DecSt.start {n : Nat} (h : n < 4294967296) : DecSt n n ⟨#[]⟩ := ⟨⟨20, by simp, by omega⟩, by decide⟩
theorem DecSt.size {n : Nat} {B : ByteArray} {X : List UInt8} (h : digL 10 21 n = X ++ B.data.toList) : B.size ≤ 22 := by
  have := digL_len 10 21 n
  rw [h, List.length_append, ← Lib.size_eq] at this
  omega
theorem DecSt.next {n k : Nat} {A : ByteArray} (h : DecSt n k A) (hk : ¬ k < 10) : DecSt n (k / 10) (⟨#[dch (k % 10)]⟩ ++ A) := by
  obtain ⟨⟨f, hf, hlt⟩, _⟩ := h
  have h1 : digL 10 21 n = digL 10 f (k / 10) ++ (⟨#[dch (k % 10)]⟩ ++ A : ByteArray).data.toList := by
    rw [hf, dec_step hk, ByteArray.data_append, Array.toList_append]
    rfl
  refine ⟨?_, DecSt.size h1⟩
  rcases f with _ | f
  · simp at hlt; omega
  · exact ⟨f, h1, Nat.div_lt_of_lt_mul (by rw [Nat.pow_succ] at hlt; rw [Nat.mul_comm]; exact hlt)⟩
theorem DecSt.last {n k : Nat} {A : ByteArray} (h : DecSt n k A) (hk : k < 10) : (⟨#[dch (k % 10)]⟩ ++ A : ByteArray).data.toList = digL 10 21 n := by
  obtain ⟨⟨f, hf, _⟩, _⟩ := h
  rw [hf, dec_last hk, ByteArray.data_append, Array.toList_append]
  rfl

end Go.Proofs.YtkbeaddbnnboaaaDoor
