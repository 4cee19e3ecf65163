/- Texts one behind the other: what is read of the first, which ends by a byte 10, is read the same ahead of the second. Conditions: none. -/
import Derived.Test.YtkbeaddbnnboaaaDoorTokV
namespace Go.Proofs.YtkbeaddbnnboaaaDoor
open Go Go.RowKit Go.Maps

/-- it ends by a byte 10 -/
def E10 (l : List UInt8) : Prop := ∃ x, l = x ++ [10]
theorem E10.ne {l : List UInt8} (h : E10 l) : l ≠ [] := by obtain ⟨x, rfl⟩ := h; simp
theorem E10.tail {c d : UInt8} {t : List UInt8} (h : E10 (c :: d :: t)) : E10 (d :: t) := by
  obtain ⟨x, hx⟩ := h
  rcases x with _ | ⟨y, x⟩
  · simp at hx
  · exact ⟨x, by simpa using (List.cons.inj hx).2⟩
theorem E10.tail' {c : UInt8} {t : List UInt8} (h : E10 (c :: t)) (ht : t ≠ []) : E10 t := by
  rcases t with _ | ⟨d, t⟩
  · exact absurd rfl ht
  · exact h.tail
theorem E10.one {c : UInt8} {t : List UInt8} (h : E10 (c :: t)) (hc : c ≠ 10) : t ≠ [] := by
  rintro rfl
  obtain ⟨x, hx⟩ := h
  rcases x with _ | ⟨y, x⟩
  · simp at hx; exact hc hx
  · simp at hx
theorem E10.drop {l : List UInt8} (h : E10 l) : ∀ k, l.drop k ≠ [] → E10 (l.drop k) := by
  obtain ⟨x, rfl⟩ := h
  intro k hk
  by_cases h1 : k ≤ x.length
  · exact ⟨x.drop k, by rw [List.drop_append_of_le_length h1]⟩
  · exact absurd (List.drop_eq_nil_of_le (by simp; omega)) hk

theorem pre_app2 {r : List UInt8} (h : E10 r) (B : List UInt8) {a : UInt8} (ha : a ≠ 10) (b : UInt8) : Lib.hasPrefix (r ++ B) [a, b] = Lib.hasPrefix r [a, b] := by
  rcases r with _ | ⟨c, _ | ⟨d, t⟩⟩
  · exact absurd rfl h.ne
  · obtain rfl : c = 10 := by
      obtain ⟨x, hx⟩ := h
      rcases x with _ | ⟨y, x⟩
      · simpa using hx
      · simp at hx
    rw [pre_no (Ne.symm ha)]
    exact pre_no (Ne.symm ha)
  · rfl
theorem pre_app1 {r : List UInt8} (h : r ≠ []) (B : List UInt8) (a : UInt8) : Lib.hasPrefix (r ++ B) [a] = Lib.hasPrefix r [a] := by
  rcases r with _ | ⟨c, t⟩
  · exact absurd rfl h
  · rfl

theorem run_app {p : Int → Bool} (hp : p 10 = false) (B : List UInt8) : ∀ r : List UInt8, E10 r → runB p (r ++ B) = runB p r ∧ runB p r < r.length
  | [], h => absurd rfl h.ne
  | c :: t, h => by
    cases hc : p (c.toNat : Int) with
    | false => rw [List.cons_append, runB_no hc, runB_no hc]; simp
    | true =>
      have h10 : c ≠ 10 := fun e => by rw [e] at hc; rw [show (((10 : UInt8).toNat : Nat) : Int) = 10 from rfl, hp] at hc; cases hc
      obtain ⟨a, b⟩ := run_app hp B t (h.tail' (h.one h10))
      rw [List.cons_append, runB_yes hc, runB_yes hc, a]
      exact ⟨rfl, by simpa using b⟩
theorem take_app {r B : List UInt8} {k : Nat} (h : k ≤ r.length) : (r ++ B).take k = r.take k := List.take_append_of_le_length h

theorem stop_app {r : List UInt8} (h : E10 r) (B : List UInt8) : stopT (r ++ B) = stopT r := by
  rcases r with _ | ⟨c, _ | ⟨d, t⟩⟩
  · exact absurd rfl h.ne
  · have hc : c = 10 := Classical.byContradiction fun h10 => h.one h10 rfl
    subst hc
    rw [stop_no (by decide)]
    exact stop_no (by decide)
  · rfl
theorem letters_app {r : List UInt8} (h : E10 r) (B : List UInt8) (a b : Int) : lettersT a b (r ++ B) = lettersT a b r := by
  obtain ⟨h1, h2⟩ := run_app (p := letterZ) (by decide) B r h
  rcases r with _ | ⟨c, t⟩
  · exact absurd rfl h.ne
  · have h3 := take_app (B := B) (Nat.le_of_lt h2)
    rw [List.cons_append] at h1 h3 ⊢
    unfold lettersT
    simp only [h1, h3]
theorem signs_app {r : List UInt8} (h : E10 r) (B : List UInt8) : signsT (r ++ B) = signsT r := by
  obtain ⟨h1, h2⟩ := run_app (p := signZ) (by decide) B r h
  unfold signsT
  rw [pre_app2 h B (by decide), h1, take_app (Nat.le_of_lt h2)]
theorem alone_app {r : List UInt8} (h : r ≠ []) (B : List UInt8) (a b : Int) : aloneT a b (r ++ B) = aloneT a b r := by
  rcases r with _ | ⟨c, t⟩
  · exact absurd rfl h
  · rfl
theorem digits_app {r : List UInt8} (B : List UInt8) (f : Nat) (b : Int) (hb : digZ b 10 = false) (hf : f ≤ r.length) (h : E10 (r.drop f)) : digitsT f b (r ++ B) = digitsT f b r := by
  obtain ⟨h1, h2⟩ := run_app (p := digZ b) hb B (r.drop f) h
  unfold digitsT
  rw [List.drop_append_of_le_length hf, h1, take_app (Nat.le_of_lt h2)]
theorem char_app {r : List UInt8} (B : List UInt8) (hf : 2 ≤ r.length) (h : E10 (r.drop 2)) : charT (r ++ B) = charT r := by
  have hz : charZ (r.drop 2 ++ B) = charZ (r.drop 2) := by
    unfold charZ
    rw [pre_app1 h.ne, pre_app1 h.ne]
  have hl : charZ (r.drop 2) ≤ (r.drop 2).length := by
    rcases hr : r.drop 2 with _ | ⟨c, _ | ⟨d, t⟩⟩
    · rw [hr] at h; exact absurd rfl h.ne
    · rw [hr] at h
      have hc : c = 10 := Classical.byContradiction fun h10 => h.one h10 rfl
      subst hc
      decide
    · unfold charZ
      split
      · simp
      · split <;> simp
  unfold charT
  rw [List.drop_append_of_le_length hf, hz, take_app hl, if_neg (by rw [List.length_append]; omega), if_neg (by omega)]
theorem pre_drop {r : List UInt8} (h : E10 r) {a b : UInt8} (hb : b ≠ 10) (hp : Lib.hasPrefix r [a, b] = true) : 2 ≤ r.length ∧ E10 (r.drop 2) := by
  have h2 := prefix_two hp
  refine ⟨h2, ?_⟩
  rcases r with _ | ⟨c, _ | ⟨d, t⟩⟩
  · simp at h2
  · simp at h2
  · obtain rfl : b = d := by
      simp only [Lib.hasPrefix, List.isPrefixOf, Bool.and_eq_true, beq_iff_eq] at hp
      exact hp.2.1
    exact h.tail.tail' (h.tail.one hb)
theorem number_app {r : List UInt8} (h : E10 r) (B : List UInt8) : numberT (r ++ B) = numberT r := by
  unfold numberT
  rw [pre_app2 h B (by decide), pre_app2 h B (by decide), pre_app2 h B (by decide), pre_app2 h B (by decide)]
  split
  · rename_i hp
    obtain ⟨h1, h2⟩ := pre_drop h (by decide) hp
    exact digits_app B 2 16 (by decide) h1 h2
  · split
    · rename_i hp
      obtain ⟨h1, h2⟩ := pre_drop h (by decide) hp
      exact digits_app B 2 8 (by decide) h1 h2
    · split
      · rename_i hp
        obtain ⟨h1, h2⟩ := pre_drop h (by decide) hp
        exact digits_app B 2 2 (by decide) h1 h2
      · split
        · rename_i hp
          obtain ⟨h1, h2⟩ := pre_drop h (by decide) hp
          exact char_app B h1 h2
        · exact digits_app B 0 10 (by decide) (Nat.zero_le _) h

theorem byteAt_app (c : UInt8) (B : List UInt8) : ∀ t : List UInt8, 0 ≤ Lib.indexByte t c → Lib.indexByte (t ++ B) c = Lib.indexByte t c
  | [], h => by simp [Lib.indexByte] at h
  | b :: t, h => by
    rw [List.cons_append]
    unfold Lib.indexByte at h ⊢
    split
    · rfl
    · rename_i hb
      rw [if_neg hb] at h
      have hg := Lib.indexByte_ge t c
      by_cases h1 : Lib.indexByte t c == -1
      · rw [if_pos h1] at h; omega
      · have h0 : 0 ≤ Lib.indexByte t c := by
          have : Lib.indexByte t c ≠ -1 := fun e => h1 (by rw [e]; rfl)
          omega
        rw [byteAt_app c B t h0]
theorem numAt_app {base : Int} {t : List UInt8} (B : List UInt8) {x : UInt8 × Nat} (h : numAt base t = some x) : numAt base (t ++ B) = some x := by
  unfold numAt at h ⊢
  split at h
  · cases h
  · rename_i h0
    have h0' : 0 ≤ Lib.indexByte t 92 := by omega
    have hl : (Lib.indexByte t 92).toNat ≤ t.length := Nat.le_of_lt (index_lt (i := (Lib.indexByte t 92).toNat) (by omega))
    rw [byteAt_app 92 B t h0', if_neg h0, take_app hl]
    exact h
theorem zero_app {e : UInt8} {t : List UInt8} (B : List UInt8) (h : t ≠ []) : zeroB e (t ++ B) = zeroB e t := by
  rcases t with _ | ⟨c, t⟩
  · exact absurd rfl h
  · rfl
theorem esc_app {l : List UInt8} (B : List UInt8) {x : List UInt8 × Nat} (hl : E10 l) (h : escF l = some x) : escF (l ++ B) = some x := by
  rcases l with _ | ⟨a, _ | ⟨e, t⟩⟩
  · cases h
  · cases h
  · show escT e (t ++ B) = some x
    have h' : escT e t = some x := h
    by_cases h10 : e = 10
    · subst h10
      unfold escT at h' ⊢
      exact h'
    · have ht := hl.tail.one h10
      unfold escT at h' ⊢
      rw [zero_app B ht]
      split
      · rename_i hc; rw [if_pos hc] at h'; exact h'
      · rename_i hc
        rw [if_neg hc] at h'
        split
        · rename_i hx
          rw [if_pos hx] at h'
          rcases hn : numAt 16 t with _ | ⟨b, k⟩
          · rw [hn] at h'; cases h'
          · rw [hn] at h'; rw [numAt_app B hn]; exact h'
        · rename_i hx
          rw [if_neg hx] at h'
          split
          · rename_i ho
            rw [if_pos ho] at h'
            rcases hn : numAt 8 (e :: t) with _ | ⟨b, k⟩
            · rw [hn] at h'; cases h'
            · rw [hn] at h'
              have := numAt_app B hn
              rw [List.cons_append] at this
              rw [this]; exact h'
          · rename_i ho
            rw [if_neg ho] at h'
            exact h'
theorem dbl_app {l : List UInt8} (B : List UInt8) (h : 2 ≤ l.length) : dblB (l ++ B) = dblB l := by
  rcases l with _ | ⟨a, _ | ⟨b, t⟩⟩
  · simp at h
  · simp at h
  · rfl
theorem step_app {q : Int} (hq : q ≠ 10) {l : List UInt8} (B : List UInt8) (hl : E10 l) (h : stepF q l ≠ .bad) : stepF q (l ++ B) = stepF q l := by
  rcases l with _ | ⟨c, t⟩
  · exact absurd rfl hl.ne
  · rw [List.cons_append]
    rw [show stepF q (c :: t) = stepC q c t from rfl] at h ⊢
    rw [show stepF q (c :: (t ++ B)) = stepC q c (t ++ B) from rfl]
    unfold stepC at h ⊢
    split
    · rename_i hc
      have h10 : c ≠ 10 := fun e => by
        rw [e] at hc
        simp only [beq_iff_eq] at hc
        exact hq (by rw [← hc]; rfl)
      have ht := hl.one h10
      have hd := dbl_app (l := c :: t) B (by rcases t with _ | ⟨d, t⟩; exact absurd rfl ht; simp)
      rw [List.cons_append] at hd
      rw [hd]
    · rename_i hc
      rw [if_neg hc] at h
      split
      · rename_i h92
        rw [if_pos h92] at h
        rcases he : escF (c :: t) with _ | ⟨b, n⟩
        · rw [he] at h; exact absurd rfl h
        · have := esc_app B hl he
          rw [List.cons_append] at this
          rw [this]
      · rfl
theorem getF_app {q : Int} (hq : q ≠ 10) (B : List UInt8) : ∀ (f : Nat) (l acc : List UInt8) (m : Nat) (x : List UInt8 × Nat), E10 l → getF q f l acc m = some x → getF q (f + B.length) (l ++ B) acc m = some x
  | 0, _, _, _, _, _, h => by cases h
  | f + 1, l, acc, m, x, hl, h => by
    rw [show f + 1 + B.length = f + B.length + 1 by omega]
    unfold getF at h ⊢
    rcases hs : stepF q l with _ | _ | ⟨b, n⟩
    · rw [step_app hq B hl (by rw [hs]; simp), hs]
      rw [hs] at h
      exact h
    · rw [hs] at h; cases h
    · rw [step_app hq B hl (by rw [hs]; simp), hs]
      rw [hs] at h
      have hn := stepF_len hs
      simp only at h ⊢
      rw [List.drop_append_of_le_length hn.2.1]
      by_cases h0 : l.drop n = []
      · rw [h0] at h
        rcases f with _ | f
        · cases h
        · rw [getF, show stepF q [] = .bad from rfl] at h; cases h
      · exact getF_app hq B f _ _ _ x (hl.drop n h0) h
theorem getL_app {q : Int} (hq : q ≠ 10) {l : List UInt8} (B : List UInt8) {x : List UInt8 × Nat} (hl : E10 l) (h : getL q l = some x) : getL q (l ++ B) = some x := by
  have := getF_app hq B _ _ _ _ _ hl h
  unfold getL
  rw [List.length_append, show l.length + B.length + 1 = l.length + 1 + B.length by omega]
  exact this
theorem within_app {q : Int} (hq : q ≠ 10) (k : Int) {r : List UInt8} (B : List UInt8) {x : Tk × Nat} (h : E10 r) (hx : withinT q k r = some x) : withinT q k (r ++ B) = some x := by
  rcases r with _ | ⟨c, t⟩
  · exact absurd rfl h.ne
  · cases hc : ((c.toNat : Int) == q) with
    | false => rw [within_no hc] at hx; cases hx
    | true =>
      rcases hg : getL q t with _ | ⟨b, m⟩
      · rw [within_bad hc hg] at hx; cases hx
      · rw [within_ok hc hg] at hx
        by_cases ht : t = []
        · subst ht; cases hg
        · rw [List.cons_append, within_ok hc (getL_app hq B (h.tail' ht) hg)]
          exact hx
theorem tok_app {r : List UInt8} (B : List UInt8) {x : Tk × Nat} (h : E10 r) (hx : tokT r = some x) : tokT (r ++ B) = some x := by
  unfold tokT at hx ⊢
  rw [stop_app h, letters_app h, signs_app h, alone_app h.ne, letters_app h, number_app h, alone_app h.ne]
  rcases h1 : stopT r with _ | a1
  · rcases h2 : lettersT 2 1 r with _ | a2
    · rcases h3 : signsT r with _ | a3
      · rcases h4 : aloneT 6 1 r with _ | a4
        · rcases h5 : lettersT 3 4 r with _ | a5
          · rcases h6 : numberT r with _ | a6
            · simp only [h1, h2, h3, h4, h5, h6, Option.none_or] at hx ⊢
              rcases h7 : withinT 39 2 r with _ | a7
              · rw [h7, Option.none_or] at hx
                rcases r with _ | ⟨c, t⟩
                · exact absurd rfl h.ne
                · have hno : ((c.toNat : Int) == 39) = false := by
                    cases hc : ((c.toNat : Int) == 39) with
                    | false => rfl
                    | true =>
                      have hc' : (c.toNat : Int) = 39 := by simpa using hc
                      rw [within_no (by rw [hc']; rfl), Option.none_or] at hx
                      simp only [aloneT] at hx
                      rw [hc', if_neg (by decide)] at hx
                      cases hx
                  rw [List.cons_append, within_no hno, Option.none_or]
                  rw [← List.cons_append]
                  rcases h8 : withinT 34 5 (c :: t) with _ | a8
                  · rw [h8, Option.none_or] at hx
                    have hno2 : ((c.toNat : Int) == 34) = false := by
                      cases hc : ((c.toNat : Int) == 34) with
                      | false => rfl
                      | true =>
                        have hc' : (c.toNat : Int) = 34 := by simpa using hc
                        simp only [aloneT] at hx
                        rw [hc', if_neg (by decide)] at hx
                        cases hx
                    rw [List.cons_append, within_no hno2, Option.none_or]
                    exact hx
                  · rw [h8] at hx
                    rw [within_app (by decide) 5 B h h8]
                    exact hx
              · rw [h7] at hx
                rw [within_app (by decide) 2 B h h7]
                exact hx
            · simp only [h1, h2, h3, h4, h5, h6, Option.none_or, Option.some_or] at hx ⊢; exact hx
          · simp only [h1, h2, h3, h4, h5, Option.none_or, Option.some_or] at hx ⊢; exact hx
        · simp only [h1, h2, h3, h4, Option.none_or, Option.some_or] at hx ⊢; exact hx
      · simp only [h1, h2, h3, Option.none_or, Option.some_or] at hx ⊢; exact hx
    · simp only [h1, h2, Option.none_or, Option.some_or] at hx ⊢; exact hx
  · simp only [h1, Option.some_or] at hx ⊢; exact hx

end Go.Proofs.YtkbeaddbnnboaaaDoor
