/- Joined texts: TokY TokZ. Conditions: as each states. -/
import Derived.Test.YtkplokfcjjcpcaaGreatDoorQk09
section
namespace Go.Proofs.YtkplokfcjjcpcaaGreatDoor
open Go Go.RowKit Go.Maps
def E10 (l : List UInt8) : Prop := ∃ x, l = x ++ [10]
theorem E10.ne {l : List UInt8} (h : E10 l) : l ≠ [] := by obtain ⟨x, rfl⟩ := h; simp
theorem E10.tail {c d : UInt8} {t : List UInt8} (h : E10 (c :: d :: t)) : E10 (d :: t) := by
  obtain ⟨x, hx⟩ := h
  rcases x with _ | ⟨y, x⟩
  · simp at hx
  · exact ⟨x, by simpa using (List.cons.inj hx).2⟩
theorem E10.tail' {c : UInt8} {t : List UInt8} (h : E10 (c :: t)) (ht : t ≠ []) : E10 t := by
  rcases t with _ | ⟨d, t⟩
  · exact absurd rfl ht
  · exact h.tail
theorem E10.one {c : UInt8} {t : List UInt8} (h : E10 (c :: t)) (hc : c ≠ 10) : t ≠ [] := by
  rintro rfl
  obtain ⟨x, hx⟩ := h
  rcases x with _ | ⟨y, x⟩
  · simp at hx; exact hc hx
  · simp at hx
theorem E10.drop {l : List UInt8} (h : E10 l) : ∀ k, l.drop k ≠ [] → E10 (l.drop k) := by
  obtain ⟨x, rfl⟩ := h
  intro k hk
  by_cases h1 : k ≤ x.length
  · exact ⟨x.drop k, by rw [List.drop_append_of_le_length h1]⟩
  · exact absurd (List.drop_eq_nil_of_le (by simp; omega)) hk
theorem pre_app2 {r : List UInt8} (h : E10 r) (B : List UInt8) {a : UInt8} (ha : a ≠ 10) (b : UInt8) : Lib.hasPrefix (r ++ B) [a, b] = Lib.hasPrefix r [a, b] := by
  rcases r with _ | ⟨c, _ | ⟨d, t⟩⟩
  · exact absurd rfl h.ne
  · obtain rfl : c = 10 := by
      obtain ⟨x, hx⟩ := h
      rcases x with _ | ⟨y, x⟩
      · simpa using hx
      · simp at hx
    rw [pre_no (Ne.symm ha)]
    exact pre_no (Ne.symm ha)
  · rfl
theorem pre_app1 {r : List UInt8} (h : r ≠ []) (B : List UInt8) (a : UInt8) : Lib.hasPrefix (r ++ B) [a] = Lib.hasPrefix r [a] := by
  rcases r with _ | ⟨c, t⟩
  · exact absurd rfl h
  · rfl
theorem run_app {p : Int → Bool} (hp : p 10 = false) (B : List UInt8) : ∀ r : List UInt8, E10 r → runB p (r ++ B) = runB p r ∧ runB p r < r.length
  | [], h => absurd rfl h.ne
  | c :: t, h => by
    cases hc : p (c.toNat : Int) with
    | false => rw [List.cons_append, runB_no hc, runB_no hc]; simp
    | true =>
      have h10 : c ≠ 10 := fun e => by rw [e] at hc; rw [show (((10 : UInt8).toNat : Nat) : Int) = 10 from rfl, hp] at hc; cases hc
      obtain ⟨a, b⟩ := run_app hp B t (h.tail' (h.one h10))
      rw [List.cons_append, runB_yes hc, runB_yes hc, a]
      exact ⟨rfl, by simpa using b⟩
theorem take_app {r B : List UInt8} {k : Nat} (h : k ≤ r.length) : (r ++ B).take k = r.take k := List.take_append_of_le_length h
theorem stop_app {r : List UInt8} (h : E10 r) (B : List UInt8) : stopT (r ++ B) = stopT r := by
  rcases r with _ | ⟨c, _ | ⟨d, t⟩⟩
  · exact absurd rfl h.ne
  · have hc : c = 10 := Classical.byContradiction fun h10 => h.one h10 rfl
    subst hc
    rw [stop_no (by decide)]
    exact stop_no (by decide)
  · rfl
theorem letters_app {r : List UInt8} (h : E10 r) (B : List UInt8) (a b : Int) : lettersT a b (r ++ B) = lettersT a b r := by
  obtain ⟨h1, h2⟩ := run_app (p := letterZ) (by decide) B r h
  rcases r with _ | ⟨c, t⟩
  · exact absurd rfl h.ne
  · have h3 := take_app (B := B) (Nat.le_of_lt h2)
    rw [List.cons_append] at h1 h3 ⊢
    unfold lettersT
    simp only [h1, h3]
theorem signs_app {r : List UInt8} (h : E10 r) (B : List UInt8) : signsT (r ++ B) = signsT r := by
  obtain ⟨h1, h2⟩ := run_app (p := signZ) (by decide) B r h
  unfold signsT
  rw [pre_app2 h B (by decide), h1, take_app (Nat.le_of_lt h2)]
theorem alone_app {r : List UInt8} (h : r ≠ []) (B : List UInt8) (a b : Int) : aloneT a b (r ++ B) = aloneT a b r := by
  rcases r with _ | ⟨c, t⟩
  · exact absurd rfl h
  · rfl
theorem digits_app {r : List UInt8} (B : List UInt8) (f : Nat) (b : Int) (hb : digZ b 10 = false) (hf : f ≤ r.length) (h : E10 (r.drop f)) : digitsT f b (r ++ B) = digitsT f b r := by
  obtain ⟨h1, h2⟩ := run_app (p := digZ b) hb B (r.drop f) h
  unfold digitsT
  rw [List.drop_append_of_le_length hf, h1, take_app (Nat.le_of_lt h2)]
theorem char_app {r : List UInt8} (B : List UInt8) (hf : 2 ≤ r.length) (h : E10 (r.drop 2)) : charT (r ++ B) = charT r := by
  have hz : charZ (r.drop 2 ++ B) = charZ (r.drop 2) := by
    unfold charZ
    rw [pre_app1 h.ne, pre_app1 h.ne]
  have hl : charZ (r.drop 2) ≤ (r.drop 2).length := by
    rcases hr : r.drop 2 with _ | ⟨c, _ | ⟨d, t⟩⟩
    · rw [hr] at h; exact absurd rfl h.ne
    · rw [hr] at h
      have hc : c = 10 := Classical.byContradiction fun h10 => h.one h10 rfl
      subst hc
      decide
    · unfold charZ
      split
      · simp
      · split <;> simp
  unfold charT
  rw [List.drop_append_of_le_length hf, hz, take_app hl, if_neg (by rw [List.length_append]; omega), if_neg (by omega)]
theorem pre_drop {r : List UInt8} (h : E10 r) {a b : UInt8} (hb : b ≠ 10) (hp : Lib.hasPrefix r [a, b] = true) : 2 ≤ r.length ∧ E10 (r.drop 2) := by
  have h2 := prefix_two hp
  refine ⟨h2, ?_⟩
  rcases r with _ | ⟨c, _ | ⟨d, t⟩⟩
  · simp at h2
  · simp at h2
  · obtain rfl : b = d := by
      simp only [Lib.hasPrefix, List.isPrefixOf, Bool.and_eq_true, beq_iff_eq] at hp
      exact hp.2.1
    exact h.tail.tail' (h.tail.one hb)
theorem number_app {r : List UInt8} (h : E10 r) (B : List UInt8) : numberT (r ++ B) = numberT r := by
  unfold numberT
  rw [pre_app2 h B (by decide), pre_app2 h B (by decide), pre_app2 h B (by decide), pre_app2 h B (by decide)]
  split
  · rename_i hp
    obtain ⟨h1, h2⟩ := pre_drop h (by decide) hp
    exact digits_app B 2 16 (by decide) h1 h2
  · split
    · rename_i hp
      obtain ⟨h1, h2⟩ := pre_drop h (by decide) hp
      exact digits_app B 2 8 (by decide) h1 h2
    · split
      · rename_i hp
        obtain ⟨h1, h2⟩ := pre_drop h (by decide) hp
        exact digits_app B 2 2 (by decide) h1 h2
      · split
        · rename_i hp
          obtain ⟨h1, h2⟩ := pre_drop h (by decide) hp
          exact char_app B h1 h2
        · exact digits_app B 0 10 (by decide) (Nat.zero_le _) h
theorem byteAt_app (c : UInt8) (B : List UInt8) : ∀ t : List UInt8, 0 ≤ Lib.indexByte t c → Lib.indexByte (t ++ B) c = Lib.indexByte t c
  | [], h => by simp [Lib.indexByte] at h
  | b :: t, h => by
    rw [List.cons_append]
    unfold Lib.indexByte at h ⊢
    split
    · rfl
    · rename_i hb
      rw [if_neg hb] at h
      have hg := Lib.indexByte_ge t c
      by_cases h1 : Lib.indexByte t c == -1
      · rw [if_pos h1] at h; omega
      · have h0 : 0 ≤ Lib.indexByte t c := by
          have : Lib.indexByte t c ≠ -1 := fun e => h1 (by rw [e]; rfl)
          omega
        rw [byteAt_app c B t h0]
theorem numAt_app {base : Int} {t : List UInt8} (B : List UInt8) {x : UInt8 × Nat} (h : numAt base t = some x) : numAt base (t ++ B) = some x := by
  unfold numAt at h ⊢
  split at h
  · cases h
  · rename_i h0
    have h0' : 0 ≤ Lib.indexByte t 92 := by omega
    have hl : (Lib.indexByte t 92).toNat ≤ t.length := Nat.le_of_lt (index_lt (i := (Lib.indexByte t 92).toNat) (by omega))
    rw [byteAt_app 92 B t h0', if_neg h0, take_app hl]
    exact h
theorem zero_app {e : UInt8} {t : List UInt8} (B : List UInt8) (h : t ≠ []) : zeroB e (t ++ B) = zeroB e t := by
  rcases t with _ | ⟨c, t⟩
  · exact absurd rfl h
  · rfl
theorem esc_app {l : List UInt8} (B : List UInt8) {x : List UInt8 × Nat} (hl : E10 l) (h : escF l = some x) : escF (l ++ B) = some x := by
  rcases l with _ | ⟨a, _ | ⟨e, t⟩⟩
  · cases h
  · cases h
  · show escT e (t ++ B) = some x
    have h' : escT e t = some x := h
    by_cases h10 : e = 10
    · subst h10
      unfold escT at h' ⊢
      exact h'
    · have ht := hl.tail.one h10
      unfold escT at h' ⊢
      rw [zero_app B ht]
      split
      · rename_i hc; rw [if_pos hc] at h'; exact h'
      · rename_i hc
        rw [if_neg hc] at h'
        split
        · rename_i hx
          rw [if_pos hx] at h'
          rcases hn : numAt 16 t with _ | ⟨b, k⟩
          · rw [hn] at h'; cases h'
          · rw [hn] at h'; rw [numAt_app B hn]; exact h'
        · rename_i hx
          rw [if_neg hx] at h'
          split
          · rename_i ho
            rw [if_pos ho] at h'
            rcases hn : numAt 8 (e :: t) with _ | ⟨b, k⟩
            · rw [hn] at h'; cases h'
            · rw [hn] at h'
              have := numAt_app B hn
              rw [List.cons_append] at this
              rw [this]; exact h'
          · rename_i ho
            rw [if_neg ho] at h'
            exact h'
theorem dbl_app {l : List UInt8} (B : List UInt8) (h : 2 ≤ l.length) : dblB (l ++ B) = dblB l := by
  rcases l with _ | ⟨a, _ | ⟨b, t⟩⟩
  · simp at h
  · simp at h
  · rfl
theorem step_app {q : Int} (hq : q ≠ 10) {l : List UInt8} (B : List UInt8) (hl : E10 l) (h : stepF q l ≠ .bad) : stepF q (l ++ B) = stepF q l := by
  rcases l with _ | ⟨c, t⟩
  · exact absurd rfl hl.ne
  · rw [List.cons_append]
    rw [show stepF q (c :: t) = stepC q c t from rfl] at h ⊢
    rw [show stepF q (c :: (t ++ B)) = stepC q c (t ++ B) from rfl]
    unfold stepC at h ⊢
    split
    · rename_i hc
      have h10 : c ≠ 10 := fun e => by
        rw [e] at hc
        simp only [beq_iff_eq] at hc
        exact hq (by rw [← hc]; rfl)
      have ht := hl.one h10
      have hd := dbl_app (l := c :: t) B (by rcases t with _ | ⟨d, t⟩; exact absurd rfl ht; simp)
      rw [List.cons_append] at hd
      rw [hd]
    · rename_i hc
      rw [if_neg hc] at h
      split
      · rename_i h92
        rw [if_pos h92] at h
        rcases he : escF (c :: t) with _ | ⟨b, n⟩
        · rw [he] at h; exact absurd rfl h
        · have := esc_app B hl he
          rw [List.cons_append] at this
          rw [this]
      · rfl
theorem getF_app {q : Int} (hq : q ≠ 10) (B : List UInt8) : ∀ (f : Nat) (l acc : List UInt8) (m : Nat) (x : List UInt8 × Nat), E10 l → getF q f l acc m = some x → getF q (f + B.length) (l ++ B) acc m = some x
  | 0, _, _, _, _, _, h => by cases h
  | f + 1, l, acc, m, x, hl, h => by
    rw [show f + 1 + B.length = f + B.length + 1 by omega]
    unfold getF at h ⊢
    rcases hs : stepF q l with _ | _ | ⟨b, n⟩
    · rw [step_app hq B hl (by rw [hs]; simp), hs]
      rw [hs] at h
      exact h
    · rw [hs] at h; cases h
    · rw [step_app hq B hl (by rw [hs]; simp), hs]
      rw [hs] at h
      have hn := stepF_len hs
      simp only at h ⊢
      rw [List.drop_append_of_le_length hn.2.1]
      by_cases h0 : l.drop n = []
      · rw [h0] at h
        rcases f with _ | f
        · cases h
        · rw [getF, show stepF q [] = .bad from rfl] at h; cases h
      · exact getF_app hq B f _ _ _ x (hl.drop n h0) h
theorem getL_app {q : Int} (hq : q ≠ 10) {l : List UInt8} (B : List UInt8) {x : List UInt8 × Nat} (hl : E10 l) (h : getL q l = some x) : getL q (l ++ B) = some x := by
  have := getF_app hq B _ _ _ _ _ hl h
  unfold getL
  rw [List.length_append, show l.length + B.length + 1 = l.length + 1 + B.length by omega]
  exact this
theorem within_app {q : Int} (hq : q ≠ 10) (k : Int) {r : List UInt8} (B : List UInt8) {x : Tk × Nat} (h : E10 r) (hx : withinT q k r = some x) : withinT q k (r ++ B) = some x := by
  rcases r with _ | ⟨c, t⟩
  · exact absurd rfl h.ne
  · cases hc : ((c.toNat : Int) == q) with
    | false => rw [within_no hc] at hx; cases hx
    | true =>
      rcases hg : getL q t with _ | ⟨b, m⟩
      · rw [within_bad hc hg] at hx; cases hx
      · rw [within_ok hc hg] at hx
        by_cases ht : t = []
        · subst ht; cases hg
        · rw [List.cons_append, within_ok hc (getL_app hq B (h.tail' ht) hg)]
          exact hx
theorem tok_app {r : List UInt8} (B : List UInt8) {x : Tk × Nat} (h : E10 r) (hx : tokT r = some x) : tokT (r ++ B) = some x := by
  unfold tokT at hx ⊢
  rw [stop_app h, letters_app h, signs_app h, alone_app h.ne, letters_app h, number_app h, alone_app h.ne]
  rcases h1 : stopT r with _ | a1
  · rcases h2 : lettersT 2 1 r with _ | a2
    · rcases h3 : signsT r with _ | a3
      · rcases h4 : aloneT 6 1 r with _ | a4
        · rcases h5 : lettersT 3 4 r with _ | a5
          · rcases h6 : numberT r with _ | a6
            · simp only [h1, h2, h3, h4, h5, h6, Option.none_or] at hx ⊢
              rcases h7 : withinT 39 2 r with _ | a7
              · rw [h7, Option.none_or] at hx
                rcases r with _ | ⟨c, t⟩
                · exact absurd rfl h.ne
                · have hno : ((c.toNat : Int) == 39) = false := by
                    cases hc : ((c.toNat : Int) == 39) with
                    | false => rfl
                    | true =>
                      have hc' : (c.toNat : Int) = 39 := by simpa using hc
                      rw [within_no (by rw [hc']; rfl), Option.none_or] at hx
                      simp only [aloneT] at hx
                      rw [hc', if_neg (by decide)] at hx
                      cases hx
                  rw [List.cons_append, within_no hno, Option.none_or]
                  rw [← List.cons_append]
                  rcases h8 : withinT 34 5 (c :: t) with _ | a8
                  · rw [h8, Option.none_or] at hx
                    have hno2 : ((c.toNat : Int) == 34) = false := by
                      cases hc : ((c.toNat : Int) == 34) with
                      | false => rfl
                      | true =>
                        have hc' : (c.toNat : Int) = 34 := by simpa using hc
                        simp only [aloneT] at hx
                        rw [hc', if_neg (by decide)] at hx
                        cases hx
                    rw [List.cons_append, within_no hno2, Option.none_or]
                    exact hx
                  · rw [h8] at hx
                    rw [within_app (by decide) 5 B h h8]
                    exact hx
              · rw [h7] at hx
                rw [within_app (by decide) 2 B h h7]
                exact hx
            · simp only [h1, h2, h3, h4, h5, h6, Option.none_or, Option.some_or] at hx ⊢; exact hx
          · simp only [h1, h2, h3, h4, h5, Option.none_or, Option.some_or] at hx ⊢; exact hx
        · simp only [h1, h2, h3, h4, Option.none_or, Option.some_or] at hx ⊢; exact hx
      · simp only [h1, h2, h3, Option.none_or, Option.some_or] at hx ⊢; exact hx
    · simp only [h1, h2, Option.none_or, Option.some_or] at hx ⊢; exact hx
  · simp only [h1, Option.some_or] at hx ⊢; exact hx
end Go.Proofs.YtkplokfcjjcpcaaGreatDoor
end
section
namespace Go.Proofs.YtkplokfcjjcpcaaGreatDoor
open Go Go.RowKit Go.Maps
theorem pfx_app (sub : List UInt8) (B : List UInt8) : ∀ s : List UInt8, sub.length ≤ s.length → sub.isPrefixOf (s ++ B) = sub.isPrefixOf s := by
  induction sub with
  | nil => intro s _; simp
  | cons a sub ih =>
    intro s h
    rcases s with _ | ⟨b, s⟩
    · simp at h
    · rw [List.cons_append]
      simp only [List.isPrefixOf]
      rw [ih s (by simpa using h)]
theorem idx_len (sub : List UInt8) : ∀ s : List UInt8, 0 ≤ Lib.index s sub → sub.length ≤ s.length
  | [], h => by
    unfold Lib.index at h
    split at h
    · rename_i h0; rw [List.isEmpty_iff.1 h0]; simp
    · omega
  | b :: l, h => by
    unfold Lib.index at h
    split at h
    · rename_i hp
      exact (List.isPrefixOf_iff_prefix.1 hp).length_le
    · split at h
      · omega
      · have := Lib.index_ge l sub
        have := idx_len sub l (by
          rename_i h1
          have : Lib.index l sub ≠ -1 := fun e => h1 (by rw [e]; rfl)
          omega)
        simp; omega
theorem idx_app (sub B : List UInt8) (hs : sub ≠ []) : ∀ s : List UInt8, 0 ≤ Lib.index s sub → Lib.index (s ++ B) sub = Lib.index s sub
  | [], h => by
    unfold Lib.index at h
    rw [if_neg (by simpa using hs)] at h
    omega
  | b :: l, h => by
    have hl := idx_len sub (b :: l) h
    have hp := pfx_app sub B (b :: l) hl
    rw [List.cons_append] at hp ⊢
    unfold Lib.index at h ⊢
    rw [hp]
    split
    · rfl
    · rename_i h0
      rw [if_neg h0] at h
      have hg := Lib.index_ge l sub
      have h1 : ¬ (Lib.index l sub == -1) = true := fun e => by rw [if_pos e] at h; omega
      have h2 : Lib.index l sub ≠ -1 := fun e => h1 (by rw [e]; rfl)
      rw [idx_app sub B hs l (by omega)]
theorem cut_app {s sub : List UInt8} (B : List UInt8) (hs : sub ≠ []) (h : (Lib.cut s sub).2.2 = true) : (Lib.cut (s ++ B) sub).1 = (Lib.cut s sub).1 ∧ (Lib.cut (s ++ B) sub).2.2 = true := by
  have h0 : 0 ≤ Lib.index s sub := by
    unfold Lib.cut at h
    split at h
    · assumption
    · cases h
  have hl : (Lib.index s sub).toNat ≤ s.length := by
    have := cut_len s sub
    unfold Lib.cut at this
    rw [if_pos h0] at this
    have h2 := cut_room h
    unfold Lib.cut at h2
    rw [if_pos h0] at h2
    have hc := Lib.indexB_cases ⟨s.toArray⟩ ⟨sub.toArray⟩
    rw [show Lib.indexB ⟨s.toArray⟩ ⟨sub.toArray⟩ = Lib.index s sub from rfl] at hc
    rcases hc with hc | ⟨i, hi, hl⟩
    · omega
    · rw [Lib.size_eq, Lib.size_eq] at hl
      simp at hl
      omega
  unfold Lib.cut
  rw [idx_app sub B hs s h0, if_pos h0, if_pos h0]
  exact ⟨take_app hl, rfl⟩
theorem idx_10 : ∀ s : List UInt8, E10 s → 0 ≤ Lib.index s [10]
  | [], h => absurd rfl h.ne
  | b :: l, h => by
    unfold Lib.index
    by_cases hb : b = 10
    · subst hb
      rw [if_pos (by rfl)]
      omega
    · have hl := idx_10 l (h.tail' (h.one hb))
      split
      · omega
      · rw [if_neg (by intro e; simp only [beq_iff_eq] at e; omega)]
        omega
theorem cut_10 {s : List UInt8} (h : E10 s) : (Lib.cut s [10]).2.2 = true := by
  unfold Lib.cut
  rw [if_pos (idx_10 s h)]
theorem tok_slash {t : List UInt8} (h : Lib.hasPrefix (47 :: t) [47, 42] = true) : tokT (47 :: t) = none := by
  have h5 : sortZ (((47 : UInt8).toNat : Nat) : Int) = 5 := by decide
  unfold tokT
  rw [stop_no (by decide), letters_sort h5 (by decide), alone_sort h5 (by decide), letters_sort h5 (by decide), numT_bad (by decide) (by decide), within_no (by decide), within_no (by decide), alone_sort h5 (by decide)]
  unfold signsT
  rw [if_pos h]
  rfl
theorem gap_app {l : List UInt8} (B : List UInt8) (hl : E10 l) (h : gapN l ≠ 0 ∨ tokT l ≠ none) : gapN (l ++ B) = gapN l := by
  rcases l with _ | ⟨c, t⟩
  · exact absurd rfl hl.ne
  · have hp := pre_app2 hl B (a := 47) (by decide) 42
    have hcut := fun h37 : ((c.toNat : Int) == 37) = true => cut_app B (by simp) (cut_10 hl)
    rw [List.cons_append] at hp hcut ⊢
    cases h1 : (sortZ (c.toNat : Int) == 1) with
    | true => rw [gap_blank h1, gap_blank h1]
    | false =>
      cases h2 : ((c.toNat : Int) == 37) with
      | true => rw [gap_37 h1 h2, gap_37 h1 h2, (hcut h2).1]
      | false =>
        cases h3 : Lib.hasPrefix (c :: t) [47, 42] with
        | false => rw [gap_no h1 h2 (by rw [hp]; exact h3), gap_no h1 h2 h3]
        | true =>
          have hc : c = 47 := by
            simp only [Lib.hasPrefix, List.isPrefixOf, Bool.and_eq_true, beq_iff_eq] at h3
            exact h3.1.symm
          subst hc
          have ht : t ≠ [] := hl.one (by decide)
          rw [gap_yes h1 h2 (by rw [hp]; exact h3), gap_yes h1 h2 h3]
          rw [gap_yes h1 h2 h3] at h
          have hd : List.drop 1 (t ++ B) = t.drop 1 ++ B := List.drop_append_of_le_length (by rcases t with _ | ⟨d, t⟩; exact absurd rfl ht; simp)
          rw [hd]
          split at h
          · rename_i hc
            obtain ⟨a, b⟩ := cut_app B (by simp) hc
            rw [a, b, if_pos hc]
            rfl
          · rcases h with h | h
            · exact absurd rfl h
            · exact absurd (tok_slash h3) h
theorem skip_app (B : List UInt8) : ∀ (N : Nat) (l : List UInt8), l.length ≤ N → E10 l → (l.drop (skipN l) = [] ∨ tokT (l.drop (skipN l)) ≠ none) →
    (l.drop (skipN l) ≠ [] → skipN (l ++ B) = skipN l) ∧ (l.drop (skipN l) = [] → skipN (l ++ B) = l.length + skipN B)
  | 0, l, h, hl, _ => absurd (List.eq_nil_of_length_eq_zero (by omega)) hl.ne
  | N + 1, l, h, hl, ho => by
    by_cases hg : gapN l = 0
    · have hs := skipN_0 hg
      rw [hs, List.drop_zero] at ho ⊢
      have hn := hl.ne
      refine ⟨fun _ => ?_, fun e => absurd e hn⟩
      refine skipN_0 ?_
      rw [gap_app B hl (.inr (ho.resolve_left hn)), hg]
    · have hle := gapN_le l
      have ha := gap_app B hl (.inl hg)
      have hs := skipN_on hg
      have hsa : skipN (l ++ B) = gapN l + skipN (l.drop (gapN l) ++ B) := by
        rw [skipN_on (by rw [ha]; exact hg), ha, List.drop_append_of_le_length hle]
      by_cases hd : l.drop (gapN l) = []
      · have hlen : gapN l = l.length := by
          have := congrArg List.length hd
          rw [List.length_drop, List.length_nil] at this
          omega
        have h0 : skipN l = l.length := by
          rw [hs, hd, show skipN [] = 0 from rfl]; omega
        rw [h0, List.drop_length]
        refine ⟨fun e => absurd rfl e, fun _ => ?_⟩
        rw [hsa, hd, List.nil_append, hlen]
      · have e1 : l.drop (skipN l) = (l.drop (gapN l)).drop (skipN (l.drop (gapN l))) := by rw [hs, List.drop_drop]
        rw [e1] at ho ⊢
        obtain ⟨a, b⟩ := skip_app B N (l.drop (gapN l)) (by rw [List.length_drop]; omega) (hl.drop _ hd) ho
        refine ⟨fun e => ?_, fun e => ?_⟩
        · rw [hsa, hs, a e]
        · rw [hsa, b e, List.length_drop]; omega
theorem getF_lt {q : Int} (hq : q ≠ 10) : ∀ (f : Nat) (l acc : List UInt8) (m : Nat) (b : List UInt8) (n : Nat), E10 l → getF q f l acc m = some (b, n) → n < m + l.length
  | 0, _, _, _, _, _, _, h => by cases h
  | f + 1, l, acc, m, b, n, hl, h => by
    unfold getF at h
    rcases hs : stepF q l with _ | _ | ⟨b', n'⟩
    · rw [hs] at h
      simp only [Option.some.injEq, Prod.mk.injEq] at h
      obtain ⟨_, rfl⟩ := h
      rcases l with _ | ⟨c, t⟩
      · exact absurd rfl hl.ne
      · by_cases h10 : c = 10
        · subst h10
          rw [show stepF q (10 :: t) = stepC q 10 t from rfl] at hs
          unfold stepC at hs
          rw [if_neg (by simp only [beq_iff_eq]; intro e; exact hq (by rw [← e]; rfl)), if_neg (by decide), if_pos (by decide)] at hs
          cases hs
        · have := hl.one h10
          rcases t with _ | ⟨d, t⟩
          · exact absurd rfl this
          · simp
    · rw [hs] at h; cases h
    · rw [hs] at h
      have hn := stepF_len hs
      simp only at h
      by_cases h0 : l.drop n' = []
      · rw [h0] at h
        rcases f with _ | f
        · cases h
        · rw [getF, show stepF q [] = .bad from rfl] at h; cases h
      · have := getF_lt hq f _ _ _ b n (hl.drop n' h0) h
        rw [List.length_drop] at this
        omega
theorem within_lt {q : Int} (hq : q ≠ 10) {k : Int} {r : List UInt8} {t : Tk} {z : Nat} (h : E10 r) (hx : withinT q k r = some (t, z)) : z < r.length := by
  rcases r with _ | ⟨c, u⟩
  · exact absurd rfl h.ne
  · cases hc : ((c.toNat : Int) == q) with
    | false => rw [within_no hc] at hx; cases hx
    | true =>
      rcases hg : getL q u with _ | ⟨b, m⟩
      · rw [within_bad hc hg] at hx; cases hx
      · rw [within_ok hc hg] at hx
        simp only [Option.some.injEq, Prod.mk.injEq] at hx
        obtain ⟨_, rfl⟩ := hx
        by_cases ht : u = []
        · subst ht; cases hg
        · have := getF_lt hq _ _ _ _ _ _ (h.tail' ht) hg
          simp
          omega
theorem alone_lt {a k : Int} (ha : a ≠ 1) {r : List UInt8} {t : Tk} {z : Nat} (h : E10 r) (hx : aloneT a k r = some (t, z)) : z < r.length := by
  rcases r with _ | ⟨c, u⟩
  · exact absurd rfl h.ne
  · simp only [aloneT] at hx
    split at hx
    · rename_i hc
      simp only [Option.some.injEq, Prod.mk.injEq] at hx
      obtain ⟨_, rfl⟩ := hx
      have h10 : c ≠ 10 := fun e => by
        rw [e] at hc
        simp only [beq_iff_eq] at hc
        exact ha (by rw [← hc]; decide)
      have := h.one h10
      rcases u with _ | ⟨d, u⟩
      · exact absurd rfl this
      · simp
    · cases hx
theorem letters_lt {a k : Int} {r : List UInt8} {t : Tk} {z : Nat} (h : E10 r) (hx : lettersT a k r = some (t, z)) : z < r.length := by
  have h2 := (run_app (p := letterZ) (by decide) [] r h).2
  rcases r with _ | ⟨c, u⟩
  · exact absurd rfl h.ne
  · simp only [lettersT] at hx
    split at hx
    · split at hx
      · cases hx
      · simp only [Option.some.injEq, Prod.mk.injEq] at hx
        obtain ⟨_, rfl⟩ := hx
        exact h2
    · cases hx
theorem signs_lt {r : List UInt8} {t : Tk} {z : Nat} (h : E10 r) (hx : signsT r = some (t, z)) : z < r.length := by
  have h2 := (run_app (p := signZ) (by decide) [] r h).2
  unfold signsT at hx
  split at hx
  · cases hx
  · split at hx
    · cases hx
    · simp only [Option.some.injEq, Prod.mk.injEq] at hx
      obtain ⟨_, rfl⟩ := hx
      exact h2
theorem stop_lt {r : List UInt8} {t : Tk} {z : Nat} (h : E10 r) (hx : stopT r = some (t, z)) : z < r.length := by
  rcases r with _ | ⟨c, _ | ⟨d, u⟩⟩
  · exact absurd rfl h.ne
  · have hc : c = 10 := Classical.byContradiction fun h10 => h.one h10 rfl
    subst hc
    rw [stop_no (by decide)] at hx
    cases hx
  · simp only [stopT] at hx
    repeat' split at hx
    all_goals first
      | cases hx; done
      | (simp only [Option.some.injEq, Prod.mk.injEq] at hx
         obtain ⟨_, rfl⟩ := hx
         simp)
theorem digits_lt {f : Nat} {b : Int} {r : List UInt8} {t : Tk} {z : Nat} (hb : digZ b 10 = false) (hf : f ≤ r.length) (h : E10 (r.drop f)) (hx : digitsT f b r = some (t, z)) : z < r.length := by
  have h2 := (run_app (p := digZ b) hb [] (r.drop f) h).2
  rw [List.length_drop] at h2
  unfold digitsT at hx
  split at hx
  · split at hx
    · cases hx
    · simp only [Option.some.injEq, Prod.mk.injEq] at hx
      obtain ⟨_, rfl⟩ := hx
      omega
  · cases hx
theorem char_lt {r : List UInt8} {t : Tk} {z : Nat} (hf : 2 ≤ r.length) (h : E10 (r.drop 2)) (hx : charT r = some (t, z)) : z < r.length := by
  have hlen : (r.drop 2).length = r.length - 2 := List.length_drop
  rw [charT_o] at hx
  generalize r.drop 2 = u at h hx hlen
  split at hx
  · cases hx
  · rename_i hlt
    have hz : ∃ c b n, charZ u + 2 = z ∧ getL 39 (u.take (charZ u) ++ [39]) = some ([c], n) ∧ b = c := by
      unfold charO at hx
      split at hx
      · rename_i c n hg
        simp only [Option.some.injEq, Prod.mk.injEq] at hx
        exact ⟨c, c, n, by omega, hg, rfl⟩
      · cases hx
    obtain ⟨c, _, n, hz, hg, _⟩ := hz
    by_cases he : charZ u < u.length
    · omega
    · exfalso
      have hl : u.length = charZ u := by omega
      rw [← hl, List.take_length] at hg
      rcases u with _ | ⟨a, _ | ⟨b, _ | ⟨d, u⟩⟩⟩
      · exact absurd rfl h.ne
      · have hc : a = 10 := Classical.byContradiction fun h10 => h.one h10 rfl
        subst hc
        rw [show getL 39 ([10] ++ [39]) = none by kernel_rfl] at hg
        cases hg
      · have hb : b = 10 := Classical.byContradiction fun h10 => h.tail.one h10 rfl
        subst hb
        have h2 : a = 39 ∨ a = 92 := by
          unfold charZ at hl
          split at hl
          · rename_i hp
            simp only [Lib.hasPrefix, List.isPrefixOf, Bool.and_eq_true, beq_iff_eq] at hp
            exact .inl hp.1.symm
          · split at hl
            · rename_i hp
              simp only [Lib.hasPrefix, List.isPrefixOf, Bool.and_eq_true, beq_iff_eq] at hp
              exact .inr hp.1.symm
            · simp at hl
        rcases h2 with rfl | rfl
        · rw [show getL 39 ([39, 10] ++ [39]) = some ([], 1) by kernel_rfl] at hg
          cases hg
        · rw [show getL 39 ([92, 10] ++ [39]) = some ([], 3) by kernel_rfl] at hg
          cases hg
      · have : charZ (a :: b :: d :: u) ≤ 2 := by
          unfold charZ
          split
          · omega
          · split <;> omega
        simp at hl
        omega
theorem number_lt {r : List UInt8} {t : Tk} {z : Nat} (h : E10 r) (hx : numberT r = some (t, z)) : z < r.length := by
  unfold numberT at hx
  split at hx
  · rename_i hp
    obtain ⟨h1, h2⟩ := pre_drop h (by decide) hp
    exact digits_lt (by decide) h1 h2 hx
  · split at hx
    · rename_i hp
      obtain ⟨h1, h2⟩ := pre_drop h (by decide) hp
      exact digits_lt (by decide) h1 h2 hx
    · split at hx
      · rename_i hp
        obtain ⟨h1, h2⟩ := pre_drop h (by decide) hp
        exact digits_lt (by decide) h1 h2 hx
      · split at hx
        · rename_i hp
          obtain ⟨h1, h2⟩ := pre_drop h (by decide) hp
          exact char_lt h1 h2 hx
        · exact digits_lt (f := 0) (by decide) (Nat.zero_le _) h hx
theorem or_lt {a b : Option (Tk × Nat)} {l : List UInt8} (ha : ∀ t z, a = some (t, z) → z < l.length) (hb : ∀ t z, b = some (t, z) → z < l.length) : ∀ t z, a.or b = some (t, z) → z < l.length := by
  intro t z h
  rcases a with _ | x
  · exact hb t z h
  · exact ha t z h
theorem tok_lt {l : List UInt8} (h : E10 l) : ∀ t z, tokT l = some (t, z) → z < l.length :=
  or_lt (fun _ _ => stop_lt h) <| or_lt (fun _ _ => letters_lt h) <| or_lt (fun _ _ => signs_lt h) <| or_lt (fun _ _ => alone_lt (by decide) h) <| or_lt (fun _ _ => letters_lt h) <| or_lt (fun _ _ => number_lt h) <| or_lt (fun _ _ => within_lt (by decide) h) <| or_lt (fun _ _ => within_lt (by decide) h) fun _ _ => alone_lt (by decide) h
def Tok.sh (d : Int) (t : Tok) : Tok := ⟨t.k, t.line + d, t.n, t.s, t.open', t.tight⟩
theorem lex_err {l : List UInt8} {n : Int} {k : Nat} (h : (lexN l n k).e = 0) (hd : l.drop (skipN l) ≠ []) : ∃ t z, tokT (l.drop (skipN l)) = some (t, z) := by
  rcases ht : tokT (l.drop (skipN l)) with _ | ⟨t, z⟩
  · rw [lexN_bad hd ht] at h
    cases h
  · exact ⟨t, z, rfl⟩
end Go.Proofs.YtkplokfcjjcpcaaGreatDoor
end
