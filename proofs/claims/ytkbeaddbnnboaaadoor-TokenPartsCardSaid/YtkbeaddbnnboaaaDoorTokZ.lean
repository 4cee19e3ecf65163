/- Texts one behind the other: gaps, lines, and the tokens of both. Conditions: none. -/
import Derived.Test.YtkbeaddbnnboaaaDoorTokY
namespace Go.Proofs.YtkbeaddbnnboaaaDoor
open Go Go.RowKit Go.Maps

theorem pfx_app (sub : List UInt8) (B : List UInt8) : ∀ s : List UInt8, sub.length ≤ s.length → sub.isPrefixOf (s ++ B) = sub.isPrefixOf s := by
  induction sub with
  | nil => intro s _; simp
  | cons a sub ih =>
    intro s h
    rcases s with _ | ⟨b, s⟩
    · simp at h
    · rw [List.cons_append]
      simp only [List.isPrefixOf]
      rw [ih s (by simpa using h)]
theorem idx_len (sub : List UInt8) : ∀ s : List UInt8, 0 ≤ Lib.index s sub → sub.length ≤ s.length
  | [], h => by
    unfold Lib.index at h
    split at h
    · rename_i h0; rw [List.isEmpty_iff.1 h0]; simp
    · omega
  | b :: l, h => by
    unfold Lib.index at h
    split at h
    · rename_i hp
      exact (List.isPrefixOf_iff_prefix.1 hp).length_le
    · split at h
      · omega
      · have := Lib.index_ge l sub
        have := idx_len sub l (by
          rename_i h1
          have : Lib.index l sub ≠ -1 := fun e => h1 (by rw [e]; rfl)
          omega)
        simp; omega
theorem idx_app (sub B : List UInt8) (hs : sub ≠ []) : ∀ s : List UInt8, 0 ≤ Lib.index s sub → Lib.index (s ++ B) sub = Lib.index s sub
  | [], h => by
    unfold Lib.index at h
    rw [if_neg (by simpa using hs)] at h
    omega
  | b :: l, h => by
    have hl := idx_len sub (b :: l) h
    have hp := pfx_app sub B (b :: l) hl
    rw [List.cons_append] at hp ⊢
    unfold Lib.index at h ⊢
    rw [hp]
    split
    · rfl
    · rename_i h0
      rw [if_neg h0] at h
      have hg := Lib.index_ge l sub
      have h1 : ¬ (Lib.index l sub == -1) = true := fun e => by rw [if_pos e] at h; omega
      have h2 : Lib.index l sub ≠ -1 := fun e => h1 (by rw [e]; rfl)
      rw [idx_app sub B hs l (by omega)]
theorem cut_app {s sub : List UInt8} (B : List UInt8) (hs : sub ≠ []) (h : (Lib.cut s sub).2.2 = true) : (Lib.cut (s ++ B) sub).1 = (Lib.cut s sub).1 ∧ (Lib.cut (s ++ B) sub).2.2 = true := by
  have h0 : 0 ≤ Lib.index s sub := by
    unfold Lib.cut at h
    split at h
    · assumption
    · cases h
  have hl : (Lib.index s sub).toNat ≤ s.length := by
    have := cut_len s sub
    unfold Lib.cut at this
    rw [if_pos h0] at this
    have h2 := cut_room h
    unfold Lib.cut at h2
    rw [if_pos h0] at h2
    have hc := Lib.indexB_cases ⟨s.toArray⟩ ⟨sub.toArray⟩
    rw [show Lib.indexB ⟨s.toArray⟩ ⟨sub.toArray⟩ = Lib.index s sub from rfl] at hc
    rcases hc with hc | ⟨i, hi, hl⟩
    · omega
    · rw [Lib.size_eq, Lib.size_eq] at hl
      simp at hl
      omega
  unfold Lib.cut
  rw [idx_app sub B hs s h0, if_pos h0, if_pos h0]
  exact ⟨take_app hl, rfl⟩
theorem idx_10 : ∀ s : List UInt8, E10 s → 0 ≤ Lib.index s [10]
  | [], h => absurd rfl h.ne
  | b :: l, h => by
    unfold Lib.index
    by_cases hb : b = 10
    · subst hb
      rw [if_pos (by rfl)]
      omega
    · have hl := idx_10 l (h.tail' (h.one hb))
      split
      · omega
      · rw [if_neg (by intro e; simp only [beq_iff_eq] at e; omega)]
        omega
theorem cut_10 {s : List UInt8} (h : E10 s) : (Lib.cut s [10]).2.2 = true := by
  unfold Lib.cut
  rw [if_pos (idx_10 s h)]

theorem tok_slash {t : List UInt8} (h : Lib.hasPrefix (47 :: t) [47, 42] = true) : tokT (47 :: t) = none := by
  have h5 : sortZ (((47 : UInt8).toNat : Nat) : Int) = 5 := by decide
  unfold tokT
  rw [stop_no (by decide), letters_sort h5 (by decide), alone_sort h5 (by decide), letters_sort h5 (by decide), numT_bad (by decide) (by decide), within_no (by decide), within_no (by decide), alone_sort h5 (by decide)]
  unfold signsT
  rw [if_pos h]
  rfl
theorem gap_app {l : List UInt8} (B : List UInt8) (hl : E10 l) (h : gapN l ≠ 0 ∨ tokT l ≠ none) : gapN (l ++ B) = gapN l := by
  rcases l with _ | ⟨c, t⟩
  · exact absurd rfl hl.ne
  · have hp := pre_app2 hl B (a := 47) (by decide) 42
    have hcut := fun h37 : ((c.toNat : Int) == 37) = true => cut_app B (by simp) (cut_10 hl)
    rw [List.cons_append] at hp hcut ⊢
    cases h1 : (sortZ (c.toNat : Int) == 1) with
    | true => rw [gap_blank h1, gap_blank h1]
    | false =>
      cases h2 : ((c.toNat : Int) == 37) with
      | true => rw [gap_37 h1 h2, gap_37 h1 h2, (hcut h2).1]
      | false =>
        cases h3 : Lib.hasPrefix (c :: t) [47, 42] with
        | false => rw [gap_no h1 h2 (by rw [hp]; exact h3), gap_no h1 h2 h3]
        | true =>
          have hc : c = 47 := by
            simp only [Lib.hasPrefix, List.isPrefixOf, Bool.and_eq_true, beq_iff_eq] at h3
            exact h3.1.symm
          subst hc
          have ht : t ≠ [] := hl.one (by decide)
          rw [gap_yes h1 h2 (by rw [hp]; exact h3), gap_yes h1 h2 h3]
          rw [gap_yes h1 h2 h3] at h
          have hd : List.drop 1 (t ++ B) = t.drop 1 ++ B := List.drop_append_of_le_length (by rcases t with _ | ⟨d, t⟩; exact absurd rfl ht; simp)
          rw [hd]
          split at h
          · rename_i hc
            obtain ⟨a, b⟩ := cut_app B (by simp) hc
            rw [a, b, if_pos hc]
            rfl
          · rcases h with h | h
            · exact absurd rfl h
            · exact absurd (tok_slash h3) h
theorem skip_app (B : List UInt8) : ∀ (N : Nat) (l : List UInt8), l.length ≤ N → E10 l → (l.drop (skipN l) = [] ∨ tokT (l.drop (skipN l)) ≠ none) →
    (l.drop (skipN l) ≠ [] → skipN (l ++ B) = skipN l) ∧ (l.drop (skipN l) = [] → skipN (l ++ B) = l.length + skipN B)
  | 0, l, h, hl, _ => absurd (List.eq_nil_of_length_eq_zero (by omega)) hl.ne
  | N + 1, l, h, hl, ho => by
    by_cases hg : gapN l = 0
    · have hs := skipN_0 hg
      rw [hs, List.drop_zero] at ho ⊢
      have hn := hl.ne
      refine ⟨fun _ => ?_, fun e => absurd e hn⟩
      refine skipN_0 ?_
      rw [gap_app B hl (.inr (ho.resolve_left hn)), hg]
    · have hle := gapN_le l
      have ha := gap_app B hl (.inl hg)
      have hs := skipN_on hg
      have hsa : skipN (l ++ B) = gapN l + skipN (l.drop (gapN l) ++ B) := by
        rw [skipN_on (by rw [ha]; exact hg), ha, List.drop_append_of_le_length hle]
      by_cases hd : l.drop (gapN l) = []
      · have hlen : gapN l = l.length := by
          have := congrArg List.length hd
          rw [List.length_drop, List.length_nil] at this
          omega
        have h0 : skipN l = l.length := by
          rw [hs, hd, show skipN [] = 0 from rfl]; omega
        rw [h0, List.drop_length]
        refine ⟨fun e => absurd rfl e, fun _ => ?_⟩
        rw [hsa, hd, List.nil_append, hlen]
      · have e1 : l.drop (skipN l) = (l.drop (gapN l)).drop (skipN (l.drop (gapN l))) := by rw [hs, List.drop_drop]
        rw [e1] at ho ⊢
        obtain ⟨a, b⟩ := skip_app B N (l.drop (gapN l)) (by rw [List.length_drop]; omega) (hl.drop _ hd) ho
        refine ⟨fun e => ?_, fun e => ?_⟩
        · rw [hsa, hs, a e]
        · rw [hsa, b e, List.length_drop]; omega

theorem getF_lt {q : Int} (hq : q ≠ 10) : ∀ (f : Nat) (l acc : List UInt8) (m : Nat) (b : List UInt8) (n : Nat), E10 l → getF q f l acc m = some (b, n) → n < m + l.length
  | 0, _, _, _, _, _, _, h => by cases h
  | f + 1, l, acc, m, b, n, hl, h => by
    unfold getF at h
    rcases hs : stepF q l with _ | _ | ⟨b', n'⟩
    · rw [hs] at h
      simp only [Option.some.injEq, Prod.mk.injEq] at h
      obtain ⟨_, rfl⟩ := h
      rcases l with _ | ⟨c, t⟩
      · exact absurd rfl hl.ne
      · by_cases h10 : c = 10
        · subst h10
          rw [show stepF q (10 :: t) = stepC q 10 t from rfl] at hs
          unfold stepC at hs
          rw [if_neg (by simp only [beq_iff_eq]; intro e; exact hq (by rw [← e]; rfl)), if_neg (by decide), if_pos (by decide)] at hs
          cases hs
        · have := hl.one h10
          rcases t with _ | ⟨d, t⟩
          · exact absurd rfl this
          · simp
    · rw [hs] at h; cases h
    · rw [hs] at h
      have hn := stepF_len hs
      simp only at h
      by_cases h0 : l.drop n' = []
      · rw [h0] at h
        rcases f with _ | f
        · cases h
        · rw [getF, show stepF q [] = .bad from rfl] at h; cases h
      · have := getF_lt hq f _ _ _ b n (hl.drop n' h0) h
        rw [List.length_drop] at this
        omega
theorem within_lt {q : Int} (hq : q ≠ 10) {k : Int} {r : List UInt8} {t : Tk} {z : Nat} (h : E10 r) (hx : withinT q k r = some (t, z)) : z < r.length := by
  rcases r with _ | ⟨c, u⟩
  · exact absurd rfl h.ne
  · cases hc : ((c.toNat : Int) == q) with
    | false => rw [within_no hc] at hx; cases hx
    | true =>
      rcases hg : getL q u with _ | ⟨b, m⟩
      · rw [within_bad hc hg] at hx; cases hx
      · rw [within_ok hc hg] at hx
        simp only [Option.some.injEq, Prod.mk.injEq] at hx
        obtain ⟨_, rfl⟩ := hx
        by_cases ht : u = []
        · subst ht; cases hg
        · have := getF_lt hq _ _ _ _ _ _ (h.tail' ht) hg
          simp
          omega
theorem alone_lt {a k : Int} (ha : a ≠ 1) {r : List UInt8} {t : Tk} {z : Nat} (h : E10 r) (hx : aloneT a k r = some (t, z)) : z < r.length := by
  rcases r with _ | ⟨c, u⟩
  · exact absurd rfl h.ne
  · simp only [aloneT] at hx
    split at hx
    · rename_i hc
      simp only [Option.some.injEq, Prod.mk.injEq] at hx
      obtain ⟨_, rfl⟩ := hx
      have h10 : c ≠ 10 := fun e => by
        rw [e] at hc
        simp only [beq_iff_eq] at hc
        exact ha (by rw [← hc]; decide)
      have := h.one h10
      rcases u with _ | ⟨d, u⟩
      · exact absurd rfl this
      · simp
    · cases hx
theorem letters_lt {a k : Int} {r : List UInt8} {t : Tk} {z : Nat} (h : E10 r) (hx : lettersT a k r = some (t, z)) : z < r.length := by
  have h2 := (run_app (p := letterZ) (by decide) [] r h).2
  rcases r with _ | ⟨c, u⟩
  · exact absurd rfl h.ne
  · simp only [lettersT] at hx
    split at hx
    · split at hx
      · cases hx
      · simp only [Option.some.injEq, Prod.mk.injEq] at hx
        obtain ⟨_, rfl⟩ := hx
        exact h2
    · cases hx
theorem signs_lt {r : List UInt8} {t : Tk} {z : Nat} (h : E10 r) (hx : signsT r = some (t, z)) : z < r.length := by
  have h2 := (run_app (p := signZ) (by decide) [] r h).2
  unfold signsT at hx
  split at hx
  · cases hx
  · split at hx
    · cases hx
    · simp only [Option.some.injEq, Prod.mk.injEq] at hx
      obtain ⟨_, rfl⟩ := hx
      exact h2
theorem stop_lt {r : List UInt8} {t : Tk} {z : Nat} (h : E10 r) (hx : stopT r = some (t, z)) : z < r.length := by
  rcases r with _ | ⟨c, _ | ⟨d, u⟩⟩
  · exact absurd rfl h.ne
  · have hc : c = 10 := Classical.byContradiction fun h10 => h.one h10 rfl
    subst hc
    rw [stop_no (by decide)] at hx
    cases hx
  · simp only [stopT] at hx
    repeat' split at hx
    all_goals first
      | cases hx; done
      | (simp only [Option.some.injEq, Prod.mk.injEq] at hx
         obtain ⟨_, rfl⟩ := hx
         simp)
theorem digits_lt {f : Nat} {b : Int} {r : List UInt8} {t : Tk} {z : Nat} (hb : digZ b 10 = false) (hf : f ≤ r.length) (h : E10 (r.drop f)) (hx : digitsT f b r = some (t, z)) : z < r.length := by
  have h2 := (run_app (p := digZ b) hb [] (r.drop f) h).2
  rw [List.length_drop] at h2
  unfold digitsT at hx
  split at hx
  · split at hx
    · cases hx
    · simp only [Option.some.injEq, Prod.mk.injEq] at hx
      obtain ⟨_, rfl⟩ := hx
      omega
  · cases hx
theorem char_lt {r : List UInt8} {t : Tk} {z : Nat} (hf : 2 ≤ r.length) (h : E10 (r.drop 2)) (hx : charT r = some (t, z)) : z < r.length := by
  have hlen : (r.drop 2).length = r.length - 2 := List.length_drop
  rw [charT_o] at hx
  generalize r.drop 2 = u at h hx hlen
  split at hx
  · cases hx
  · rename_i hlt
    have hz : ∃ c b n, charZ u + 2 = z ∧ getL 39 (u.take (charZ u) ++ [39]) = some ([c], n) ∧ b = c := by
      unfold charO at hx
      split at hx
      · rename_i c n hg
        simp only [Option.some.injEq, Prod.mk.injEq] at hx
        exact ⟨c, c, n, by omega, hg, rfl⟩
      · cases hx
    obtain ⟨c, _, n, hz, hg, _⟩ := hz
    by_cases he : charZ u < u.length
    · omega
    · exfalso
      have hl : u.length = charZ u := by omega
      rw [← hl, List.take_length] at hg
      rcases u with _ | ⟨a, _ | ⟨b, _ | ⟨d, u⟩⟩⟩
      · exact absurd rfl h.ne
      · have hc : a = 10 := Classical.byContradiction fun h10 => h.one h10 rfl
        subst hc
        rw [show getL 39 ([10] ++ [39]) = none by kernel_rfl] at hg
        cases hg
      · have hb : b = 10 := Classical.byContradiction fun h10 => h.tail.one h10 rfl
        subst hb
        have h2 : a = 39 ∨ a = 92 := by
          unfold charZ at hl
          split at hl
          · rename_i hp
            simp only [Lib.hasPrefix, List.isPrefixOf, Bool.and_eq_true, beq_iff_eq] at hp
            exact .inl hp.1.symm
          · split at hl
            · rename_i hp
              simp only [Lib.hasPrefix, List.isPrefixOf, Bool.and_eq_true, beq_iff_eq] at hp
              exact .inr hp.1.symm
            · simp at hl
        rcases h2 with rfl | rfl
        · rw [show getL 39 ([39, 10] ++ [39]) = some ([], 1) by kernel_rfl] at hg
          cases hg
        · rw [show getL 39 ([92, 10] ++ [39]) = some ([], 3) by kernel_rfl] at hg
          cases hg
      · have : charZ (a :: b :: d :: u) ≤ 2 := by
          unfold charZ
          split
          · omega
          · split <;> omega
        simp at hl
        omega
theorem number_lt {r : List UInt8} {t : Tk} {z : Nat} (h : E10 r) (hx : numberT r = some (t, z)) : z < r.length := by
  unfold numberT at hx
  split at hx
  · rename_i hp
    obtain ⟨h1, h2⟩ := pre_drop h (by decide) hp
    exact digits_lt (by decide) h1 h2 hx
  · split at hx
    · rename_i hp
      obtain ⟨h1, h2⟩ := pre_drop h (by decide) hp
      exact digits_lt (by decide) h1 h2 hx
    · split at hx
      · rename_i hp
        obtain ⟨h1, h2⟩ := pre_drop h (by decide) hp
        exact digits_lt (by decide) h1 h2 hx
      · split at hx
        · rename_i hp
          obtain ⟨h1, h2⟩ := pre_drop h (by decide) hp
          exact char_lt h1 h2 hx
        · exact digits_lt (f := 0) (by decide) (Nat.zero_le _) h hx
theorem or_lt {a b : Option (Tk × Nat)} {l : List UInt8} (ha : ∀ t z, a = some (t, z) → z < l.length) (hb : ∀ t z, b = some (t, z) → z < l.length) : ∀ t z, a.or b = some (t, z) → z < l.length := by
  intro t z h
  rcases a with _ | x
  · exact hb t z h
  · exact ha t z h
theorem tok_lt {l : List UInt8} (h : E10 l) : ∀ t z, tokT l = some (t, z) → z < l.length :=
  or_lt (fun _ _ => stop_lt h) <| or_lt (fun _ _ => letters_lt h) <| or_lt (fun _ _ => signs_lt h) <| or_lt (fun _ _ => alone_lt (by decide) h) <| or_lt (fun _ _ => letters_lt h) <| or_lt (fun _ _ => number_lt h) <| or_lt (fun _ _ => within_lt (by decide) h) <| or_lt (fun _ _ => within_lt (by decide) h) fun _ _ => alone_lt (by decide) h

/-- so many lines on -/
def Tok.sh (d : Int) (t : Tok) : Tok := ⟨t.k, t.line + d, t.n, t.s, t.open', t.tight⟩
theorem lex_err {l : List UInt8} {n : Int} {k : Nat} (h : (lexN l n k).e = 0) (hd : l.drop (skipN l) ≠ []) : ∃ t z, tokT (l.drop (skipN l)) = some (t, z) := by
  rcases ht : tokT (l.drop (skipN l)) with _ | ⟨t, z⟩
  · rw [lexN_bad hd ht] at h
    cases h
  · exact ⟨t, z, rfl⟩
theorem lex_shift (d : Int) : ∀ (N : Nat) (l : List UInt8) (n : Int) (k k' : Nat), l.length ≤ N → 0 < k → 0 < k' → k + l.length ≤ 16000 → k' + l.length ≤ 16000 → (lexN l n k).e = 0 →
    lexN l (n + d) k' = ⟨(lexN l n k).toks.map (Tok.sh d), 0, 0⟩ ∧ (lexN l n k).line = 0 := by
  have fin : ∀ (l : List UInt8) (n : Int) (k k' : Nat), l.drop (skipN l) = [] → lexN l (n + d) k' = ⟨(lexN l n k).toks.map (Tok.sh d), 0, 0⟩ ∧ (lexN l n k).line = 0 := by
    intro l n k k' hd
    rw [lexN_end hd, lexN_end hd]
    refine ⟨?_, rfl⟩
    simp only [List.map_cons, List.map_nil, Tok.sh, LexR.mk.injEq, and_true]
    rw [show n + d + (nlC (l.take (skipN l)) : Int) = n + (nlC (l.take (skipN l)) : Int) + d by omega]
  intro N
  induction N with
  | zero =>
    intro l n k k' hN _ _ _ _ _
    exact fin l n k k' (by rw [List.eq_nil_of_length_eq_zero (l := l) (by omega)]; rfl)
  | succ N ih =>
    intro l n k k' hN hk hk' h1 h2 he
    by_cases hd : l.drop (skipN l) = []
    · exact fin l n k k' hd
    · obtain ⟨t, z, ht⟩ := lex_err he hd
      have h3 := tok_len _ _ ht
      have h4 := skipN_le l
      rw [List.length_drop] at h3
      have e2 := lexN_on (n := n + d) (k := k') hd ht (by omega)
      have e1 := lexN_on (n := n) (k := k) hd ht (by omega)
      rw [e1] at he ⊢
      rw [e2]
      have hl : ((l.drop (skipN l)).drop z).length ≤ N := by rw [List.length_drop, List.length_drop]; omega
      have hl2 : ((l.drop (skipN l)).drop z).length + 1 ≤ l.length := by rw [List.length_drop, List.length_drop]; omega
      obtain ⟨a, b⟩ := ih ((l.drop (skipN l)).drop z) (n + nlC (l.take (skipN l)) + nlC ((l.drop (skipN l)).take z)) (k + 1) (k' + 1) hl (by omega) (by omega) (by omega) (by omega) he
      rw [show n + d + (nlC (l.take (skipN l)) : Int) + (nlC ((l.drop (skipN l)).take z) : Int) = n + (nlC (l.take (skipN l)) : Int) + (nlC ((l.drop (skipN l)).take z) : Int) + d by omega, a]
      refine ⟨?_, b⟩
      simp only [LexR.cons, List.map_cons, Tok.sh, LexR.mk.injEq, and_true, List.cons.injEq, Tok.mk.injEq, true_and]
      refine ⟨by omega, ?_⟩
      rw [decide_eq_true hk, decide_eq_true hk']
/-- the second text alone, and behind a gap -/
theorem lex_behind {B : List UInt8} (hB : (lexN B 1 0).e = 0) {l : List UInt8} {n : Int} {k : Nat} (h0 : 0 < l.length) (hs : skipN (l ++ B) = l.length + skipN B) (h1 : k + l.length + B.length ≤ 15000) :
    lexN (l ++ B) n k = ⟨(lexN B 1 0).toks.map (Tok.sh (n + nlC l - 1)), 0, 0⟩ := by
  have hdr : (l ++ B).drop (skipN (l ++ B)) = B.drop (skipN B) := by rw [hs, List.drop_append]; simp
  have htk : (l ++ B).take (skipN (l ++ B)) = l ++ B.take (skipN B) := by
    rw [hs, List.take_append, List.take_of_length_le (by omega)]
    simp
  by_cases hd : B.drop (skipN B) = []
  · rw [lexN_end (by rw [hdr]; exact hd), lexN_end hd, htk, nlC_app]
    simp only [List.map_cons, List.map_nil, Tok.sh, LexR.mk.injEq, and_true]
    rw [show n + ((nlC l + nlC (B.take (skipN B)) : Nat) : Int) = 1 + (nlC (B.take (skipN B)) : Int) + (n + (nlC l : Int) - 1) by omega]
  · obtain ⟨t, z, ht⟩ := lex_err hB hd
    have h3 := tok_len _ _ ht
    have h4 := skipN_le B
    rw [List.length_drop] at h3
    rw [lexN_on hd ht (by omega)] at hB ⊢
    rw [lexN_on (by rw [hdr]; exact hd) (by rw [hdr]; exact ht) (by omega), hdr, htk, nlC_app]
    have hl2 : ((B.drop (skipN B)).drop z).length + 1 ≤ B.length := by rw [List.length_drop, List.length_drop]; omega
    obtain ⟨a, b⟩ := lex_shift (n + nlC l - 1) _ ((B.drop (skipN B)).drop z) (1 + nlC (B.take (skipN B)) + nlC ((B.drop (skipN B)).take z)) (0 + 1) (k + 1) (Nat.le_refl _) (by omega) (by omega) (by omega) (by omega) hB
    rw [show n + ((nlC l + nlC (B.take (skipN B)) : Nat) : Int) + (nlC ((B.drop (skipN B)).take z) : Int) = 1 + (nlC (B.take (skipN B)) : Int) + (nlC ((B.drop (skipN B)).take z) : Int) + (n + (nlC l : Int) - 1) by omega, a]
    simp only [LexR.cons, List.map_cons, Tok.sh, LexR.mk.injEq, and_true, List.cons.injEq, Tok.mk.injEq, true_and]
    refine ⟨by omega, ?_⟩
    rw [decide_eq_false (by omega : ¬ skipN (l ++ B) = 0)]
    simp
/-- the tokens of the first, then of the second -/
theorem parts_from {B : List UInt8} (hB : (lexN B 1 0).e = 0) : ∀ (N : Nat) (l : List UInt8) (n : Int) (k : Nat), l.length ≤ N → E10 l → k + l.length + B.length ≤ 15000 → (lexN l n k).e = 0 →
    ∃ ts L, lexN l n k = ⟨ts ++ [⟨0, L, 0, [], false, false⟩], 0, 0⟩ ∧ lexN (l ++ B) n k = ⟨ts ++ (lexN B 1 0).toks.map (Tok.sh (L - 1)), 0, 0⟩ := by
  intro N
  induction N with
  | zero => intro l n k h hl; exact absurd (List.eq_nil_of_length_eq_zero (by omega)) hl.ne
  | succ N ih =>
    intro l n k hN hl hk he
    have hpos : 0 < l.length := List.length_pos_iff.2 hl.ne
    by_cases hd : l.drop (skipN l) = []
    · have hs := (skip_app B _ l (Nat.le_refl _) hl (.inl hd)).2 hd
      have htk : l.take (skipN l) = l := by
        rw [List.take_of_length_le]
        have := congrArg List.length hd
        rw [List.length_drop, List.length_nil] at this
        omega
      refine ⟨[], n + nlC l, ?_, ?_⟩
      · rw [lexN_end hd, htk]; rfl
      · rw [lex_behind hB hpos hs hk]; rfl
    · obtain ⟨t, z, ht⟩ := lex_err he hd
      have hE := hl.drop _ hd
      have hs := (skip_app B _ l (Nat.le_refl _) hl (.inr (by rw [ht]; simp))).1 hd
      have h3 := tok_len _ _ ht
      have h4 := skipN_le l
      have h5 := tok_lt hE _ _ ht
      have hdr : (l ++ B).drop (skipN (l ++ B)) = l.drop (skipN l) ++ B := by rw [hs, List.drop_append_of_le_length h4]
      have htk : (l ++ B).take (skipN (l ++ B)) = l.take (skipN l) := by rw [hs]; exact take_app h4
      have hne : (l.drop (skipN l)).drop z ≠ [] := fun e => by
        have := congrArg List.length e
        rw [List.length_drop, List.length_nil] at this
        omega
      have e2 := lexN_on (l := l ++ B) (n := n) (k := k) (by rw [hdr]; simp [hd]) (by rw [hdr]; exact tok_app B hE ht) (by omega)
      rw [lexN_on hd ht (by omega)] at he ⊢
      rw [e2, hdr, htk, List.drop_append_of_le_length (Nat.le_of_lt h5), take_app (Nat.le_of_lt h5), pre_app1 hne, hs]
      rw [List.length_drop] at h3 h5
      obtain ⟨ts, L, ea, eb⟩ := ih ((l.drop (skipN l)).drop z) (n + nlC (l.take (skipN l)) + nlC ((l.drop (skipN l)).take z)) (k + 1) (by rw [List.length_drop, List.length_drop]; omega) (hE.drop _ hne) (by rw [List.length_drop, List.length_drop]; omega) he
      exact ⟨_ :: ts, L, by rw [ea]; rfl, by rw [eb]; rfl⟩

end Go.Proofs.YtkbeaddbnnboaaaDoor
