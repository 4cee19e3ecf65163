/- The law TokenParts returns true for every input: its walk, all ways together. Conditions: the library's variables hold what their text lays. -/
import Derived.Test.YtkbeaddbnnboaaaDoorTokAc
import Derived.Test.YtkbeaddbnnboaaaDoorTokAd
namespace Go.Proofs.YtkbeaddbnnboaaaDoor
open Go Go.RowKit Go.Maps

theorem lex_count : ∀ (N : Nat) (l : List UInt8) (n : Int) (k : Nat), l.length ≤ N → k + l.length ≤ 16000 → (lexN l n k).toks.length ≤ l.length + 1 ∧ ((lexN l n k).e = 0 → 0 < (lexN l n k).toks.length) := by
  have fin : ∀ (l : List UInt8) (n : Int) (k : Nat), (l.drop (skipN l) = [] ∨ tokT (l.drop (skipN l)) = none) → (lexN l n k).toks.length ≤ l.length + 1 ∧ ((lexN l n k).e = 0 → 0 < (lexN l n k).toks.length) := by
    intro l n k h
    by_cases hd : l.drop (skipN l) = []
    · rw [lexN_end hd]
      simp
    · rw [lexN_bad hd (h.resolve_left hd)]
      simp
  intro N
  induction N with
  | zero =>
    intro l n k hN _
    exact fin l n k (.inl (by rw [List.eq_nil_of_length_eq_zero (l := l) (by omega)]; rfl))
  | succ N ih =>
    intro l n k hN hk
    by_cases hd : l.drop (skipN l) = []
    · exact fin l n k (.inl hd)
    · rcases ht : tokT (l.drop (skipN l)) with _ | ⟨t, z⟩
      · exact fin l n k (.inr ht)
      · have h3 := tok_len _ _ ht
        have h4 := skipN_le l
        rw [List.length_drop] at h3
        rw [lexN_on hd ht (by omega)]
        have hi := (ih ((l.drop (skipN l)).drop z) (n + nlC (l.take (skipN l)) + nlC ((l.drop (skipN l)).take z)) (k + 1) (by rw [List.length_drop, List.length_drop]; omega) (by rw [List.length_drop, List.length_drop]; omega)).1
        rw [List.length_drop, List.length_drop] at hi
        simp only [LexR.cons, List.length_cons]
        omega

theorem parts_walk (a b : ByteArray) (W : World) (hs : a.size ≤ maxLen) (hs2 : b.size ≤ maxLen) (ht : Lay W) :
    Calls Tryd.prog 4 #[.string a, .string b] W fun e w' => e = .returned (.bool true) ∧ Below W.heap.size W w' := by
  by_cases h : 2000 < a.size ∨ 2000 < b.size
  · exact parts_long a b W ht h hs hs2
  have ha : a.size ≤ 2000 := by omega
  have hb : b.size ≤ 2000 := by omega
  have hal : (a ++ ⟨#[32, 46, 10]⟩ : ByteArray).data.toList = a.data.toList ++ [32, 46] ++ [10] := by rw [ByteArray.data_append, Array.toList_append]; simp
  have hlen : (a ++ ⟨#[32, 46, 10]⟩ : ByteArray).data.toList.length = a.size + 3 := by rw [hal, Lib.size_eq]; simp
  have hE : E10 (a ++ ⟨#[32, 46, 10]⟩ : ByteArray).data.toList := ⟨_, hal⟩
  have hbl : b.data.toList.length = b.size := (Lib.size_eq b).symm
  by_cases hea : (lexN (a ++ ⟨#[32, 46, 10]⟩ : ByteArray).data.toList 1 0).e = 0
  · by_cases heb : (lexN b.data.toList 1 0).e = 0
    · obtain ⟨ts, L, e1, e2⟩ := parts_from heb _ _ 1 0 (Nat.le_refl _) hE (by omega) hea
      have hc1 := lex_count _ (a ++ ⟨#[32, 46, 10]⟩ : ByteArray).data.toList 1 0 (Nat.le_refl _) (by omega)
      have hc2 := lex_count _ b.data.toList 1 0 (Nat.le_refl _) (by omega)
      have hl1 := lex_lines _ (a ++ ⟨#[32, 46, 10]⟩ : ByteArray).data.toList 1 0 (Nat.le_refl _) (by omega)
      have hl2 := lex_lines _ b.data.toList 1 0 (Nat.le_refl _) (by omega)
      rw [e1] at hc1 hl1
      have hn1 : (ts ++ [(⟨0, L, 0, [], false, false⟩ : Tok)]).length = ts.length + 1 := by simp
      rcases List.eq_nil_or_concat ts with h0 | ⟨us, x, hu⟩
      · subst h0
        exact parts_few a b W ht ha hb _ _ 1 _ e1 rfl heb rfl rfl (hc2.2 heb) rfl
      · rw [List.concat_eq_append] at hu
        have htl : ts.length = us.length + 1 := by rw [hu]; simp
        have hx : (ts ++ [(⟨0, L, 0, [], false, false⟩ : Tok)])[us.length]? = some x := by rw [hu]; simp
        cases hk : (x.k != 7) with
        | true => exact parts_other a b W ht ha hb _ _ _ _ e1 rfl heb hn1 rfl (hc2.2 heb) us.length x (by omega) hx hk
        | false =>
          have hL := hl1 ⟨0, L, 0, [], false, false⟩ (by simp)
          simp only at hL
          have hab : (a ++ ⟨#[32, 46, 10]⟩ ++ b : ByteArray).data.toList = (a ++ ⟨#[32, 46, 10]⟩ : ByteArray).data.toList ++ b.data.toList := by rw [ByteArray.data_append, Array.toList_append]
          refine parts_good a b W ht ha hb _ _ _ _ e1 rfl heb hn1 rfl (hc2.2 heb) us.length ts.length _ x L _ (by omega) (by omega) hx hk (by simp) (by omega) (show lexN _ 1 0 = _ by rw [hab]; exact e2) ?_ rfl ?_ ?_
          · rw [List.take_left' rfl]
          · rw [List.length_append, List.length_map]
            have := hc1.1
            rw [hn1] at this
            have := hc2.1
            omega
          · intro t h
            have := hl2 t h
            omega
    · exact parts_badB a b W ht ha hb _ _ rfl rfl hea heb
  · exact parts_badA a b W ht ha hb _ _ rfl rfl hea

end Go.Proofs.YtkbeaddbnnboaaaDoor
