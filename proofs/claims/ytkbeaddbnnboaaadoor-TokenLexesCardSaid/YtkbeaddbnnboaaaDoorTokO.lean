/- Atoms as text, read as tokens (plain mathematics). Conditions: none. -/
import Derived.Test.YtkbeaddbnnboaaaDoorTokN
import Derived.Test.YtkbeaddbnnboaaaDoorNameQ
namespace Go.Proofs.YtkbeaddbnnboaaaDoor
open Go Go.RowKit Go.Maps

def blankB (c : UInt8) : Prop := sortZ (c.toNat : Int) = 1
theorem sort_not {c : UInt8} {k : Int} {v : Int} (h : sortZ (c.toNat : Int) = k) (hv : sortZ v ≠ k) : ((c.toNat : Int) == v) = false := by
  rw [beq_eq_false_iff_ne]
  intro e
  rw [e] at h
  exact hv h
theorem runB_app {p : Int → Bool} {A r : List UInt8} {c : UInt8} (hA : ∀ x ∈ A, p (x.toNat : Int) = true) (hc : p (c.toNat : Int) = false) : runB p (A ++ c :: r) = A.length := by
  induction A with
  | nil => exact runB_no hc
  | cons a A ih =>
    rw [List.cons_append, runB_yes (hA a List.mem_cons_self), ih fun x hx => hA x (List.mem_cons_of_mem _ hx)]
    rfl
theorem runB_all {p : Int → Bool} {A : List UInt8} (hA : ∀ x ∈ A, p (x.toNat : Int) = true) : runB p A = A.length := by
  induction A with
  | nil => rfl
  | cons a A ih =>
    rw [runB_yes (hA a List.mem_cons_self), ih fun x hx => hA x (List.mem_cons_of_mem _ hx)]
    rfl
theorem blank_letter {c : UInt8} (h : blankB c) : letterZ (c.toNat : Int) = false := by unfold letterZ; rw [h]; rfl
theorem blank_sign {c : UInt8} (h : blankB c) : signZ (c.toNat : Int) = false := by unfold signZ; rw [h]; rfl

theorem pre_no {c a b : UInt8} {t : List UInt8} (h : c ≠ a) : Lib.hasPrefix (c :: t) [a, b] = false := by
  show ((a == c) && _) = false
  rw [beq_eq_false_iff_ne.2 (Ne.symm h)]
  rfl
theorem ne_sort {c : UInt8} {k : Int} {v : UInt8} (h : sortZ (c.toNat : Int) = k) (hv : sortZ (v.toNat : Int) ≠ k) : c ≠ v := fun e => hv (by rw [← e]; exact h)

/-- no attempt ahead of letters: of a byte that is no sign -/
theorem stop_sort {c : UInt8} {t : List UInt8} {k : Int} (h : sortZ (c.toNat : Int) = k) (hk : k ≠ 5) : stopT (c :: t) = none := stop_no (sort_not h (fun e => hk (by rw [← e]; rfl)))
theorem letters_sort {c : UInt8} {t : List UInt8} {k a b : Int} (h : sortZ (c.toNat : Int) = k) (hk : k ≠ a) : lettersT a b (c :: t) = none := by
  simp only [lettersT]
  rw [h, if_neg (by simpa using hk)]
theorem alone_sort {c : UInt8} {t : List UInt8} {k a b : Int} (h : sortZ (c.toNat : Int) = k) (hk : k ≠ a) : aloneT a b (c :: t) = none := by
  simp only [aloneT]
  rw [h, if_neg (by simpa using hk)]
theorem alone_yes {c : UInt8} {t : List UInt8} {a b : Int} (h : sortZ (c.toNat : Int) = a) : aloneT a b (c :: t) = some (⟨b, 0, [c]⟩, 1) := by
  simp only [aloneT]
  rw [h, if_pos (by simp)]
theorem signs_sort {c : UInt8} {t : List UInt8} {k : Int} (h : sortZ (c.toNat : Int) = k) (hk : k ≠ 5) : signsT (c :: t) = none := by
  unfold signsT
  have : runB signZ (c :: t) = 0 := runB_no (by unfold signZ; rw [h]; simpa [signS] using hk)
  rw [this]
  simp
theorem letters_run {A r : List UInt8} {a k : Int} (hA : ∀ x ∈ A, letterZ (x.toNat : Int) = true) (h0 : ∃ x t, A = x :: t ∧ sortZ (x.toNat : Int) = a) (hr : r = [] ∨ ∃ c t, r = c :: t ∧ letterZ (c.toNat : Int) = false) :
    lettersT a k (A ++ r) = some (⟨k, 0, A⟩, A.length) := by
  obtain ⟨x, t, rfl, hx⟩ := h0
  have hrun : runB letterZ ((x :: t) ++ r) = (x :: t).length := by
    rcases hr with rfl | ⟨c, t', rfl, hc⟩
    · rw [List.append_nil]; exact runB_all hA
    · exact runB_app hA hc
  rw [List.cons_append] at hrun ⊢
  simp only [lettersT]
  rw [hx, if_pos (by simp), hrun, if_neg (by simp), ← List.cons_append, List.take_left']
  rfl
theorem signs_run {A r : List UInt8} {c : UInt8} (hA : ∀ x ∈ A, signZ (x.toNat : Int) = true) (h0 : A ≠ []) (hp : Lib.hasPrefix (A ++ c :: r) [47, 42] = false) (hc : signZ (c.toNat : Int) = false) :
    signsT (A ++ c :: r) = some (⟨1, 0, A⟩, A.length) := by
  unfold signsT
  have h1 : A.length ≠ 0 := fun e => h0 (List.eq_nil_of_length_eq_zero e)
  rw [if_neg (by rw [hp]; simp), runB_app hA hc, if_neg h1, List.take_left']
  rfl

/-- digits: a byte of no digit at the beginning -/
theorem parse_nil (base : Int) (h : 2 ≤ base ∧ base ≤ 36) : parseR base [] = (0, 6) := by
  unfold parseR
  rw [if_neg (by omega), if_pos rfl]
theorem parse_bad (base : Int) (h : 2 ≤ base ∧ base ≤ 36) (c : UInt8) (hc : base ≤ digitZ (c.toNat : Int)) : parseR base [c] = (0, 6) := by
  unfold parseR
  rw [if_neg (by omega), if_neg (by simp), if_pos (by unfold digitsB; simp; omega)]
theorem digits_bad {c : UInt8} {t : List UInt8} {base : Int} (hb : 2 ≤ base ∧ base ≤ 36) (hc : base ≤ digitZ (c.toNat : Int)) : digitsT 0 base (c :: t) = none := by
  unfold digitsT
  rw [List.drop_zero, runB_no (by rw [digZ_one, parse_bad base hb c hc]; rfl), List.take_zero, parse_nil base hb]
  rfl
theorem numT_bad {c : UInt8} {t : List UInt8} (h48 : c ≠ 48) (hc : 10 ≤ digitZ (c.toNat : Int)) : numberT (c :: t) = none := by
  unfold numberT
  rw [if_neg (by rw [pre_no h48]; simp), if_neg (by rw [pre_no h48]; simp), if_neg (by rw [pre_no h48]; simp), if_neg (by rw [pre_no h48]; simp)]
  exact digits_bad (by omega) hc

/-- the token of an atom that is not [] and not {} -/
def atomT (s : List UInt8) : Tk := ⟨if plainB s = true then 1 else 2, 0, s⟩
theorem gap_sort {c : UInt8} {t : List UInt8} {k : Int} (h : sortZ (c.toNat : Int) = k) (h1 : k ≠ 1) (h7 : k ≠ 7) (hp : Lib.hasPrefix (c :: t) [47, 42] = false) : gapN (c :: t) = 0 :=
  gap_no (by rw [h]; simpa using h1) (sort_not h (fun e => h7 (by rw [← e]; rfl))) hp

theorem plain_forms {l : List UInt8} (h : plainB l = true) : l = [91, 93] ∨ l = [33] ∨ l = [59] ∨ l = [123, 125] ∨ (∃ c t, l = c :: t ∧ sortZ (c.toNat : Int) = 2 ∧ l.all wordB = true) ∨ (l ≠ [] ∧ l ≠ [46] ∧ l.all signB = true ∧ Lib.hasPrefix l [47, 42] = false) := by
  unfold plainB at h
  split at h
  · rename_i h1; exact .inl (by simpa using h1)
  · split at h
    · rename_i h1; exact .inr (.inl (by simpa using h1))
    · split at h
      · rename_i h1; exact .inr (.inr (.inl (by simpa using h1)))
      · split at h
        · rename_i h1; exact .inr (.inr (.inr (.inl (by simpa using h1))))
        · split at h
          · cases h
          · rename_i hne
            split at h
            · cases h
            · rename_i h46
              rcases l with _ | ⟨c, t⟩
              · exact absurd rfl hne
              split at h
              · rename_i h2
                exact .inr (.inr (.inr (.inr (.inl ⟨c, t, rfl, h2, h⟩))))
              · rw [Bool.and_eq_true] at h
                exact .inr (.inr (.inr (.inr (.inr ⟨by simp, by simpa using h46, h.1, by simpa using h.2⟩))))
theorem tok_stop {l : List UInt8} {x : Tk × Nat} (h : stopT l = some x) : tokT l = some x := by unfold tokT; rw [h]; rfl
theorem tok_word {l : List UInt8} {x : Tk × Nat} (h1 : stopT l = none) (h : lettersT 2 1 l = some x) : tokT l = some x := by unfold tokT; rw [h1, h]; rfl
theorem tok_signs {l : List UInt8} {x : Tk × Nat} (h1 : stopT l = none) (h2 : lettersT 2 1 l = none) (h : signsT l = some x) : tokT l = some x := by unfold tokT; rw [h1, h2, h]; rfl
theorem tok_solo {l : List UInt8} {x : Tk × Nat} (h1 : stopT l = none) (h2 : lettersT 2 1 l = none) (h3 : signsT l = none) (h : aloneT 6 1 l = some x) : tokT l = some x := by unfold tokT; rw [h1, h2, h3, h]; rfl
theorem tok_named {l : List UInt8} {x : Tk × Nat} (h1 : stopT l = none) (h2 : lettersT 2 1 l = none) (h3 : signsT l = none) (h4 : aloneT 6 1 l = none) (h : lettersT 3 4 l = some x) : tokT l = some x := by unfold tokT; rw [h1, h2, h3, h4, h]; rfl
theorem tok_number {l : List UInt8} {x : Tk × Nat} (h1 : stopT l = none) (h2 : lettersT 2 1 l = none) (h3 : signsT l = none) (h4 : aloneT 6 1 l = none) (h5 : lettersT 3 4 l = none) (h : numberT l = some x) : tokT l = some x := by unfold tokT; rw [h1, h2, h3, h4, h5, h]; rfl
theorem tok_quoted {l : List UInt8} {x : Tk × Nat} (h1 : stopT l = none) (h2 : lettersT 2 1 l = none) (h3 : signsT l = none) (h4 : aloneT 6 1 l = none) (h5 : lettersT 3 4 l = none) (h6 : numberT l = none) (h : withinT 39 2 l = some x) : tokT l = some x := by unfold tokT; rw [h1, h2, h3, h4, h5, h6, h]; rfl
theorem tok_punct {l : List UInt8} {x : Tk × Nat} (h1 : stopT l = none) (h2 : lettersT 2 1 l = none) (h3 : signsT l = none) (h4 : aloneT 6 1 l = none) (h5 : lettersT 3 4 l = none) (h6 : numberT l = none) (h7 : withinT 39 2 l = none) (h8 : withinT 34 5 l = none) (h : aloneT 7 6 l = some x) : tokT l = some x := by
  unfold tokT; rw [h1, h2, h3, h4, h5, h6, h7, h8, h]; rfl
/-- an atom, then a blank -/
theorem tok_atom (s r : List UInt8) {c : UInt8} (hc : blankB c) (h1 : s ≠ [91, 93]) (h2 : s ≠ [123, 125]) :
    tokT (putL s ++ c :: r) = some (atomT s, (putL s).length) ∧ gapN (putL s ++ c :: r) = 0 := by
  have hcs : sortZ (c.toNat : Int) = 1 := hc
  cases hp : plainB s
  · have e : putL s ++ c :: r = 39 :: (s.flatMap putC ++ 39 :: (c :: r)) := by
      unfold putL putB
      rw [hp, if_neg (by simp)]
      simp
    have el : (putL s).length = 1 + ((s.flatMap putC).length + 1) := by
      unfold putL putB
      rw [hp, if_neg (by simp)]
      simp
      omega
    have hg : getL 39 (s.flatMap putC ++ 39 :: (c :: r)) = some (s, (s.flatMap putC).length + 1) := back_all s (c :: r) (by
      simp only [List.head?_cons, ne_eq, Option.some.injEq]
      exact ne_sort hcs (by decide))
    have h39 : sortZ (((39 : UInt8).toNat : Nat) : Int) = 8 := by decide
    rw [e, el]
    refine ⟨?_, gap_sort h39 (by decide) (by decide) (pre_no (by decide))⟩
    refine tok_quoted (stop_sort h39 (by decide)) (letters_sort h39 (by decide)) (signs_sort h39 (by decide)) (alone_sort h39 (by decide)) (letters_sort h39 (by decide)) (numT_bad (by decide) (by decide)) ?_
    rw [within_ok (by decide) hg]
    unfold atomT
    rw [hp, if_neg (by simp)]
  · have e : putL s = s := by unfold putL; rw [hp, if_pos rfl]
    have ea : atomT s = ⟨1, 0, s⟩ := by unfold atomT; rw [hp, if_pos rfl]
    rw [e, ea]
    rcases plain_forms hp with h | rfl | rfl | h | ⟨x, t, rfl, hx, hall⟩ | ⟨h0, h46, hall, hpre⟩
    · exact absurd h h1
    · have h33 : sortZ (((33 : UInt8).toNat : Nat) : Int) = 6 := by decide
      exact ⟨tok_solo (stop_sort h33 (by decide)) (letters_sort h33 (by decide)) (signs_sort h33 (by decide)) (alone_yes h33), gap_sort h33 (by decide) (by decide) (pre_no (by decide))⟩
    · have h59 : sortZ (((59 : UInt8).toNat : Nat) : Int) = 6 := by decide
      exact ⟨tok_solo (stop_sort h59 (by decide)) (letters_sort h59 (by decide)) (signs_sort h59 (by decide)) (alone_yes h59), gap_sort h59 (by decide) (by decide) (pre_no (by decide))⟩
    · exact absurd h h2
    · refine ⟨tok_word (by rw [List.cons_append]; exact stop_sort hx (by decide)) (letters_run (fun y hy => List.all_eq_true.1 hall y hy) ⟨x, t, rfl, hx⟩ (.inr ⟨c, r, rfl, blank_letter hc⟩)), ?_⟩
      rw [List.cons_append]
      exact gap_sort hx (by decide) (by decide) (pre_no (ne_sort hx (by decide)))
    · have hpre2 : Lib.hasPrefix (s ++ c :: r) [47, 42] = false := by
        rcases s with _ | ⟨a, _ | ⟨b, t⟩⟩
        · exact absurd rfl h0
        · show ((47 == a) && ((42 == c) && _)) = false
          rw [beq_eq_false_iff_ne.2 (Ne.symm (ne_sort hcs (by decide : sortZ (((42 : UInt8).toNat : Nat) : Int) ≠ 1)))]
          simp
        · exact hpre
      obtain ⟨a, t, rfl⟩ : ∃ a t, s = a :: t := by
        rcases s with _ | ⟨a, t⟩
        · exact absurd rfl h0
        · exact ⟨a, t, rfl⟩
      have hall' : ∀ y ∈ a :: t, signZ (y.toNat : Int) = true := fun y hy => List.all_eq_true.1 hall y hy
      have ha5 : sortZ (a.toNat : Int) = 5 := by
        have := hall' a List.mem_cons_self
        unfold signZ signS at this
        simpa using this
      refine ⟨tok_signs ?_ (by rw [List.cons_append]; exact letters_sort ha5 (by decide)) (signs_run hall' h0 hpre2 (blank_sign hc)), by rw [List.cons_append] at hpre2 ⊢; exact gap_sort ha5 (by decide) (by decide) hpre2⟩
      cases h46' : ((a.toNat : Int) == 46)
      · rw [List.cons_append]; exact stop_no h46'
      · have ea46 : a = 46 := UInt8.toNat_inj.1 (by have : (a.toNat : Int) = 46 := by simpa using h46'
                                                    show a.toNat = 46
                                                    omega)
        rcases t with _ | ⟨b, t⟩
        · exact absurd (by rw [ea46]) h46
        · have hb5 : sortZ (b.toNat : Int) = 5 := by
            have := hall' b (by simp)
            unfold signZ signS at this
            simpa using this
          rw [List.cons_append, List.cons_append]
          exact stop_none h46' (sort_not hb5 (by decide)) (by rw [hb5]; rfl)

end Go.Proofs.YtkbeaddbnnboaaaDoor
