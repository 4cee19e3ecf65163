/- The law OpsApart returns true: its walk. Conditions: the listed variables read as the text lays them. -/
import Derived.Test.YtnnhpjpfmmlimaaDoorOpR
namespace Go.Proofs.YtnnhpjpfmmlimaaDoor
open Go Go.RowKit Go.Maps
open Go.WideMaps Go.WideElems

/-- no name is infix and postfix both -/
def Apart (L : List Df) : Prop := ∀ n, (fnd L n 2).isSome = true → (fnd L n 3).isSome = false
theorem first_no3 : ∀ d ∈ firstL, srt d.typ ≠ 3 := by
  have h : ∀ r ∈ firstN, srt r.2.1 ≠ 3 := by decide +kernel
  intro d hd
  unfold firstL rowD at hd
  rw [List.mem_flatMap] at hd
  obtain ⟨r, hr, hd⟩ := hd
  obtain ⟨n, _, rfl⟩ := List.mem_map.1 hd
  exact h r hr
theorem first_apart : Apart firstL := by
  intro n _
  cases h : fnd firstL n 3 with
  | none => rfl
  | some d => exact absurd (fnd_mem h).2.2 (first_no3 d (fnd_mem h).1)
theorem rmv_apart {L : List Df} (h : Apart L) (n : ByteArray) (s : Int) : Apart (rmv L n s) := by
  intro k hk
  have h2 : (fnd L k 2).isSome = true := by
    by_cases e : k = n ∧ (2 : Int) = s
    · obtain ⟨rfl, rfl⟩ := e
      rw [fnd_rmv] at hk
      cases hk
    · rwa [fnd_rmv_ne e] at hk
  by_cases e : k = n ∧ (3 : Int) = s
  · obtain ⟨rfl, rfl⟩ := e
    rw [fnd_rmv]
    rfl
  · rw [fnd_rmv_ne e]
    exact h k h2
theorem ins_apart {L : List Df} (h : Apart L) {d : Df} (hr : (fnd L d.name (rivZ (srt d.typ))).isSome = false) : Apart (ins L d) := by
  intro k hk
  by_cases e3 : k = d.name ∧ (3 : Int) = srt d.typ
  · exfalso
    obtain ⟨rfl, e3⟩ := e3
    rw [← e3] at hr
    rw [fnd_ins_ne (by rw [← e3]; simp)] at hk
    rw [show rivZ 3 = 2 from rfl, hk] at hr
    cases hr
  · rw [fnd_ins_ne e3]
    by_cases e2 : k = d.name ∧ (2 : Int) = srt d.typ
    · obtain ⟨rfl, e2⟩ := e2
      rw [← e2] at hr
      exact hr
    · rw [fnd_ins_ne e2] at hk
      exact h k hk
theorem op_apart {L : List Df} (h : Apart L) (d : Df) : Apart (opZ L d).2 := by
  unfold opZ
  split
  · exact h
  · split
    · exact h
    · split
      · exact rmv_apart h _ _
      · split
        · exact h
        · rename_i hr
          split
          · exact h
          · exact ins_apart h (by simpa using hr)
theorem made_apart (l : List Df) : Apart (madeZ l) := by
  have key : ∀ (l L : List Df), Apart L → Apart (l.foldl (fun L d => (opZ L d).2) L) := by
    intro l
    induction l with
    | nil => exact fun _ h => h
    | cons d l ih => exact fun L h => ih _ (op_apart h d)
  exact key l _ first_apart

theorem fnd_self {L : List Df} (hw : Wf L) {d : Df} (hd : d ∈ L) : fnd L d.name (srt d.typ) = some d := by
  have key : ∀ l : List Df, l.Pairwise (fun a b => ¬ (a.name = b.name ∧ srt a.typ = srt b.typ)) → d ∈ l → l.find? (Df.is d.name (srt d.typ)) = some d := by
    intro l hl hdl
    induction l with
    | nil => cases hdl
    | cons y l ih =>
      obtain ⟨h1, h2⟩ := List.pairwise_cons.1 hl
      rw [List.find?_cons]
      rcases List.mem_cons.1 hdl with rfl | hd'
      · rw [is_iff.2 ⟨rfl, rfl⟩]
      · cases hy : y.is d.name (srt d.typ)
        · exact ih h2 hd'
        · exact absurd (is_iff.1 hy) (h1 d hd')
  exact key L hw.one hd

theorem side_rng {L : List Df} (hw : Wf L) (n : ByteArray) (s : Int) : 0 ≤ (sidesZ L n s).1 ∧ (sidesZ L n s).1 ≤ 1200 ∧ ((sidesZ L n s).2.1 = (sidesZ L n s).1 ∨ (sidesZ L n s).2.1 = (sidesZ L n s).1 - 1) ∧ ((sidesZ L n s).2.2 = (sidesZ L n s).1 ∨ (sidesZ L n s).2.2 = (sidesZ L n s).1 - 1) := by
  unfold sidesZ
  cases h : fnd L n s with
  | none => simp
  | some d =>
    have := hw.fit d (fnd_mem h).1
    refine ⟨by simp only; omega, by simp only; omega, ?_, ?_⟩
    · unfold lft
      simp only
      split <;> simp
    · unfold rgt
      simp only
      split <;> simp
theorem side_none {L : List Df} {n : ByteArray} {s : Int} (h : (fnd L n s).isSome = false) : sidesZ L n s = (0, 0, 0) := by
  unfold sidesZ
  cases hf : fnd L n s with
  | none => rfl
  | some d => rw [hf] at h; cases h
theorem side_self {L : List Df} (hw : Wf L) {d : Df} (hd : d ∈ L) : (sidesZ L d.name (srt d.typ)).1 = d.pri := by
  unfold sidesZ
  rw [fnd_self hw hd]
theorem is_self {L : List Df} (hw : Wf L) {d : Df} (hd : d ∈ L) : isZ L d.name = true := by
  unfold isZ
  have h := fnd_self hw hd
  rcases srt_in d.typ with hs | hs | hs <;> (rw [hs] at h; rw [h]; simp)

/-- how an operator of the table stands -/
structure Stand (p a ar b bl br c cl : Int) : Prop where
  pri : 1 ≤ p ∧ p ≤ 1200
  a0 : 0 ≤ a ∧ a ≤ 1200
  ar : ar = a ∨ ar = a - 1
  rest : (c = 0 ∧ cl = 0 ∧ 0 ≤ b ∧ b ≤ 1200 ∧ (bl = b ∨ bl = b - 1) ∧ (br = b ∨ br = b - 1) ∧ (p = a ∨ p = b)) ∨ (b = 0 ∧ bl = 0 ∧ br = 0 ∧ 0 ≤ c ∧ c ≤ 1200 ∧ (cl = c ∨ cl = c - 1) ∧ (p = a ∨ p = c))
theorem stand_of {L : List Df} (hw : Wf L) (ha : Apart L) {d : Df} (hd : d ∈ L) :
    Stand d.pri (sidesZ L d.name 1).1 (sidesZ L d.name 1).2.2 (sidesZ L d.name 2).1 (sidesZ L d.name 2).2.1 (sidesZ L d.name 2).2.2 (sidesZ L d.name 3).1 (sidesZ L d.name 3).2.1 := by
  have h1 := side_rng hw d.name 1
  have h2 := side_rng hw d.name 2
  have h3 := side_rng hw d.name 3
  have hp := hw.fit d hd
  have hs := side_self hw hd
  have h23 := ha d.name
  refine ⟨by omega, by omega, h1.2.2.2, ?_⟩
  cases f3 : (fnd L d.name 3).isSome with
  | false =>
    have e3 := side_none f3
    rw [e3]
    refine .inl ⟨rfl, rfl, h2.1, h2.2.1, h2.2.2.1, h2.2.2.2, ?_⟩
    rcases srt_in d.typ with h | h | h
    · rw [h] at hs; exact .inl hs.symm
    · rw [h] at hs; exact .inr hs.symm
    · rw [h, e3] at hs; simp only at hs; omega
  | true =>
    have f2 : (fnd L d.name 2).isSome = false := by
      cases f2 : (fnd L d.name 2).isSome
      · rfl
      · have := h23 f2
        rw [f3] at this
        cases this
    have e2 := side_none f2
    rw [e2]
    refine .inr ⟨rfl, rfl, rfl, h3.1, h3.2.1, h3.2.2.1, ?_⟩
    rcases srt_in d.typ with h | h | h
    · rw [h] at hs; exact .inl hs.symm
    · rw [h, e2] at hs; simp only at hs; omega
    · rw [h] at hs; exact .inr hs.symm

end Go.Proofs.YtnnhpjpfmmlimaaDoor
