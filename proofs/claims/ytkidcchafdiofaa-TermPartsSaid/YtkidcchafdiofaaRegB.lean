/- The same law for a region that also stores into variables that it makes itself: each operation owns the blocks that it makes. Conditions: none. -/
import Derived.Test.YtkidcchafdiofaaRegA
namespace Go.Proofs.Ytkidcchafdiofaa
open Go Go.RowKit

section
variable {P : Program} {ops : Array Oper} {Q : Exit → Act → World → Prop}

abbrev Own2 := Nat → Nat → Prop
/-- what an operation is asked to leave: it makes memory of its own, or it turns the memory of the one that it takes over -/
def After (tgt : Nat → Option Nat) (Φ : Nat → (Nat → Value) → (Nat → Prop) → World → Prop) (i : Nat) (vals : Nat → Value) (S : Own2) (w : World) (v : Value) (w' : World) : Prop :=
  ∃ S' : Nat → Prop, (match tgt i with
    | none => Ltr w w' ∧ ∀ k, S' k → w.heap.size ≤ k ∧ k < w'.heap.size
    | some j => S' = S j ∧ (∀ k, ¬ S j k → w'.heap[k]? = w.heap[k]?) ∧ w'.os = w.os ∧ w'.tape = w.tape ∧ w'.output = w.output ∧ w'.heap.size = w.heap.size) ∧ Φ i (upd vals i v) S' w'
def FactsS (Φ : Nat → (Nat → Value) → (Nat → Prop) → World → Prop) (vals : Nat → Value) (S : Own2) (w : World) : List Nat → Prop
  | [] => True
  | j :: r => Φ j vals (S j) w ∧ FactsS Φ vals S w r
theorem factsS_of {Φ : Nat → (Nat → Value) → (Nat → Prop) → World → Prop} {vals : Nat → Value} {S : Own2} {w : World} : ∀ l : List Nat, (∀ j ∈ l, Φ j vals (S j) w) → FactsS Φ vals S w l
  | [], _ => trivial
  | j :: r, h => ⟨h j List.mem_cons_self, factsS_of r fun k hk => h k (List.mem_cons_of_mem _ hk)⟩
def StepsS (P : Program) (ops : Array Oper) (Q : Exit → Act → World → Prop) (F : (Nat → Value) → Act) (deps : List (List Nat)) (tgt : Nat → Option Nat) (Φ : Nat → (Nat → Value) → (Nat → Prop) → World → Prop) (W : World) (l : List Nat) : Prop :=
  ∀ i ∈ l, ∀ vals S w, Ltr W w → FactsS Φ vals S w (deps.getD i []) → wpOp P ops Q i (fun a' w' => ∃ v, a' = (F vals).put ((ops[i]?).bind (·.dst)) v ∧ After tgt Φ i vals S w v w') (F vals) w
theorem stepsS_nil {F : (Nat → Value) → Act} {deps : List (List Nat)} {tgt : Nat → Option Nat} {Φ : Nat → (Nat → Value) → (Nat → Prop) → World → Prop} {W : World} : StepsS P ops Q F deps tgt Φ W [] := fun _ h => by cases h
theorem stepsS_cons {F : (Nat → Value) → Act} {deps : List (List Nat)} {tgt : Nat → Option Nat} {Φ : Nat → (Nat → Value) → (Nat → Prop) → World → Prop} {W : World} {i : Nat} {o : Oper} {r : List Nat} (ho : ops[i]? = some o)
    (h : ∀ vals S w, Ltr W w → FactsS Φ vals S w (deps.getD i []) → ∀ K : Act → World → Prop, (∀ v w', After tgt Φ i vals S w v w' → K ((F vals).put o.dst v) w') → if Region.wanted o (yielded ops (F vals).tmps) = true then Oper.wp P o (F vals) w K Q else K ((F vals).put o.dst undef) w)
    (hr : StepsS P ops Q F deps tgt Φ W r) : StepsS P ops Q F deps tgt Φ W (i :: r) := fun j hj => by
  rcases List.mem_cons.1 hj with rfl | hj
  · intro vals S w hw hf
    refine wpOp_step ho fun K hK => h vals S w hw hf K fun v w' h1 => hK _ _ ⟨v, by rw [ho]; rfl, h1⟩
  · exact hr j hj

/-- whoever takes over an operation's memory comes behind all that lean on it -/
def takeB (ops : Array Oper) (deps : List (List Nat)) (tgt : Nat → Option Nat) : Bool := (List.range ops.size).all fun k => match tgt k with
  | none => true
  | some j => (deps.getD k []).contains j && ((List.range ops.size).all fun i => !((deps.getD i []).contains j) || i == k || (deps.getD k []).contains i) && ((List.range ops.size).all fun i => i == k || !(tgt i == some j))

def live (n : Nat) (tgt : Nat → Option Nat) (listed : Array Bool) (i : Nat) : Prop := listed.getD i false = true ∧ ∀ k, k < n → listed.getD k false = true → tgt k ≠ some i

theorem wpAny_own {D : List (Option Tmp)} {deps : List (List Nat)} {tgt : Nat → Option Nat} {Φ : Nat → (Nat → Value) → (Nat → Prop) → World → Prop} {a0 : Act} {W : World} {F : (Nat → Value) → Act} (hD : ops.toList.map (·.dst) = D) (hnd : dstB D = true) (hback : backB ops = true) (hdeps : depsB ops deps = true)
    (htake : takeB ops deps tgt = true)
    (cong : ∀ i v u S w, (∀ j, j = i ∨ j ∈ deps.getD i [] → v j = u j) → Φ i v S w → Φ i u S w)
    (stab : ∀ i v S w w', (∀ k, (S k ∨ k < W.heap.size) → k < w.heap.size → w'.heap[k]? = w.heap[k]?) → w.heap.size ≤ w'.heap.size → Φ i v S w → Φ i v S w')
    (hF : ∀ vals, putD a0 D 0 vals = F vals) (step : StepsS P ops Q F deps tgt Φ W (List.range ops.size))
    (fin : ∀ (vals : Nat → Value) (S : Own2) (w : World), Ltr W w → (∀ i, i < ops.size → (∀ k, k < ops.size → tgt k ≠ some i) → Φ i vals (S i) w) → Q .normal (F vals) w) :
    ∀ (fuel : Nat) (listed : Array Bool) (vals : Nat → Value) (S : Own2) (w : World), listed.size = ops.size → listed.toList.count false ≤ fuel → Ltr W w →
      (∀ i, live ops.size tgt listed i → Φ i vals (S i) w ∧ ∀ k, S i k → W.heap.size ≤ k ∧ k < w.heap.size) → (∀ i j k, live ops.size tgt listed i → live ops.size tgt listed j → S i k → S j k → i = j) →
      (∀ i, listed.getD i false = true → ∀ j ∈ deps.getD i [], listed.getD j false = true) →
      wpAny P .any ops Q fuel listed (F vals) w := by
  have hend : ∀ (listed : Array Bool) (vals : Nat → Value) (S : Own2) (w : World), listed.size = ops.size → Ltr W w → (∀ i, live ops.size tgt listed i → Φ i vals (S i) w ∧ ∀ k, S i k → W.heap.size ≤ k ∧ k < w.heap.size) → Region.ready .any ops listed = [] → Q .normal (F vals) w := fun listed vals S w hs hw hl hr =>
    fin vals S w hw fun i hi hk => (hl i ⟨all_listed hback hs hr i hi, fun k hk2 _ => hk k hk2⟩).1
  have tk : ∀ k j, k < ops.size → tgt k = some j → j ∈ deps.getD k [] ∧ (∀ i, i < ops.size → j ∈ deps.getD i [] → i = k ∨ i ∈ deps.getD k []) ∧ (∀ i, i < ops.size → tgt i = some j → i = k) := fun k j hk hj => by
    unfold takeB at htake
    rw [List.all_eq_true] at htake
    have h1 := htake k (List.mem_range.2 hk)
    simp only [hj, Bool.and_eq_true, List.contains_iff_mem] at h1
    obtain ⟨⟨h2, h3⟩, h4⟩ := h1
    rw [List.all_eq_true] at h3 h4
    refine ⟨h2, fun i hi hm => ?_, fun i hi hm => ?_⟩
    · have h5 := h3 i (List.mem_range.2 hi)
      simp only [Bool.or_eq_true, Bool.not_eq_true', List.contains_iff_mem, beq_iff_eq] at h5
      rcases h5 with (h5 | h5) | h5
      · have : (deps.getD i []).contains j = true := by simpa using hm
        rw [this] at h5; cases h5
      · exact .inl h5
      · exact .inr h5
    · have h5 := h4 i (List.mem_range.2 hi)
      simp only [Bool.or_eq_true, beq_iff_eq, Bool.not_eq_true', beq_eq_false_iff_ne] at h5
      rcases h5 with h5 | h5
      · exact h5
      · exact absurd hm h5
  intro fuel
  induction fuel with
  | zero =>
    intro listed vals S w hs hc hw hl hdj hcl
    have hr : Region.ready .any ops listed = [] := by
      rw [List.eq_nil_iff_forall_not_mem]
      intro i hi
      have h1 := (mem_ready.1 hi).1
      rcases Nat.lt_or_ge i listed.size with h | h
      · have h2 : listed[i] = false := by simpa [h] using h1
        have h3 : false ∈ listed.toList := by rw [← h2]; simp
        have := List.count_pos_iff.2 h3
        omega
      · simp [Array.getElem?_eq_none h] at h1
    exact ⟨hr, hend listed vals S w hs hw hl hr⟩
  | succ fuel ih =>
    intro listed vals S w hs hc hw hl hdj hcl
    refine ⟨hend listed vals S w hs hw hl, fun i hi => ?_⟩
    obtain ⟨hun, o, ho, hall⟩ := mem_ready.1 hi
    have hlt : i < ops.size := (Array.getElem?_eq_some_iff.1 ho).1
    have hun' : listed.getD i false = false := by
      simpa [hs, hlt] using hun
    have hd : ∀ j ∈ deps.getD i [], listed.getD j false = true := fun j hj => by
      unfold depsB at hdeps
      rw [List.all_eq_true] at hdeps
      have h1 := hdeps i (List.mem_range.2 hlt)
      rw [List.all_eq_true] at h1
      have h2 := h1 j hj
      simp only [ho] at h2
      rw [Array.any_eq_true] at h2
      obtain ⟨ei, hei, h3⟩ := h2
      obtain ⟨e, hee⟩ : ∃ e, o.after[ei] = e := ⟨_, rfl⟩
      rw [hee] at h3
      have he : e ∈ o.after := by rw [← hee]; simp
      simp only [Bool.and_eq_true, Bool.or_eq_true, beq_iff_eq, List.contains_iff_mem] at h3
      rcases h3.2 with h4 | h4
      · rw [← h4]; exact hall e he h3.1
      · exact hcl e.on (hall e he h3.1) j h4
    have hlv : ∀ j ∈ deps.getD i [], live ops.size tgt listed j := fun j hj => ⟨hd j hj, fun k hk hkl htk => by
      rcases (tk k j hk htk).2.1 i hlt hj with h | h
      · subst h; rw [hun'] at hkl; cases hkl
      · have := hcl k hkl i h
        rw [hun'] at this; cases this⟩
    refine wpOp_mono ?_ (step i (List.mem_range.2 hlt) vals S w hw (factsS_of _ fun j hj => (hl j (hlv j hj)).1))
    rintro a' w' ⟨v, rfl, S', hS, hΦ⟩
    have hdi : D[i]? = some o.dst := by rw [← hD]; simp [ho]
    rw [ho, ← hF, Option.bind_some, putD_put D 0 a0 vals i o.dst v hdi hnd, hF, Nat.zero_add]
    have hget : ∀ j, (listed.setIfInBounds i true).getD j false = true → j = i ∨ listed.getD j false = true := fun j hj => by
      by_cases hji : j = i
      · exact .inl hji
      · exact .inr (by simpa [Array.getElem?_setIfInBounds_ne (Ne.symm hji)] using hj)
    have hset : ∀ j, listed.getD j false = true → (listed.setIfInBounds i true).getD j false = true := fun j hj => by
      by_cases hji : j = i
      · subst hji; simp [hs, hlt]
      · simpa [Array.getElem?_setIfInBounds_ne (Ne.symm hji)] using hj
    have hnew : (listed.setIfInBounds i true).getD i false = true := by simp [hs, hlt]
    -- who lives now lived before, or is i
    have hlive : ∀ j, live ops.size tgt (listed.setIfInBounds i true) j → j ≠ i → live ops.size tgt listed j ∧ tgt i ≠ some j := fun j hj hji => by
      refine ⟨⟨?_, fun k hk hkl => hj.2 k hk (hset k hkl)⟩, hj.2 i hlt hnew⟩
      rcases hget j hj.1 with h | h
      · exact absurd h hji
      · exact h
    have hdep : ∀ j, listed.getD j false = true → ∀ k, k = j ∨ k ∈ deps.getD j [] → vals k = upd vals i v k := fun j hj k hk => by
      have : k ≠ i := fun hki => by
        subst hki
        rcases hk with h | h
        · subst h; rw [hun'] at hj; cases hj
        · have := hcl j hj k h; rw [hun'] at this; cases this
      simp [upd, this]
    have hcnt : (listed.setIfInBounds i true).toList.count false ≤ fuel := by
      have hli : listed[i]'(by omega) = false := by simpa [show i < listed.size by omega] using hun
      have h5 : false ∈ listed.toList := by rw [← hli]; simp
      have h6 := List.count_pos_iff.2 h5
      rw [Array.toList_setIfInBounds, List.count_set (by simpa using (by omega : i < listed.size)), show listed.toList[i]'(by simpa using (by omega : i < listed.size)) = false from by simpa using hli]
      rw [show (false == false) = true from rfl, show (true == false) = false from rfl, if_pos rfl, if_neg (by decide)]
      omega
    have hcl' : ∀ j, (listed.setIfInBounds i true).getD j false = true → ∀ k ∈ deps.getD j [], (listed.setIfInBounds i true).getD k false = true := fun j hj k hk => by
      rcases hget j hj with rfl | h4
      · exact hset k (hd k hk)
      · exact hset k (hcl j h4 k hk)
    cases htg : tgt i with
    | none =>
      rw [htg] at hS
      obtain ⟨h1, h2⟩ := hS
      refine ih _ _ (fun j => if j = i then S' else S j) w' (by simpa using hs) hcnt (hw.trans h1) (fun j hj => ?_) (fun j j' k hj hj' hk hk' => ?_) hcl'
      · by_cases hji : j = i
        · subst hji
          refine ⟨by simpa using hΦ, fun k hk => ?_⟩
          simp at hk
          have := h2 k hk
          have := hw.size
          omega
        · have hjl := (hlive j hj hji).1
          have hp := hl j hjl
          simp only [if_neg hji]
          refine ⟨stab j _ _ w w' (fun k _ hk => h1.block k hk) h1.size (cong j _ _ _ _ (hdep j hjl.1) hp.1), fun k hk => ?_⟩
          have := hp.2 k hk
          have := h1.size
          omega
      · by_cases hji : j = i
        · by_cases hji' : j' = i
          · rw [hji, hji']
          · subst hji
            simp only [if_true, if_neg hji'] at hk hk'
            have := h2 k hk
            have := (hl j' (hlive j' hj' hji').1).2 k hk'
            omega
        · by_cases hji' : j' = i
          · subst hji'
            simp only [if_true, if_neg hji] at hk hk'
            have := h2 k hk'
            have := (hl j (hlive j hj hji).1).2 k hk
            omega
          · simp only [if_neg hji, if_neg hji'] at hk hk'
            exact hdj j j' k (hlive j hj hji).1 (hlive j' hj' hji').1 hk hk'
    | some t =>
      rw [htg] at hS
      obtain ⟨rfl, h1, h2, h3, h4, h5⟩ := hS
      have htd := (tk i t hlt htg).1
      have htl := hlv t htd
      have hSt := (hl t htl).2
      have hW' : Ltr W w' := ⟨h2.trans hw.os, h3.trans hw.tape, h4.trans hw.output, by rw [h5]; exact hw.size, fun k hk => (h1 k (fun hs => by have := hSt k hs; omega)).trans (hw.block k hk)⟩
      refine ih _ _ (fun j => if j = i then S t else S j) w' (by simpa using hs) hcnt hW' (fun j hj => ?_) (fun j j' k hj hj' hk hk' => ?_) hcl'
      · by_cases hji : j = i
        · subst hji
          refine ⟨by simpa using hΦ, fun k hk => ?_⟩
          simp at hk
          rw [h5]
          exact hSt k hk
        · obtain ⟨hjl, hjt⟩ := hlive j hj hji
          have hp := hl j hjl
          simp only [if_neg hji]
          refine ⟨stab j _ _ w w' (fun k hk _ => h1 k (fun hs => ?_)) (by rw [h5]; exact Nat.le_refl _) (cong j _ _ _ _ (hdep j hjl.1) hp.1), fun k hk => by rw [h5]; exact hp.2 k hk⟩
          rcases hk with hk | hk
          · have := hdj j t k hjl htl hk hs
            subst this
            exact hjt htg
          · have := hSt k hs
            omega
      · have hne : ∀ j, live ops.size tgt (listed.setIfInBounds i true) j → j ≠ i → j ≠ t := fun j hj hji e => by
          subst e
          exact (hlive j hj hji).2 htg
        by_cases hji : j = i
        · by_cases hji' : j' = i
          · rw [hji, hji']
          · subst hji
            simp only [if_true, if_neg hji'] at hk hk'
            exact absurd (hdj t j' k htl (hlive j' hj' hji').1 hk hk').symm (hne j' hj' hji')
        · by_cases hji' : j' = i
          · subst hji'
            simp only [if_true, if_neg hji] at hk hk'
            exact absurd (hdj j t k (hlive j hj hji).1 htl hk hk') (hne j hj hji)
          · simp only [if_neg hji, if_neg hji'] at hk hk'
            exact hdj j j' k (hlive j hj hji).1 (hlive j' hj' hji').1 hk hk'

/-- **The law with owners.** -/
theorem wp_region_own {id : Nat} {a0 : Act} {w0 : World} (D : List (Option Tmp)) (deps : List (List Nat)) (tgt : Nat → Option Nat) (Φ : Nat → (Nat → Value) → (Nat → Prop) → World → Prop) (F : (Nat → Value) → Act) (hm : P.follows .mixedOrders = true) (hD : ops.toList.map (·.dst) = D) (hnd : dstB D = true) (hback : backB ops = true) (hdeps : depsB ops deps = true) (htake : takeB ops deps tgt = true)
    (hF : ∀ vals, putD a0 D 0 vals = F vals) (cong : ∀ i v u S w, (∀ j, j = i ∨ j ∈ deps.getD i [] → v j = u j) → Φ i v S w → Φ i u S w)
    (stab : ∀ i v S w w', (∀ k, (S k ∨ k < w0.heap.size) → k < w.heap.size → w'.heap[k]? = w.heap[k]?) → w.heap.size ≤ w'.heap.size → Φ i v S w → Φ i v S w')
    (step : StepsS P ops Q F deps tgt Φ w0 (List.range ops.size))
    (fin : ∀ (vals : Nat → Value) (S : Own2) (w : World), Ltr w0 w → (∀ i, i < ops.size → (∀ k, k < ops.size → tgt k ≠ some i) → Φ i vals (S i) w) → Q .normal (F vals) w) : (Code.region id ops true).wp P Q a0 w0 := by
  refine wp_region_any hm ?_
  obtain ⟨v, hv⟩ := putD_init D 0 a0
  rw [← hv, hF]
  refine wpAny_own hD hnd hback hdeps htake cong stab hF step fin ops.size _ v (fun _ _ => False) _ (by simp) ?_ ((Below.refl w0.heap.size w0).drew) (fun i hi => ?_) (fun i j k hi => ?_) (fun i hi => ?_)
  · simp only [Array.toList_replicate]
    exact Nat.le_trans List.count_le_length (by simp)
  · have := hi.1; rw [rep_no] at this; cases this
  · have := hi.1; rw [rep_no] at this; cases this
  · rw [rep_no] at hi; cases hi
end

/-- an operation that makes nothing -/
theorem after_same {Φ : Nat → (Nat → Value) → (Nat → Prop) → World → Prop} {tgt : Nat → Option Nat} {i : Nat} {vals : Nat → Value} {S : Own2} {w w' : World} {v : Value} (ht : tgt i = none) (hw : Ltr w w') (h : Φ i (upd vals i v) (fun _ => False) w') : After tgt Φ i vals S w v w' :=
  ⟨fun _ => False, by rw [ht]; exact ⟨hw, fun k hk => hk.elim⟩, h⟩
theorem after_new {Φ : Nat → (Nat → Value) → (Nat → Prop) → World → Prop} {tgt : Nat → Option Nat} {i : Nat} {vals : Nat → Value} {S : Own2} {w : World} {o : Obj} {v : Value} (ht : tgt i = none) (h : Φ i (upd vals i v) (fun k => k = w.heap.size) (w.alloc o)) : After tgt Φ i vals S w v (w.alloc o) :=
  ⟨fun k => k = w.heap.size, by rw [ht]; exact ⟨(Below.refl _ _).alloc (Nat.le_refl _) _, fun k hk => by subst hk; simp⟩, h⟩

end Go.Proofs.Ytkidcchafdiofaa
