/- One law for a region that draws its order and makes memory: whichever order is drawn, each operation leaves what is said of it. Conditions: none. -/
import Derived.WalkKit
import Derived.RegionTactic
namespace Go.Proofs.YtkbeaddbnnboaaaDoor
open Go Go.RowKit

/-- later: what was there is as it was -/
def Ltr (w w' : World) : Prop := Below w.heap.size w w'
theorem Ltr.refl (w : World) : Ltr w w := Below.refl _ _
theorem Ltr.trans {a b c : World} (h : Ltr a b) (k : Ltr b c) : Ltr a c := Below.trans h (Below.mono k h.size)
theorem Ltr.heap {w w' : World} (h : Ltr w w') {b : Nat} {o : Obj} (hb : w.heap[b]? = some o) : w'.heap[b]? = some o :=
  (h.block b (Array.getElem?_eq_some_iff.1 hb).1).trans hb

/-- what the operations put into their slots -/
def putD (a : Act) : List (Option Tmp) → Nat → (Nat → Value) → Act
  | [], _, _ => a
  | d :: r, k, v => putD (a.put d (v k)) r (k + 1) v
def upd (v : Nat → Value) (i : Nat) (x : Value) : Nat → Value := fun j => if j = i then x else v j
theorem putD_congr : ∀ (D : List (Option Tmp)) (k : Nat) (a : Act) (v u : Nat → Value), (∀ j, k ≤ j → v j = u j) → putD a D k v = putD a D k u
  | [], _, _, _, _, _ => rfl
  | d :: r, k, a, v, u, h => by
    rw [putD, putD, h k (Nat.le_refl _)]
    exact putD_congr r (k + 1) _ v u (fun j hj => h j (by omega))
theorem putD_comm (d : Option Tmp) (x : Value) : ∀ (D : List (Option Tmp)) (k : Nat) (a : Act) (v : Nat → Value), (∀ s, d = some s → some s ∉ D) → (putD a D k v).put d x = putD (a.put d x) D k v
  | [], _, _, _, _ => rfl
  | e :: r, k, a, v, h => by
    rw [putD, putD, putD_comm d x r (k + 1) _ v (fun s hs hm => h s hs (List.mem_cons_of_mem _ hm)), Act.put_comm]
    intro s he hd
    exact h s hd (by rw [he]; exact List.mem_cons_self)
def dstB : List (Option Tmp) → Bool
  | [] => true
  | none :: r => dstB r
  | some s :: r => !(r.contains (some s)) && dstB r
theorem put_put (a : Act) (d : Option Tmp) (x y : Value) : (a.put d x).put d y = a.put d y := by
  cases d <;> simp [Act.put]
theorem putD_put : ∀ (D : List (Option Tmp)) (k : Nat) (a : Act) (v : Nat → Value) (i : Nat) (d : Option Tmp) (x : Value), D[i]? = some d → dstB D = true → (putD a D k v).put d x = putD a D k (upd v (k + i) x)
  | [], _, _, _, _, _, _, h, _ => by simp at h
  | e :: r, k, a, v, 0, d, x, h, hd => by
    simp at h
    subst h
    have hn : ∀ s, e = some s → some s ∉ r := fun s hs => by
      subst hs
      simp [dstB] at hd
      exact hd.1
    rw [putD, putD, putD_comm e x r (k + 1) _ v hn, put_put, show k + 0 = k from rfl, show upd v k x k = x from by simp [upd]]
    exact putD_congr r (k + 1) _ _ _ (fun j hj => by simp [upd, show j ≠ k from by omega])
  | e :: r, k, a, v, i + 1, d, x, h, hd => by
    have hd' : dstB r = true := by
      cases e with
      | none => exact hd
      | some s => simp [dstB] at hd; exact hd.2
    rw [putD, putD, putD_put r (k + 1) _ v i d x (by simpa using h) hd']
    have : upd v (k + (i + 1)) x k = v k := by simp [upd]
    rw [this, show k + (i + 1) = k + 1 + i from by omega]
def getP (a : Act) : Option Tmp → Value
  | some s => a.tmps.getD s undef
  | none => undef
theorem put_getP (a : Act) (d : Option Tmp) : a.put d (getP a d) = a := by
  cases d with
  | none => rfl
  | some s =>
    obtain ⟨t, df⟩ := a
    simp only [Act.put, getP, Act.mk.injEq, and_true]
    apply Array.ext
    · simp
    · intro j h1 h2
      rw [Array.getElem_setIfInBounds]
      split
      · rename_i hs; subst hs; simp [h2]
      · rfl
theorem putD_init : ∀ (D : List (Option Tmp)) (k : Nat) (a : Act), ∃ v : Nat → Value, putD a D k v = a
  | [], _, _ => ⟨fun _ => undef, rfl⟩
  | d :: r, k, a => by
    obtain ⟨v, hv⟩ := putD_init r (k + 1) a
    refine ⟨upd v k (getP a d), ?_⟩
    rw [putD, show upd v k (getP a d) k = getP a d from by simp [upd], put_getP, putD_congr r (k + 1) a _ v (fun j hj => by simp [upd, show j ≠ k from by omega])]
    exact hv
theorem rep_no (n i : Nat) : (Array.replicate n false).getD i false = false := by
  rw [Array.getD_eq_getD_getElem?, Array.getElem?_replicate]
  split <;> rfl

section
variable {P : Program} {ops : Array Oper} {Q : Exit → Act → World → Prop}

def backB (ops : Array Oper) : Bool := (List.range ops.size).all fun i => match ops[i]? with
  | some o => o.after.all fun e => !Region.binds .any e || decide (e.on < i)
  | none => true
def depsB (ops : Array Oper) (deps : List (List Nat)) : Bool := (List.range ops.size).all fun i => (deps.getD i []).all fun j => match ops[i]? with
  | some o => o.after.any fun e => Region.binds .any e && (e.on == j || (deps.getD e.on []).contains j)
  | none => false
def Facts (Φ : Nat → Value → World → Prop) (vals : Nat → Value) (w : World) : List Nat → Prop
  | [] => True
  | j :: r => Φ j (vals j) w ∧ Facts Φ vals w r
theorem facts_of {Φ : Nat → Value → World → Prop} {vals : Nat → Value} {w : World} : ∀ l : List Nat, (∀ j ∈ l, Φ j (vals j) w) → Facts Φ vals w l
  | [], _ => trivial
  | j :: r, h => ⟨h j List.mem_cons_self, facts_of r fun k hk => h k (List.mem_cons_of_mem _ hk)⟩
/-- what is asked of the operations of a list -/
def StepsD (P : Program) (ops : Array Oper) (Q : Exit → Act → World → Prop) (F : (Nat → Value) → Act) (deps : List (List Nat)) (Φ : Nat → Value → World → Prop) (W : World) (l : List Nat) : Prop :=
  ∀ i ∈ l, ∀ vals w, Ltr W w → Facts Φ vals w (deps.getD i []) → wpOp P ops Q i (fun a' w' => ∃ v, a' = (F vals).put ((ops[i]?).bind (·.dst)) v ∧ Ltr w w' ∧ Φ i v w') (F vals) w

theorem stepsD_nil {F : (Nat → Value) → Act} {deps : List (List Nat)} {Φ : Nat → Value → World → Prop} {W : World} : StepsD P ops Q F deps Φ W [] := fun _ h => by cases h
theorem stepsD_cons {F : (Nat → Value) → Act} {deps : List (List Nat)} {Φ : Nat → Value → World → Prop} {W : World} {i : Nat} {o : Oper} {r : List Nat} (ho : ops[i]? = some o)
    (h : ∀ vals w, Ltr W w → Facts Φ vals w (deps.getD i []) → ∀ K : Act → World → Prop, (∀ v w', Ltr w w' → Φ i v w' → K ((F vals).put o.dst v) w') → if Region.wanted o (yielded ops (F vals).tmps) = true then Oper.wp P o (F vals) w K Q else K ((F vals).put o.dst undef) w)
    (hr : StepsD P ops Q F deps Φ W r) : StepsD P ops Q F deps Φ W (i :: r) := fun j hj => by
  rcases List.mem_cons.1 hj with rfl | hj
  · intro vals w hw hf
    refine wpOp_step ho fun K hK => h vals w hw hf K fun v w' h1 h2 => hK _ _ ⟨v, by rw [ho]; rfl, h1, h2⟩
  · exact hr j hj

theorem all_listed (hb : backB ops = true) {listed : Array Bool} (hs : listed.size = ops.size) (hr : Region.ready .any ops listed = []) : ∀ i, i < ops.size → listed.getD i false = true := by
  intro i
  induction i using Nat.strongRecOn with
  | ind i ih =>
    intro hi
    cases hl : listed.getD i false with
    | true => rfl
    | false =>
      exfalso
      have hm : i ∈ Region.ready .any ops listed := by
        rw [mem_ready]
        refine ⟨by simpa [hs, hi] using hl, ops[i], by simp [hi], fun e he hbd => ?_⟩
        unfold backB at hb
        rw [List.all_eq_true] at hb
        have h1 := hb i (List.mem_range.2 hi)
        simp only [Array.getElem?_eq_getElem hi] at h1
        rw [Array.all_eq_true_iff_forall_mem] at h1
        have h2 := h1 e he
        rw [hbd] at h2
        simp at h2
        exact ih e.on h2 (by omega)
      rw [hr] at hm
      cases hm

theorem wpAny_inv {D : List (Option Tmp)} {deps : List (List Nat)} {Φ : Nat → Value → World → Prop} {a0 : Act} {W : World} {F : (Nat → Value) → Act} (hD : ops.toList.map (·.dst) = D) (hnd : dstB D = true) (hback : backB ops = true) (hdeps : depsB ops deps = true)
    (mono : ∀ i v w w', Ltr w w' → Φ i v w → Φ i v w') (hF : ∀ vals, putD a0 D 0 vals = F vals) (step : StepsD P ops Q F deps Φ W (List.range ops.size))
    (fin : ∀ vals w, Ltr W w → (∀ i, i < ops.size → Φ i (vals i) w) → Q .normal (F vals) w) :
    ∀ (fuel : Nat) (listed : Array Bool) (vals : Nat → Value) (w : World), listed.size = ops.size → listed.toList.count false ≤ fuel → Ltr W w → (∀ i, listed.getD i false = true → Φ i (vals i) w) → (∀ i, listed.getD i false = true → ∀ j ∈ deps.getD i [], listed.getD j false = true) →
      wpAny P .any ops Q fuel listed (F vals) w := by
  have hend : ∀ (listed : Array Bool) (vals : Nat → Value) (w : World), listed.size = ops.size → Ltr W w → (∀ i, listed.getD i false = true → Φ i (vals i) w) → Region.ready .any ops listed = [] → Q .normal (F vals) w := fun listed vals w hs hw hl hr =>
    fin vals w hw fun i hi => hl i (all_listed hback hs hr i hi)
  intro fuel
  induction fuel with
  | zero =>
    intro listed vals w hs hc hw hl hcl
    have hr : Region.ready .any ops listed = [] := by
      rw [List.eq_nil_iff_forall_not_mem]
      intro i hi
      have h1 := (mem_ready.1 hi).1
      rcases Nat.lt_or_ge i listed.size with h | h
      · have h2 : listed[i] = false := by simpa [h] using h1
        have h3 : false ∈ listed.toList := by rw [← h2]; simp
        have := List.count_pos_iff.2 h3
        omega
      · simp [Array.getElem?_eq_none h] at h1
    exact ⟨hr, hend listed vals w hs hw hl hr⟩
  | succ fuel ih =>
    intro listed vals w hs hc hw hl hcl
    refine ⟨hend listed vals w hs hw hl, fun i hi => ?_⟩
    obtain ⟨hun, o, ho, hall⟩ := mem_ready.1 hi
    have hlt : i < ops.size := (Array.getElem?_eq_some_iff.1 ho).1
    have hd : ∀ j ∈ deps.getD i [], listed.getD j false = true := fun j hj => by
      unfold depsB at hdeps
      rw [List.all_eq_true] at hdeps
      have h1 := hdeps i (List.mem_range.2 hlt)
      rw [List.all_eq_true] at h1
      have h2 := h1 j hj
      simp only [ho] at h2
      rw [Array.any_eq_true] at h2
      obtain ⟨ei, hei, h3⟩ := h2
      obtain ⟨e, hee⟩ : ∃ e, o.after[ei] = e := ⟨_, rfl⟩
      rw [hee] at h3
      have he : e ∈ o.after := by rw [← hee]; simp
      simp only [Bool.and_eq_true, Bool.or_eq_true, beq_iff_eq, List.contains_iff_mem] at h3
      rcases h3.2 with h4 | h4
      · rw [← h4]; exact hall e he h3.1
      · exact hcl e.on (hall e he h3.1) j h4
    refine wpOp_mono ?_ (step i (List.mem_range.2 hlt) vals w hw (facts_of _ fun j hj => hl j (hd j hj)))
    rintro a' w' ⟨v, rfl, h1, h2⟩
    have hdi : D[i]? = some o.dst := by rw [← hD]; simp [ho]
    rw [ho, ← hF, Option.bind_some, putD_put D 0 a0 vals i o.dst v hdi hnd, hF, Nat.zero_add]
    have hget : ∀ j, (listed.setIfInBounds i true).getD j false = true → j = i ∨ listed.getD j false = true := fun j hj => by
      by_cases hji : j = i
      · exact .inl hji
      · exact .inr (by simpa [Array.getElem?_setIfInBounds_ne (Ne.symm hji)] using hj)
    have hset : ∀ j, listed.getD j false = true → (listed.setIfInBounds i true).getD j false = true := fun j hj => by
      by_cases hji : j = i
      · subst hji; simp [hs, hlt]
      · simpa [Array.getElem?_setIfInBounds_ne (Ne.symm hji)] using hj
    refine ih _ _ w' (by simpa using hs) ?_ (hw.trans h1) (fun j hj => ?_) (fun j hj k hk => ?_)
    · have hli : listed[i]'(by omega) = false := by simpa [show i < listed.size by omega] using hun
      have h5 : false ∈ listed.toList := by rw [← hli]; simp
      have h6 := List.count_pos_iff.2 h5
      rw [Array.toList_setIfInBounds, List.count_set (by simpa using (by omega : i < listed.size)), show listed.toList[i]'(by simpa using (by omega : i < listed.size)) = false from by simpa using hli]
      rw [show (false == false) = true from rfl, show (true == false) = false from rfl, if_pos rfl, if_neg (by decide)]
      omega
    · rcases hget j hj with rfl | h4
      · simpa [upd] using h2
      · by_cases hji : j = i
        · subst hji; simpa [upd] using h2
        · simp only [upd, if_neg hji]
          exact mono _ _ _ _ h1 (hl j h4)
    · rcases hget j hj with rfl | h4
      · exact hset k (hd k hk)
      · exact hset k (hcl j h4 k hk)

/-- **The law.** Φ says of each operation what its value is, in the world as it is behind it and ever after; deps: the operations whose words it may lean on (they come ahead of it by the region's edges). -/
theorem wp_region_inv {id : Nat} {a0 : Act} {w0 : World} (D : List (Option Tmp)) (deps : List (List Nat)) (Φ : Nat → Value → World → Prop) (F : (Nat → Value) → Act) (hm : P.follows .mixedOrders = true) (hD : ops.toList.map (·.dst) = D) (hnd : dstB D = true) (hback : backB ops = true) (hdeps : depsB ops deps = true)
    (hF : ∀ vals, putD a0 D 0 vals = F vals) (mono : ∀ i v w w', Ltr w w' → Φ i v w → Φ i v w') (step : StepsD P ops Q F deps Φ w0 (List.range ops.size))
    (fin : ∀ vals w, Ltr w0 w → (∀ i, i < ops.size → Φ i (vals i) w) → Q .normal (F vals) w) : (Code.region id ops true).wp P Q a0 w0 := by
  refine wp_region_any hm ?_
  obtain ⟨v, hv⟩ := putD_init D 0 a0
  rw [← hv, hF]
  refine wpAny_inv hD hnd hback hdeps mono hF step fin ops.size _ v _ (by simp) ?_ ((Below.refl w0.heap.size w0).drew) (fun i hi => ?_) (fun i hi => ?_)
  · simp only [Array.toList_replicate]
    exact Nat.le_trans List.count_le_length (by simp)
  · rw [rep_no] at hi; cases hi
  · rw [rep_no] at hi; cases hi
end

end Go.Proofs.YtkbeaddbnnboaaaDoor
