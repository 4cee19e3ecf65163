/- term.Vars: a contract. Conditions: memory holds the term; it has at most 800000 parts; each N is a whole number of 64 bits. -/
import Derived.Test.YtkidcchafdiofaaTermP
namespace Go.Proofs.Ytkidcchafdiofaa
open Go Go.RowKit Go.Maps
open Go.WideMaps Go.WideElems

theorem meetV_len (vs : List Int) (t : AT) : (meetV vs t).length ≤ vs.length + 1 := by
  unfold meetV
  split
  · simp
  · omega
theorem varsL_len (L : List Nd) : (varsL L).length ≤ L.length := by
  unfold varsL
  have h : ∀ (l : List AT) (vs : List Int), (l.foldl meetV vs).length ≤ vs.length + l.length := by
    intro l
    induction l with
    | nil => intro vs; simp
    | cons t r ih =>
      intro vs
      rw [List.foldl_cons]
      have h1 := ih (meetV vs t)
      have h2 := meetV_len vs t
      rw [List.length_cons]
      omega
  simpa using h (L.map Nd.t) []

def VarsS (q bm : Nat) (L : List Nd) (i : Nat) (w : World) (F : Nat → Prop) : Prop :=
  ∃ v, (∀ j, F j ↔ (j = q ∨ j = bm ∨ v.ownBlock = some j)) ∧ VarsAt w q bm v (varsL (L.take i))
theorem varsS_own {q bm H0 : Nat} {L : List Nd} : Own H0 (VarsS q bm L) where
  lt := fun i w F h j hj => by
    obtain ⟨v, h1, h2⟩ := h
    obtain ⟨l1, l2, l3⟩ := vars_lt h2
    rcases (h1 j).1 hj with rfl | rfl | h
    · exact l1
    · exact l2
    · exact l3 j h
  stay := fun i w w' F h _ hj => by
    obtain ⟨v, h1, h2⟩ := h
    exact ⟨v, h1, vars_same h2 (fun k hk => hj k (.inl ((h1 k).2 hk)))⟩
theorem meet_any (q bm B o : Nat) (v dv : Value) (vs : List Int) (t : AT) (w : World) (h : VarsAt w q bm v vs) (h0 : w.cell? ⟨B, o, none⟩ = some (.int .i64 t.k)) (h1 : w.cell? ⟨B, o + 1, none⟩ = some (.int .i64 t.n)) (hr : R64 t.n) (hlen : vs.length ≤ 900000) (hB : B ≠ bm) :
    Calls Try.prog 38 #[.pointer (some ⟨q, 0, none⟩), .pointer (some ⟨B, o, none⟩), dv] w (MeetPost w q bm v vs t) := by
  by_cases hm : t.k = 1 ∧ t.n ∉ vs
  · exact meet_new q bm B o v dv vs t w h h0 h1 hr hm.1 hm.2 hlen hB
  · refine meet_old q bm B o v dv vs t w h h0 h1 hr ?_
    by_cases hk : t.k = 1
    · right
      by_cases hn : t.n ∈ vs
      · exact hn
      · exact absurd ⟨hk, hn⟩ hm
    · exact .inl hk
theorem meet_cb {q bm : Nat} {L : List Nd} (hl : L.length ≤ 800000) (hr : ∀ x ∈ L, R64 x.t.n) : ∀ i w F x, VarsS q bm L i w F → (∀ y ∈ L, FullOk w y ∧ ¬ F y.B) → L[i]? = some x → Calls Try.prog 38 #[.pointer (some ⟨q, 0, none⟩), .pointer (some ⟨x.B, x.o, none⟩), .int .i64 x.d] w (CBPost (VarsS q bm L) (fun _ => true) i w F) := by
  rintro i w F x ⟨v, h1, h2⟩ hf hx
  have hxm := List.mem_of_getElem? hx
  have hlen := varsL_len (L.take i)
  have hlt : (L.take i).length ≤ L.length := by rw [List.length_take]; omega
  refine (meet_any q bm x.B x.o v _ _ x.t w h2 (hf x hxm).1.1.2.1 (hf x hxm).1.1.2.2.1 (hr x hxm) (by omega) (fun h => (hf x hxm).2 ((h1 _).2 (.inr (.inl h))))).mono ?_
  rintro e w' ⟨rfl, v', a1, a2, a3⟩
  refine ⟨rfl, fun j => j = q ∨ j = bm ∨ v'.ownBlock = some j, ⟨v', fun j => Iff.rfl, ?_⟩, a3.wide (fun j hj => .inl ((h1 j).2 hj)), fun j hj => ?_⟩
  · rw [varsL_succ hx]; exact a1
  · rcases hj with rfl | rfl | h
    · exact .inl ((h1 _).2 (.inl rfl))
    · exact .inl ((h1 _).2 (.inr (.inl rfl)))
    · rcases a2 j h with h | h
      · exact .inl ((h1 _).2 (.inr (.inr h)))
      · exact .inr h

/-- all variables of a term, as they come -/
def varsT (t : AT) : List Int := (t :: t.parts).foldl meetV []
theorem varsL_arg (b : Nat) (t : AT) : varsL (argL b t) = varsT t := by
  unfold varsL varsT
  rw [argL_is, List.map_cons, AT.flat_parts]
/-- the memory that Vars lays ahead of its way -/
def varsW (t : AT) (w : World) : World :=
  (((w.alloc (.cells #[.int .i64 t.k, .int .i64 t.n, .string t.s, t.sv] 27)).alloc (.map #[] 0)).alloc (.cells #[.slice none 0 0, .map (some (w.heap.size + 1))] 59)).alloc (.cells #[.int .i64 t.k, .int .i64 t.n, .string t.s, t.sv] 27)
theorem vars_start (w : World) (o1 o4 : Obj) : VarsAt ((((w.alloc o1).alloc (.map #[] 0)).alloc (.cells #[.slice none 0 0, .map (some (w.heap.size + 1))] 59)).alloc o4) (w.heap.size + 1 + 1) (w.heap.size + 1) (.slice none 0 0) [] := by
  have h1 := World.ownsMap_made (w.alloc o1) Try.prog 2 (plainElem (H := Unit) Try.prog 2)
  have hs : (w.alloc o1).heap.size = w.heap.size + 1 := by simp
  rw [hs] at h1
  obtain ⟨es, clock, hb, r⟩ := h1
  refine ⟨.map [], ?_, ⟨es, clock, ?_, r⟩, mapIs_nil, ⟨rfl, .inl ⟨rfl, rfl⟩⟩, by omega, by simp [Value.ownBlock], by simp [Value.ownBlock]⟩
  · rw [Below.heap_alloc _ _ _ (by simp)]
    exact new_at _ _ (by simp)
  · rw [Below.heap_alloc _ _ _ (by simp <;> omega), Below.heap_alloc _ _ _ (by simp)]
    exact hb
def VarsDone (w : World) (q : Nat) (vs : List Int) (e : Ending) (w' : World) : Prop := e = .returned (.tuple #[]) ∧ ∃ v bm, VarsAt w' q bm v vs ∧ Below w.heap.size w w' ∧ ∀ k, v.ownBlock = some k → w.heap.size ≤ k
theorem vars_arg (t : AT) (w : World) (hm : t.mem w) (hn : t.nodes ≤ 800000) (hr : ∀ u ∈ t :: t.parts, R64 u.n) :
    Calls Try.prog 33 #[.func (.func 38) #[.pointer (some ⟨w.heap.size + 1 + 1, 0, none⟩)] #[], .slice (some ⟨w.heap.size + 1 + 1 + 1, 0, none⟩) 1 1] (varsW t w) (VarsDone w (w.heap.size + 1 + 1) (varsT t)) := by
  have hsz : (varsW t w).heap.size = w.heap.size + 4 := by simp [varsW]
  have hB : Below w.heap.size w (varsW t w) := by
    refine ((((Below.refl _ _).alloc (Nat.le_refl _) _).alloc ?_ _).alloc ?_ _).alloc ?_ _
    all_goals
      simp
      try omega
  have h3 : (varsW t w).heap[w.heap.size + 1 + 1 + 1]? = some (.cells #[.int .i64 t.k, .int .i64 t.n, .string t.s, t.sv] 27 (0, 0)) := new_at _ _ (by simp)
  have hlen := argL_len (w.heap.size + 1 + 1 + 1) t
  have hrr : ∀ x ∈ argL (w.heap.size + 1 + 1 + 1) t, R64 x.t.n := fun x hx => by
    have : x.t ∈ (argL (w.heap.size + 1 + 1 + 1) t).map Nd.t := List.mem_map.2 ⟨x, hx, rfl⟩
    rw [argL_is, List.map_cons, AT.flat_parts] at this
    exact hr _ this
  refine (through_arg _ (.inr (.inr (.inl rfl))) _ t _ w (varsW t w) (VarsS (w.heap.size + 1 + 1) (w.heap.size + 1) (argL (w.heap.size + 1 + 1 + 1) t)) (fun _ => true) (fun j => j = w.heap.size + 1 + 1 ∨ j = w.heap.size + 1 ∨ (Value.slice none 0 0).ownBlock = some j) hm hn hB h3 (fun j hj => ?_) ?_ varsS_own
    (fun i w2 F x hs hf _ _ hx => meet_cb (by omega) hrr i w2 F x hs hf hx) ⟨.slice none 0 0, fun j => Iff.rfl, vars_start w _ _⟩).mono ?_
  · simp [Value.ownBlock] at hj; omega
  · simp [Value.ownBlock]
    omega
  · rintro e w' ⟨rfl, n, F, a1, a2, a3, a4, a5, a6⟩
    have hnm : n = t.nodes := by
      rcases Nat.lt_or_ge n t.nodes with h | h
      · have := (a3 h).2; cases this
      · omega
    subst hnm
    obtain ⟨_, _, v, s1, s2⟩ := a4
    rw [List.take_of_length_le (by omega), varsL_arg] at s2
    refine ⟨rfl, v, _, s2, hB.trans (a5.below (fun j hj => ?_) hB.size), fun k hk => ?_⟩
    · simp [Value.ownBlock] at hj; omega
    · have := a6 k ((s1 k).2 (.inr (.inr hk)))
      simp [Value.ownBlock] at this
      omega

def VarsPost (w : World) (vs : List Int) (e : Ending) (w' : World) : Prop :=
  ∃ v, e = .returned v ∧ w'.ownsRow 0 2 1 v vs.length (vs.map (Value.int .i64)) ∧ Below w.heap.size w w' ∧ ∀ k, v.ownBlock = some k → w.heap.size ≤ k
set_option maxRecDepth 100000 in
set_option maxHeartbeats 800000 in
theorem vars_is (t : AT) (w : World) (hm : t.mem w) (hn : t.nodes ≤ 800000) (hr : ∀ u ∈ t :: t.parts, R64 u.n) :
    Calls Try.prog 19 #[.agg #[.int .i64 t.k, .int .i64 t.n, .string t.s, t.sv]] w (VarsPost w (varsT t)) := by
  have T := vars_arg t w hm hn hr
  unfold varsW at T
  have HT := Lib.hid T
  clear T hm hr
  have hmf : ∀ (fn : Fn) (first cap : Array Value) (w : World), (Instr.makeFunc fn first cap).run Try.prog w = .ok (.func fn first cap) w := fun _ _ _ _ => rfl
  have hmm := @run_makeMap Try.prog
  go_enter Try.func19, Try.ntmps19
  go_wp2_with fail
  refine HT.out.mono ?_
  rintro e w' ⟨rfl, v, bm, ⟨D, a1, a2, a3, a4, a5⟩, b1, b2⟩
  have c0 : w'.cell? ⟨w.heap.size + 1 + 1, 0, none⟩ = some v := cell_of_heap a1 rfl
  have HE := Lib.hid (And.intro a4 (And.intro b1 b2))
  clear a1 a2 a3 a4 a5 b1 b2 HT
  go_wp2
  go_ret
  exact ⟨v, rfl, HE.out⟩

end Go.Proofs.Ytkidcchafdiofaa
