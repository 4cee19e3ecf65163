/- term.through: the parts of terms are handed to what was found, from the left, as long as that says so. Conditions: what the callee keeps (CB); at most 900000 parts. -/
import Derived.Test.YtkidcchafdiofaaTermD
namespace Go.Proofs.Ytkidcchafdiofaa
open Go Go.RowKit

def NextG0 (w : World) (q : Nat) (T : TypeId) (tl : List Value) (g : Nat) (e : Ending) (w' : World) : Prop :=
  e = .returned (.pointer none) ∧ WayAt w' q T tl g [] ∧ Keeps (fun j => j = q ∨ j = g) w w'
def NextG1 (w : World) (q : Nat) (T : TypeId) (tl : List Value) (g : Nat) (f : GF) (r : List GF) (e : Ending) (w' : World) : Prop :=
  e = .returned (.pointer (some ⟨f.t.G, f.t.off + f.k * 4, none⟩)) ∧ ∃ g', (g' = g ∨ w.heap.size ≤ g') ∧ WayAt w' q T tl g' (⟨f.t.G, f.t.off + f.k * 4, 0⟩ :: ⟨f.B, f.o, f.k + 1⟩ :: r.map GF.st) ∧ Keeps (fun j => j = q ∨ j = g) w w'
/-- what the next part wants of the memory -/
structure NextOk (w : World) (q : Nat) (T : TypeId) (tl : List Value) (g : Nat) (σ : List GF) : Prop where
  way : WayAt w q T tl g (σ.map GF.st)
  ok : ∀ f ∈ σ, w.cell? ⟨f.B, f.o + 3, none⟩ = some f.t.sv ∧ SvOk f.t.sv f.t.G f.t.off f.t.l.length
  sep : ∀ f ∈ σ, f.B ≠ q ∧ f.B ≠ g
  len : σ.length ≤ 1000000
  k : ∀ f ∈ σ, f.k ≤ 1000000000 ∧ f.t.l.length ≤ 1000000000
theorem NextOk.call {w : World} {q : Nat} {T : TypeId} {tl : List Value} {g : Nat} {σ : List GF} (h : NextOk w q T tl g σ) :
    Calls Try.prog 47 #[.pointer (some ⟨q, 0, none⟩)] w (NextPost w q T tl g (σ.map GF.rf)) := by
  refine next_is q T tl g (σ.map GF.rf) w ?_ ?_ ?_ (by simpa using h.len) ?_
  · rw [List.map_map]; exact h.way
  all_goals
    intro f hf
    obtain ⟨e, he, rfl⟩ := List.mem_map.1 hf
  · exact h.ok e he
  · exact h.sep e he
  · exact h.k e he
theorem NextOk.end0 {w : World} {q : Nat} {T : TypeId} {tl : List Value} {g : Nat} {σ : List GF} (h : NextOk w q T tl g σ) (hp : gpop σ = []) :
    Calls Try.prog 47 #[.pointer (some ⟨q, 0, none⟩)] w (NextG0 w q T tl g) := h.call.mono fun e w' hn => by
  unfold NextPost at hn
  rw [popped_map, hp] at hn
  exact hn
theorem NextOk.one {w : World} {q : Nat} {T : TypeId} {tl : List Value} {g : Nat} {σ r : List GF} {f : GF} (h : NextOk w q T tl g σ) (hp : gpop σ = f :: r) :
    Calls Try.prog 47 #[.pointer (some ⟨q, 0, none⟩)] w (NextG1 w q T tl g f r) := h.call.mono fun e w' hn => by
  unfold NextPost at hn
  rw [popped_map, hp] at hn
  obtain ⟨h1, g', h2, h3, h4⟩ := hn
  refine ⟨h1, g', h2, ?_, h4⟩
  rw [List.map_map] at h3
  exact h3

def CBPost (Inv : Nat → World → (Nat → Prop) → Prop) (go : Nat → Bool) (i : Nat) (w : World) (F : Nat → Prop) (e : Ending) (w' : World) : Prop :=
  e = .returned (.bool (go i)) ∧ ∃ F', Inv (i + 1) w' F' ∧ Keeps F w w' ∧ ∀ j, F' j → F j ∨ w.heap.size ≤ j
/-- what the callee keeps, call by call, and what it says -/
structure CB (K : Nat) (pv : Value) (L : List Nd) (H0 : Nat) (Inv : Nat → World → (Nat → Prop) → Prop) (go : Nat → Bool) : Prop where
  lt : ∀ i w F, Inv i w F → ∀ j, F j → j < w.heap.size
  ok : ∀ i w F, Inv i w F → ∀ x ∈ L, NdOk w x ∧ x.B < H0
  stay : ∀ i w w' F G, Inv i w F → Keeps G w w' → (∀ j, G j → ¬ F j ∧ H0 ≤ j) → Inv i w' F
  call : ∀ i w F x, Inv i w F → (∀ j, j < i → go j = true) → L[i]? = some x → Calls Try.prog K #[pv, .pointer (some ⟨x.B, x.o, none⟩), .int .i64 x.d] w (CBPost Inv go i w F)

def ThroughPost (w0 : World) (Inv : Nat → World → (Nat → Prop) → Prop) (go : Nat → Bool) (m : Nat) (F0 : Nat → Prop) (e : Ending) (w' : World) : Prop :=
  e = .returned (.tuple #[]) ∧ ∃ n F, n ≤ m ∧ (∀ j, j + 1 < n → go j = true) ∧ (n < m → 0 < n ∧ go (n - 1) = false) ∧ Inv n w' F ∧ Keeps F0 w0 w' ∧ ∀ j, F j → F0 j ∨ w0.heap.size ≤ j

/-- what holds ahead of each part -/
def TI (w0 : World) (L : List Nd) (t0 : AT) (Inv : Nat → World → (Nat → Prop) → Prop) (go : Nat → Bool) (F0 : Nat → Prop) (i : Nat) (w : World) : Prop :=
  ∃ (σ : List GF) (g : Nat) (F : Nat → Prop), Steps L w0.heap.size t0 σ ∧ WayAt w (w0.heap.size + 1 + 1) 62 [] g (σ.map GF.st) ∧ todo σ = L.drop i ∧ i ≤ L.length ∧ Inv i w F ∧ (∀ j, j < i → go j = true) ∧
    (∀ j, F j → j ≠ w0.heap.size ∧ j ≠ g ∧ j ≠ w0.heap.size + 1 + 1) ∧ w0.heap.size < g ∧ w.heap[w0.heap.size]? = some (.cells #[.int .i64 0, .int .i64 0, .string ⟨#[]⟩, t0.sv] 27 (0, 0)) ∧ Keeps F0 w0 w ∧ ∀ j, F j → F0 j ∨ w0.heap.size ≤ j

theorem TI.next {w0 w : World} {L : List Nd} {t0 : AT} {Inv : Nat → World → (Nat → Prop) → Prop} {go : Nat → Bool} {i K : Nat} {pv : Value} (hcb : CB K pv L w0.heap.size Inv go) (hsv : SvOk t0.sv t0.G t0.off t0.l.length) (hL : L = ATs.flat t0.G 1 t0.l t0.off) (hlen : ATs.nodes t0.l ≤ 900000)
    {σ : List GF} {g : Nat} {F : Nat → Prop} (h1 : Steps L w0.heap.size t0 σ) (h2 : WayAt w (w0.heap.size + 1 + 1) 62 [] g (σ.map GF.st)) (h5 : Inv i w F) (h8 : w0.heap.size < g) (h9 : w.heap[w0.heap.size]? = some (.cells #[.int .i64 0, .int .i64 0, .string ⟨#[]⟩, t0.sv] 27 (0, 0))) :
    NextOk w (w0.heap.size + 1 + 1) 62 [] g σ := by
  have hnd := hcb.ok i w F h5
  have hbd : ∀ f ∈ σ, f.t.nodes ≤ ATs.nodes t0.l + 1 := fun f hf => by
    rcases (h1.mem f hf).2 with ⟨_, _, h⟩ | ⟨d, hd⟩
    · rw [h, AT.nodes_mk]; omega
    · have hx := hd
      rw [hL] at hx
      have := ATs.flat_nodes t0.l 1 t0.off t0.G _ hx
      simp only at this
      omega
  refine ⟨h2, fun f hf => ?_, fun f hf => ?_, ?_, fun f hf => ?_⟩
  · rcases (h1.mem f hf).2 with ⟨hB, ho, ht⟩ | ⟨d, hd⟩
    · rw [hB, ho, ht]
      exact ⟨cell_of_heap h9 rfl, hsv⟩
    · exact (hnd _ hd).1.2
  · rcases (h1.mem f hf).2 with ⟨hB, ho, ht⟩ | ⟨d, hd⟩
    · exact ⟨by omega, by omega⟩
    · have := (hnd _ hd).2
      simp only at this
      exact ⟨by omega, by omega⟩
  · have := h1.len (m := 0) (N := 900001) (fun e he => ⟨nodes_pos _, by have := hbd e he; omega⟩) (by omega)
    omega
  · have h3 := (h1.mem f hf).1
    have h4 := hbd f hf
    rw [AT.nodes_mk] at h4
    have h6 := len_nodes f.t.l
    exact ⟨by omega, by omega⟩
theorem TI.apart {w0 w : World} {L : List Nd} {t0 : AT} {Inv : Nat → World → (Nat → Prop) → Prop} {go : Nat → Bool} {i K : Nat} {pv : Value} (hcb : CB K pv L w0.heap.size Inv go) (hL : L = ATs.flat t0.G 1 t0.l t0.off)
    {σ : List GF} {f : GF} {F : Nat → Prop} (h1 : Steps L w0.heap.size t0 (f :: σ)) (h5 : Inv i w F) (h9 : w.heap[w0.heap.size]? = some (.cells #[.int .i64 0, .int .i64 0, .string ⟨#[]⟩, t0.sv] 27 (0, 0))) :
    (∀ e ∈ σ, ¬ (e.B = f.B ∧ e.o = f.o)) ∧ ∀ e ∈ f :: σ, Plain w e.B := by
  have hnd := hcb.ok i w F h5
  refine ⟨h1.apart (fun x hx => (hnd x hx).1) (by rw [hL]; exact ATs.closed _ _ _ _) (fun x hx => by have := (hnd x hx).2; omega), fun e he => ?_⟩
  rcases (h1.mem e he).2 with ⟨hB, ho, ht⟩ | ⟨d, hd⟩
  · rw [hB]; exact ⟨_, _, h9⟩
  · exact (hnd _ hd).1.1

theorem TI.start {w0 : World} {L : List Nd} {t0 : AT} {Inv : Nat → World → (Nat → Prop) → Prop} {go : Nat → Bool} {F0 : Nat → Prop} {K : Nat} {pv : Value} (h0 : Inv 0 w0 F0) (hcb : CB K pv L w0.heap.size Inv go) (_hsv : SvOk t0.sv t0.G t0.off t0.l.length) (hL : L = ATs.flat t0.G 1 t0.l t0.off) :
    TI w0 L t0 Inv go F0 0 (((w0.alloc (.cells #[.int .i64 0, .int .i64 0, .string ⟨#[]⟩, t0.sv] 27)).alloc (.cells #[.pointer (some ⟨w0.heap.size, 0, none⟩), .int .i64 0] 77)).alloc (.cells #[.slice (some ⟨w0.heap.size + 1, 0, none⟩) 1 1] 62)) := by
  have hk : Keeps (fun _ => False) w0 (((w0.alloc (.cells #[.int .i64 0, .int .i64 0, .string ⟨#[]⟩, t0.sv] 27)).alloc (.cells #[.pointer (some ⟨w0.heap.size, 0, none⟩), .int .i64 0] 77)).alloc (.cells #[.slice (some ⟨w0.heap.size + 1, 0, none⟩) 1 1] 62)) :=
    (((Keeps.refl _ _).alloc _).alloc _).alloc _
  have hlt := hcb.lt 0 w0 F0 h0
  refine ⟨[⟨w0.heap.size, 0, 0, t0⟩], w0.heap.size + 1, F0, ?_, ?_, ?_, Nat.zero_le _, hcb.stay 0 _ _ _ _ h0 hk (fun j h => h.elim), fun j hj => by omega, ?_, by omega, ?_, hk.wide (fun j h => h.elim), fun j hj => .inl hj⟩
  · exact ⟨Nat.zero_le _, (fun e he => by cases he), .inl ⟨rfl, rfl, rfl, rfl⟩, trivial⟩
  · refine ⟨1, #[.pointer (some ⟨w0.heap.size, 0, none⟩), .int .i64 0], ?_, ?_, by omega, by simp, by unfold maxLen; omega, by simp, by simp [stCells, GF.st]⟩
    · have := heap_alloc_new ((w0.alloc (.cells #[.int .i64 0, .int .i64 0, .string ⟨#[]⟩, t0.sv] 27)).alloc (.cells #[.pointer (some ⟨w0.heap.size, 0, none⟩), .int .i64 0] 77)) (.cells #[.slice (some ⟨w0.heap.size + 1, 0, none⟩) 1 1] 62)
      simpa using this
    · rw [Below.heap_alloc _ _ _ (by simp)]
      have := heap_alloc_new (w0.alloc (.cells #[.int .i64 0, .int .i64 0, .string ⟨#[]⟩, t0.sv] 27)) (.cells #[.pointer (some ⟨w0.heap.size, 0, none⟩), .int .i64 0] 77)
      simpa using this
  · simp [todo, hL]
  · intro j hj
    have := hlt j hj
    exact ⟨by omega, by omega, by omega⟩
  · rw [Below.heap_alloc _ _ _ (by simp; omega), Below.heap_alloc _ _ _ (by simp)]
    exact heap_alloc_new w0 _
theorem TI.end0 {w0 w w1 : World} {L : List Nd} {Inv : Nat → World → (Nat → Prop) → Prop} {go : Nat → Bool} {F0 : Nat → Prop} {i K d : Nat} {pv : Value} {σ : List GF} {g : Nat} {F : Nat → Prop}
    (h3 : todo σ = L.drop i) (h4 : i ≤ L.length) (h5 : Inv i w F) (h6 : ∀ j, j < i → go j = true)
    (h7 : ∀ j, F j → j ≠ w0.heap.size ∧ j ≠ g ∧ j ≠ w0.heap.size + 1 + 1) (h8 : w0.heap.size < g) (h10 : Keeps F0 w0 w) (h11 : ∀ j, F j → F0 j ∨ w0.heap.size ≤ j)
    (hcb : CB K pv L w0.heap.size Inv go) (hp : gpop σ = []) (hk : Keeps (fun j => j = w0.heap.size + 1 + 1 ∨ j = g) w w1) : ThroughPost w0 Inv go L.length F0 (.returned (.tuple #[])) (w1.drewN d) := by
  have hi : i = L.length := by
    rw [todo_none hp] at h3
    have := List.drop_eq_nil_iff.1 h3.symm
    omega
  refine ⟨rfl, i, F, by omega, fun j hj => h6 j (by omega), fun h => by omega, hcb.stay i w _ F _ h5 (hk.drewN d) (fun j hj => ?_), ?_, h11⟩
  · rcases hj with rfl | rfl
    · exact ⟨fun h => (h7 _ h).2.2 rfl, by omega⟩
    · exact ⟨fun h => (h7 _ h).2.1 rfl, by omega⟩
  · exact h10.trans (hk.drewN d) (fun j hj => by rcases hj with rfl | rfl <;> right <;> omega)

theorem apart_st {σ : List GF} {f : GF} (h : ∀ e ∈ σ, ¬ (e.B = f.B ∧ e.o = f.o)) : ∀ e ∈ σ.map GF.st, ¬ (e.B = f.st.B ∧ e.o = f.st.o) := by
  intro e he
  obtain ⟨e2, he2, rfl⟩ := List.mem_map.1 he
  exact h e2 he2
theorem plain_st {w : World} {σ : List GF} (h : ∀ e ∈ σ, Plain w e.B) : ∀ e ∈ σ.map GF.st, Plain w e.B := by
  intro e he
  obtain ⟨e2, he2, rfl⟩ := List.mem_map.1 he
  exact h e2 he2
theorem gpop_len (σ : List GF) : (gpop σ).length ≤ σ.length := by
  induction σ with
  | nil => exact Nat.le_refl _
  | cons f σ ih =>
    rw [gpop]
    split
    · rw [List.length_cons]; omega
    · exact Nat.le_refl _
theorem TI.mid {w0 w w1 : World} {L : List Nd} {t0 : AT} {Inv : Nat → World → (Nat → Prop) → Prop} {go : Nat → Bool} {i K d : Nat} {pv : Value} {g : Nat} {F : Nat → Prop} (h5 : Inv i w F)
    (h7 : ∀ j, F j → j ≠ w0.heap.size ∧ j ≠ g ∧ j ≠ w0.heap.size + 1 + 1) (h8 : w0.heap.size < g) (h9 : w.heap[w0.heap.size]? = some (.cells #[.int .i64 0, .int .i64 0, .string ⟨#[]⟩, t0.sv] 27 (0, 0)))
    (hcb : CB K pv L w0.heap.size Inv go) (hk : Keeps (fun j => j = w0.heap.size + 1 + 1 ∨ j = g) w w1) :
    Inv i (w1.drewN d) F ∧ (w1.drewN d).heap[w0.heap.size]? = some (.cells #[.int .i64 0, .int .i64 0, .string ⟨#[]⟩, t0.sv] 27 (0, 0)) := by
  refine ⟨hcb.stay i w _ F _ h5 (hk.drewN d) (fun j hj => ?_), hk.heap h9 (by omega)⟩
  rcases hj with rfl | rfl
  · exact ⟨fun h => (h7 _ h).2.2 rfl, by omega⟩
  · exact ⟨fun h => (h7 _ h).2.1 rfl, by omega⟩
theorem TI.one {w0 w w1 w2 : World} {L : List Nd} {t0 t : AT} {Inv : Nat → World → (Nat → Prop) → Prop} {go : Nat → Bool} {F0 : Nat → Prop} {i K d m : Nat} {pv : Value} {σ r : List GF} {f : GF} {g g' : Nat} {F F' : Nat → Prop}
    (h3 : todo σ = L.drop i) (h5 : Inv i w F) (h6 : ∀ j, j < i → go j = true)
    (h7 : ∀ j, F j → j ≠ w0.heap.size ∧ j ≠ g ∧ j ≠ w0.heap.size + 1 + 1) (h8 : w0.heap.size < g) (h9 : w.heap[w0.heap.size]? = some (.cells #[.int .i64 0, .int .i64 0, .string ⟨#[]⟩, t0.sv] 27 (0, 0))) (h10 : Keeps F0 w0 w) (h11 : ∀ j, F j → F0 j ∨ w0.heap.size ≤ j)
    (hcb : CB K pv L w0.heap.size Inv go) (hS : Steps L w0.heap.size t0 (⟨f.t.G, f.t.off + f.k * 4, 0, t⟩ :: ⟨f.B, f.o, f.k + 1, f.t⟩ :: r)) (hst : L.drop i = ⟨f.t.G, f.t.off + f.k * 4, m, t⟩ :: todo (⟨f.t.G, f.t.off + f.k * 4, 0, t⟩ :: ⟨f.B, f.o, f.k + 1, f.t⟩ :: r)) (hx : L[i]? = some ⟨f.t.G, f.t.off + f.k * 4, m, t⟩)
    (hg : g' = g ∨ w.heap.size ≤ g') (hw : WayAt w1 (w0.heap.size + 1 + 1) 62 [] g' (⟨f.t.G, f.t.off + f.k * 4, 0⟩ :: ⟨f.B, f.o, f.k + 1⟩ :: r.map GF.st)) (hk : Keeps (fun j => j = w0.heap.size + 1 + 1 ∨ j = g) w w1)
    (hi' : Inv (i + 1) w2 F') (hk3 : Keeps F (w1.drewN d) w2) (hs3 : ∀ j, F' j → F j ∨ (w1.drewN d).heap.size ≤ j) :
    (go i = true → TI w0 L t0 Inv go F0 (i + 1) w2) ∧ (go i = false → ThroughPost w0 Inv go L.length F0 (.returned (.tuple #[])) w2) := by
  have hil : i < L.length := (List.getElem?_eq_some_iff.1 hx).1
  have hlt := hcb.lt i w F h5
  have hsz := hk.size
  have hKK : Keeps F0 w0 w2 := (h10.trans (hk.drewN d) (fun j hj => by rcases hj with rfl | rfl <;> right <;> omega)).trans hk3 h11
  have hFF : ∀ j, F' j → F0 j ∨ w0.heap.size ≤ j := fun j hj => by
    rcases hs3 j hj with h | h
    · exact h11 j h
    · right
      have := h10.size
      simp at h
      omega
  have hw1 := way_lt hw
  have hg1 : w0.heap.size < g' := by
    rcases hg with rfl | h
    · exact h8
    · have := (Array.getElem?_eq_some_iff.1 h9).1
      omega
  refine ⟨fun hgo => ?_, fun hgo => ?_⟩
  · refine ⟨_, g', F', hS, ?_, ?_, by omega, hi', ?_, ?_, hg1, ?_, hKK, hFF⟩
    · refine way_kept (F := F) (w := w1.drewN d) hw hk3 (fun h => (h7 _ h).2.2 rfl) (fun h => ?_)
      rcases hg with rfl | h2
      · exact (h7 _ h).2.1 rfl
      · have := hlt _ h
        omega
    · rw [List.drop_add_one_eq_tail_drop, hst]
      rfl
    · intro j hj
      by_cases hji : j = i
      · subst hji; exact hgo
      · exact h6 j (by omega)
    · intro j hj
      rcases hs3 j hj with h | h
      · have h7' := h7 j h
        refine ⟨h7'.1, ?_, h7'.2.2⟩
        rcases hg with rfl | h2
        · exact h7'.2.1
        · have := hlt _ h
          omega
      · simp at h
        have := (Array.getElem?_eq_some_iff.1 h9).1
        exact ⟨by omega, by omega, by omega⟩
    · exact hk3.heap (hk.heap h9 (by omega)) (fun h => (h7 _ h).1 rfl)
  · exact ⟨rfl, i + 1, F', hil, fun j hj => h6 j (by omega), fun _ => ⟨by omega, hgo⟩, hi', hKK, hFF⟩

set_option maxRecDepth 100000 in
set_option maxHeartbeats 1600000 in
theorem through_is (K : Nat) (hK : K = 34 ∨ K = 36 ∨ K = 38 ∨ K = 45 ∨ K = 41 ∨ K = 55)
    (pv : Value) (t0 : AT) (L : List Nd) (w0 : World) (Inv : Nat → World → (Nat → Prop) → Prop) (go : Nat → Bool) (F0 : Nat → Prop) (hcb : CB K pv L w0.heap.size Inv go) (h0 : Inv 0 w0 F0) (hsv : SvOk t0.sv t0.G t0.off t0.l.length) (hL : L = ATs.flat t0.G 1 t0.l t0.off) (hlen : ATs.nodes t0.l ≤ 900000) :
    Calls Try.prog 33 #[.func (.func K) #[pv] #[], t0.sv] w0 (ThroughPost w0 Inv go L.length F0) := by
  have hs : ∃ a n c, t0.sv = .slice a n c := by rcases hsv with ⟨h, _⟩ | ⟨c, h, _⟩ <;> exact ⟨_, _, _, h⟩
  have HCB := Lib.hid hcb
  have H0 := Lib.hid h0
  have HSV := Lib.hid hsv
  have HL := Lib.hid hL
  have HLen := Lib.hid hlen
  have C1 := Lib.hid (fun w => from_is t0.sv w hs)
  clear hcb h0 hsv hL hlen hs
  go_enter Try.func33, Try.ntmps33
  go_wp2_with fail
  refine (C1.out _).mono ?_
  rintro e w' ⟨rfl, rfl⟩
  go_wp2_with fail
  go_loopw [9] (fun c wr => ∃ i : Nat, c = .int .i64 i ∧ i ≤ L.length ∧ Hid (TI w0 L t0 Inv go F0 i wr)) (fun c _ => L.length + 1 - (intOf c).toNat)
  case atStart => exact ⟨0, rfl, Nat.zero_le _, TI.start H0.out HCB.out HSV.out HL.out⟩
  case round =>
    obtain ⟨i, rfl, hi, HT⟩ := hrel
    obtain ⟨σ, g, F, h1, h2, h3, h4, h5, h6, h7, h8, h9, h10, h11⟩ := HT.out
    have NX := Lib.hid (TI.next HCB.out HSV.out HL.out HLen.out h1 h2 h5 h8 h9)
    have hLl : L.length ≤ 900000 := by have := HLen.out; rw [HL.out, ATs.flat_len]; exact this
    have hlt : decide ((i : Int) < 2147483647) = true := by simp; omega
    have hib : i ≤ 1000000 := by omega
    have HLl := Lib.hid hLl
    clear hLl
    cases hp : gpop σ with
    | nil =>
      have E := Lib.hid (fun w1 d hk => TI.end0 (w1 := w1) (d := d) h3 h4 h5 h6 h7 h8 h10 h11 HCB.out hp hk)
      have N0 := Lib.hid (NX.out.end0 hp)
      clear h1 h2 h3 h4 h5 h6 h7 h8 h9 h10 h11 hp NX HT
      go_wp2_with fail
      refine N0.out.mono ?_
      rintro e w1 ⟨rfl, hw, hk⟩
      have E1 := Lib.hid (fun d => E.out w1 d hk)
      have D1 := Lib.hid (deep_nil _ _ _ _ _ hw)
      clear hw hk E N0
      go_wp2_with fail
      refine D1.out.mono ?_
      rintro e w2 ⟨rfl, d, rfl⟩
      go_wp2
      first | go_ret | exact bodyPost_ret (v := .tuple #[]) (by simp [results, Try.results33, go_sem]) rfl (E1.out _)
    | cons f r =>
      obtain ⟨t, ht, hst⟩ := todo_step hp
      obtain ⟨m, hm⟩ : ∃ m, r.length + 1 = m := ⟨_, rfl⟩
      rw [hm, h3] at hst
      have hx : L[i]? = some ⟨f.t.G, f.t.off + f.k * 4, m, t⟩ := by
        have := congrArg List.head? hst
        rw [List.head?_drop] at this
        exact this
      have hS := Steps.push (by rw [← hp]; exact h1.pop) (by rw [HL.out]; exact ATs.closed _ _ _ _) ⟨1, HL.out⟩ ht
      have E := Lib.hid (fun w1 w2 g' d F' hg hw hk hi' hk3 hs3 => TI.one (w1 := w1) (w2 := w2) (g' := g') (d := d) (F' := F') h3 h5 h6 h7 h8 h9 h10 h11 HCB.out hS hst hx hg hw hk hi' hk3 hs3)
      have E0 := Lib.hid (fun w1 g' d (hg : g' = g ∨ wr.heap.size ≤ g') hk => TI.mid (w1 := w1) (d := d) h5 h7 h8 h9 HCB.out hk)
      have A := Lib.hid (fun w1 d (h5' : Inv i (World.drewN w1 d) F) h9' => TI.apart HCB.out HL.out hS h5' h9')
      have hrl : m ≤ 1000001 := by
        have h := NX.out.len
        have h2 := gpop_len σ
        rw [hp] at h2
        simp at h2
        omega
      have N0 := Lib.hid (NX.out.one hp)
      have hil : i < L.length := (List.getElem?_eq_some_iff.1 hx).1
      have H6 := Lib.hid h6
      have hme : ((m : Int) == 2147483647) = false := by
        rw [beq_eq_false_iff_ne]
        omega
      have HM := Lib.hid hm
      have HX := Lib.hid hx
      clear h1 h2 h3 h4 h5 h6 h7 h8 h9 h10 h11 hp NX HT hm hx ht hst hS
      go_wp2_with fail
      refine N0.out.mono ?_
      rintro e w1 ⟨rfl, g', hg', hw', hk'⟩
      obtain ⟨p1, p2⟩ := E0.out w1 g' 0 hg' hk'
      obtain ⟨a1, a2⟩ := A.out w1 0 p1 p2
      have D1 := Lib.hid (deep_top _ _ _ _ _ _ _ hw' (apart_st (σ := ⟨f.B, f.o, f.k + 1, f.t⟩ :: r) (f := ⟨f.t.G, f.t.off + f.k * 4, 0, t⟩) a1) (plain_st (σ := ⟨f.t.G, f.t.off + f.k * 4, 0, t⟩ :: ⟨f.B, f.o, f.k + 1, f.t⟩ :: r) a2) (by simp; have := HM.out; omega))
      have hm2 : (({ B := f.B, o := f.o, k := f.k + 1 } : St) :: r.map GF.st).length = m := by simp; exact HM.out
      rw [hm2] at D1
      have E1 := Lib.hid (fun w2 d F' => E.out w1 w2 g' d F' hg' hw' hk')
      have E2 := Lib.hid (fun d => (E0.out w1 g' d hg' hk').1)
      clear a1 a2 p1 p2 hw' hk' E E0 A hm2 N0
      go_wp2_with fail
      refine D1.out.mono ?_
      rintro e w2 ⟨rfl, d, rfl⟩
      have C2 := Lib.hid (HCB.out.call i _ F _ (E2.out d) H6.out HX.out)
      simp only at C2
      have E3 := Lib.hid (fun w2 F' => E1.out w2 d F')
      clear D1 E1 E2
      have hgi : ∃ b, go i = b := ⟨_, rfl⟩
      obtain ⟨b, hb⟩ := hgi
      have HB := Lib.hid hb
      unfold CBPost at C2
      rw [hb] at C2
      clear hb
      rcases hK with rfl | rfl | rfl | rfl | rfl | rfl
      all_goals
        go_wp2_with fail
        refine C2.out.mono ?_
        rintro e w3 ⟨rfl, F', q1, q2, q3⟩
        obtain ⟨r1, r2⟩ := E3.out w3 F' q1 q2 q3
        have R1 := Lib.hid r1
        have R2 := Lib.hid r2
        clear q1 q2 q3 r1 r2 E3 C2
        cases b
        · go_wp2
          first | go_ret | exact bodyPost_ret (v := .tuple #[]) (by simp [results, Try.results33, go_sem]) rfl (R2.out HB.out)
        · go_wp2
          go_roundw
          case rel => exact ⟨i + 1, by go_num, by omega, R1.out HB.out⟩
          case measure => simp [intOf]; omega

end Go.Proofs.Ytkidcchafdiofaa
