/- Joined texts: TermE TermF TermG TermH TermI TermJ. Conditions: as each states. -/
import Derived.Test.YtkplokfcjjcpcaaGreatDoorPk11
import Derived.BigGuardPart
import Derived.Deep.RegionHeld3
import Derived.Deep.DrawnRows
section
namespace Go.Proofs.YtkplokfcjjcpcaaGreatDoor.Trm
open Go Go.RowKit
def NextG0 (w : World) (q : Nat) (T : TypeId) (tl : List Value) (g : Nat) (e : Ending) (w' : World) : Prop :=
  e = .returned (.pointer none) ∧ WayAt w' q T tl g [] ∧ Keeps (fun j => j = q ∨ j = g) w w'
def NextG1 (w : World) (q : Nat) (T : TypeId) (tl : List Value) (g : Nat) (f : GF) (r : List GF) (e : Ending) (w' : World) : Prop :=
  e = .returned (.pointer (some ⟨f.t.G, f.t.off + f.k * 4, none⟩)) ∧ ∃ g', (g' = g ∨ w.heap.size ≤ g') ∧ WayAt w' q T tl g' (⟨f.t.G, f.t.off + f.k * 4, 0⟩ :: ⟨f.B, f.o, f.k + 1⟩ :: r.map GF.st) ∧ Keeps (fun j => j = q ∨ j = g) w w'
structure NextOk (w : World) (q : Nat) (T : TypeId) (tl : List Value) (g : Nat) (σ : List GF) : Prop where
  way : WayAt w q T tl g (σ.map GF.st)
  ok : ∀ f ∈ σ, w.cell? ⟨f.B, f.o + 3, none⟩ = some f.t.sv ∧ SvOk f.t.sv f.t.G f.t.off f.t.l.length
  sep : ∀ f ∈ σ, f.B ≠ q ∧ f.B ≠ g
  len : σ.length ≤ 1000000
  k : ∀ f ∈ σ, f.k ≤ 1000000000 ∧ f.t.l.length ≤ 1000000000
theorem NextOk.call {w : World} {q : Nat} {T : TypeId} {tl : List Value} {g : Nat} {σ : List GF} (h : NextOk w q T tl g σ) :
    Calls Tryz.prog 107 #[.pointer (some ⟨q, 0, none⟩)] w (NextPost w q T tl g (σ.map GF.rf)) := by
  refine next_is q T tl g (σ.map GF.rf) w ?_ ?_ ?_ (by simpa using h.len) ?_
  · rw [List.map_map]; exact h.way
  all_goals
    intro f hf
    obtain ⟨e, he, rfl⟩ := List.mem_map.1 hf
  · exact h.ok e he
  · exact h.sep e he
  · exact h.k e he
theorem NextOk.end0 {w : World} {q : Nat} {T : TypeId} {tl : List Value} {g : Nat} {σ : List GF} (h : NextOk w q T tl g σ) (hp : gpop σ = []) :
    Calls Tryz.prog 107 #[.pointer (some ⟨q, 0, none⟩)] w (NextG0 w q T tl g) := h.call.mono fun e w' hn => by
  unfold NextPost at hn
  rw [popped_map, hp] at hn
  exact hn
theorem NextOk.one {w : World} {q : Nat} {T : TypeId} {tl : List Value} {g : Nat} {σ r : List GF} {f : GF} (h : NextOk w q T tl g σ) (hp : gpop σ = f :: r) :
    Calls Tryz.prog 107 #[.pointer (some ⟨q, 0, none⟩)] w (NextG1 w q T tl g f r) := h.call.mono fun e w' hn => by
  unfold NextPost at hn
  rw [popped_map, hp] at hn
  obtain ⟨h1, g', h2, h3, h4⟩ := hn
  refine ⟨h1, g', h2, ?_, h4⟩
  rw [List.map_map] at h3
  exact h3
def CBPost (Inv : Nat → World → (Nat → Prop) → Prop) (go : Nat → Bool) (i : Nat) (w : World) (F : Nat → Prop) (e : Ending) (w' : World) : Prop :=
  e = .returned (.bool (go i)) ∧ ∃ F', Inv (i + 1) w' F' ∧ Keeps F w w' ∧ ∀ j, F' j → F j ∨ w.heap.size ≤ j
structure CB (K : Nat) (pv : Value) (L : List Nd) (H0 : Nat) (Inv : Nat → World → (Nat → Prop) → Prop) (go : Nat → Bool) : Prop where
  lt : ∀ i w F, Inv i w F → ∀ j, F j → j < w.heap.size
  ok : ∀ i w F, Inv i w F → ∀ x ∈ L, NdOk w x ∧ x.B < H0
  stay : ∀ i w w' F G, Inv i w F → Keeps G w w' → (∀ j, G j → ¬ F j ∧ H0 ≤ j) → Inv i w' F
  call : ∀ i w F x, Inv i w F → (∀ j, j < i → go j = true) → L[i]? = some x → Calls Tryz.prog K #[pv, .pointer (some ⟨x.B, x.o, none⟩), .int .i64 x.d] w (CBPost Inv go i w F)
def ThroughPost (w0 : World) (Inv : Nat → World → (Nat → Prop) → Prop) (go : Nat → Bool) (m : Nat) (F0 : Nat → Prop) (e : Ending) (w' : World) : Prop :=
  e = .returned (.tuple #[]) ∧ ∃ n F, n ≤ m ∧ (∀ j, j + 1 < n → go j = true) ∧ (n < m → 0 < n ∧ go (n - 1) = false) ∧ Inv n w' F ∧ Keeps F0 w0 w' ∧ ∀ j, F j → F0 j ∨ w0.heap.size ≤ j
def TI (w0 : World) (L : List Nd) (t0 : AT) (Inv : Nat → World → (Nat → Prop) → Prop) (go : Nat → Bool) (F0 : Nat → Prop) (i : Nat) (w : World) : Prop :=
  ∃ (σ : List GF) (g : Nat) (F : Nat → Prop), Steps L w0.heap.size t0 σ ∧ WayAt w (w0.heap.size + 1 + 1) 193 [] g (σ.map GF.st) ∧ todo σ = L.drop i ∧ i ≤ L.length ∧ Inv i w F ∧ (∀ j, j < i → go j = true) ∧
    (∀ j, F j → j ≠ w0.heap.size ∧ j ≠ g ∧ j ≠ w0.heap.size + 1 + 1) ∧ w0.heap.size < g ∧ w.heap[w0.heap.size]? = some (.cells #[.int .i64 0, .int .i64 0, .string ⟨#[]⟩, t0.sv] 34 (0, 0)) ∧ Keeps F0 w0 w ∧ ∀ j, F j → F0 j ∨ w0.heap.size ≤ j
theorem TI.next {w0 w : World} {L : List Nd} {t0 : AT} {Inv : Nat → World → (Nat → Prop) → Prop} {go : Nat → Bool} {i K : Nat} {pv : Value} (hcb : CB K pv L w0.heap.size Inv go) (hsv : SvOk t0.sv t0.G t0.off t0.l.length) (hL : L = ATs.flat t0.G 1 t0.l t0.off) (hlen : ATs.nodes t0.l ≤ 900000)
    {σ : List GF} {g : Nat} {F : Nat → Prop} (h1 : Steps L w0.heap.size t0 σ) (h2 : WayAt w (w0.heap.size + 1 + 1) 193 [] g (σ.map GF.st)) (h5 : Inv i w F) (h8 : w0.heap.size < g) (h9 : w.heap[w0.heap.size]? = some (.cells #[.int .i64 0, .int .i64 0, .string ⟨#[]⟩, t0.sv] 34 (0, 0))) :
    NextOk w (w0.heap.size + 1 + 1) 193 [] g σ := by
  have hnd := hcb.ok i w F h5
  have hbd : ∀ f ∈ σ, f.t.nodes ≤ ATs.nodes t0.l + 1 := fun f hf => by
    rcases (h1.mem f hf).2 with ⟨_, _, h⟩ | ⟨d, hd⟩
    · rw [h, AT.nodes_mk]; omega
    · have hx := hd
      rw [hL] at hx
      have := ATs.flat_nodes t0.l 1 t0.off t0.G _ hx
      simp only at this
      omega
  refine ⟨h2, fun f hf => ?_, fun f hf => ?_, ?_, fun f hf => ?_⟩
  · rcases (h1.mem f hf).2 with ⟨hB, ho, ht⟩ | ⟨d, hd⟩
    · rw [hB, ho, ht]
      exact ⟨cell_of_heap h9 rfl, hsv⟩
    · exact (hnd _ hd).1.2
  · rcases (h1.mem f hf).2 with ⟨hB, ho, ht⟩ | ⟨d, hd⟩
    · exact ⟨by omega, by omega⟩
    · have := (hnd _ hd).2
      simp only at this
      exact ⟨by omega, by omega⟩
  · have := h1.len (m := 0) (N := 900001) (fun e he => ⟨nodes_pos _, by have := hbd e he; omega⟩) (by omega)
    omega
  · have h3 := (h1.mem f hf).1
    have h4 := hbd f hf
    rw [AT.nodes_mk] at h4
    have h6 := len_nodes f.t.l
    exact ⟨by omega, by omega⟩
theorem TI.apart {w0 w : World} {L : List Nd} {t0 : AT} {Inv : Nat → World → (Nat → Prop) → Prop} {go : Nat → Bool} {i K : Nat} {pv : Value} (hcb : CB K pv L w0.heap.size Inv go) (hL : L = ATs.flat t0.G 1 t0.l t0.off)
    {σ : List GF} {f : GF} {F : Nat → Prop} (h1 : Steps L w0.heap.size t0 (f :: σ)) (h5 : Inv i w F) (h9 : w.heap[w0.heap.size]? = some (.cells #[.int .i64 0, .int .i64 0, .string ⟨#[]⟩, t0.sv] 34 (0, 0))) :
    (∀ e ∈ σ, ¬ (e.B = f.B ∧ e.o = f.o)) ∧ ∀ e ∈ f :: σ, Plain w e.B := by
  have hnd := hcb.ok i w F h5
  refine ⟨h1.apart (fun x hx => (hnd x hx).1) (by rw [hL]; exact ATs.closed _ _ _ _) (fun x hx => by have := (hnd x hx).2; omega), fun e he => ?_⟩
  rcases (h1.mem e he).2 with ⟨hB, ho, ht⟩ | ⟨d, hd⟩
  · rw [hB]; exact ⟨_, _, h9⟩
  · exact (hnd _ hd).1.1
theorem TI.start {w0 : World} {L : List Nd} {t0 : AT} {Inv : Nat → World → (Nat → Prop) → Prop} {go : Nat → Bool} {F0 : Nat → Prop} {K : Nat} {pv : Value} (h0 : Inv 0 w0 F0) (hcb : CB K pv L w0.heap.size Inv go) (_hsv : SvOk t0.sv t0.G t0.off t0.l.length) (hL : L = ATs.flat t0.G 1 t0.l t0.off) :
    TI w0 L t0 Inv go F0 0 (((w0.alloc (.cells #[.int .i64 0, .int .i64 0, .string ⟨#[]⟩, t0.sv] 34)).alloc (.cells #[.pointer (some ⟨w0.heap.size, 0, none⟩), .int .i64 0] 235)).alloc (.cells #[.slice (some ⟨w0.heap.size + 1, 0, none⟩) 1 1] 193)) := by
  have hk : Keeps (fun _ => False) w0 (((w0.alloc (.cells #[.int .i64 0, .int .i64 0, .string ⟨#[]⟩, t0.sv] 34)).alloc (.cells #[.pointer (some ⟨w0.heap.size, 0, none⟩), .int .i64 0] 235)).alloc (.cells #[.slice (some ⟨w0.heap.size + 1, 0, none⟩) 1 1] 193)) :=
    (((Keeps.refl _ _).alloc _).alloc _).alloc _
  have hlt := hcb.lt 0 w0 F0 h0
  refine ⟨[⟨w0.heap.size, 0, 0, t0⟩], w0.heap.size + 1, F0, ?_, ?_, ?_, Nat.zero_le _, hcb.stay 0 _ _ _ _ h0 hk (fun j h => h.elim), fun j hj => by omega, ?_, by omega, ?_, hk.wide (fun j h => h.elim), fun j hj => .inl hj⟩
  · exact ⟨Nat.zero_le _, (fun e he => by cases he), .inl ⟨rfl, rfl, rfl, rfl⟩, trivial⟩
  · refine ⟨1, #[.pointer (some ⟨w0.heap.size, 0, none⟩), .int .i64 0], ?_, ?_, by omega, by simp, by unfold maxLen; omega, by simp, by simp [stCells, GF.st]⟩
    · have := heap_alloc_new ((w0.alloc (.cells #[.int .i64 0, .int .i64 0, .string ⟨#[]⟩, t0.sv] 34)).alloc (.cells #[.pointer (some ⟨w0.heap.size, 0, none⟩), .int .i64 0] 235)) (.cells #[.slice (some ⟨w0.heap.size + 1, 0, none⟩) 1 1] 193)
      simpa using this
    · rw [Below.heap_alloc _ _ _ (by simp)]
      have := heap_alloc_new (w0.alloc (.cells #[.int .i64 0, .int .i64 0, .string ⟨#[]⟩, t0.sv] 34)) (.cells #[.pointer (some ⟨w0.heap.size, 0, none⟩), .int .i64 0] 235)
      simpa using this
  · simp [todo, hL]
  · intro j hj
    have := hlt j hj
    exact ⟨by omega, by omega, by omega⟩
  · rw [Below.heap_alloc _ _ _ (by simp; omega), Below.heap_alloc _ _ _ (by simp)]
    exact heap_alloc_new w0 _
theorem TI.end0 {w0 w w1 : World} {L : List Nd} {Inv : Nat → World → (Nat → Prop) → Prop} {go : Nat → Bool} {F0 : Nat → Prop} {i K d : Nat} {pv : Value} {σ : List GF} {g : Nat} {F : Nat → Prop}
    (h3 : todo σ = L.drop i) (h4 : i ≤ L.length) (h5 : Inv i w F) (h6 : ∀ j, j < i → go j = true)
    (h7 : ∀ j, F j → j ≠ w0.heap.size ∧ j ≠ g ∧ j ≠ w0.heap.size + 1 + 1) (h8 : w0.heap.size < g) (h10 : Keeps F0 w0 w) (h11 : ∀ j, F j → F0 j ∨ w0.heap.size ≤ j)
    (hcb : CB K pv L w0.heap.size Inv go) (hp : gpop σ = []) (hk : Keeps (fun j => j = w0.heap.size + 1 + 1 ∨ j = g) w w1) : ThroughPost w0 Inv go L.length F0 (.returned (.tuple #[])) (w1.drewN d) := by
  have hi : i = L.length := by
    rw [todo_none hp] at h3
    have := List.drop_eq_nil_iff.1 h3.symm
    omega
  refine ⟨rfl, i, F, by omega, fun j hj => h6 j (by omega), fun h => by omega, hcb.stay i w _ F _ h5 (hk.drewN d) (fun j hj => ?_), ?_, h11⟩
  · rcases hj with rfl | rfl
    · exact ⟨fun h => (h7 _ h).2.2 rfl, by omega⟩
    · exact ⟨fun h => (h7 _ h).2.1 rfl, by omega⟩
  · exact h10.trans (hk.drewN d) (fun j hj => by rcases hj with rfl | rfl <;> right <;> omega)
theorem apart_st {σ : List GF} {f : GF} (h : ∀ e ∈ σ, ¬ (e.B = f.B ∧ e.o = f.o)) : ∀ e ∈ σ.map GF.st, ¬ (e.B = f.st.B ∧ e.o = f.st.o) := by
  intro e he
  obtain ⟨e2, he2, rfl⟩ := List.mem_map.1 he
  exact h e2 he2
theorem plain_st {w : World} {σ : List GF} (h : ∀ e ∈ σ, Plain w e.B) : ∀ e ∈ σ.map GF.st, Plain w e.B := by
  intro e he
  obtain ⟨e2, he2, rfl⟩ := List.mem_map.1 he
  exact h e2 he2
theorem gpop_len (σ : List GF) : (gpop σ).length ≤ σ.length := by
  induction σ with
  | nil => exact Nat.le_refl _
  | cons f σ ih =>
    rw [gpop]
    split
    · rw [List.length_cons]; omega
    · exact Nat.le_refl _
theorem TI.mid {w0 w w1 : World} {L : List Nd} {t0 : AT} {Inv : Nat → World → (Nat → Prop) → Prop} {go : Nat → Bool} {i K d : Nat} {pv : Value} {g : Nat} {F : Nat → Prop} (h5 : Inv i w F)
    (h7 : ∀ j, F j → j ≠ w0.heap.size ∧ j ≠ g ∧ j ≠ w0.heap.size + 1 + 1) (h8 : w0.heap.size < g) (h9 : w.heap[w0.heap.size]? = some (.cells #[.int .i64 0, .int .i64 0, .string ⟨#[]⟩, t0.sv] 34 (0, 0)))
    (hcb : CB K pv L w0.heap.size Inv go) (hk : Keeps (fun j => j = w0.heap.size + 1 + 1 ∨ j = g) w w1) :
    Inv i (w1.drewN d) F ∧ (w1.drewN d).heap[w0.heap.size]? = some (.cells #[.int .i64 0, .int .i64 0, .string ⟨#[]⟩, t0.sv] 34 (0, 0)) := by
  refine ⟨hcb.stay i w _ F _ h5 (hk.drewN d) (fun j hj => ?_), hk.heap h9 (by omega)⟩
  rcases hj with rfl | rfl
  · exact ⟨fun h => (h7 _ h).2.2 rfl, by omega⟩
  · exact ⟨fun h => (h7 _ h).2.1 rfl, by omega⟩
theorem TI.one {w0 w w1 w2 : World} {L : List Nd} {t0 t : AT} {Inv : Nat → World → (Nat → Prop) → Prop} {go : Nat → Bool} {F0 : Nat → Prop} {i K d m : Nat} {pv : Value} {σ r : List GF} {f : GF} {g g' : Nat} {F F' : Nat → Prop}
    (h3 : todo σ = L.drop i) (h5 : Inv i w F) (h6 : ∀ j, j < i → go j = true)
    (h7 : ∀ j, F j → j ≠ w0.heap.size ∧ j ≠ g ∧ j ≠ w0.heap.size + 1 + 1) (h8 : w0.heap.size < g) (h9 : w.heap[w0.heap.size]? = some (.cells #[.int .i64 0, .int .i64 0, .string ⟨#[]⟩, t0.sv] 34 (0, 0))) (h10 : Keeps F0 w0 w) (h11 : ∀ j, F j → F0 j ∨ w0.heap.size ≤ j)
    (hcb : CB K pv L w0.heap.size Inv go) (hS : Steps L w0.heap.size t0 (⟨f.t.G, f.t.off + f.k * 4, 0, t⟩ :: ⟨f.B, f.o, f.k + 1, f.t⟩ :: r)) (hst : L.drop i = ⟨f.t.G, f.t.off + f.k * 4, m, t⟩ :: todo (⟨f.t.G, f.t.off + f.k * 4, 0, t⟩ :: ⟨f.B, f.o, f.k + 1, f.t⟩ :: r)) (hx : L[i]? = some ⟨f.t.G, f.t.off + f.k * 4, m, t⟩)
    (hg : g' = g ∨ w.heap.size ≤ g') (hw : WayAt w1 (w0.heap.size + 1 + 1) 193 [] g' (⟨f.t.G, f.t.off + f.k * 4, 0⟩ :: ⟨f.B, f.o, f.k + 1⟩ :: r.map GF.st)) (hk : Keeps (fun j => j = w0.heap.size + 1 + 1 ∨ j = g) w w1)
    (hi' : Inv (i + 1) w2 F') (hk3 : Keeps F (w1.drewN d) w2) (hs3 : ∀ j, F' j → F j ∨ (w1.drewN d).heap.size ≤ j) :
    (go i = true → TI w0 L t0 Inv go F0 (i + 1) w2) ∧ (go i = false → ThroughPost w0 Inv go L.length F0 (.returned (.tuple #[])) w2) := by
  have hil : i < L.length := (List.getElem?_eq_some_iff.1 hx).1
  have hlt := hcb.lt i w F h5
  have hsz := hk.size
  have hKK : Keeps F0 w0 w2 := (h10.trans (hk.drewN d) (fun j hj => by rcases hj with rfl | rfl <;> right <;> omega)).trans hk3 h11
  have hFF : ∀ j, F' j → F0 j ∨ w0.heap.size ≤ j := fun j hj => by
    rcases hs3 j hj with h | h
    · exact h11 j h
    · right
      have := h10.size
      simp at h
      omega
  have hw1 := way_lt hw
  have hg1 : w0.heap.size < g' := by
    rcases hg with rfl | h
    · exact h8
    · have := (Array.getElem?_eq_some_iff.1 h9).1
      omega
  refine ⟨fun hgo => ?_, fun hgo => ?_⟩
  · refine ⟨_, g', F', hS, ?_, ?_, by omega, hi', ?_, ?_, hg1, ?_, hKK, hFF⟩
    · refine way_kept (F := F) (w := w1.drewN d) hw hk3 (fun h => (h7 _ h).2.2 rfl) (fun h => ?_)
      rcases hg with rfl | h2
      · exact (h7 _ h).2.1 rfl
      · have := hlt _ h
        omega
    · rw [List.drop_add_one_eq_tail_drop, hst]
      rfl
    · intro j hj
      by_cases hji : j = i
      · subst hji; exact hgo
      · exact h6 j (by omega)
    · intro j hj
      rcases hs3 j hj with h | h
      · have h7' := h7 j h
        refine ⟨h7'.1, ?_, h7'.2.2⟩
        rcases hg with rfl | h2
        · exact h7'.2.1
        · have := hlt _ h
          omega
      · simp at h
        have := (Array.getElem?_eq_some_iff.1 h9).1
        exact ⟨by omega, by omega, by omega⟩
    · exact hk3.heap (hk.heap h9 (by omega)) (fun h => (h7 _ h).1 rfl)
  · exact ⟨rfl, i + 1, F', hil, fun j hj => h6 j (by omega), fun _ => ⟨by omega, hgo⟩, hi', hKK, hFF⟩
set_option maxRecDepth 100000 in
set_option maxHeartbeats 1600000 in
theorem through_is (K : Nat) (hK : K = 65 ∨ K = 110 ∨ K = 66 ∨ K = 126 ∨ K = 128)
    (pv : Value) (t0 : AT) (L : List Nd) (w0 : World) (Inv : Nat → World → (Nat → Prop) → Prop) (go : Nat → Bool) (F0 : Nat → Prop) (hcb : CB K pv L w0.heap.size Inv go) (h0 : Inv 0 w0 F0) (hsv : SvOk t0.sv t0.G t0.off t0.l.length) (hL : L = ATs.flat t0.G 1 t0.l t0.off) (hlen : ATs.nodes t0.l ≤ 900000) :
    Calls Tryz.prog 64 #[.func (.func K) #[pv] #[], t0.sv] w0 (ThroughPost w0 Inv go L.length F0) := by
  have hs : ∃ a n c, t0.sv = .slice a n c := by rcases hsv with ⟨h, _⟩ | ⟨c, h, _⟩ <;> exact ⟨_, _, _, h⟩
  have HCB := Lib.hid hcb
  have H0 := Lib.hid h0
  have HSV := Lib.hid hsv
  have HL := Lib.hid hL
  have HLen := Lib.hid hlen
  have C1 := Lib.hid (fun w => from_is t0.sv w hs)
  clear hcb h0 hsv hL hlen hs
  go_enter Tryz.func64, Tryz.ntmps64
  go_wp2_with fail
  refine (C1.out _).mono ?_
  rintro e w' ⟨rfl, rfl⟩
  go_wp2_with fail
  go_loopw [9] (fun c wr => ∃ i : Nat, c = .int .i64 i ∧ i ≤ L.length ∧ Hid (TI w0 L t0 Inv go F0 i wr)) (fun c _ => L.length + 1 - (intOf c).toNat)
  case atStart => exact ⟨0, rfl, Nat.zero_le _, TI.start H0.out HCB.out HSV.out HL.out⟩
  case round =>
    obtain ⟨i, rfl, hi, HT⟩ := hrel
    obtain ⟨σ, g, F, h1, h2, h3, h4, h5, h6, h7, h8, h9, h10, h11⟩ := HT.out
    have NX := Lib.hid (TI.next HCB.out HSV.out HL.out HLen.out h1 h2 h5 h8 h9)
    have hLl : L.length ≤ 900000 := by have := HLen.out; rw [HL.out, ATs.flat_len]; exact this
    have hlt : decide ((i : Int) < 2147483647) = true := by simp; omega
    have hib : i ≤ 1000000 := by omega
    have HLl := Lib.hid hLl
    clear hLl
    cases hp : gpop σ with
    | nil =>
      have E := Lib.hid (fun w1 d hk => TI.end0 (w1 := w1) (d := d) h3 h4 h5 h6 h7 h8 h10 h11 HCB.out hp hk)
      have N0 := Lib.hid (NX.out.end0 hp)
      clear h1 h2 h3 h4 h5 h6 h7 h8 h9 h10 h11 hp NX HT
      go_wp2_with fail
      refine N0.out.mono ?_
      rintro e w1 ⟨rfl, hw, hk⟩
      have E1 := Lib.hid (fun d => E.out w1 d hk)
      have D1 := Lib.hid (deep_nil _ _ _ _ _ hw)
      clear hw hk E N0
      go_wp2_with fail
      refine D1.out.mono ?_
      rintro e w2 ⟨rfl, d, rfl⟩
      go_wp2
      first | go_ret | exact bodyPost_ret (v := .tuple #[]) (by simp [results, Tryz.results64, go_sem]) rfl (E1.out _)
    | cons f r =>
      obtain ⟨t, ht, hst⟩ := todo_step hp
      obtain ⟨m, hm⟩ : ∃ m, r.length + 1 = m := ⟨_, rfl⟩
      rw [hm, h3] at hst
      have hx : L[i]? = some ⟨f.t.G, f.t.off + f.k * 4, m, t⟩ := by
        have := congrArg List.head? hst
        rw [List.head?_drop] at this
        exact this
      have hS := Steps.push (by rw [← hp]; exact h1.pop) (by rw [HL.out]; exact ATs.closed _ _ _ _) ⟨1, HL.out⟩ ht
      have E := Lib.hid (fun w1 w2 g' d F' hg hw hk hi' hk3 hs3 => TI.one (w1 := w1) (w2 := w2) (g' := g') (d := d) (F' := F') h3 h5 h6 h7 h8 h9 h10 h11 HCB.out hS hst hx hg hw hk hi' hk3 hs3)
      have E0 := Lib.hid (fun w1 g' d (hg : g' = g ∨ wr.heap.size ≤ g') hk => TI.mid (w1 := w1) (d := d) h5 h7 h8 h9 HCB.out hk)
      have A := Lib.hid (fun w1 d (h5' : Inv i (World.drewN w1 d) F) h9' => TI.apart HCB.out HL.out hS h5' h9')
      have hrl : m ≤ 1000001 := by
        have h := NX.out.len
        have h2 := gpop_len σ
        rw [hp] at h2
        simp at h2
        omega
      have N0 := Lib.hid (NX.out.one hp)
      have hil : i < L.length := (List.getElem?_eq_some_iff.1 hx).1
      have H6 := Lib.hid h6
      have hme : ((m : Int) == 2147483647) = false := by
        rw [beq_eq_false_iff_ne]
        omega
      have HM := Lib.hid hm
      have HX := Lib.hid hx
      clear h1 h2 h3 h4 h5 h6 h7 h8 h9 h10 h11 hp NX HT hm hx ht hst hS
      go_wp2_with fail
      refine N0.out.mono ?_
      rintro e w1 ⟨rfl, g', hg', hw', hk'⟩
      obtain ⟨p1, p2⟩ := E0.out w1 g' 0 hg' hk'
      obtain ⟨a1, a2⟩ := A.out w1 0 p1 p2
      have D1 := Lib.hid (deep_top _ _ _ _ _ _ _ hw' (apart_st (σ := ⟨f.B, f.o, f.k + 1, f.t⟩ :: r) (f := ⟨f.t.G, f.t.off + f.k * 4, 0, t⟩) a1) (plain_st (σ := ⟨f.t.G, f.t.off + f.k * 4, 0, t⟩ :: ⟨f.B, f.o, f.k + 1, f.t⟩ :: r) a2) (by simp; have := HM.out; omega))
      have hm2 : (({ B := f.B, o := f.o, k := f.k + 1 } : St) :: r.map GF.st).length = m := by simp; exact HM.out
      rw [hm2] at D1
      have E1 := Lib.hid (fun w2 d F' => E.out w1 w2 g' d F' hg' hw' hk')
      have E2 := Lib.hid (fun d => (E0.out w1 g' d hg' hk').1)
      clear a1 a2 p1 p2 hw' hk' E E0 A hm2 N0
      go_wp2_with fail
      refine D1.out.mono ?_
      rintro e w2 ⟨rfl, d, rfl⟩
      have C2 := Lib.hid (HCB.out.call i _ F _ (E2.out d) H6.out HX.out)
      simp only at C2
      have E3 := Lib.hid (fun w2 F' => E1.out w2 d F')
      clear D1 E1 E2
      have hgi : ∃ b, go i = b := ⟨_, rfl⟩
      obtain ⟨b, hb⟩ := hgi
      have HB := Lib.hid hb
      unfold CBPost at C2
      rw [hb] at C2
      clear hb
      rcases hK with rfl | rfl | rfl | rfl | rfl
      all_goals
        go_wp2_with fail
        refine C2.out.mono ?_
        rintro e w3 ⟨rfl, F', q1, q2, q3⟩
        obtain ⟨r1, r2⟩ := E3.out w3 F' q1 q2 q3
        have R1 := Lib.hid r1
        have R2 := Lib.hid r2
        clear q1 q2 q3 r1 r2 E3 C2
        cases b
        · go_wp2
          first | go_ret | exact bodyPost_ret (v := .tuple #[]) (by simp [results, Tryz.results64, go_sem]) rfl (R2.out HB.out)
        · go_wp2
          go_roundw
          case rel => exact ⟨i + 1, by go_num, by omega, R1.out HB.out⟩
          case measure => simp [intOf]; omega
end Go.Proofs.YtkplokfcjjcpcaaGreatDoor.Trm
end
section
namespace Go.Proofs.YtkplokfcjjcpcaaGreatDoor.Trm
open Go Go.RowKit
def MeasAt (w : World) (q : Nat) (p d : Int) (b : Bool) : Prop := w.heap[q]? = some (.cells #[.int .i64 p, .int .i64 d, .bool b] 139 (0, 0))
def TakePost (w : World) (q : Nat) (p d : Int) (b : Bool) (e : Ending) (w' : World) : Prop := e = .returned (.bool true) ∧ MeasAt w' q p d b ∧ Keeps (fun j => j = q) w w'
set_option maxRecDepth 100000 in
set_option maxHeartbeats 800000 in
theorem take_is (q : Nat) (p d e : Int) (b : Bool) (pt : Value) (w : World) (hm : MeasAt w q p d b) (h0 : 0 ≤ p) (h1 : p ≤ 1000000) :
    Calls Tryz.prog 110 #[.pointer (some ⟨q, 0, none⟩), pt, .int .i64 e] w (TakePost w q (p + 1) (max d e) b) := by
  have c0 := cell_of_heap (o := 0) hm rfl
  have c1 := cell_of_heap (o := 1) hm rfl
  have z0 := free_of_heap (o := 0) hm
  have z1 := free_of_heap (o := 1) hm
  have HM := Lib.hid hm
  clear hm
  have hf : ∀ x : Int, TakePost w q (p + 1) x b (.returned (.bool true)) ((w.setCell ⟨q, 0, none⟩ (.int .i64 (p + 1))).setCell ⟨q, 1, none⟩ (.int .i64 x)) := fun x =>
    ⟨rfl, by unfold MeasAt; rw [heap_set (heap_set HM.out _) _]; rfl, ((Keeps.refl (fun j => j = q) w).setCell (p := ⟨q, 0, none⟩) (.inl rfl) _).setCell (p := ⟨q, 1, none⟩) (.inl rfl) _⟩
  have HF := Lib.hid hf
  clear hf
  go_enter Tryz.func110, Tryz.ntmps110
  go_wp2
  go_ret
  exact HF.out _
structure RowAt (w : World) (B o : Nat) (k n : Int) (s : ByteArray) (a : Nat) : Prop where
  k : w.cell? ⟨B, o, none⟩ = some (.int .i64 k)
  n : w.cell? ⟨B, o + 1, none⟩ = some (.int .i64 n)
  s : w.cell? ⟨B, o + 2, none⟩ = some (.string s)
  a : ∃ ad cap, w.cell? ⟨B, o + 3, none⟩ = some (.slice ad a cap) ∧ a ≤ cap
def mayB (k n : Int) (s : ByteArray) (a : Nat) : Bool :=
  if k = 1 then decide (0 ≤ n) && s.toList.isEmpty && a == 0 else if k = 2 then s.toList.isEmpty && a == 0
  else if k = 3 then n == 0 && decide (s.size ≤ 1000) && a == 0 else if k = 4 then n == 0 && decide (s.size ≤ 1000) && decide (1 ≤ a) && decide (a ≤ 255) else false
set_option maxRecDepth 100000 in
set_option maxHeartbeats 1600000 in
theorem may_is (B o : Nat) (k n : Int) (s : ByteArray) (a : Nat) (w : World) (h : RowAt w B o k n s a) :
    Calls Tryz.prog 109 #[.pointer (some ⟨B, o, none⟩)] w fun e w' => e = .returned (.bool (mayB k n s a)) ∧ w = w' := by
  obtain ⟨c0, c1, c2, ad, cap, c3, hc⟩ := h
  obtain ⟨r, hr⟩ : ∃ r, mayB k n s a = r := ⟨_, rfl⟩
  rw [hr]
  have HR := Lib.hid hr
  clear hr
  go_enter Tryz.func109, Tryz.ntmps109
  go_wp2
  all_goals
    go_ret
    refine ⟨congrArg (fun b => Ending.returned (Value.bool b)) ?_, rfl⟩
    rw [← HR.out]
    clear HR c0 c1 c2 c3
    simp only [beq_iff_eq, beq_eq_false_iff_ne, ne_eq] at *
    unfold mayB
    first | (simp [*]; done) | (rw [Bool.eq_iff_iff]; simp [*]; first | done | omega)
def CheckPost (w : World) (q : Nat) (p d e : Int) (r : Bool) (en : Ending) (w' : World) : Prop :=
  en = .returned (.bool r) ∧ MeasAt w' q (if r then p + 1 else p) (if r then max d e else d) (!r) ∧ Keeps (fun j => j = q) w w'
set_option maxRecDepth 100000 in
set_option maxHeartbeats 800000 in
theorem check_is (q B o : Nat) (p d e : Int) (b : Bool) (k n : Int) (s : ByteArray) (a : Nat) (w : World) (hm : MeasAt w q p d b) (h : RowAt w B o k n s a) (h0 : 0 ≤ p) (h1 : p ≤ 1000000) :
    Calls Tryz.prog 65 #[.pointer (some ⟨q, 0, none⟩), .pointer (some ⟨B, o, none⟩), .int .i64 e] w (CheckPost w q p d e (mayB k n s a)) := by
  have c2 := cell_of_heap (o := 2) hm rfl
  have z2 := free_of_heap (o := 2) hm
  have M := Lib.hid (may_is B o k n s a w h)
  obtain ⟨r, hr⟩ : ∃ r, mayB k n s a = r := ⟨_, rfl⟩
  rw [hr] at M ⊢
  have hm1 : MeasAt (w.setCell ⟨q, 2, none⟩ (.bool (!r))) q p d (!r) := by unfold MeasAt; rw [heap_set hm]; rfl
  have T := Lib.hid (take_is q p d e (!r) (.pointer (some ⟨B, o, none⟩)) (w.setCell ⟨q, 2, none⟩ (.bool (!r))) hm1 h0 h1)
  have hk : Keeps (fun j => j = q) w (w.setCell ⟨q, 2, none⟩ (.bool (!r))) := (Keeps.refl (fun j => j = q) w).setCell (p := ⟨q, 2, none⟩) (.inl rfl) _
  have HK := Lib.hid hk
  have HM1 := Lib.hid hm1
  clear hm h hr hk hm1
  cases r
  · go_enter Tryz.func65, Tryz.ntmps65
    go_wp2_with fail
    refine M.out.mono ?_
    rintro _ _ ⟨rfl, rfl⟩
    go_wp2
    go_ret
    exact ⟨rfl, HM1.out, HK.out⟩
  · go_enter Tryz.func65, Tryz.ntmps65
    go_wp2_with fail
    refine M.out.mono ?_
    rintro _ _ ⟨rfl, rfl⟩
    go_wp2_with fail
    refine T.out.mono ?_
    rintro _ w2 ⟨rfl, t1, t2⟩
    have HT := Lib.hid t1
    have HT2 := Lib.hid t2
    clear t1 t2
    go_wp2
    go_ret
    exact ⟨rfl, HT.out, HK.out.trans HT2.out (fun j hj => .inl hj)⟩
def FullOk (w : World) (x : Nd) : Prop := Head w x.B x.o x.t ∧ SvOk x.t.sv x.t.G x.t.off x.t.l.length
theorem FullOk.nd {w : World} {x : Nd} (h : FullOk w x) : NdOk w x := ⟨h.1.1, h.1.2.2.2.2, h.2⟩
theorem FullOk.row {w : World} {x : Nd} (h : FullOk w x) : RowAt w x.B x.o x.t.k x.t.n x.t.s x.t.l.length := by
  refine ⟨h.1.2.1, h.1.2.2.1, h.1.2.2.2.1, ?_⟩
  have h3 := h.1.2.2.2.2
  rcases h.2 with ⟨h1, h2⟩ | ⟨c, h1, h2, _⟩
  · rw [h1] at h3; exact ⟨none, 0, by rw [h2]; exact h3, by omega⟩
  · rw [h1] at h3; exact ⟨_, c, h3, h2⟩
theorem Head.same {w w' : World} {B o : Nat} {t : AT} (h : Head w B o t) (hh : w'.heap[B]? = w.heap[B]?) : Head w' B o t :=
  ⟨h.1.same hh, (World.cell?_of_block hh).trans h.2.1, (World.cell?_of_block hh).trans h.2.2.1, (World.cell?_of_block hh).trans h.2.2.2.1, (World.cell?_of_block hh).trans h.2.2.2.2⟩
theorem FullOk.kept {F : Nat → Prop} {w w' : World} {x : Nd} (h : FullOk w x) (hk : Keeps F w w') (hF : ¬ F x.B) : FullOk w' x := ⟨h.1.same (hk.block _ h.1.1.lt hF), h.2⟩
mutual
theorem AT.full {w : World} : ∀ (t : AT) (d : Nat), t.mem w → ∀ x ∈ t.flat d, FullOk w x
  | .mk _ _ _ _ G off l, d, hm => ATs.full l d off G hm.2
theorem ATs.full {w : World} : ∀ (l : List AT) (d off G : Nat), ATs.mem w G l off → ∀ x ∈ ATs.flat G d l off, FullOk w x
  | [], _, _, _, _ => fun x hx => by cases hx
  | t :: r, d, off, G, hm => fun x hx => by
    rw [ATs.flat, List.mem_cons, List.mem_append] at hx
    rcases hx with rfl | hx | hx
    · exact ⟨hm.1, (AT.mem_mk.1 hm.2.1).1⟩
    · exact AT.full t (d + 1) hm.2.1 x hx
    · exact ATs.full r d (off + 4) G hm.2.2 x hx
end
structure Own (H0 : Nat) (S : Nat → World → (Nat → Prop) → Prop) : Prop where
  lt : ∀ i w F, S i w F → ∀ j, F j → j < w.heap.size
  stay : ∀ i w w' F, S i w F → w.heap.size ≤ w'.heap.size → (∀ j, (F j ∨ j < H0) → w'.heap[j]? = w.heap[j]?) → S i w' F
def CInv (H0 : Nat) (L : List Nd) (S : Nat → World → (Nat → Prop) → Prop) (i : Nat) (w : World) (F : Nat → Prop) : Prop :=
  (∀ x ∈ L, FullOk w x ∧ x.B < H0 ∧ ¬ F x.B) ∧ H0 ≤ w.heap.size ∧ S i w F
theorem cb_of {K : Nat} {pv : Value} {L : List Nd} {H0 : Nat} {S : Nat → World → (Nat → Prop) → Prop} {go : Nat → Bool} (ho : Own H0 S)
    (hc : ∀ i w F x, S i w F → (∀ y ∈ L, FullOk w y ∧ ¬ F y.B) → H0 ≤ w.heap.size → (∀ j, j < i → go j = true) → L[i]? = some x → Calls Tryz.prog K #[pv, .pointer (some ⟨x.B, x.o, none⟩), .int .i64 x.d] w (CBPost S go i w F)) : CB K pv L H0 (CInv H0 L S) go where
  lt := fun i w F h => ho.lt i w F h.2.2
  ok := fun i w F h x hx => ⟨(h.1 x hx).1.nd, (h.1 x hx).2.1⟩
  stay := fun i w w' F G h hk hG => by
    refine ⟨fun x hx => ⟨(h.1 x hx).1.kept hk (fun hg => by have := (hG _ hg).2; have := (h.1 x hx).2.1; omega), (h.1 x hx).2⟩, Nat.le_trans h.2.1 hk.size, ho.stay i w w' F h.2.2 hk.size (fun j hj => ?_)⟩
    rcases hj with hj | hj
    · exact hk.block j (ho.lt i w F h.2.2 j hj) (fun hg => (hG j hg).1 hj)
    · exact hk.block j (Nat.lt_of_lt_of_le hj h.2.1) (fun hg => by have := (hG j hg).2; omega)
  call := fun i w F x h hg hx => (hc i w F x h.2.2 (fun y hy => ⟨(h.1 y hy).1, (h.1 y hy).2.2⟩) h.2.1 hg hx).mono fun e w' hp => by
    obtain ⟨h1, F', h2, h3, h4⟩ := hp
    refine ⟨h1, F', ⟨fun y hy => ⟨(h.1 y hy).1.kept h3 (h.1 y hy).2.2, (h.1 y hy).2.1, fun hF => ?_⟩, Nat.le_trans h.2.1 h3.size, h2⟩, h3, h4⟩
    rcases h4 _ hF with h5 | h5
    · exact (h.1 y hy).2.2 h5
    · have := (h.1 y hy).2.1
      have := h.2.1
      omega
end Go.Proofs.YtkplokfcjjcpcaaGreatDoor.Trm
end
section
namespace Go.Proofs.YtkplokfcjjcpcaaGreatDoor.Trm
open Go Go.RowKit
def argL (b : Nat) (t : AT) : List Nd := ATs.flat b 1 [t] 0
theorem argL_is (b : Nat) (t : AT) : argL b t = ⟨b, 0, 1, t⟩ :: t.flat 2 := by simp [argL, ATs.flat]
theorem argL_len (b : Nat) (t : AT) : (argL b t).length = t.nodes := by rw [argL, ATs.flat_len]; simp [ATs.nodes]
theorem through_arg (K : Nat) (hK : K = 65 ∨ K = 110 ∨ K = 66 ∨ K = 126 ∨ K = 128)
    (pv : Value) (t : AT) (b : Nat) (w W1 : World) (S : Nat → World → (Nat → Prop) → Prop) (go : Nat → Bool) (F0 : Nat → Prop) (hm : t.mem w) (hn : t.nodes ≤ 800000) (hb : Below w.heap.size w W1)
    (hh : W1.heap[b]? = some (.cells #[.int .i64 t.k, .int .i64 t.n, .string t.s, t.sv] 34 (0, 0))) (hF : ∀ j, F0 j → w.heap.size ≤ j) (hFb : ¬ F0 b) (ho : Own W1.heap.size S)
    (hc : ∀ i w F x, S i w F → (∀ y ∈ argL b t, FullOk w y ∧ ¬ F y.B) → W1.heap.size ≤ w.heap.size → (∀ j, j < i → go j = true) → (argL b t)[i]? = some x → Calls Tryz.prog K #[pv, .pointer (some ⟨x.B, x.o, none⟩), .int .i64 x.d] w (CBPost S go i w F)) (h0 : S 0 W1 F0) :
    Calls Tryz.prog 64 #[.func (.func K) #[pv] #[], .slice (some ⟨b, 0, none⟩) 1 1] W1 (ThroughPost W1 (CInv W1.heap.size (argL b t) S) go t.nodes F0) := by
  rw [← argL_len b t]
  refine through_is K hK pv (.mk 0 0 ⟨#[]⟩ (.slice (some ⟨b, 0, none⟩) 1 1) b 0 [t]) (argL b t) W1 _ go F0 (cb_of ho hc) ⟨fun x hx => ?_, Nat.le_refl _, h0⟩ (.inr ⟨1, rfl, Nat.le_refl _, by unfold maxLen; omega⟩) rfl (by show ATs.nodes [t] ≤ 900000; rw [ATs.nodes, ATs.nodes]; omega)
  rw [argL_is, List.mem_cons] at hx
  rcases hx with rfl | hx
  · exact ⟨⟨⟨⟨_, _, hh⟩, cell_of_heap hh rfl, cell_of_heap hh rfl, cell_of_heap hh rfl, cell_of_heap hh rfl⟩, (AT.mem_mk.1 hm).1⟩, (Array.getElem?_eq_some_iff.1 hh).1, hFb⟩
  · have h1 := AT.full t 2 hm x hx
    have h2 := h1.1.1.lt
    exact ⟨⟨h1.1.same (hb.block _ h2), h1.2⟩, Nat.lt_of_lt_of_le h2 hb.size, fun hf => by have := hF _ hf; omega⟩
def dmx (L : List Nd) (i : Nat) : Int := (L.take i).foldl (fun m x => max m (x.d : Int)) 0
theorem dmx_succ {L : List Nd} {i : Nat} {x : Nd} (h : L[i]? = some x) : dmx L (i + 1) = max (dmx L i) x.d := by
  unfold dmx
  rw [List.take_add_one, h]
  simp
theorem world3 (w : World) (o1 o2 o3 : Obj) : (((w.alloc o1).alloc o2).alloc o3).heap[w.heap.size + 1 + 1]? = some o3 ∧ (((w.alloc o1).alloc o2).alloc o3).heap[w.heap.size + 1]? = some o2 ∧ Below w.heap.size w (((w.alloc o1).alloc o2).alloc o3) := by
  refine ⟨?_, ?_, (((Below.refl _ _).alloc (Nat.le_refl _) _).alloc (by simp) _).alloc (by simp; omega) _⟩
  · have := heap_alloc_new ((w.alloc o1).alloc o2) o3
    simpa using this
  · rw [Below.heap_alloc _ _ _ (by simp)]
    have := heap_alloc_new (w.alloc o1) o2
    simpa using this
def okL (L : List Nd) : Bool := L.all fun x => mayB x.t.k x.t.n x.t.s x.t.l.length
def goC (L : List Nd) (i : Nat) : Bool := match L[i]? with
  | some x => mayB x.t.k x.t.n x.t.s x.t.l.length
  | none => true
theorem okL_of {L : List Nd} (h : ∀ j, j < L.length → goC L j = true) : okL L = true := by
  unfold okL
  rw [List.all_eq_true]
  intro x hx
  obtain ⟨j, hj, rfl⟩ := List.getElem_of_mem hx
  have := h j hj
  unfold goC at this
  rw [List.getElem?_eq_getElem hj] at this
  exact this
theorem okL_no {L : List Nd} {j : Nat} (hj : j < L.length) (h : goC L j = false) : okL L = false := by
  rw [Bool.eq_false_iff]
  intro ha
  unfold okL at ha
  rw [List.all_eq_true] at ha
  have := ha _ (List.getElem_mem hj)
  unfold goC at h
  rw [List.getElem?_eq_getElem hj] at h
  simp only at h
  rw [this] at h
  cases h
def CheckS (q : Nat) (L : List Nd) (i : Nat) (w : World) (F : Nat → Prop) : Prop :=
  (∀ j, F j ↔ j = q) ∧ i ≤ L.length ∧ (∃ p d b, MeasAt w q p d b) ∧ ((∀ j, j < i → goC L j = true) → MeasAt w q i (dmx L i) false) ∧ ((∃ j, j < i ∧ goC L j = false) → ∃ p d, MeasAt w q p d true)
theorem checkS_own {q H0 : Nat} {L : List Nd} : Own H0 (CheckS q L) where
  lt := fun i w F h j hj => by
    have := (h.1 j).1 hj
    subst this
    obtain ⟨p, d, b, hm⟩ := h.2.2.1
    exact (Array.getElem?_eq_some_iff.1 hm).1
  stay := fun i w w' F h _ hj => by
    have hq := hj q (.inl ((h.1 q).2 rfl))
    obtain ⟨h1, h2, ⟨p, d, b, hm⟩, h4, h5⟩ := h
    refine ⟨h1, h2, ⟨p, d, b, hq.trans hm⟩, fun ha => hq.trans (h4 ha), fun ha => ?_⟩
    obtain ⟨p, d, hm⟩ := h5 ha
    exact ⟨p, d, hq.trans hm⟩
theorem check_cb {q : Nat} {L : List Nd} (hl : L.length ≤ 900000) : ∀ i w F x, CheckS q L i w F → (∀ y ∈ L, FullOk w y) → (∀ j, j < i → goC L j = true) → L[i]? = some x → Calls Tryz.prog 65 #[.pointer (some ⟨q, 0, none⟩), .pointer (some ⟨x.B, x.o, none⟩), .int .i64 x.d] w (CBPost (CheckS q L) (goC L) i w F) := by
  intro i w F x hs hf hg hx
  have hi : i < L.length := (List.getElem?_eq_some_iff.1 hx).1
  have hxm := List.mem_of_getElem? hx
  have hgi : goC L i = mayB x.t.k x.t.n x.t.s x.t.l.length := by unfold goC; rw [hx]
  refine (check_is q x.B x.o i (dmx L i) x.d false x.t.k x.t.n x.t.s x.t.l.length w (hs.2.2.2.1 hg) (hf x hxm).row (by omega) (by omega)).mono ?_
  rintro e w' ⟨rfl, h1, h2⟩
  rw [← hgi] at h1 ⊢
  refine ⟨rfl, F, ⟨hs.1, hi, ⟨_, _, _, h1⟩, fun ha => ?_, fun ha => ?_⟩, h2.wide (fun j hj => .inl ((hs.1 j).2 hj)), fun j hj => .inl hj⟩
  · rw [ha i (by omega)] at h1
    rw [dmx_succ hx]
    exact h1
  · obtain ⟨j, hj, hjf⟩ := ha
    have hji : j = i := by
      rcases Nat.lt_or_ge j i with h | h
      · rw [hg j h] at hjf; cases hjf
      · omega
    subst hji
    rw [hjf] at h1
    exact ⟨_, _, h1⟩
def CheckDone (w0 : World) (q : Nat) (L : List Nd) (e : Ending) (w' : World) : Prop := e = .returned (.tuple #[]) ∧ (∃ p d b, MeasAt w' q p d b ∧ b = !okL L ∧ (b = false → p = L.length ∧ d = dmx L L.length)) ∧ Below w0.heap.size w0 w'
theorem check_arg (t : AT) (w : World) (o1 : Obj) (hm : t.mem w) (hn : t.nodes ≤ 800000) :
    Calls Tryz.prog 64 #[.func (.func 65) #[.pointer (some ⟨w.heap.size + 1, 0, none⟩)] #[], .slice (some ⟨w.heap.size + 1 + 1, 0, none⟩) 1 1]
      (((w.alloc o1).alloc (.cells #[.int .i64 0, .int .i64 0, .bool false] 139)).alloc (.cells #[.int .i64 t.k, .int .i64 t.n, .string t.s, t.sv] 34))
      (CheckDone w (w.heap.size + 1) (argL (w.heap.size + 1 + 1) t)) := by
  obtain ⟨h1, h2, h3⟩ := world3 w o1 (.cells #[.int .i64 0, .int .i64 0, .bool false] 139) (.cells #[.int .i64 t.k, .int .i64 t.n, .string t.s, t.sv] 34)
  have hlen := argL_len (w.heap.size + 1 + 1) t
  refine (through_arg _ (.inl rfl) _ t _ w _ (CheckS (w.heap.size + 1) (argL (w.heap.size + 1 + 1) t)) (goC (argL (w.heap.size + 1 + 1) t)) (fun j => j = w.heap.size + 1) hm hn h3 h1 (fun j hj => by omega) (by omega) checkS_own
    (fun i w2 F x hs hf _ hg hx => check_cb (by omega) i w2 F x hs (fun y hy => (hf y hy).1) hg hx) ⟨fun j => Iff.rfl, Nat.zero_le _, ⟨0, 0, false, h2⟩, fun _ => h2, fun ⟨j, hj, _⟩ => by omega⟩).mono ?_
  rintro e w' ⟨rfl, n, F, a1, a2, a3, a4, a5, a6⟩
  refine ⟨rfl, ?_, h3.trans (a5.below (fun j hj => by omega) h3.size)⟩
  obtain ⟨_, _, s1, s2, s3, s4, s5⟩ := a4
  rw [← hlen] at a1 a3
  by_cases ha : ∀ j, j < n → goC (argL (w.heap.size + 1 + 1) t) j = true
  · have hnn : n = (argL (w.heap.size + 1 + 1) t).length := by
      rcases Nat.lt_or_ge n (argL (w.heap.size + 1 + 1) t).length with h | h
      · obtain ⟨b1, b2⟩ := a3 h
        rw [ha _ (by omega)] at b2
        cases b2
      · omega
    have hs4 := s4 ha
    rw [hnn] at hs4
    exact ⟨_, _, _, hs4, by rw [okL_of (fun j hj => ha j (by omega))]; rfl, fun _ => ⟨rfl, rfl⟩⟩
  · obtain ⟨j, hj⟩ := Classical.not_forall.1 ha
    obtain ⟨hj1, hj2⟩ := Classical.not_imp.1 hj
    have hj3 : goC (argL (w.heap.size + 1 + 1) t) j = false := by simpa using hj2
    obtain ⟨p, d, hm2⟩ := s5 ⟨j, hj1, hj3⟩
    exact ⟨p, d, true, hm2, by rw [okL_no (by omega) hj3]; rfl, fun h => by cases h⟩
def checkZ (b : Bool) (d p : Int) : Int := if b then 2 else if 2000 < d then 4 else if 20000 < p then 3 else 0
def CheckRes (w : World) (t : AT) (e : Ending) (w' : World) : Prop := ∃ p d b, e = .returned (.int .i64 (checkZ b d p)) ∧ b = (!okL (argL (w.heap.size + 1 + 1) t)) ∧ (b = false → p = t.nodes ∧ d = dmx (argL (w.heap.size + 1 + 1) t) t.nodes) ∧ Below w.heap.size w w'
set_option maxRecDepth 100000 in
set_option maxHeartbeats 800000 in
theorem checkT_is (t : AT) (w : World) (hm : t.mem w) (hn : t.nodes ≤ 800000) :
    Calls Tryz.prog 24 #[.agg #[.int .i64 t.k, .int .i64 t.n, .string t.s, t.sv]] w (CheckRes w t) := by
  have T := Lib.hid (fun o1 => check_arg t w o1 hm hn)
  clear hm
  have hmf : ∀ (fn : Fn) (first cap : Array Value) (w : World), (Instr.makeFunc fn first cap).run Tryz.prog w = .ok (.func fn first cap) w := fun _ _ _ _ => rfl
  go_enter Tryz.func24, Tryz.ntmps24
  go_wp2_with fail
  refine (T.out _).mono ?_
  rintro e w' ⟨rfl, ⟨p, d, b, a1, a3, a4⟩, a2⟩
  have c0 := cell_of_heap (o := 0) a1 rfl
  have c1 := cell_of_heap (o := 1) a1 rfl
  have c2 := cell_of_heap (o := 2) a1 rfl
  have HB := Lib.hid a2
  have H3 := Lib.hid a3
  have H4 := Lib.hid a4
  clear a1 a2 a3 a4
  cases b
  · rw [argL_len] at H4
    by_cases h1 : 2000 < d
    · have HZ := Lib.hid (show checkZ false d p = 4 by rw [checkZ, if_neg (by simp), if_pos h1])
      go_wp2
      go_ret
      exact ⟨p, d, false, (by show Ending.returned (.int .i64 4) = _; rw [HZ.out]), H3.out, fun _ => H4.out trivial, HB.out⟩
    · by_cases h2 : 20000 < p
      · have HZ := Lib.hid (show checkZ false d p = 3 by rw [checkZ, if_neg (by simp), if_neg h1, if_pos h2])
        go_wp2
        go_ret
        exact ⟨p, d, false, (by show Ending.returned (.int .i64 3) = _; rw [HZ.out]), H3.out, fun _ => H4.out trivial, HB.out⟩
      · have HZ := Lib.hid (show checkZ false d p = 0 by rw [checkZ, if_neg (by simp), if_neg h1, if_neg h2])
        go_wp2
        go_ret
        exact ⟨p, d, false, (by show Ending.returned (.int .i64 0) = _; rw [HZ.out]), H3.out, fun _ => H4.out trivial, HB.out⟩
  · have HZ := Lib.hid (show checkZ true d p = 2 by rw [checkZ, if_pos rfl])
    go_wp2
    go_ret
    exact ⟨p, d, true, (by show Ending.returned (.int .i64 2) = _; rw [HZ.out]), H3.out, fun h => (by cases h), HB.out⟩
end Go.Proofs.YtkplokfcjjcpcaaGreatDoor.Trm
end
section
namespace Go.Proofs.YtkplokfcjjcpcaaGreatDoor.Trm
open Go Go.RowKit
theorem ret_int {k : IntKind} {a b : Int} (h : a = b) : Ending.returned (.int k a) = .returned (.int k b) := by rw [h]
def cmpS (x y : ByteArray) : Int := if Op.bytesLess x.toList y.toList = true then -1 else if (x.toList == y.toList) = true then 0 else 1
def or4 (a b c d : Int) : Int := if a ≠ 0 then a else if b ≠ 0 then b else if c ≠ 0 then c else d
end Go.Proofs.YtkplokfcjjcpcaaGreatDoor.Trm
end
section
namespace Go.Proofs.YtkplokfcjjcpcaaGreatDoor.Trm
open Go Go.RowKit
attribute [local go_sem ↓] Go.wp_at_zero Go.wp_at_succ
def cmpRow (x y : AT) : Int := or4 (Lib.compareInt x.k y.k) (Lib.compareInt x.n y.n) (Lib.compareInt x.l.length y.l.length) (cmpS x.s y.s)
theorem far {w : World} {q i B x : Nat} {v u : Value} {o : Obj} (h : B ≠ q) (hc : w.cell? ⟨B, x, none⟩ = some u) : ((w.setCell ⟨q, i, none⟩ v).alloc o).drew.cell? ⟨B, x, none⟩ = some u := by
  have h1 : (w.setCell ⟨q, i, none⟩ v).cell? ⟨B, x, none⟩ = some u := by rw [set_cell_ne h]; exact hc
  exact (World.cell?_of_block (Below.heap_alloc _ o _ (World.block_lt_of_cell? _ _ h1))).trans h1
structure HoldF (q B o B' o' : Nat) (k n k' n' z : Int) (s s' : ByteArray) (ad ad' : Option Addr) (a a' c c' : Nat) (R : Ending → World → Prop) (w : World) : Prop where
  p0 : w.cell? ⟨B, o, none⟩ = some (.int .i64 k)
  p1 : w.cell? ⟨B, o + 1, none⟩ = some (.int .i64 n)
  p2 : w.cell? ⟨B, o + 2, none⟩ = some (.string s)
  p3 : w.cell? ⟨B, o + 3, none⟩ = some (.slice ad a c)
  r0 : w.cell? ⟨B', o', none⟩ = some (.int .i64 k')
  r1 : w.cell? ⟨B', o' + 1, none⟩ = some (.int .i64 n')
  r2 : w.cell? ⟨B', o' + 2, none⟩ = some (.string s')
  r3 : w.cell? ⟨B', o' + 3, none⟩ = some (.slice ad' a' c')
  hq : ∃ sg, w.cell? ⟨q, 1, none⟩ = some sg
  zq : w.frozen? ⟨q, 1, none⟩ = false
  hend : ∀ d, R (.returned (.bool (z == 0))) (((w.setCell ⟨q, 1, none⟩ (.int .i64 z)).alloc (.cells #[.int .i64 (Lib.compareInt k k'), .int .i64 (Lib.compareInt n n'), .int .i64 (Lib.compareInt a a'), .int .i64 (cmpS s s')] 3)).drewN d)
end Go.Proofs.YtkplokfcjjcpcaaGreatDoor.Trm
end
section
namespace Go.Proofs.YtkplokfcjjcpcaaGreatDoor.Trm
open Go Go.RowKit
theorem cmpS_zero {x y : ByteArray} (h : cmpS x y = 0) : x = y := by
  unfold cmpS at h
  split at h
  · cases h
  · split at h
    · rename_i h2
      have h3 := beq_iff_eq.1 h2
      rw [ByteArray.toList_eq, ByteArray.toList_eq] at h3
      exact WideShapes.bytes_inj h3
    · cases h
theorem cmpI_zero {x y : Int} (h : Lib.compareInt x y = 0) : x = y := by
  unfold Lib.compareInt at h
  split at h
  · cases h
  · split at h
    · cases h
    · omega
theorem or4_zero {a b c d : Int} (h : or4 a b c d = 0) : a = 0 ∧ b = 0 ∧ c = 0 ∧ d = 0 := by
  unfold or4 at h
  split at h
  · contradiction
  · split at h
    · contradiction
    · split at h
      · contradiction
      · refine ⟨?_, ?_, ?_, h⟩ <;> (rename_i h1 h2 h3; simp only [ne_eq, Decidable.not_not] at h1 h2 h3; assumption)
theorem cmpRow_zero {x y : AT} (h : cmpRow x y = 0) : x.k = y.k ∧ x.n = y.n ∧ x.l.length = y.l.length ∧ x.s = y.s := by
  obtain ⟨h1, h2, h3, h4⟩ := or4_zero h
  exact ⟨cmpI_zero h1, cmpI_zero h2, by have := cmpI_zero h3; omega, cmpS_zero h4⟩
def need : Nat → List Nat → Nat
  | n, [] => n
  | n, a :: l => need (n - 1 + a) l
theorem need_app (n : Nat) (l m : List Nat) : need n (l ++ m) = need (need n l) m := by
  induction l generalizing n with
  | nil => rfl
  | cons a l ih => exact ih _
def ars (L : List Nd) : List Nat := L.map fun x => x.t.l.length
mutual
theorem AT.need : ∀ (t : AT) (d n : Nat), need (n + t.l.length) (ars (t.flat d)) = n
  | .mk _ _ _ _ G off l, d, n => ATs.need l d off G n
theorem ATs.need : ∀ (l : List AT) (d off G n : Nat), Go.Proofs.YtkplokfcjjcpcaaGreatDoor.Trm.need (n + l.length) (ars (ATs.flat G d l off)) = n
  | [], _, _, _, n => by simp [ATs.flat, ars, Go.Proofs.YtkplokfcjjcpcaaGreatDoor.Trm.need]
  | t :: r, d, off, G, n => by
    rw [ATs.flat, ars, List.map_cons, List.map_append, Go.Proofs.YtkplokfcjjcpcaaGreatDoor.Trm.need, need_app]
    have h1 := AT.need t (d + 1) (n + r.length)
    unfold ars at h1
    simp only [List.length_cons]
    rw [show n + (r.length + 1) - 1 + t.l.length = n + r.length + t.l.length from by omega, h1]
    exact ATs.need r d (off + 4) G n
end
mutual
theorem AT.pos : ∀ (t : AT) (d n i : Nat), i < (ars (t.flat d)).length → n < need (n + t.l.length) ((ars (t.flat d)).take i)
  | .mk _ _ _ _ G off l, d, n, i, h => ATs.pos l d off G n i h
theorem ATs.pos : ∀ (l : List AT) (d off G n i : Nat), i < (ars (ATs.flat G d l off)).length → n < Go.Proofs.YtkplokfcjjcpcaaGreatDoor.Trm.need (n + l.length) ((ars (ATs.flat G d l off)).take i)
  | [], _, _, _, _, _, h => by simp [ATs.flat, ars] at h
  | t :: r, d, off, G, n, i, h => by
    cases i with
    | zero => simp [Go.Proofs.YtkplokfcjjcpcaaGreatDoor.Trm.need]
    | succ i =>
      rw [ATs.flat, ars, List.map_cons, List.map_append] at h ⊢
      rw [List.take_succ_cons, Go.Proofs.YtkplokfcjjcpcaaGreatDoor.Trm.need]
      simp only [List.length_cons]
      rw [show n + (r.length + 1) - 1 + t.l.length = n + r.length + t.l.length from by omega]
      have hn := AT.need t (d + 1) (n + r.length)
      rcases Nat.lt_or_ge i (ars (t.flat (d + 1))).length with hi | hi
      · rw [List.take_append_of_le_length (by unfold ars at hi; omega)]
        have := AT.pos t (d + 1) (n + r.length) i hi
        unfold ars at this
        omega
      · unfold ars at hi hn
        rw [List.take_append, List.take_of_length_le hi, need_app, hn]
        refine ATs.pos r d (off + 4) G n _ ?_
        simp only [List.length_cons, List.length_append] at h
        unfold ars
        omega
end
end Go.Proofs.YtkplokfcjjcpcaaGreatDoor.Trm
end
