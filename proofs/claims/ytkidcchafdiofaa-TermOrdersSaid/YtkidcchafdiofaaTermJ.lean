/- term.Compare: a contract. Conditions: memory holds both terms; each has at most 800000 parts. -/
import Derived.Test.YtkidcchafdiofaaTermI
namespace Go.Proofs.Ytkidcchafdiofaa
open Go Go.RowKit

/-- how two terms stand, part by part -/
def cmpL : List Nd → List Nd → Int
  | x :: l, y :: m => if cmpRow x.t y.t ≠ 0 then cmpRow x.t y.t else cmpL l m
  | _, _ => 0

theorem cmpS_zero {x y : ByteArray} (h : cmpS x y = 0) : x = y := by
  unfold cmpS at h
  split at h
  · cases h
  · split at h
    · rename_i h2
      have h3 := beq_iff_eq.1 h2
      rw [ByteArray.toList_eq, ByteArray.toList_eq] at h3
      exact WideShapes.bytes_inj h3
    · cases h
theorem cmpI_zero {x y : Int} (h : Lib.compareInt x y = 0) : x = y := by
  unfold Lib.compareInt at h
  split at h
  · cases h
  · split at h
    · cases h
    · omega
theorem or4_zero {a b c d : Int} (h : or4 a b c d = 0) : a = 0 ∧ b = 0 ∧ c = 0 ∧ d = 0 := by
  unfold or4 at h
  split at h
  · contradiction
  · split at h
    · contradiction
    · split at h
      · contradiction
      · refine ⟨?_, ?_, ?_, h⟩ <;> (rename_i h1 h2 h3; simp only [ne_eq, Decidable.not_not] at h1 h2 h3; assumption)
theorem cmpRow_zero {x y : AT} (h : cmpRow x y = 0) : x.k = y.k ∧ x.n = y.n ∧ x.l.length = y.l.length ∧ x.s = y.s := by
  obtain ⟨h1, h2, h3, h4⟩ := or4_zero h
  exact ⟨cmpI_zero h1, cmpI_zero h2, by have := cmpI_zero h3; omega, cmpS_zero h4⟩

/-- how many parts are still wanted, behind parts with so many Args -/
def need : Nat → List Nat → Nat
  | n, [] => n
  | n, a :: l => need (n - 1 + a) l
theorem need_app (n : Nat) (l m : List Nat) : need n (l ++ m) = need (need n l) m := by
  induction l generalizing n with
  | nil => rfl
  | cons a l ih => exact ih _
def ars (L : List Nd) : List Nat := L.map fun x => x.t.l.length
mutual
theorem AT.need : ∀ (t : AT) (d n : Nat), need (n + t.l.length) (ars (t.flat d)) = n
  | .mk _ _ _ _ G off l, d, n => ATs.need l d off G n
theorem ATs.need : ∀ (l : List AT) (d off G n : Nat), Go.Proofs.Ytkidcchafdiofaa.need (n + l.length) (ars (ATs.flat G d l off)) = n
  | [], _, _, _, n => by simp [ATs.flat, ars, Go.Proofs.Ytkidcchafdiofaa.need]
  | t :: r, d, off, G, n => by
    rw [ATs.flat, ars, List.map_cons, List.map_append, Go.Proofs.Ytkidcchafdiofaa.need, need_app]
    have h1 := AT.need t (d + 1) (n + r.length)
    unfold ars at h1
    simp only [List.length_cons]
    rw [show n + (r.length + 1) - 1 + t.l.length = n + r.length + t.l.length from by omega, h1]
    exact ATs.need r d (off + 4) G n
end
mutual
theorem AT.pos : ∀ (t : AT) (d n i : Nat), i < (ars (t.flat d)).length → n < need (n + t.l.length) ((ars (t.flat d)).take i)
  | .mk _ _ _ _ G off l, d, n, i, h => ATs.pos l d off G n i h
theorem ATs.pos : ∀ (l : List AT) (d off G n i : Nat), i < (ars (ATs.flat G d l off)).length → n < Go.Proofs.Ytkidcchafdiofaa.need (n + l.length) ((ars (ATs.flat G d l off)).take i)
  | [], _, _, _, _, _, h => by simp [ATs.flat, ars] at h
  | t :: r, d, off, G, n, i, h => by
    cases i with
    | zero => simp [Go.Proofs.Ytkidcchafdiofaa.need]
    | succ i =>
      rw [ATs.flat, ars, List.map_cons, List.map_append] at h ⊢
      rw [List.take_succ_cons, Go.Proofs.Ytkidcchafdiofaa.need]
      simp only [List.length_cons]
      rw [show n + (r.length + 1) - 1 + t.l.length = n + r.length + t.l.length from by omega]
      have hn := AT.need t (d + 1) (n + r.length)
      rcases Nat.lt_or_ge i (ars (t.flat (d + 1))).length with hi | hi
      · rw [List.take_append_of_le_length (by unfold ars at hi; omega)]
        have := AT.pos t (d + 1) (n + r.length) i hi
        unfold ars at this
        omega
      · unfold ars at hi hn
        rw [List.take_append, List.take_of_length_le hi, need_app, hn]
        refine ATs.pos r d (off + 4) G n _ ?_
        simp only [List.length_cons, List.length_append] at h
        unfold ars
        omega
end
/-- as long as the parts have as many Args, the other term has one more part, too -/
theorem other_has {x y : AT} {b b' i : Nat} (hi : i < (argL b x).length) (h : (ars (argL b x)).take i = (ars (argL b' y)).take i) : i < (argL b' y).length := by
  have h1 := ATs.pos [x] 1 0 b 0 i (by unfold ars; simpa [argL] using hi)
  have h2 := ATs.need [y] 1 0 b' 0
  rcases Nat.lt_or_ge i (argL b' y).length with h3 | h3
  · exact h3
  · unfold argL at h h3
    rw [h, List.take_of_length_le (by unfold ars; simpa using h3)] at h1
    simp only [List.length_cons, List.length_nil] at h1 h2
    omega

def cmpAt (L M : List Nd) (i : Nat) : Int := match L[i]?, M[i]? with
  | some x, some y => cmpRow x.t y.t
  | _, _ => 0
theorem cmpL_at : ∀ (n : Nat) (L M : List Nd), (∀ j, j < n → cmpAt L M j = 0) → n + 1 ≤ L.length → (n + 1 < L.length → cmpAt L M n ≠ 0) → cmpL L M = cmpAt L M n
  | n, [], M, _, h, _ => by simp at h
  | 0, x :: l, [], _, _, _ => by simp [cmpL, cmpAt]
  | 0, x :: l, y :: m, _, h, h2 => by
    have h3 : cmpAt (x :: l) (y :: m) 0 = cmpRow x.t y.t := by simp [cmpAt]
    rw [h3] at h2 ⊢
    rw [cmpL]
    by_cases hc : cmpRow x.t y.t = 0
    · have : l = [] := by
        cases l with
        | nil => rfl
        | cons a l => exact absurd hc (h2 (by simp))
      subst this
      rw [if_neg (by simp [hc]), hc]
      rfl
    · rw [if_pos hc]
  | n + 1, x :: l, [], _, _, _ => by simp [cmpL, cmpAt]
  | n + 1, x :: l, y :: m, h0, h, h2 => by
    have h3 : cmpRow x.t y.t = 0 := by have := h0 0 (by omega); simpa [cmpAt] using this
    have hs : ∀ j, cmpAt (x :: l) (y :: m) (j + 1) = cmpAt l m j := fun j => by simp [cmpAt]
    rw [cmpL, if_neg (by simp [h3]), hs]
    exact cmpL_at n l m (fun j hj => by rw [← hs]; exact h0 (j + 1) (by omega)) (by simpa using h) (fun hl => by rw [← hs]; exact h2 (by simpa using hl))
theorem ars_take {L M : List Nd} {i : Nat} (h : ∀ j, j < i → cmpAt L M j = 0) (hi : i ≤ L.length) (hm : ∀ j, j < i → j < M.length) : (ars L).take i = (ars M).take i := by
  refine List.ext_getElem? fun j => ?_
  rw [List.getElem?_take, List.getElem?_take]
  split
  · rename_i hj
    unfold ars
    have h1 : j < L.length := by omega
    have h2 := hm j hj
    have h3 := h j hj
    unfold cmpAt at h3
    rw [List.getElem?_eq_getElem h1, List.getElem?_eq_getElem h2] at h3
    rw [List.getElem?_map, List.getElem?_map, List.getElem?_eq_getElem h1, List.getElem?_eq_getElem h2]
    simp only [Option.map_some]
    rw [(cmpRow_zero h3).2.2.1]
  · rfl

/-- the state of the match: the other way stands at the same place -/
def HoldS (q r : Nat) (t0 : AT) (L M : List Nd) (i : Nat) (w : World) (F : Nat → Prop) : Prop :=
  ∃ (σ : List GF) (g : Nat), (∀ j, F j ↔ (j = q ∨ j = g)) ∧ Steps M r t0 σ ∧ WayAt w q 65 [.int .i64 (match i with | 0 => 0 | i + 1 => cmpAt L M i)] g (σ.map GF.st) ∧ todo σ = M.drop i ∧ i ≤ M.length ∧ r < g ∧ r ≠ q ∧
    w.heap[r]? = some (.cells #[.int .i64 0, .int .i64 0, .string ⟨#[]⟩, t0.sv] 27 (0, 0)) ∧ ∀ y ∈ M, FullOk w y ∧ y.B < r
theorem holdS_own {q r H0 : Nat} {t0 : AT} {L M : List Nd} (hr : r < H0) (_hq : r < q) : Own H0 (HoldS q r t0 L M) where
  lt := fun i w F h j hj => by
    obtain ⟨σ, g, h1, h2, h3, _⟩ := h
    have := way_lt h3
    rcases (h1 j).1 hj with rfl | rfl
    · exact this.1
    · exact this.2
  stay := fun i w w' F h hs hj => by
    obtain ⟨σ, g, h1, h2, h3, h4, h5, h6, h7, h8, h9⟩ := h
    obtain ⟨cap, cur, a1, a2, a3⟩ := h3
    refine ⟨σ, g, h1, h2, ⟨cap, cur, (hj q (.inl ((h1 q).2 (.inl rfl)))).trans a1, (hj g (.inl ((h1 g).2 (.inr rfl)))).trans a2, a3⟩, h4, h5, h6, h7, (hj r (.inr hr)).trans h8, fun y hy => ⟨⟨(h9 y hy).1.1.same (hj _ (.inr (by have := (h9 y hy).2; omega))), (h9 y hy).1.2⟩, (h9 y hy).2⟩⟩

theorem nextOk_of {w : World} {M : List Nd} {r q g : Nat} {T : TypeId} {tl : List Value} {t0 : AT} {σ : List GF} (hsv : SvOk t0.sv t0.G t0.off t0.l.length) (hL : M = ATs.flat t0.G 1 t0.l t0.off) (hlen : ATs.nodes t0.l ≤ 900000) (h1 : Steps M r t0 σ) (h2 : WayAt w q T tl g (σ.map GF.st))
    (hM : ∀ y ∈ M, NdOk w y ∧ y.B ≠ q ∧ y.B ≠ g) (hq : r ≠ q) (hg : r ≠ g) (h9 : w.heap[r]? = some (.cells #[.int .i64 0, .int .i64 0, .string ⟨#[]⟩, t0.sv] 27 (0, 0))) : NextOk w q T tl g σ := by
  have hbd : ∀ f ∈ σ, f.t.nodes ≤ ATs.nodes t0.l + 1 := fun f hf => by
    rcases (h1.mem f hf).2 with ⟨_, _, h⟩ | ⟨d, hd⟩
    · rw [h, AT.nodes_mk]; omega
    · have hx := hd
      rw [hL] at hx
      have := ATs.flat_nodes t0.l 1 t0.off t0.G _ hx
      simp only at this
      omega
  refine ⟨h2, fun f hf => ?_, fun f hf => ?_, ?_, fun f hf => ?_⟩
  · rcases (h1.mem f hf).2 with ⟨hB, ho, ht⟩ | ⟨d, hd⟩
    · rw [hB, ho, ht]
      exact ⟨cell_of_heap h9 rfl, hsv⟩
    · exact (hM _ hd).1.2
  · rcases (h1.mem f hf).2 with ⟨hB, ho, ht⟩ | ⟨d, hd⟩
    · rw [hB]; exact ⟨hq, hg⟩
    · exact (hM _ hd).2
  · have := h1.len (m := 0) (N := 900001) (fun e he => ⟨nodes_pos _, by have := hbd e he; omega⟩) (by omega)
    omega
  · have h3 := (h1.mem f hf).1
    have h4 := hbd f hf
    rw [AT.nodes_mk] at h4
    have h6 := len_nodes f.t.l
    exact ⟨by omega, by omega⟩

def goH (L M : List Nd) (i : Nat) : Bool := cmpAt L M i == 0
/-- one part is held against the other's -/
theorem hold_cb {q r b b' : Nat} {x0 y0 : AT} (hny : y0.nodes ≤ 800000) (hr : r ≠ q)
    (hxq : ∀ x ∈ argL b x0, x.B ≠ q) : ∀ i w F x, HoldS q r (.mk 0 0 ⟨#[]⟩ (.slice (some ⟨b', 0, none⟩) 1 1) b' 0 [y0]) (argL b x0) (argL b' y0) i w F → (∀ y ∈ argL b x0, FullOk w y ∧ ¬ F y.B) → r < q → (∀ j, j < i → goH (argL b x0) (argL b' y0) j = true) → (argL b x0)[i]? = some x →
      Calls Try.prog 41 #[.pointer (some ⟨q, 0, none⟩), .pointer (some ⟨x.B, x.o, none⟩), .int .i64 x.d] w (CBPost (HoldS q r (.mk 0 0 ⟨#[]⟩ (.slice (some ⟨b', 0, none⟩) 1 1) b' 0 [y0]) (argL b x0) (argL b' y0)) (goH (argL b x0) (argL b' y0)) i w F) := by
  intro i w F x hs hf hrq hgo hx
  obtain ⟨σ, g, h1, h2, h3, h4, h5, h6, h7, h8, h9⟩ := hs
  have hi : i < (argL b x0).length := (List.getElem?_eq_some_iff.1 hx).1
  have hz : ∀ j, j < i → cmpAt (argL b x0) (argL b' y0) j = 0 := fun j hj => by simpa [goH] using hgo j hj
  have hM : i < (argL b' y0).length := other_has hi (ars_take hz (by omega) (fun j hj => by omega))
  have hlenM := argL_len b' y0
  have hnd : ∀ y ∈ argL b' y0, NdOk w y ∧ y.B ≠ q ∧ y.B ≠ g := fun y hy => ⟨(h9 y hy).1.nd, by have := (h9 y hy).2; omega, by have := (h9 y hy).2; omega⟩
  have NX := nextOk_of (t0 := .mk 0 0 ⟨#[]⟩ (.slice (some ⟨b', 0, none⟩) 1 1) b' 0 [y0]) (.inr ⟨1, rfl, Nat.le_refl _, by unfold maxLen; omega⟩) rfl (by show ATs.nodes [y0] ≤ 900000; rw [ATs.nodes, ATs.nodes]; omega) h2 h3 hnd hr (by omega) h8
  cases hp : gpop σ with
  | nil =>
    rw [todo_none hp] at h4
    have := List.drop_eq_nil_iff.1 h4.symm
    omega
  | cons f σ' =>
    obtain ⟨t, ht, hst⟩ := todo_step hp
    rw [h4] at hst
    have hy : (argL b' y0)[i]? = some ⟨f.t.G, f.t.off + f.k * 4, σ'.length + 1, t⟩ := by
      have := congrArg List.head? hst
      rw [List.head?_drop] at this
      exact this
    have hym := List.mem_of_getElem? hy
    have hS := Steps.push (L := argL b' y0) (t0 := .mk 0 0 ⟨#[]⟩ (.slice (some ⟨b', 0, none⟩) 1 1) b' 0 [y0]) (by rw [← hp]; exact h2.pop) (ATs.closed _ _ _ _) ⟨1, rfl⟩ ht
    have hcx := (hf x (List.mem_of_getElem? hx)).1
    have hFx := (hf x (List.mem_of_getElem? hx)).2
    have hcy := (h9 _ hym).1
    obtain ⟨ad, c, p3, _⟩ := hcx.row.a
    obtain ⟨ad', c', r3, _⟩ := hcy.row.a
    have hca : cmpAt (argL b x0) (argL b' y0) i = cmpRow x.t t := by unfold cmpAt; rw [hx, hy]
    refine hold_region q x.B x.o f.t.G (f.t.off + f.k * 4) x.t.k x.t.n t.k t.n (cmpRow x.t t) x.t.s t.s ad ad' x.t.l.length t.l.length c c' _ w _ ?_ rfl (hxq x (List.mem_of_getElem? hx)) (hnd _ hym).2.1
    refine (NX.one hp).mono ?_
    rintro e w1 ⟨rfl, g', hg', hw', hk'⟩
    have kx : ¬ (x.B = q ∨ x.B = g) := fun h => hFx ((h1 _).2 h)
    have ky : ¬ (f.t.G = q ∨ f.t.G = g) := fun h => by
      have := (hnd _ hym).2
      rcases h with h | h
      · exact this.1 h
      · exact this.2 h
    obtain ⟨cap, _, zq, _, _, _, hq1⟩ := way_ptr hw'
    have hwl := way_lt hw'
    have hwl0 := way_lt h3
    have hrl := (Array.getElem?_eq_some_iff.1 h8).1
    refine ⟨rfl, hk'.cell hcx.1.2.1 kx, hk'.cell hcx.1.2.2.1 kx, hk'.cell hcx.1.2.2.2.1 kx, hk'.cell p3 kx, hk'.cell hcy.1.2.1 ky, hk'.cell hcy.1.2.2.1 ky, hk'.cell hcy.1.2.2.2.1 ky, hk'.cell r3 ky, ⟨_, cell_of_heap hq1 (o := 1) rfl⟩, free_of_heap hq1, fun d => ?_⟩
    have hgg : r < g' := by rcases hg' with rfl | h; exact h6; omega
    have K2 : Keeps (fun j => j = q) w1 ((w1.setCell ⟨q, 1, none⟩ (.int .i64 (cmpRow x.t t))).alloc (.cells #[.int .i64 (Lib.compareInt x.t.k t.k), .int .i64 (Lib.compareInt x.t.n t.n), .int .i64 (Lib.compareInt x.t.l.length t.l.length), .int .i64 (cmpS x.t.s t.s)] 3)) :=
      ((Keeps.refl (fun j => j = q) w1).setCell (p := ⟨q, 1, none⟩) (.inl rfl) _).alloc _
    have K3 := (hk'.trans K2 (fun j hj => .inl (.inl hj))).drewN d
    refine ⟨by unfold goH; rw [hca], (fun j => j = q ∨ j = g'), ⟨_, g', fun j => Iff.rfl, hS, ?_, ?_, hM, hgg, hr, ?_, fun y hy => ?_⟩, K3.wide (fun j hj => .inl ((h1 j).2 hj)), fun j hj => ?_⟩
    · rw [show (match i + 1 with | 0 => (0 : Int) | i + 1 => cmpAt (argL b x0) (argL b' y0) i) = cmpRow x.t t from hca]
      have hne := way_ne hw'
      obtain ⟨cap2, cur, a1, a2, a3, a4, a5, a6, a7⟩ := hw'
      refine ⟨cap2, cur, ?_, ?_, a3, a4, a5, a6, a7⟩
      · show ((w1.setCell _ _).alloc _).heap[q]? = _
        rw [Below.heap_alloc _ _ _ (by simpa [World.setCell] using hwl.1), heap_set a1]
        rfl
      · show ((w1.setCell _ _).alloc _).heap[g']? = _
        rw [Below.heap_alloc _ _ _ (by simpa [World.setCell] using hwl.2), heap_set_ne hne]
        exact a2
    · rw [List.drop_add_one_eq_tail_drop, hst]; rfl
    · exact K3.heap h8 (fun h => by rcases h with h | h; exact hr h; omega)
    · exact ⟨(h9 y hy).1.kept K3 (fun h => by have := (hnd y hy).2; rcases h with h | h; exact this.1 h; exact this.2 h), (h9 y hy).2⟩
    · rcases hj with rfl | rfl
      · exact .inl ((h1 _).2 (.inl rfl))
      · rcases hg' with rfl | h
        · exact .inl ((h1 _).2 (.inr rfl))
        · exact .inr h

end Go.Proofs.Ytkidcchafdiofaa
