/- term.Size, term.Deep, term.Check: contracts. Conditions: memory holds the term; it has at most 800000 parts. -/
import Derived.Test.YtkidcchafdiofaaTermF
namespace Go.Proofs.Ytkidcchafdiofaa
open Go Go.RowKit

/-- the parts of one term that was handed over in a list at block b -/
def argL (b : Nat) (t : AT) : List Nd := ATs.flat b 1 [t] 0
theorem argL_is (b : Nat) (t : AT) : argL b t = ⟨b, 0, 1, t⟩ :: t.flat 2 := by simp [argL, ATs.flat]
theorem argL_len (b : Nat) (t : AT) : (argL b t).length = t.nodes := by rw [argL, ATs.flat_len]; simp [ATs.nodes]

theorem through_arg (K : Nat) (hK : K = 34 ∨ K = 36 ∨ K = 38 ∨ K = 45 ∨ K = 41 ∨ K = 55)
    (pv : Value) (t : AT) (b : Nat) (w W1 : World) (S : Nat → World → (Nat → Prop) → Prop) (go : Nat → Bool) (F0 : Nat → Prop) (hm : t.mem w) (hn : t.nodes ≤ 800000) (hb : Below w.heap.size w W1)
    (hh : W1.heap[b]? = some (.cells #[.int .i64 t.k, .int .i64 t.n, .string t.s, t.sv] 27 (0, 0))) (hF : ∀ j, F0 j → w.heap.size ≤ j) (hFb : ¬ F0 b) (ho : Own W1.heap.size S)
    (hc : ∀ i w F x, S i w F → (∀ y ∈ argL b t, FullOk w y ∧ ¬ F y.B) → W1.heap.size ≤ w.heap.size → (∀ j, j < i → go j = true) → (argL b t)[i]? = some x → Calls Try.prog K #[pv, .pointer (some ⟨x.B, x.o, none⟩), .int .i64 x.d] w (CBPost S go i w F)) (h0 : S 0 W1 F0) :
    Calls Try.prog 33 #[.func (.func K) #[pv] #[], .slice (some ⟨b, 0, none⟩) 1 1] W1 (ThroughPost W1 (CInv W1.heap.size (argL b t) S) go t.nodes F0) := by
  rw [← argL_len b t]
  refine through_is K hK pv (.mk 0 0 ⟨#[]⟩ (.slice (some ⟨b, 0, none⟩) 1 1) b 0 [t]) (argL b t) W1 _ go F0 (cb_of ho hc) ⟨fun x hx => ?_, Nat.le_refl _, h0⟩ (.inr ⟨1, rfl, Nat.le_refl _, by unfold maxLen; omega⟩) rfl (by show ATs.nodes [t] ≤ 900000; rw [ATs.nodes, ATs.nodes]; omega)
  rw [argL_is, List.mem_cons] at hx
  rcases hx with rfl | hx
  · exact ⟨⟨⟨⟨_, _, hh⟩, cell_of_heap hh rfl, cell_of_heap hh rfl, cell_of_heap hh rfl, cell_of_heap hh rfl⟩, (AT.mem_mk.1 hm).1⟩, (Array.getElem?_eq_some_iff.1 hh).1, hFb⟩
  · have h1 := AT.full t 2 hm x hx
    have h2 := h1.1.1.lt
    exact ⟨⟨h1.1.same (hb.block _ h2), h1.2⟩, Nat.lt_of_lt_of_le h2 hb.size, fun hf => by have := hF _ hf; omega⟩

/-- how deep the first i parts lie, at most -/
def dmx (L : List Nd) (i : Nat) : Int := (L.take i).foldl (fun m x => max m (x.d : Int)) 0
theorem dmx_succ {L : List Nd} {i : Nat} {x : Nd} (h : L[i]? = some x) : dmx L (i + 1) = max (dmx L i) x.d := by
  unfold dmx
  rw [List.take_add_one, h]
  simp

def TakeS (q : Nat) (L : List Nd) (i : Nat) (w : World) (F : Nat → Prop) : Prop := (∀ j, F j ↔ j = q) ∧ MeasAt w q i (dmx L i) false ∧ i ≤ L.length
theorem takeS_own {q H0 : Nat} {L : List Nd} : Own H0 (TakeS q L) where
  lt := fun i w F h j hj => by
    have := (h.1 j).1 hj
    subst this
    exact (Array.getElem?_eq_some_iff.1 h.2.1).1
  stay := fun i w w' F h _ hj => ⟨h.1, (hj q (.inl ((h.1 q).2 rfl))).trans h.2.1, h.2.2⟩
theorem take_cb {q : Nat} {L : List Nd} (hl : L.length ≤ 900000) : ∀ i w F x, TakeS q L i w F → L[i]? = some x → Calls Try.prog 36 #[.pointer (some ⟨q, 0, none⟩), .pointer (some ⟨x.B, x.o, none⟩), .int .i64 x.d] w (CBPost (TakeS q L) (fun _ => true) i w F) := by
  intro i w F x hs hx
  have hi : i < L.length := (List.getElem?_eq_some_iff.1 hx).1
  refine (take_is q i (dmx L i) x.d false _ w hs.2.1 (by omega) (by omega)).mono ?_
  rintro e w' ⟨rfl, h1, h2⟩
  refine ⟨rfl, F, ⟨hs.1, ?_, hi⟩, h2.wide (fun j hj => .inl ((hs.1 j).2 hj)), fun j hj => .inl hj⟩
  rw [dmx_succ hx]
  exact h1

theorem world3 (w : World) (o1 o2 o3 : Obj) : (((w.alloc o1).alloc o2).alloc o3).heap[w.heap.size + 1 + 1]? = some o3 ∧ (((w.alloc o1).alloc o2).alloc o3).heap[w.heap.size + 1]? = some o2 ∧ Below w.heap.size w (((w.alloc o1).alloc o2).alloc o3) := by
  refine ⟨?_, ?_, (((Below.refl _ _).alloc (Nat.le_refl _) _).alloc (by simp) _).alloc (by simp; omega) _⟩
  · have := heap_alloc_new ((w.alloc o1).alloc o2) o3
    simpa using this
  · rw [Below.heap_alloc _ _ _ (by simp)]
    have := heap_alloc_new (w.alloc o1) o2
    simpa using this

def MeasDone (w0 w1 : World) (q : Nat) (p d : Int) (b : Bool) (e : Ending) (w' : World) : Prop := e = .returned (.tuple #[]) ∧ MeasAt w' q p d b ∧ Below w0.heap.size w0 w' ∧ w1.heap.size ≤ w'.heap.size
theorem take_arg (t : AT) (w : World) (o1 : Obj) (hm : t.mem w) (hn : t.nodes ≤ 800000) :
    Calls Try.prog 33 #[.func (.func 36) #[.pointer (some ⟨w.heap.size + 1, 0, none⟩)] #[], .slice (some ⟨w.heap.size + 1 + 1, 0, none⟩) 1 1]
      (((w.alloc o1).alloc (.cells #[.int .i64 0, .int .i64 0, .bool false] 53)).alloc (.cells #[.int .i64 t.k, .int .i64 t.n, .string t.s, t.sv] 27))
      (MeasDone w (((w.alloc o1).alloc (.cells #[.int .i64 0, .int .i64 0, .bool false] 53)).alloc (.cells #[.int .i64 t.k, .int .i64 t.n, .string t.s, t.sv] 27)) (w.heap.size + 1) t.nodes (dmx (argL (w.heap.size + 1 + 1) t) t.nodes) false) := by
  obtain ⟨h1, h2, h3⟩ := world3 w o1 (.cells #[.int .i64 0, .int .i64 0, .bool false] 53) (.cells #[.int .i64 t.k, .int .i64 t.n, .string t.s, t.sv] 27)
  refine (through_arg _ (.inr (.inl rfl)) _ t _ w _ (TakeS (w.heap.size + 1) (argL (w.heap.size + 1 + 1) t)) (fun _ => true) (fun j => j = w.heap.size + 1) hm hn h3 h1 (fun j hj => by omega) (by omega) takeS_own
    (fun i w2 F x hs _ _ _ hx => take_cb (by rw [argL_len]; omega) i w2 F x hs hx) ⟨fun j => Iff.rfl, h2, Nat.zero_le _⟩).mono ?_
  rintro e w' ⟨rfl, n, F, a1, a2, a3, a4, a5, a6⟩
  have hnm : n = t.nodes := by
    rcases Nat.lt_or_ge n t.nodes with h | h
    · have := (a3 h).2; cases this
    · omega
  subst hnm
  refine ⟨rfl, a4.2.2.2.1, h3.trans (a5.below (fun j hj => by omega) h3.size), a5.size⟩

set_option maxRecDepth 100000 in
set_option maxHeartbeats 800000 in
theorem size_is (t : AT) (w : World) (hm : t.mem w) (hn : t.nodes ≤ 800000) :
    Calls Try.prog 14 #[.agg #[.int .i64 t.k, .int .i64 t.n, .string t.s, t.sv]] w fun e w' => e = .returned (.int .i64 t.nodes) ∧ Below w.heap.size w w' := by
  have T := Lib.hid (fun o1 => take_arg t w o1 hm hn)
  clear hm
  have hmf : ∀ (fn : Fn) (first cap : Array Value) (w : World), (Instr.makeFunc fn first cap).run Try.prog w = .ok (.func fn first cap) w := fun _ _ _ _ => rfl
  go_enter Try.func14, Try.ntmps14
  go_wp2_with fail
  refine (T.out _).mono ?_
  rintro e w' ⟨rfl, a1, a2, _⟩
  have c0 := cell_of_heap (o := 0) a1 rfl
  have HB := Lib.hid a2
  clear a1 a2
  go_wp2
  go_ret
  exact ⟨rfl, HB.out⟩

set_option maxRecDepth 100000 in
set_option maxHeartbeats 800000 in
theorem deep_is (t : AT) (w : World) (hm : t.mem w) (hn : t.nodes ≤ 800000) :
    Calls Try.prog 16 #[.agg #[.int .i64 t.k, .int .i64 t.n, .string t.s, t.sv]] w fun e w' => e = .returned (.int .i64 (dmx (argL (w.heap.size + 1 + 1) t) t.nodes)) ∧ Below w.heap.size w w' := by
  have T := Lib.hid (fun o1 => take_arg t w o1 hm hn)
  clear hm
  obtain ⟨r, hr⟩ : ∃ r, dmx (argL (w.heap.size + 1 + 1) t) t.nodes = r := ⟨_, rfl⟩
  rw [hr] at T ⊢
  clear hr
  have hmf : ∀ (fn : Fn) (first cap : Array Value) (w : World), (Instr.makeFunc fn first cap).run Try.prog w = .ok (.func fn first cap) w := fun _ _ _ _ => rfl
  go_enter Try.func16, Try.ntmps16
  go_wp2_with fail
  refine (T.out _).mono ?_
  rintro e w' ⟨rfl, a1, a2, _⟩
  have c1 := cell_of_heap (o := 1) a1 rfl
  have HB := Lib.hid a2
  clear a1 a2
  go_wp2
  go_ret
  exact ⟨rfl, HB.out⟩

/-- may all parts be? -/
def okL (L : List Nd) : Bool := L.all fun x => mayB x.t.k x.t.n x.t.s x.t.l.length
def goC (L : List Nd) (i : Nat) : Bool := match L[i]? with
  | some x => mayB x.t.k x.t.n x.t.s x.t.l.length
  | none => true
theorem okL_of {L : List Nd} (h : ∀ j, j < L.length → goC L j = true) : okL L = true := by
  unfold okL
  rw [List.all_eq_true]
  intro x hx
  obtain ⟨j, hj, rfl⟩ := List.getElem_of_mem hx
  have := h j hj
  unfold goC at this
  rw [List.getElem?_eq_getElem hj] at this
  exact this
theorem okL_no {L : List Nd} {j : Nat} (hj : j < L.length) (h : goC L j = false) : okL L = false := by
  rw [Bool.eq_false_iff]
  intro ha
  unfold okL at ha
  rw [List.all_eq_true] at ha
  have := ha _ (List.getElem_mem hj)
  unfold goC at h
  rw [List.getElem?_eq_getElem hj] at h
  simp only at h
  rw [this] at h
  cases h
def CheckS (q : Nat) (L : List Nd) (i : Nat) (w : World) (F : Nat → Prop) : Prop :=
  (∀ j, F j ↔ j = q) ∧ i ≤ L.length ∧ (∃ p d b, MeasAt w q p d b) ∧ ((∀ j, j < i → goC L j = true) → MeasAt w q i (dmx L i) false) ∧ ((∃ j, j < i ∧ goC L j = false) → ∃ p d, MeasAt w q p d true)
theorem checkS_own {q H0 : Nat} {L : List Nd} : Own H0 (CheckS q L) where
  lt := fun i w F h j hj => by
    have := (h.1 j).1 hj
    subst this
    obtain ⟨p, d, b, hm⟩ := h.2.2.1
    exact (Array.getElem?_eq_some_iff.1 hm).1
  stay := fun i w w' F h _ hj => by
    have hq := hj q (.inl ((h.1 q).2 rfl))
    obtain ⟨h1, h2, ⟨p, d, b, hm⟩, h4, h5⟩ := h
    refine ⟨h1, h2, ⟨p, d, b, hq.trans hm⟩, fun ha => hq.trans (h4 ha), fun ha => ?_⟩
    obtain ⟨p, d, hm⟩ := h5 ha
    exact ⟨p, d, hq.trans hm⟩
theorem check_cb {q : Nat} {L : List Nd} (hl : L.length ≤ 900000) : ∀ i w F x, CheckS q L i w F → (∀ y ∈ L, FullOk w y) → (∀ j, j < i → goC L j = true) → L[i]? = some x → Calls Try.prog 34 #[.pointer (some ⟨q, 0, none⟩), .pointer (some ⟨x.B, x.o, none⟩), .int .i64 x.d] w (CBPost (CheckS q L) (goC L) i w F) := by
  intro i w F x hs hf hg hx
  have hi : i < L.length := (List.getElem?_eq_some_iff.1 hx).1
  have hxm := List.mem_of_getElem? hx
  have hgi : goC L i = mayB x.t.k x.t.n x.t.s x.t.l.length := by unfold goC; rw [hx]
  refine (check_is q x.B x.o i (dmx L i) x.d false x.t.k x.t.n x.t.s x.t.l.length w (hs.2.2.2.1 hg) (hf x hxm).row (by omega) (by omega)).mono ?_
  rintro e w' ⟨rfl, h1, h2⟩
  rw [← hgi] at h1 ⊢
  refine ⟨rfl, F, ⟨hs.1, hi, ⟨_, _, _, h1⟩, fun ha => ?_, fun ha => ?_⟩, h2.wide (fun j hj => .inl ((hs.1 j).2 hj)), fun j hj => .inl hj⟩
  · rw [ha i (by omega)] at h1
    rw [dmx_succ hx]
    exact h1
  · obtain ⟨j, hj, hjf⟩ := ha
    have hji : j = i := by
      rcases Nat.lt_or_ge j i with h | h
      · rw [hg j h] at hjf; cases hjf
      · omega
    subst hji
    rw [hjf] at h1
    exact ⟨_, _, h1⟩

def CheckDone (w0 : World) (q : Nat) (L : List Nd) (e : Ending) (w' : World) : Prop := e = .returned (.tuple #[]) ∧ (∃ p d b, MeasAt w' q p d b ∧ b = !okL L ∧ (b = false → p = L.length ∧ d = dmx L L.length)) ∧ Below w0.heap.size w0 w'
theorem flat_d : ∀ t : AT, ∀ d, ∀ x ∈ t.flat d, x.d + 1 ≤ d + t.nodes := by
  intro t d x hx
  exact go_t t d x hx
where
  go_t : ∀ (t : AT) (d : Nat), ∀ x ∈ t.flat d, x.d + 1 ≤ d + t.nodes
    | .mk _ _ _ _ G off l, d => fun x hx => by
      have := go_l l d off G x hx
      rw [AT.nodes]
      omega
  go_l : ∀ (l : List AT) (d off G : Nat), ∀ x ∈ ATs.flat G d l off, x.d ≤ d + ATs.nodes l
    | [], _, _, _ => fun x hx => by cases hx
    | t :: r, d, off, G => fun x hx => by
      rw [ATs.flat, List.mem_cons, List.mem_append] at hx
      rw [ATs.nodes]
      rcases hx with rfl | hx | hx
      · simp
      · have := go_t t (d + 1) x hx
        omega
      · have := go_l r d (off + 4) G x hx
        omega
theorem check_arg (t : AT) (w : World) (o1 : Obj) (hm : t.mem w) (hn : t.nodes ≤ 800000) :
    Calls Try.prog 33 #[.func (.func 34) #[.pointer (some ⟨w.heap.size + 1, 0, none⟩)] #[], .slice (some ⟨w.heap.size + 1 + 1, 0, none⟩) 1 1]
      (((w.alloc o1).alloc (.cells #[.int .i64 0, .int .i64 0, .bool false] 53)).alloc (.cells #[.int .i64 t.k, .int .i64 t.n, .string t.s, t.sv] 27))
      (CheckDone w (w.heap.size + 1) (argL (w.heap.size + 1 + 1) t)) := by
  obtain ⟨h1, h2, h3⟩ := world3 w o1 (.cells #[.int .i64 0, .int .i64 0, .bool false] 53) (.cells #[.int .i64 t.k, .int .i64 t.n, .string t.s, t.sv] 27)
  have hlen := argL_len (w.heap.size + 1 + 1) t
  refine (through_arg _ (.inl rfl) _ t _ w _ (CheckS (w.heap.size + 1) (argL (w.heap.size + 1 + 1) t)) (goC (argL (w.heap.size + 1 + 1) t)) (fun j => j = w.heap.size + 1) hm hn h3 h1 (fun j hj => by omega) (by omega) checkS_own
    (fun i w2 F x hs hf _ hg hx => check_cb (by omega) i w2 F x hs (fun y hy => (hf y hy).1) hg hx) ⟨fun j => Iff.rfl, Nat.zero_le _, ⟨0, 0, false, h2⟩, fun _ => h2, fun ⟨j, hj, _⟩ => by omega⟩).mono ?_
  rintro e w' ⟨rfl, n, F, a1, a2, a3, a4, a5, a6⟩
  refine ⟨rfl, ?_, h3.trans (a5.below (fun j hj => by omega) h3.size)⟩
  obtain ⟨_, _, s1, s2, s3, s4, s5⟩ := a4
  rw [← hlen] at a1 a3
  by_cases ha : ∀ j, j < n → goC (argL (w.heap.size + 1 + 1) t) j = true
  · have hnn : n = (argL (w.heap.size + 1 + 1) t).length := by
      rcases Nat.lt_or_ge n (argL (w.heap.size + 1 + 1) t).length with h | h
      · obtain ⟨b1, b2⟩ := a3 h
        rw [ha _ (by omega)] at b2
        cases b2
      · omega
    have hs4 := s4 ha
    rw [hnn] at hs4
    exact ⟨_, _, _, hs4, by rw [okL_of (fun j hj => ha j (by omega))]; rfl, fun _ => ⟨rfl, rfl⟩⟩
  · obtain ⟨j, hj⟩ := Classical.not_forall.1 ha
    obtain ⟨hj1, hj2⟩ := Classical.not_imp.1 hj
    have hj3 : goC (argL (w.heap.size + 1 + 1) t) j = false := by simpa using hj2
    obtain ⟨p, d, hm2⟩ := s5 ⟨j, hj1, hj3⟩
    exact ⟨p, d, true, hm2, by rw [okL_no (by omega) hj3]; rfl, fun h => by cases h⟩

/-- what Check says -/
def checkZ (b : Bool) (d p : Int) : Int := if b then 2 else if 2000 < d then 4 else if 20000 < p then 3 else 0
def CheckRes (w : World) (t : AT) (e : Ending) (w' : World) : Prop := ∃ p d b, e = .returned (.int .i64 (checkZ b d p)) ∧ b = (!okL (argL (w.heap.size + 1 + 1) t)) ∧ (b = false → p = t.nodes ∧ d = dmx (argL (w.heap.size + 1 + 1) t) t.nodes) ∧ Below w.heap.size w w'
set_option maxRecDepth 100000 in
set_option maxHeartbeats 800000 in
theorem checkT_is (t : AT) (w : World) (hm : t.mem w) (hn : t.nodes ≤ 800000) :
    Calls Try.prog 12 #[.agg #[.int .i64 t.k, .int .i64 t.n, .string t.s, t.sv]] w (CheckRes w t) := by
  have T := Lib.hid (fun o1 => check_arg t w o1 hm hn)
  clear hm
  have hmf : ∀ (fn : Fn) (first cap : Array Value) (w : World), (Instr.makeFunc fn first cap).run Try.prog w = .ok (.func fn first cap) w := fun _ _ _ _ => rfl
  go_enter Try.func12, Try.ntmps12
  go_wp2_with fail
  refine (T.out _).mono ?_
  rintro e w' ⟨rfl, ⟨p, d, b, a1, a3, a4⟩, a2⟩
  have c0 := cell_of_heap (o := 0) a1 rfl
  have c1 := cell_of_heap (o := 1) a1 rfl
  have c2 := cell_of_heap (o := 2) a1 rfl
  have HB := Lib.hid a2
  have H3 := Lib.hid a3
  have H4 := Lib.hid a4
  clear a1 a2 a3 a4
  cases b
  · rw [argL_len] at H4
    by_cases h1 : 2000 < d
    · have HZ := Lib.hid (show checkZ false d p = 4 by rw [checkZ, if_neg (by simp), if_pos h1])
      go_wp2
      go_ret
      exact ⟨p, d, false, (by show Ending.returned (.int .i64 4) = _; rw [HZ.out]), H3.out, fun _ => H4.out trivial, HB.out⟩
    · by_cases h2 : 20000 < p
      · have HZ := Lib.hid (show checkZ false d p = 3 by rw [checkZ, if_neg (by simp), if_neg h1, if_pos h2])
        go_wp2
        go_ret
        exact ⟨p, d, false, (by show Ending.returned (.int .i64 3) = _; rw [HZ.out]), H3.out, fun _ => H4.out trivial, HB.out⟩
      · have HZ := Lib.hid (show checkZ false d p = 0 by rw [checkZ, if_neg (by simp), if_neg h1, if_neg h2])
        go_wp2
        go_ret
        exact ⟨p, d, false, (by show Ending.returned (.int .i64 0) = _; rw [HZ.out]), H3.out, fun _ => H4.out trivial, HB.out⟩
  · have HZ := Lib.hid (show checkZ true d p = 2 by rw [checkZ, if_pos rfl])
    go_wp2
    go_ret
    exact ⟨p, d, true, (by show Ending.returned (.int .i64 2) = _; rw [HZ.out]), H3.out, fun h => (by cases h), HB.out⟩

end Go.Proofs.Ytkidcchafdiofaa
