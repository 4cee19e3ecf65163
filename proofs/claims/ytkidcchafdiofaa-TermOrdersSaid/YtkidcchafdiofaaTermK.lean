/- term.Compare: a contract. Conditions: memory holds both terms; each has at most 800000 parts. -/
import Derived.Test.YtkidcchafdiofaaTermJ
import Derived.Test.YtkidcchafdiofaaTermN
namespace Go.Proofs.Ytkidcchafdiofaa
open Go Go.RowKit

mutual
/-- the parts behind a term -/
def AT.parts : AT → List AT
  | .mk _ _ _ _ _ _ l => ATs.parts l
def ATs.parts : List AT → List AT
  | [] => []
  | t :: r => t :: (AT.parts t ++ ATs.parts r)
end
mutual
theorem AT.flat_parts : ∀ (t : AT) (d : Nat), (t.flat d).map Nd.t = t.parts
  | .mk _ _ _ _ G off l, d => ATs.flat_parts l d off G
theorem ATs.flat_parts : ∀ (l : List AT) (d off G : Nat), (ATs.flat G d l off).map Nd.t = ATs.parts l
  | [], _, _, _ => rfl
  | t :: r, d, off, G => by
    rw [ATs.flat, ATs.parts, List.map_cons, List.map_append, AT.flat_parts t (d + 1), ATs.flat_parts r d (off + 4) G]
end
def cmpP : List AT → List AT → Int
  | x :: l, y :: m => if cmpRow x y ≠ 0 then cmpRow x y else cmpP l m
  | _, _ => 0
theorem cmpL_map : ∀ L M : List Nd, cmpL L M = cmpP (L.map Nd.t) (M.map Nd.t)
  | [], _ => by simp [cmpL, cmpP]
  | _ :: _, [] => by simp [cmpL, cmpP]
  | x :: l, y :: m => by rw [cmpL, List.map_cons, List.map_cons, cmpP, cmpL_map l m]
/-- how two terms stand -/
def cmpT (x y : AT) : Int := cmpP (x :: x.parts) (y :: y.parts)
theorem cmpL_arg (b b' : Nat) (x y : AT) : cmpL (argL b x) (argL b' y) = cmpT x y := by
  rw [cmpL_map, argL_is, argL_is, List.map_cons, List.map_cons, AT.flat_parts, AT.flat_parts]; rfl

/-- the memory that Compare lays ahead of its way -/
def cmpW (x y : AT) (w : World) : World :=
  ((((((w.alloc (.cells #[.int .i64 x.k, .int .i64 x.n, .string x.s, x.sv] 27)).alloc (.cells #[.int .i64 y.k, .int .i64 y.n, .string y.s, y.sv] 27)).alloc (.cells #[.int .i64 y.k, .int .i64 y.n, .string y.s, y.sv] 27)).alloc
    (.cells #[.int .i64 0, .int .i64 0, .string ⟨#[]⟩, .slice (some ⟨w.heap.size + 1 + 1, 0, none⟩) 1 1] 27)).alloc (.cells #[.pointer (some ⟨w.heap.size + 1 + 1 + 1, 0, none⟩), .int .i64 0] 77)).alloc
    (.cells #[.slice (some ⟨w.heap.size + 1 + 1 + 1 + 1, 0, none⟩) 1 1, .int .i64 0] 65)).alloc (.cells #[.int .i64 x.k, .int .i64 x.n, .string x.s, x.sv] 27)
def HoldDone (w : World) (z : Int) (e : Ending) (w' : World) : Prop := e = .returned (.tuple #[]) ∧ w'.cell? ⟨w.heap.size + 1 + 1 + 1 + 1 + 1, 1, none⟩ = some (.int .i64 z) ∧ Below w.heap.size w w'
theorem hold_arg (x y : AT) (w : World) (hx : x.mem w) (hy : y.mem w) (hnx : x.nodes ≤ 800000) (hny : y.nodes ≤ 800000) :
    Calls Try.prog 33 #[.func (.func 41) #[.pointer (some ⟨w.heap.size + 1 + 1 + 1 + 1 + 1, 0, none⟩)] #[], .slice (some ⟨w.heap.size + 1 + 1 + 1 + 1 + 1 + 1, 0, none⟩) 1 1] (cmpW x y w) (HoldDone w (cmpT x y)) := by
  have hsz : (cmpW x y w).heap.size = w.heap.size + 7 := by simp [cmpW]
  have hB : Below w.heap.size w (cmpW x y w) := by
    refine (((((((Below.refl _ _).alloc (Nat.le_refl _) _).alloc ?_ _).alloc ?_ _).alloc ?_ _).alloc ?_ _).alloc ?_ _).alloc ?_ _
    all_goals
      simp
      try omega
  have h6 : (cmpW x y w).heap[w.heap.size + 1 + 1 + 1 + 1 + 1 + 1]? = some (.cells #[.int .i64 x.k, .int .i64 x.n, .string x.s, x.sv] 27) := new_at _ _ (by simp)
  have h5 : (cmpW x y w).heap[w.heap.size + 1 + 1 + 1 + 1 + 1]? = some (.cells #[.slice (some ⟨w.heap.size + 1 + 1 + 1 + 1, 0, none⟩) 1 1, .int .i64 0] 65) := by
    unfold cmpW
    rw [Below.heap_alloc _ _ _ (by simp)]
    exact new_at _ _ (by simp)
  have h4 : (cmpW x y w).heap[w.heap.size + 1 + 1 + 1 + 1]? = some (.cells #[.pointer (some ⟨w.heap.size + 1 + 1 + 1, 0, none⟩), .int .i64 0] 77) := by
    unfold cmpW
    rw [Below.heap_alloc _ _ _ (by simp <;> omega), Below.heap_alloc _ _ _ (by simp)]
    exact new_at _ _ (by simp)
  have h3 : (cmpW x y w).heap[w.heap.size + 1 + 1 + 1]? = some (.cells #[.int .i64 0, .int .i64 0, .string ⟨#[]⟩, .slice (some ⟨w.heap.size + 1 + 1, 0, none⟩) 1 1] 27) := by
    unfold cmpW
    rw [Below.heap_alloc _ _ _ (by simp <;> omega), Below.heap_alloc _ _ _ (by simp <;> omega), Below.heap_alloc _ _ _ (by simp)]
    exact new_at _ _ (by simp)
  have h2 : (cmpW x y w).heap[w.heap.size + 1 + 1]? = some (.cells #[.int .i64 y.k, .int .i64 y.n, .string y.s, y.sv] 27) := by
    unfold cmpW
    rw [Below.heap_alloc _ _ _ (by simp <;> omega), Below.heap_alloc _ _ _ (by simp <;> omega), Below.heap_alloc _ _ _ (by simp <;> omega), Below.heap_alloc _ _ _ (by simp)]
    exact new_at _ _ (by simp)
  have hfy : ∀ z ∈ argL (w.heap.size + 1 + 1) y, FullOk (cmpW x y w) z ∧ z.B < w.heap.size + 1 + 1 + 1 := fun z hz => by
    rw [argL_is, List.mem_cons] at hz
    rcases hz with rfl | hz
    · exact ⟨⟨⟨⟨_, _, h2⟩, cell_of_heap h2 rfl, cell_of_heap h2 rfl, cell_of_heap h2 rfl, cell_of_heap h2 rfl⟩, (AT.mem_mk.1 hy).1⟩, by show w.heap.size + 1 + 1 < _; omega⟩
    · have h1 := AT.full y 2 hy z hz
      have hl := h1.1.1.lt
      exact ⟨⟨h1.1.same (hB.block _ hl), h1.2⟩, by omega⟩
  have hbx : ∀ z ∈ argL (w.heap.size + 1 + 1 + 1 + 1 + 1 + 1) x, z.B ≠ w.heap.size + 1 + 1 + 1 + 1 + 1 := fun z hz => by
    rw [argL_is, List.mem_cons] at hz
    rcases hz with rfl | hz
    · show w.heap.size + 1 + 1 + 1 + 1 + 1 + 1 ≠ _; omega
    · have := (AT.full x 2 hx z hz).1.1.lt
      omega
  have hlen := argL_len (w.heap.size + 1 + 1 + 1 + 1 + 1 + 1) x
  refine (through_arg _ (.inr (.inr (.inr (.inr (.inl rfl))))) _ x _ w (cmpW x y w) (HoldS (w.heap.size + 1 + 1 + 1 + 1 + 1) (w.heap.size + 1 + 1 + 1) (.mk 0 0 ⟨#[]⟩ (.slice (some ⟨w.heap.size + 1 + 1, 0, none⟩) 1 1) (w.heap.size + 1 + 1) 0 [y]) (argL (w.heap.size + 1 + 1 + 1 + 1 + 1 + 1) x) (argL (w.heap.size + 1 + 1) y))
    (goH (argL (w.heap.size + 1 + 1 + 1 + 1 + 1 + 1) x) (argL (w.heap.size + 1 + 1) y)) (fun j => j = w.heap.size + 1 + 1 + 1 + 1 + 1 ∨ j = w.heap.size + 1 + 1 + 1 + 1) hx hnx hB h6 (fun j hj => by omega) (by omega) (holdS_own (by rw [hsz]; omega) (by omega))
    (fun i w2 F z hs hf _ hg hz => hold_cb hny (by omega) hbx i w2 F z hs hf (by omega) hg hz) ⟨[⟨w.heap.size + 1 + 1 + 1, 0, 0, .mk 0 0 ⟨#[]⟩ (.slice (some ⟨w.heap.size + 1 + 1, 0, none⟩) 1 1) (w.heap.size + 1 + 1) 0 [y]⟩], w.heap.size + 1 + 1 + 1 + 1, fun j => Iff.rfl, ?_, ?_, ?_, Nat.zero_le _, by omega, by omega, h3, hfy⟩).mono ?_
  · exact ⟨Nat.zero_le _, (fun e he => by cases he), .inl ⟨rfl, rfl, rfl, rfl⟩, trivial⟩
  · exact ⟨1, _, h5, h4, by omega, Nat.le_refl _, by unfold maxLen; omega, by simp, by simp [stCells, GF.st]⟩
  · simp [todo, argL, AT.l, AT.G, AT.off]
  · rintro e w' ⟨rfl, n, F, a1, a2, a3, a4, a5, a6⟩
    obtain ⟨_, _, σ, g, s1, s2, s3, s4, s5, s6, s7, s8, s9⟩ := a4
    obtain ⟨_, _, _, _, _, _, hq⟩ := way_ptr s3
    refine ⟨rfl, ?_, hB.trans (a5.below (fun j hj => by omega) hB.size)⟩
    have hn1 : 0 < n := by
      rcases Nat.lt_or_ge n x.nodes with h | h
      · exact (a3 h).1
      · have := nodes_pos x; omega
    obtain ⟨n, rfl⟩ : ∃ m, n = m + 1 := ⟨n - 1, by omega⟩
    rw [cell_of_heap hq (o := 1) rfl, ← cmpL_arg (w.heap.size + 1 + 1 + 1 + 1 + 1 + 1) (w.heap.size + 1 + 1) x y]
    refine congrArg (fun z => some (Value.int .i64 z)) ?_
    refine (cmpL_at n _ _ (fun j hj => by simpa [goH] using a2 j (by omega)) (by omega) (fun h => ?_)).symm
    have := (a3 (by omega)).2
    simpa [goH] using this

set_option maxRecDepth 100000 in
set_option maxHeartbeats 1600000 in
theorem compare_is (x y : AT) (w : World) (hx : x.mem w) (hy : y.mem w) (hnx : x.nodes ≤ 800000) (hny : y.nodes ≤ 800000) :
    Calls Try.prog 21 #[.agg #[.int .i64 x.k, .int .i64 x.n, .string x.s, x.sv], .agg #[.int .i64 y.k, .int .i64 y.n, .string y.s, y.sv]] w fun e w' => e = .returned (.int .i64 (cmpT x y)) ∧ Below w.heap.size w w' := by
  have T := hold_arg x y w hx hy hnx hny
  unfold cmpW at T
  have HT := Lib.hid T
  obtain ⟨z, hz⟩ : ∃ z, cmpT x y = z := ⟨_, rfl⟩
  rw [hz] at HT ⊢
  clear T hx hy hnx hny hz
  have hmf : ∀ (fn : Fn) (first cap : Array Value) (w : World), (Instr.makeFunc fn first cap).run Try.prog w = .ok (.func fn first cap) w := fun _ _ _ _ => rfl
  go_enter Try.func21, Try.ntmps21
  go_wp2_with fail
  refine (from_is _ _ ⟨_, _, _, rfl⟩).mono ?_
  rintro e w' ⟨rfl, rfl⟩
  go_wp2_with fail
  refine HT.out.mono ?_
  rintro e w' ⟨rfl, c1, hb⟩
  have HB := Lib.hid hb
  clear hb HT
  go_wp2
  go_ret
  exact ⟨rfl, HB.out⟩

end Go.Proofs.Ytkidcchafdiofaa
