/- The way's next part: what (*way).next does with the way that memory holds. Conditions: the steps' parts lie where the way says. -/
import Derived.Test.YtkidcchafdiofaaTermA
import Derived.BigQuiet
import Derived.Deep.QuietTactic
import Derived.Outline
namespace Go.Proofs.Ytkidcchafdiofaa
open Go Go.RowKit

/-- a step, with the Args that its part has -/
structure RF where
  B : Nat
  o : Nat
  k : Nat
  sv : Value
  G : Nat
  off : Nat
  len : Nat
def RF.st (f : RF) : St := ⟨f.B, f.o, f.k⟩
def RF.ok (w : World) (f : RF) : Prop := w.cell? ⟨f.B, f.o + 3, none⟩ = some f.sv ∧ SvOk f.sv f.G f.off f.len
/-- the steps whose Args are all done are left -/
def popped : List RF → List RF
  | [] => []
  | f :: σ => if f.len ≤ f.k then popped σ else f :: σ

def NextPost (w : World) (q : Nat) (T : TypeId) (tl : List Value) (g : Nat) (σ : List RF) (e : Ending) (w' : World) : Prop :=
  match popped σ with
  | [] => e = .returned (.pointer none) ∧ WayAt w' q T tl g [] ∧ Keeps (fun j => j = q ∨ j = g) w w'
  | f :: r => e = .returned (.pointer (some ⟨f.G, f.off + f.k * 4, none⟩)) ∧ ∃ g', (g' = g ∨ w.heap.size ≤ g') ∧ WayAt w' q T tl g' (⟨f.G, f.off + f.k * 4, 0⟩ :: ⟨f.B, f.o, f.k + 1⟩ :: r.map RF.st) ∧ Keeps (fun j => j = q ∨ j = g) w w'

theorem next_nil {w w' : World} {q : Nat} {T : TypeId} {tl : List Value} {g : Nat} {σ : List RF} (h : popped σ = []) (hw : WayAt w' q T tl g []) (hk : Keeps (fun j => j = q ∨ j = g) w w') : NextPost w q T tl g σ (.returned (.pointer none)) w' := by
  unfold NextPost
  rw [h]
  exact ⟨rfl, hw, hk⟩
theorem next_one {w w' : World} {q : Nat} {T : TypeId} {tl : List Value} {g g' : Nat} {σ r : List RF} {f : RF} (h : popped σ = f :: r) (hg : g' = g ∨ w.heap.size ≤ g') (hw : WayAt w' q T tl g' (⟨f.G, f.off + f.k * 4, 0⟩ :: ⟨f.B, f.o, f.k + 1⟩ :: r.map RF.st)) (hk : Keeps (fun j => j = q ∨ j = g) w w') :
    NextPost w q T tl g σ (.returned (.pointer (some ⟨f.G, f.off + f.k * 4, none⟩))) w' := by
  unfold NextPost
  rw [h]
  exact ⟨rfl, g', hg, hw, hk⟩

theorem pop_close {w wr : World} {q : Nat} {T : TypeId} {tl : List Value} {g n cap : Nat} {σ r : List RF} {f : RF} (d : Nat) (hc : wr.cell? ⟨q, 0, none⟩ = some (.slice (some ⟨g, 0, none⟩) (n + 1) cap)) (hn : r.length = n)
    (hw : WayAt wr q T tl g ((f :: r).map RF.st)) (hp : popped (f :: r) = popped σ) (hd : f.len ≤ f.k) (hk : Keeps (fun j => j = q) w wr) (hs : ∀ e ∈ f :: r, e ∈ σ) (hn2 : n ≤ 1000000) :
    ∃ σc : List RF, σc.length = n ∧ Hid (n ≤ 1000000) ∧ Hid (WayAt ((wr.drewN d).setCell ⟨q, 0, none⟩ (.slice (some ⟨g, 0, none⟩) n cap)) q T tl g (σc.map RF.st)) ∧ Hid (popped σc = popped σ) ∧
      Hid (Keeps (fun j => j = q) w ((wr.drewN d).setCell ⟨q, 0, none⟩ (.slice (some ⟨g, 0, none⟩) n cap))) ∧ Hid (∀ e ∈ σc, e ∈ σ) := by
  subst hn
  refine ⟨r, rfl, hn2, ?_, ?_, (hk.drewN d).setCell (.inl rfl) _, fun e he => hs e (List.mem_cons_of_mem _ he)⟩
  · have h1 : WayAt (wr.drewN d) q T tl g (f.st :: r.map RF.st) := hw
    have h2 := way_popped h1 (cap := cap) (by rw [List.length_map]; exact hc)
    rw [List.length_map] at h2
    exact h2
  · rw [popped, if_pos hd] at hp
    exact hp
theorem way_owns {w : World} {q : Nat} {T : TypeId} {tl : List Value} {g n cap : Nat} {σ : List St} (h : WayAt w q T tl g σ) (hn : σ.length = n) (hc : w.cell? ⟨q, 0, none⟩ = some (.slice (some ⟨g, 0, none⟩) n cap)) :
    w.ownsRow 0 77 2 (.slice (some ⟨g, 0, none⟩) n cap) n (stCells σ) := by
  obtain ⟨cap', c0, _, _, _, h1, _⟩ := way_ptr h
  rw [hc] at c0
  simp at c0
  obtain ⟨h2, h3⟩ := c0
  rw [h3, ← hn]
  exact h1
theorem bumped {w : World} {q : Nat} {T : TypeId} {tl : List Value} {g n fk : Nat} {f : RF} {r : List RF} (d : Nat) (hn : r.length = n) (hk : f.k = fk) (h : WayAt w q T tl g ((f :: r).map RF.st)) :
    WayAt ((w.drewN d).setCell ⟨g, n * 2 + 1, none⟩ (.int .i64 (↑fk + 1))) q T tl g (⟨f.B, f.o, f.k + 1⟩ :: r.map RF.st) := by
  have h1 : WayAt (w.drewN d) q T tl g (f.st :: r.map RF.st) := h
  have h2 := way_bumped h1 (f.k + 1)
  rw [List.length_map, hn, hk] at h2
  rw [hk]
  exact h2
theorem set_cell_ne {w : World} {b o b' o' : Nat} (h : b' ≠ b) (v : Value) : (w.setCell ⟨b, o, none⟩ v).cell? ⟨b', o', none⟩ = w.cell? ⟨b', o', none⟩ :=
  World.cell?_of_block (heap_set_ne h v)
theorem step_news (w : World) (a : Addr) (H : Nat) (h : w.heap.size = H) : ∀ j u, [Value.pointer (some a), .int .i64 0][j]? = some u → (w.alloc (.cells #[.pointer (some a), .int .i64 0] 77)).cell? ((⟨H, 0, none⟩ : Addr).add j) = some u := by
  subst h
  exact World.news_of_block (heap_alloc_new w _)
theorem step_one (a : Addr) : ∀ u ∈ [Value.pointer (some a), .int .i64 0], u.oneCell' = true := by
  intro u hu
  simp at hu
  rcases hu with rfl | rfl <;> rfl
theorem push_close {w wr w1 : World} {q : Nat} {T : TypeId} {tl : List Value} {g n cap' fk g' fG fo : Nat} {σ r : List RF} {f : RF} {o : Obj} (d : Nat) (hn : r.length = n) (hk : f.k = fk) (hG : f.G = fG) (hO : f.off = fo)
    (hw : WayAt wr q T tl g ((f :: r).map RF.st)) (hp : popped (f :: r) = popped σ) (hd : fk < f.len) (hK : Keeps (fun j => j = q) w wr)
    (ho : w1.ownsRow 0 77 2 (.slice (some ⟨g', 0, none⟩) (n + 1 + 1) cap') (n + 1 + 1) (stCells (⟨f.B, f.o, f.k + 1⟩ :: r.map RF.st) ++ [.pointer (some ⟨fG, fo + fk * 4, none⟩), .int .i64 0]))
    (hg : (((wr.drewN d).setCell ⟨g, n * 2 + 1, none⟩ (.int .i64 (↑fk + 1))).alloc o).grownBy w1 (some g)) (hat : some g = some g' ∨ g' = wr.heap.size + 1) :
    NextPost w q T tl g σ (.returned (.pointer (some ⟨fG, fo + fk * 4, none⟩))) (w1.setCell ⟨q, 0, none⟩ (.slice (some ⟨g', 0, none⟩) (n + 1 + 1) cap')) := by
  subst hn hk hG hO
  have hb := bumped d rfl rfl hw
  have hq := way_lt hb
  have hpo : popped σ = f :: r := by rw [← hp, popped, if_neg (by omega)]
  have hne : g' ≠ q := by
    rcases hat with h | h
    · have := way_ne hw
      simp at h
      omega
    · have := (way_lt hw).1
      omega
  obtain ⟨cap2, _, _, _, _, _, hq2⟩ := way_ptr hb
  refine next_one hpo (g' := g') ?_ ?_ ?_
  · rcases hat with h | h
    · simp at h; exact .inl h.symm
    · right; have := hK.size; omega
  · refine way_pushed (v0 := ?_) ?_ hne (σ := ⟨f.G, f.off + f.k * 4, 0⟩ :: ⟨f.B, f.o, f.k + 1⟩ :: r.map RF.st) (by simpa [stCells] using ho) (by simp)
    · exact .slice (some ⟨g, 0, none⟩) (({ B := f.B, o := f.o, k := f.k + 1 } : St) :: r.map RF.st).length cap2
    · rw [hg.block q (by simp [World.setCell] at hq ⊢; omega) (by
        have := way_ne hw
        simp; omega), Below.heap_alloc _ _ _ hq.1]
      exact hq2
  · have h1 : Keeps (fun j => j = q ∨ j = g) w wr := hK.wide fun j h => .inl (.inl h)
    refine Keeps.setCell (Keeps.grown (Keeps.alloc (Keeps.setCell (h1.drewN d) (.inl (.inr rfl)) _) o) hg (fun k hk => ?_)) (.inl (.inl rfl)) _
    simp at hk
    exact .inl (.inr hk.symm)

set_option maxRecDepth 100000 in
set_option maxHeartbeats 1600000 in
theorem next_is (q : Nat) (T : TypeId) (tl : List Value) (g : Nat) (σ : List RF) (w : World) (hw : WayAt w q T tl g (σ.map RF.st)) (hok : ∀ f ∈ σ, f.ok w) (hsep : ∀ f ∈ σ, f.B ≠ q ∧ f.B ≠ g) (hlen : σ.length ≤ 1000000) (hk : ∀ f ∈ σ, f.k ≤ 1000000000 ∧ f.len ≤ 1000000000) :
    Calls Try.prog 47 #[.pointer (some ⟨q, 0, none⟩)] w (NextPost w q T tl g σ) := by
  obtain ⟨i0, hi, hz0, hz1, hz2⟩ := info_parts (show (Try.prog.info? 77).map (fun i => (i.zero, i.size, i.bytes)) = some (some (.agg #[.pointer none, .int .i64 0]), 2, 16) by kernel_rfl)
  obtain ⟨m0, hm0⟩ : ∃ m0, σ.length = m0 := ⟨_, rfl⟩
  have HW := Lib.hid hw
  have HO := Lib.hid hok
  have HS := Lib.hid hsep
  have HK := Lib.hid hk
  have HM := Lib.hid hm0
  have HP := Lib.hid (rfl : NextPost w q T tl g σ = NextPost w q T tl g σ)
  clear hw hok hsep hk hm0
  go_enter Try.func47, Try.ntmps47
  go_wp2_with fail
  go_loopg [] m0 (fun m wr => ∃ σc : List RF, σc.length = m ∧ Hid (m ≤ 1000000) ∧ Hid (WayAt wr q T tl g (σc.map RF.st)) ∧ Hid (popped σc = popped σ) ∧ Hid (Keeps (fun j => j = q) w wr) ∧ Hid (∀ f ∈ σc, f ∈ σ))
  case atStart => exact ⟨σ, HM.out, (by have := HM.out; show m0 ≤ 1000000; omega), HW.out, rfl, Keeps.refl _ _, fun f h => h⟩
  case round =>
    obtain ⟨σc, hlen, HLc, HWc, HPc, HKc, HSc⟩ := hrel
    cases σc with
    | nil =>
      obtain ⟨cap, c0, z0, l0, l1, _, _⟩ := way_ptr HWc.out
      simp only [List.map_nil, List.length_nil] at c0 l0
      unfold maxLen at l1
      clear z0
      go_wp2
      go_ret
      exact next_nil HPc.out.symm HWc.out (HKc.out.wide fun j hj => .inl (.inl hj))
    | cons f r =>
      obtain ⟨cap, c0, z0, l0, l1, _, _⟩ := way_ptr HWc.out
      obtain ⟨t0, t1, z1⟩ := way_top HWc.out
      have hf := HSc.out f (by simp)
      obtain ⟨o0, o1⟩ := HO.out f hf
      obtain ⟨k0, k1⟩ := HK.out f hf
      obtain ⟨s0, s1⟩ := HS.out f hf
      replace o0 := HKc.out.cell o0 (fun h => s0 h)
      have hz := (way_lt HWc.out).1
      simp only [List.map_cons, List.length_cons, List.length_map] at c0 l0 t0 t1 z1 hlen
      simp only [RF.st] at t0 t1
      obtain ⟨n, hn⟩ : ∃ n, r.length = n := ⟨_, rfl⟩
      rw [hn] at c0 l0 t0 t1 z1 hlen
      subst hlen
      have HN := Lib.hid hn
      unfold maxLen at l1
      have hn2 : n ≤ 1000000 := by have := HLc.out; omega
      obtain ⟨fk, hfk⟩ : ∃ k, f.k = k := ⟨_, rfl⟩
      obtain ⟨fl, hfl⟩ : ∃ k, f.len = k := ⟨_, rfl⟩
      rw [hfk] at t1 k0
      rw [hfl] at k1
      have HFK := Lib.hid hfk
      have HFL := Lib.hid hfl
      by_cases hd : fl ≤ fk
      · have HD := Lib.hid (show f.len ≤ f.k by omega)
        clear hn s0 s1 hf
        rcases o1 with ⟨e1, e2⟩ | ⟨c1, e1, e2, e3⟩
        · rw [e1] at o0
          clear e1 e2 hfk hfl
          go_wp2
          go_quiet (fail)
          go_wp2
          go_quiet (fail)
          go_wp2
          go_region
          go_wp2
          go_roundg n
          case rel => exact pop_close _ c0 HN.out HWc.out HPc.out HD.out HKc.out HSc.out hn2
          case measure => omega
        · rw [e1, hfl] at o0
          rw [hfl] at e2
          unfold maxLen at e3
          clear e1 hfk hfl
          go_wp2
          go_quiet (fail)
          go_wp2
          go_quiet (fail)
          go_wp2
          go_region
          go_wp2
          go_roundg n
          case rel => exact pop_close _ c0 HN.out HWc.out HPc.out HD.out HKc.out HSc.out hn2
          case measure => omega
      · have hlt : fk < fl := by omega
        rcases o1 with ⟨e1, e2⟩ | ⟨c1, e1, e2, e3⟩
        · omega
        · obtain ⟨fG, hfG⟩ : ∃ k, f.G = k := ⟨_, rfl⟩
          obtain ⟨fo, hfo⟩ : ∃ k, f.off = k := ⟨_, rfl⟩
          rw [e1, hfl, hfG, hfo] at o0
          rw [hfl] at e2
          unfold maxLen at e3
          have HD := Lib.hid (show fk < f.len by omega)
          have HG := Lib.hid hfG
          have HO2 := Lib.hid hfo
          have HB := Lib.hid (fun d => bumped d HN.out HFK.out HWc.out)
          have HB0 := Lib.hid (fun d => way_owns (HB.out d) (n := n + 1) (cap := cap) (by simp [HN.out]) (by rw [set_cell_ne (way_ne HWc.out).symm]; exact c0))
          clear e1 hfk hfl hfG hfo hn s0 s1 hf hd
          go_wp2
          go_quiet (fail)
          go_wp2
          go_quiet (fail)
          go_wp2
          go_quiet (fail)
          go_wp2_with (at_builtin; refine wpList_append_lies _ rfl (.tmp 54) (.tmp 57) 62 rfl 0 77 i0 (.agg #[.pointer none, .int .i64 0]) 2 16 Try.underlying62 hi hz0 hz1 hz2 rfl (by decide) _ _ _ rfl ((HB0.out _).alloc _) ⟨wr.heap.size, 0, none⟩ 1 1 [.pointer (some ⟨fG, fo + fk * 4, none⟩), .int .i64 0] rfl rfl (step_news _ _ _ (by simp [World.setCell])) (step_one _) (by omega) ?_ ?_ (Nat.zero_le _) (wr.heap.size + 1) (by simp [World.setCell]) ?_)
          · unfold maxLen; omega
          · omega
          intro g' cap' w1 hown hgrow hat hlt2
          have c1 : w1.cell? ⟨q, 0, none⟩ = some (.slice (some ⟨g, 0, none⟩) (n + 1) cap) := by
            have hne := way_ne HWc.out
            rw [hgrow.cell_far _ (by simp [World.setCell]; omega) (by simp [Value.ownBlock]; omega)]
            rw [World.cell?_of_block (Below.heap_alloc _ _ _ (by simp [World.setCell]; omega)), set_cell_ne hne.symm]
            exact c0
          have hq1 : w1.frozen? ⟨q, 0, none⟩ = false := by
            have hne := way_ne HWc.out
            rw [hgrow.frozen_far _ (by simp [World.setCell]; omega) (by simp [Value.ownBlock]; omega)]
            rw [World.frozen?_of_block (Below.heap_alloc _ _ _ (by simp [World.setCell]; omega)), World.frozen?_of_block (heap_set_ne hne.symm _)]
            exact z0
          have HO1 := Lib.hid hown
          have HG1 := Lib.hid hgrow
          have HA1 := Lib.hid hat
          clear hown hgrow hat hlt2
          go_wp2
          go_ret
          exact push_close _ HN.out HFK.out HG.out HO2.out HWc.out HPc.out HD.out HKc.out HO1.out HG1.out HA1.out

end Go.Proofs.Ytkidcchafdiofaa
