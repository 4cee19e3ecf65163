/- Joined texts: ReadZO ReadZL ReadZN ReadZP ReadZQ ReadZJ. Conditions: as each states. -/
import Derived.Test.YtkplokfcjjcpcaaGreatDoorRk28
import Derived.Test.YtkplokfcjjcpcaaGreatDoorRk26
import Derived.Test.YtkplokfcjjcpcaaGreatDoorPk08
import Derived.Test.YtkplokfcjjcpcaaGreatDoorRk21
import Derived.Test.YtkplokfcjjcpcaaGreatDoorRk20
section
namespace Go.Proofs.YtkplokfcjjcpcaaGreatDoor
open Go Go.RowKit Go.Maps Trm
mutual
def Trm.Tm.nz : Tm → Prop
  | .mk k _ _ l => k ≠ 0 ∧ Trm.Tms.nz l
def Trm.Tms.nz : List Tm → Prop
  | [] => True
  | t :: r => Trm.Tm.nz t ∧ Trm.Tms.nz r
end
theorem nz_all {l : List Tm} (h : ∀ t ∈ l, Trm.Tm.nz t) : Trm.Tms.nz l := by
  induction l with
  | nil => trivial
  | cons t r ih => exact ⟨h t (by simp), ih fun u hu => h u (by simp [hu])⟩
theorem nz_cl : Cl Trm.Tm.nz where
  atom s := ⟨by decide, trivial⟩
  comp s L h := ⟨by decide, nz_all h⟩
  int n _ _ := ⟨by decide, trivial⟩
  var n _ _ := ⟨by decide, trivial⟩
theorem run_keeps {I : Ms → Prop} {L : List Ops.Df} {l : List Tok} (hI : ∀ σ τ, σ.stk ≠ [] → I σ → stepZ L l σ = .on τ → I τ) : ∀ (f : Nat) (σ τ : Ms), σ.left l < f → I σ → runZ L l f σ = .on τ → I τ ∧ τ.stk = []
  | 0, _, _, h, _, _ => by omega
  | f + 1, σ, τ, h, hi, hr => by
    rw [runZ] at hr
    split at hr
    · rename_i h0
      obtain rfl := Out.on.inj hr
      exact ⟨hi, h0⟩
    · rename_i h0
      split at hr
      · cases hr
      · rename_i ρ hs
        have := step_left h0 hs
        exact run_keeps hI f ρ τ (by omega) (hI σ ρ h0 hi hs) hr
theorem runN_keeps {I : Ms → Prop} {L : List Ops.Df} {l : List Tok} (hI : ∀ σ τ, σ.stk ≠ [] → I σ → stepZ L l σ = .on τ → I τ) {σ τ : Ms} (hi : I σ) (hr : runN L l σ = .on τ) : I τ ∧ τ.stk = [] :=
  run_keeps hI _ σ τ (Nat.lt_succ_self _) hi hr
mutual
theorem AT.off_x {w : World} {x : Nat} {T : TypeId} (hx : w.heap[x]? = some (.cells #[.int .i64 0, .int .i64 0, .string ⟨#[]⟩, .slice none 0 0] T (0, 0))) : ∀ t : AT, t.erase.nz → t.mem w → t.ins (fun j => j ≠ x)
  | .mk _ _ _ _ G off l, hn, hm => by
    rw [AT.erase, Trm.Tm.nz] at hn
    rw [AT.mem] at hm
    obtain ⟨h1, h2⟩ := ATs.off_x hx l off G hn.2 hm.2
    exact ⟨h1, h2⟩
theorem ATs.off_x {w : World} {x : Nat} {T : TypeId} (hx : w.heap[x]? = some (.cells #[.int .i64 0, .int .i64 0, .string ⟨#[]⟩, .slice none 0 0] T (0, 0))) : ∀ (l : List AT) (off G : Nat), Trm.Tms.nz (ATs.erase l) → ATs.mem w G l off → (l ≠ [] → G ≠ x) ∧ ATs.ins (fun j => j ≠ x) l
  | [], _, _, _, _ => ⟨fun h => absurd rfl h, trivial⟩
  | t :: r, off, G, hn, hm => by
    rw [ATs.erase, Trm.Tms.nz] at hn
    rw [ATs.mem] at hm
    refine ⟨fun _ e => ?_, AT.off_x hx t hn.1 hm.2.1, (ATs.off_x hx r (off + 4) G hn.2 hm.2.2).2⟩
    subst e
    have h0 := hm.1.2.1
    have hk : t.k ≠ 0 := by
      have := hn.1
      rw [AT.erase_mk, Trm.Tm.nz] at this
      exact this.1
    have hq : ∀ v, (#[Value.int .i64 0, .int .i64 0, .string ⟨#[]⟩, .slice none 0 0] : Array Value)[off]? = some v → w.cell? ⟨G, off, none⟩ = some v := fun v hv => cell_of_heap hx hv
    match off with
    | 0 => rw [hq _ rfl] at h0; simp at h0; exact hk h0.symm
    | 1 => rw [hq _ rfl] at h0; simp at h0; exact hk h0.symm
    | 2 => rw [hq _ rfl] at h0; simp at h0
    | 3 => rw [hq _ rfl] at h0; simp at h0
    | n + 4 =>
      have : w.cell? ⟨G, n + 4, none⟩ = none := by
        unfold World.cell?
        simp only [hx]
        simp
      rw [this] at h0
      cases h0
end
theorem StX.took {w0 : Base} {w : World} {R : Nat} {tv : Value} {a : Nat} {σ : Ms} {c : Rc} {so : AT} {x : Nat} {T : TypeId} (h : StX w0 w R tv a σ [] c [] so) (hZ : ∀ j, ¬ w0.Z j) (hx : w.heap[x]? = some (.cells #[.int .i64 0, .int .i64 0, .string ⟨#[]⟩, .slice none 0 0] T (0, 0))) (hlow : w0.heap.size ≤ x) (hO : x ∉ ownL R c [] []) (hn : so.erase.nz) : StX w0 w R tv a σ [x] c [] so := by
  have hm : ∀ j, j ∈ ownL R c [] [x] ↔ j ∈ ownL R c [] [] ∨ j = x := fun j => by
    rw [ownL_app, List.mem_append, List.mem_singleton]
  have hS : ∀ j, Still w (ownL R c [] []) j → j ≠ x → Still w (ownL R c [] [x]) j := fun j hj hne => ⟨hj.1, fun h2 => by
    rcases (hm j).1 h2 with h3 | h3
    · exact hj.2 h3
    · exact hne h3⟩
  have hP : c.P ≠ x := fun e => by
    obtain ⟨es, clock, hb, _⟩ := h.prims.own
    rw [e, hx] at hb
    cases hb
  refine ⟨⟨h.mem.rd, h.mem.k, h.mem.n, h.mem.s, h.mem.sv, h.mem.wait, h.mem.nums, h.mem.names, ?_, fun j hj => ?_, fun f hf => (by cases hf), h.mem.som, ?_⟩, h.below, h.tv, h.a, h.prims, hS _ h.pS hP, h.i, h.cnt, h.stk, h.so, h.p, h.bg, ⟨fun j hj => (hZ j hj).elim, fun j hj => (hZ j hj).elim⟩⟩
  · rw [ownL_app]
    exact List.nodup_append.2 ⟨h.mem.nodup, by simp, fun i hi j hj e => by rw [List.mem_singleton] at hj; subst e; subst hj; exact hO hi⟩
  · rcases (hm j).1 hj with h1 | h1
    · exact h.mem.low j h1
    · rw [h1]; exact ⟨hlow, heap_lt hx⟩
  · exact ins_both h.mem.soi (AT.off_x hx so hn h.mem.som) fun j h1 h2 => hS j h1 h2
end Go.Proofs.YtkplokfcjjcpcaaGreatDoor
end
section
namespace Go.Proofs.YtkplokfcjjcpcaaGreatDoor
open Go Go.RowKit Go.Maps Trm
attribute [local go_sem ↓] Go.wp_at_zero Go.wp_at_succ
def CPost (w0 : Base) (R : Nat) (tv : Value) (a : Nat) : Out → Ending → World → Prop
  | .on τ, e, w' => ∃ c so, e = .returned (.tuple #[so.val, .bool true]) ∧ StX w0 w' R tv a τ [] c [] so
  | .bad i, e, w' => e = .returned (.tuple #[.agg #[.int .i64 0, .int .i64 0, .string ⟨#[]⟩, .slice none 0 0], .bool false]) ∧ BadSt w0 w' R tv i
theorem results_cell_tmp {P : Program} {fn : Func} {p q : Tmp} {ty : TypeId} (h : fn.results = #[.cell p ty, .tmp q]) (tmps : Array Value) (w : World) (g : Nat) (t : TypeId) (cs : Array Value) (fr : Nat × Nat) (d : TypeDesc)
    (hp : tmps.getD p undef = .pointer (some ⟨g, 0, none⟩)) (hg : w.heap[g]? = some (.cells cs t fr))
    (hu : P.underlying ty = some d) (hd : (match d with | .struct _ | .array _ _ => true | _ => false) = true) (hi : (P.info? ty).map (·.size) = some cs.size) {v : Value} (hv : tmps.getD q undef = v) :
    (results fn tmps).run P w = .ok (.tuple #[.agg cs, v]) w := by
  have hp' : tmps[p]?.getD undef = .pointer (some ⟨g, 0, none⟩) := by simpa using hp
  have hv' : tmps[q]?.getD undef = v := by simpa using hv
  simp [results, h, hp', hv', asAddr, run_loadVar_row w g t ty cs fr d hg hu hd hi]
theorem StX.taken {w0 : Base} {w w' : World} {R : Nat} {tv : Value} {a : Nat} {σ : Ms} {c : Rc} {fr : List FrA} {so : AT} {x : Nat} {W1 : World} (h : StX (w0.with (fun j => w0.Z j ∨ j = x) W1) w R tv a σ [] c fr so) (hs : σ.stk = []) (hx : w.heap[x]? = some (.cells #[.int .i64 0, .int .i64 0, .string ⟨#[]⟩, .slice none 0 0] 34 (0, 0))) (hlow : w0.heap.size ≤ x) (hn : σ.so.nz) (hz : ∀ j, w0.Z j → W1.heap[j]? = w0.wz.heap[j]? ∧ j ≠ x) (k : Keeps (fun j => j = x) w w') :
    StX w0 w' R tv a σ [] c [] so := by
  have hfr : fr = [] := by
    have := h.stk
    rw [hs] at this
    exact List.map_eq_nil_iff.1 this
  subst hfr
  have hO := (h.sf.still x (.inr rfl)).2
  have h1 : StX (w0.with (fun _ => False) w0) w R tv a σ [] c [] so := h.rebase _ _ (fun _ hj => hj.elim) (fun _ hj => hj.elim)
  have h2 := (h1.took (fun _ hj => hj) hx hlow hO (by rw [h.so]; exact hn)).mine k (fun j hj => .inl (by rw [hj]; simp)) .nil (fun j hj => by cases hj)
  exact h2.rebase w0.Z w0.wz (fun j hj => by
    have h3 := h.sf.still j (.inl hj)
    exact (k.block j h3.1 (hz j hj).2).trans ((h.sf.same j (.inl hj)).trans (hz j hj).1)) (fun j hj => (h.sf.still j (.inl hj)).keeps k.size)
set_option maxRecDepth 100000 in
set_option maxHeartbeats 3200000 in
theorem clause_is {w0 : Base} {w : World} {a m : Nat} {L : List Ops.Df} {R : Nat} {tv : Value} {l : List Tok} {σ : Ms} {c : Rc} {so : AT} {K : Nat} (h : StX w0 w R tv a σ [] c [] so) (hC : Ctx w0 a m L tv l) (hK : l.length ≤ K) (hK5 : K ≤ 5000) (hf : Fit l K 1 (σ.want 1200 .stop)) (o : Out) (ho : runN L l (σ.want 1200 .stop) = o) (hnz : ∀ τ, o = .on τ → τ.so.nz) :
    Calls Tryz.prog 52 #[.pointer (some ⟨R, 0, none⟩)] w (CPost w0 R tv a o) := by
  have hmf : ∀ (fn : Fn) (first cap : Array Value) (w : World), (Instr.makeFunc fn first cap).run Tryz.prog w = .ok (.func fn first cap) w := fun _ _ _ _ => rfl
  have hR := h.mem.rd.lt
  have hO := h.O_lt
  obtain ⟨W1, hW1⟩ : ∃ W1, w.alloc (.cells #[.int .i64 0, .int .i64 0, .string ⟨#[]⟩, .slice none 0 0] 34) = W1 := ⟨_, rfl⟩
  have bW : Below w.heap.size w W1 := by
    rw [← hW1]
    exact (Below.refl w.heap.size w).alloc (Nat.le_refl _) _
  have hx : W1.heap[w.heap.size]? = some (.cells #[.int .i64 0, .int .i64 0, .string ⟨#[]⟩, .slice none 0 0] 34 (0, 0)) := by
    rw [← hW1]
    exact heap_alloc_new _ _
  obtain ⟨wb, hwb⟩ : ∃ wb, w0.with (fun j => w0.Z j ∨ j = w.heap.size) W1 = wb := ⟨_, rfl⟩
  have H1 : StX wb W1 R tv a σ [] c [] so := by
    rw [← hwb]
    exact (h.on bW).rebase _ _ (fun _ _ => rfl) (fun j hj => by
      rcases hj with hj | hj
      · exact (h.sf.still j hj).keeps bW.size
      · exact ⟨by rw [hj]; exact heap_lt hx, fun hm => by have := hO _ hm; omega⟩)
  have hCb : Ctx wb a m L tv l := by
    rw [← hwb]
    exact hC
  have hstk : σ.stk = [] := by rw [← h.stk]; rfl
  have HWB := Lib.hid hwb
  have HLOW := Lib.hid h.below.size
  have HZ := Lib.hid (fun j (hj : w0.Z j) => show W1.heap[j]? = w0.wz.heap[j]? ∧ j ≠ w.heap.size ∧ j < W1.heap.size from ⟨(bW.block j (h.sf.still j hj).1).trans (h.sf.same j hj), fun e => by have := (h.sf.still j hj).1; omega, Nat.lt_of_lt_of_le (h.sf.still j hj).1 bW.size⟩)
  have HNZ := Lib.hid hnz
  have WT := Lib.hid (wantS (k := .stop) H1 trivial 1200 (by rw [hstk]; simp))
  unfold KtA.val pt at WT
  have HF := Lib.hid hf
  have HO := Lib.hid ho
  have hs := fun i => (tok_fit hC i).2
  have HX := Lib.hid (fun (wr : World) (hq : ∀ j, wb.Z j → wr.heap[j]? = wb.wz.heap[j]?) => show wr.heap[w.heap.size]? = some (.cells #[.int .i64 0, .int .i64 0, .string ⟨#[]⟩, .slice none 0 0] 34 (0, 0)) from by
    have e1 := hq w.heap.size (by rw [← hwb]; exact .inr rfl)
    rw [e1, ← hwb]
    exact hx)
  clear h hx hO H1 hwb bW hf ho hnz
  go_enter_defers Tryz.func52, Tryz.ntmps52
  go_wp2_with fail
  refine WT.out.mono ?_
  rintro e w2 ⟨rfl, h2⟩
  have H2 := Lib.hid h2
  clear h2 WT hW1
  go_wp2_with fail
  go_loopw [15] (fun _ wr => ∃ τ, Hid (RSt wb wr R tv a τ) ∧ Hid (Fit l K 1 τ) ∧ Hid (runN L l τ = o)) (fun _ wr => leftW l.length R wr)
  case atStart => exact ⟨_, H2, HF, HO⟩
  case round =>
    obtain ⟨τ, HR, HT, HN⟩ := hrel
    obtain ⟨d, fr, so', hst⟩ := HR.out
    obtain ⟨ad, cap, hwv⟩ := hst.wv_form
    have c7 := hst.mem.rd.c_wv
    rw [hwv] at c7
    have hRr := hst.mem.rd.lt
    by_cases hne : τ.stk = []
    · have q0 : τ.stk.length = 0 := by rw [hne]; rfl
      rw [q0] at c7
      have HE := Lib.hid ((run_end hne).symm.trans HN.out)
      have HS := Lib.hid hst
      have d1 := hst.mem.rd.c_k
      have d2 := hst.mem.rd.c_n
      have d3 := hst.mem.rd.c_s
      have d4 := hst.mem.rd.c_sv
      rw [hst.mem.k] at d1
      rw [hst.mem.n] at d2
      rw [hst.mem.s] at d3
      obtain ⟨xa, xn, xk, xsv⟩ := AT.sv_slice hst.mem.som
      rw [hst.mem.sv, xsv] at d4
      have hxr := HX.out wr hst.sf.same
      obtain ⟨y0, y1, y2, y3, z0, z1, z2, z3⟩ : wr.cell? ⟨w.heap.size, 0, none⟩ = some (.int .i64 0) ∧ wr.cell? ⟨w.heap.size, 1, none⟩ = some (.int .i64 0) ∧ wr.cell? ⟨w.heap.size, 2, none⟩ = some (.string ⟨#[]⟩) ∧ wr.cell? ⟨w.heap.size, 3, none⟩ = some (.slice none 0 0) ∧ wr.frozen? ⟨w.heap.size, 0, none⟩ = false ∧ wr.frozen? ⟨w.heap.size, 1, none⟩ = false ∧ wr.frozen? ⟨w.heap.size, 2, none⟩ = false ∧ wr.frozen? ⟨w.heap.size, 3, none⟩ = false := ⟨cell_of_heap hxr rfl, cell_of_heap hxr rfl, cell_of_heap hxr rfl, cell_of_heap hxr rfl, free_of_heap hxr, free_of_heap hxr, free_of_heap hxr, free_of_heap hxr⟩
      have HXR := Lib.hid hxr
      clear hst HR H2 hxr
      go_wp2_with fail
      obtain ⟨W5, hW5⟩ : ∃ W5, ((((wr.setCell ⟨w.heap.size, 0, none⟩ (.int .i64 so'.k)).setCell ⟨w.heap.size, 1, none⟩ (.int .i64 so'.n)).setCell ⟨w.heap.size, 2, none⟩ (.string so'.s)).setCell ⟨w.heap.size, 3, none⟩ (.slice xa xn xk)) = W5 := ⟨_, rfl⟩
      rw [hW5]
      have hx5 := four_heap HXR.out (.int .i64 so'.k) (.int .i64 so'.n) (.string so'.s) (.slice xa xn xk)
      rw [hW5] at hx5
      have k5 : Keeps (fun j => j = w.heap.size) wr W5 := by
        rw [← hW5]
        exact ((((Keeps.refl (fun j => j = w.heap.size) wr).setCell (p := ⟨w.heap.size, 0, none⟩) (.inl rfl) _).setCell (p := ⟨w.heap.size, 1, none⟩) (.inl rfl) _).setCell (p := ⟨w.heap.size, 2, none⟩) (.inl rfl) _).setCell (p := ⟨w.heap.size, 3, none⟩) (.inl rfl) _
      have hst := HS.out
      rw [← HWB.out] at hst
      have hnz := HNZ.out τ HE.out.symm
      refine leaves_cons (f := 92) (args := #[]) (by simp) (by simp [go_sem]) ?_
      refine (catch_idle W5).mono ?_
      rintro e u' w4 ⟨rfl, rfl, b4⟩
      refine ⟨_, results_cell_tmp rfl _ _ w.heap.size 34 _ _ _ rfl ((b4.block _ (heap_lt hx5)).trans hx5) Tryz.underlying34 rfl termInfo rfl, ?_⟩
      rw [← HE.out]
      refine ⟨d, so', ?_, hst.taken hne HXR.out HLOW.out hnz (fun j hj => ⟨(HZ.out j hj).1, (HZ.out j hj).2.1⟩) (below_keeps k5 b4)⟩
      unfold AT.val
      rw [xsv]
      rfl
    · have q0 : decide (0 < τ.stk.length) = true := decide_eq_true (List.length_pos_iff.2 hne)
      have ST := Lib.hid (step_is hst hCb (by have := HT.out.i; omega) (by have := HT.out.st; have := HT.out.i; omega) hne (fun f hf => (HT.out.fr f hf).fits (by have := HT.out.i; omega)) HT.out.c0 (by have := HT.out.c1; have := HT.out.i; omega) (by have := HT.out.vs; have := HT.out.i; omega))
      have HL := Lib.hid (hst.left l)
      clear hst HR H2
      cases hq : stepZ L l τ with
      | on ρ =>
        rw [hq] at ST
        have HQ := Lib.hid hq
        clear hq
        go_wp2_with fail
        refine ST.out.mono ?_
        rintro e w3 ⟨rfl, h3⟩
        have H3 := Lib.hid h3
        clear h3 ST
        go_wp2_with fail
        go_roundw
        case rel => exact ⟨ρ, H3, HT.out.step hK hs HQ.out, (run_on hne HQ.out).symm.trans HN.out⟩
        case measure =>
          obtain ⟨_, _, _, h3⟩ := H3.out
          have e1 := h3.left l
          have e2 := HL.out
          have e3 := step_left hne HQ.out
          omega
      | bad i =>
        rw [hq] at ST
        have HQ := Lib.hid ((run_bad hne hq).symm.trans HN.out)
        clear hq
        go_wp2_with fail
        refine ST.out.mono ?_
        rintro e w3 ⟨rfl, h3⟩
        have H3 := Lib.hid h3
        clear h3 ST
        unfold stuckE
        go_wp2_with fail
        obtain ⟨h31, h32, c3, h33, h34, h35⟩ := H3.out
        have hx3 := HX.out w3 h32
        rw [← HWB.out] at h31 h32
        refine leaves_cons (f := 92) (args := #[]) (by simp) (by simp [go_sem]) ?_
        refine (catch_stuck w3).mono ?_
        rintro e u' w4 ⟨rfl, rfl, b4⟩
        refine ⟨_, results_cell_tmp rfl _ _ w.heap.size 34 _ _ _ rfl ((b4.block _ (heap_lt hx3)).trans hx3) Tryz.underlying34 rfl termInfo rfl, ?_⟩
        rw [← HQ.out]
        exact ⟨rfl, h31.trans (b4.mono h31.size), fun j hj => by
          have h6 : w3.heap[j]? = W1.heap[j]? := h32 j (.inl hj)
          have h7 : j < w3.heap.size := by
            have h8 : W1.heap[j]? = some (W1.heap[j]'(HZ.out j hj).2.2) := Array.getElem?_eq_getElem _
            exact heap_lt (h6.trans h8)
          exact (b4.block j h7).trans (h6.trans (HZ.out j hj).1), c3, h33.on b4, h34, h35⟩
end Go.Proofs.YtkplokfcjjcpcaaGreatDoor
end
section
namespace Go.Proofs.YtkplokfcjjcpcaaGreatDoor
open Go Go.RowKit
def TkFit (t : Tk) (z : Nat) : Prop := t.s.length ≤ z ∧ 0 ≤ t.k ∧ t.k ≤ 7 ∧ -9223372036854775808 ≤ t.n ∧ t.n ≤ 9223372036854775807
theorem or_all {P : Tk → Nat → Prop} {a b : Option (Tk × Nat)} (ha : ∀ t z, a = some (t, z) → P t z) (hb : ∀ t z, b = some (t, z) → P t z) : ∀ t z, a.or b = some (t, z) → P t z := by
  intro t z h
  rcases a with _ | x
  · exact hb t z h
  · exact ha t z h
theorem getF_small {q : Int} : ∀ (f : Nat) (l acc : List UInt8) (m : Nat) (b : List UInt8) (n : Nat), getF q f l acc m = some (b, n) → b.length + m ≤ acc.length + n
  | 0, _, _, _, _, _, h => by cases h
  | f + 1, l, acc, m, b, n, h => by
    unfold getF at h
    rcases hs : stepF q l with _ | _ | ⟨b', n'⟩
    · rw [hs] at h
      simp only [Option.some.injEq, Prod.mk.injEq] at h
      obtain ⟨rfl, rfl⟩ := h
      omega
    · rw [hs] at h; cases h
    · rw [hs] at h
      have hn := stepF_len hs
      have := getF_small f _ _ _ _ _ h
      rw [List.length_append] at this
      omega
theorem letters_fit {a b : Int} (hb : 0 ≤ b ∧ b ≤ 7) {l : List UInt8} {t : Tk} {z : Nat} (h : lettersT a b l = some (t, z)) : TkFit t z := by
  rcases l with _ | ⟨c, r⟩
  · cases h
  · simp only [lettersT] at h
    split at h
    · split at h
      · cases h
      · simp only [Option.some.injEq, Prod.mk.injEq] at h
        obtain ⟨rfl, rfl⟩ := h
        exact ⟨by simp only [List.length_take]; omega, hb.1, hb.2, by show (-9223372036854775808 : Int) ≤ 0; omega, by show (0 : Int) ≤ _; omega⟩
    · cases h
theorem alone_fit {a b : Int} (hb : 0 ≤ b ∧ b ≤ 7) {l : List UInt8} {t : Tk} {z : Nat} (h : aloneT a b l = some (t, z)) : TkFit t z := by
  rcases l with _ | ⟨c, r⟩
  · cases h
  · simp only [aloneT] at h
    split at h
    · simp only [Option.some.injEq, Prod.mk.injEq] at h
      obtain ⟨rfl, rfl⟩ := h
      exact ⟨by simp, hb.1, hb.2, by show (-9223372036854775808 : Int) ≤ 0; omega, by show (0 : Int) ≤ _; omega⟩
    · cases h
theorem stop_fit {l : List UInt8} {t : Tk} {z : Nat} (h : stopT l = some (t, z)) : TkFit t z := by
  rcases l with _ | ⟨c, _ | ⟨d, r⟩⟩
  · cases h
  all_goals
    simp only [stopT] at h
    repeat' split at h
    all_goals first
      | cases h; done
      | (simp only [Option.some.injEq, Prod.mk.injEq] at h
         obtain ⟨rfl, rfl⟩ := h
         exact ⟨by simp, by show (0 : Int) ≤ 7; omega, by show (7 : Int) ≤ 7; omega, by show (-9223372036854775808 : Int) ≤ 0; omega, by show (0 : Int) ≤ _; omega⟩)
theorem signs_fit {l : List UInt8} {t : Tk} {z : Nat} (h : signsT l = some (t, z)) : TkFit t z := by
  unfold signsT at h
  split at h
  · cases h
  · split at h
    · cases h
    · simp only [Option.some.injEq, Prod.mk.injEq] at h
      obtain ⟨rfl, rfl⟩ := h
      exact ⟨by simp only [List.length_take]; omega, by show (0 : Int) ≤ 1; omega, by show (1 : Int) ≤ 7; omega, by show (-9223372036854775808 : Int) ≤ 0; omega, by show (0 : Int) ≤ _; omega⟩
theorem wrap_fit (n : Int) : -9223372036854775808 ≤ wrap64 n ∧ wrap64 n ≤ 9223372036854775807 := by
  unfold wrap64
  omega
theorem parse_fit (b : Int) (l : List UInt8) : -9223372036854775808 ≤ (parseR b l).1 ∧ (parseR b l).1 ≤ 9223372036854775807 := by
  unfold parseR
  repeat' split
  all_goals first
    | exact wrap_fit _
    | exact ⟨by show (-9223372036854775808 : Int) ≤ 0; omega, by show (0 : Int) ≤ _; omega⟩
theorem digits_fit {f : Nat} {b : Int} {l : List UInt8} {t : Tk} {z : Nat} (h : digitsT f b l = some (t, z)) : TkFit t z := by
  unfold digitsT at h
  split at h
  · split at h
    · cases h
    · simp only [Option.some.injEq, Prod.mk.injEq] at h
      obtain ⟨rfl, rfl⟩ := h
      exact ⟨Nat.zero_le _, by show (0 : Int) ≤ 3; omega, by show (3 : Int) ≤ 7; omega, (parse_fit _ _).1, (parse_fit _ _).2⟩
  · cases h
theorem char_fit {l : List UInt8} {t : Tk} {z : Nat} (h : charT l = some (t, z)) : TkFit t z := by
  rw [charT_o] at h
  split at h
  · cases h
  · unfold charO at h
    split at h
    · rename_i c _ _
      simp only [Option.some.injEq, Prod.mk.injEq] at h
      obtain ⟨rfl, rfl⟩ := h
      have := c.toNat_lt
      exact ⟨Nat.zero_le _, by show (0 : Int) ≤ 3; omega, by show (3 : Int) ≤ 7; omega, by show (-9223372036854775808 : Int) ≤ (c.toNat : Int); omega, by show (c.toNat : Int) ≤ _; omega⟩
    · cases h
theorem numT_fit {l : List UInt8} {t : Tk} {z : Nat} (h : numberT l = some (t, z)) : TkFit t z := by
  unfold numberT at h
  split at h
  · exact digits_fit h
  · split at h
    · exact digits_fit h
    · split at h
      · exact digits_fit h
      · split at h
        · exact char_fit h
        · exact digits_fit h
theorem within_fit {q k : Int} (hk : 0 ≤ k ∧ k ≤ 7) {l : List UInt8} {t : Tk} {z : Nat} (h : withinT q k l = some (t, z)) : TkFit t z := by
  rcases l with _ | ⟨c, r⟩
  · cases h
  · simp only [withinT] at h
    split at h
    · split at h
      · rename_i hg
        have := getF_small _ _ _ _ _ _ hg
        simp only [Option.some.injEq, Prod.mk.injEq] at h
        obtain ⟨rfl, rfl⟩ := h
        simp only [List.length_nil] at this
        exact ⟨by simp only; omega, hk.1, hk.2, by show (-9223372036854775808 : Int) ≤ 0; omega, by show (0 : Int) ≤ _; omega⟩
      · cases h
    · cases h
theorem tok_small {l : List UInt8} : ∀ t z, tokT l = some (t, z) → TkFit t z :=
  or_all (fun _ _ => stop_fit) <| or_all (fun _ _ => letters_fit ⟨by decide, by decide⟩) <| or_all (fun _ _ => signs_fit) <| or_all (fun _ _ => alone_fit ⟨by decide, by decide⟩) <| or_all (fun _ _ => letters_fit ⟨by decide, by decide⟩) <| or_all (fun _ _ => numT_fit) <| or_all (fun _ _ => within_fit ⟨by decide, by decide⟩) <| or_all (fun _ _ => within_fit ⟨by decide, by decide⟩) fun _ _ => alone_fit ⟨by decide, by decide⟩
def TokFit (t : Tok) : Prop := 0 ≤ t.k ∧ t.k ≤ 7 ∧ -9223372036854775808 ≤ t.n ∧ t.n ≤ 9223372036854775807
def sumS (l : List Tok) : Nat := (l.map fun t => t.s.length).sum
theorem lex_fit : ∀ (N : Nat) (l : List UInt8) (n : Int) (k : Nat), l.length ≤ N → k + l.length ≤ 16000 → (∀ t ∈ (lexN l n k).toks, TokFit t) ∧ sumS (lexN l n k).toks ≤ l.length := by
  have fin : ∀ (l : List UInt8) (n : Int) (k : Nat), (l.drop (skipN l) = [] ∨ tokT (l.drop (skipN l)) = none) → (∀ t ∈ (lexN l n k).toks, TokFit t) ∧ sumS (lexN l n k).toks ≤ l.length := by
    intro l n k h
    by_cases hd : l.drop (skipN l) = []
    · rw [lexN_end hd]
      refine ⟨fun t ht => ?_, by simp [sumS]⟩
      rw [List.mem_singleton] at ht
      subst ht
      exact ⟨by show (0 : Int) ≤ 0; omega, by show (0 : Int) ≤ 7; omega, by show (-9223372036854775808 : Int) ≤ 0; omega, by show (0 : Int) ≤ _; omega⟩
    · rw [lexN_bad hd (h.resolve_left hd)]
      exact ⟨fun t ht => (by cases ht), by simp [sumS]⟩
  intro N
  induction N with
  | zero =>
    intro l n k hN _
    exact fin l n k (.inl (by rw [List.eq_nil_of_length_eq_zero (l := l) (by omega)]; rfl))
  | succ N ih =>
    intro l n k hN hk
    by_cases hd : l.drop (skipN l) = []
    · exact fin l n k (.inl hd)
    · rcases ht : tokT (l.drop (skipN l)) with _ | ⟨t, z⟩
      · exact fin l n k (.inr ht)
      · have h3 := tok_len _ _ ht
        have h4 := skipN_le l
        obtain ⟨f1, f2, f3, f4, f5⟩ := tok_small _ _ ht
        rw [List.length_drop] at h3
        rw [lexN_on hd ht (by omega)]
        obtain ⟨i1, i2⟩ := ih ((l.drop (skipN l)).drop z) (n + nlC (l.take (skipN l)) + nlC ((l.drop (skipN l)).take z)) (k + 1) (by rw [List.length_drop, List.length_drop]; omega) (by rw [List.length_drop, List.length_drop]; omega)
        rw [List.length_drop, List.length_drop] at i2
        refine ⟨fun u hu => ?_, ?_⟩
        · rcases List.mem_cons.1 hu with rfl | hu
          · exact ⟨f2, f3, f4, f5⟩
          · exact i1 u hu
        · simp only [LexR.cons, sumS, List.map_cons, List.sum_cons] at i2 ⊢
          omega
theorem lex_cnt : ∀ (N : Nat) (l : List UInt8) (n : Int) (k : Nat), l.length ≤ N → k + l.length ≤ 16000 → (lexN l n k).toks.length ≤ l.length + 1 ∧ ((lexN l n k).e = 0 → 0 < (lexN l n k).toks.length) := by
  have fin : ∀ (l : List UInt8) (n : Int) (k : Nat), (l.drop (skipN l) = [] ∨ tokT (l.drop (skipN l)) = none) → (lexN l n k).toks.length ≤ l.length + 1 ∧ ((lexN l n k).e = 0 → 0 < (lexN l n k).toks.length) := by
    intro l n k h
    by_cases hd : l.drop (skipN l) = []
    · rw [lexN_end hd]
      simp
    · rw [lexN_bad hd (h.resolve_left hd)]
      simp
  intro N
  induction N with
  | zero =>
    intro l n k hN _
    exact fin l n k (.inl (by rw [List.eq_nil_of_length_eq_zero (l := l) (by omega)]; rfl))
  | succ N ih =>
    intro l n k hN hk
    by_cases hd : l.drop (skipN l) = []
    · exact fin l n k (.inl hd)
    · rcases ht : tokT (l.drop (skipN l)) with _ | ⟨t, z⟩
      · exact fin l n k (.inr ht)
      · have h3 := tok_len _ _ ht
        have h4 := skipN_le l
        rw [List.length_drop] at h3
        rw [lexN_on hd ht (by omega)]
        have hi := (ih ((l.drop (skipN l)).drop z) (n + nlC (l.take (skipN l)) + nlC ((l.drop (skipN l)).take z)) (k + 1) (by rw [List.length_drop, List.length_drop]; omega) (by rw [List.length_drop, List.length_drop]; omega)).1
        rw [List.length_drop, List.length_drop] at hi
        simp only [LexR.cons, List.length_cons]
        omega
theorem sum_mem {l : List Tok} {t : Tok} (h : t ∈ l) : t.s.length ≤ sumS l := by
  induction l with
  | nil => cases h
  | cons u r ih =>
    simp only [sumS, List.map_cons, List.sum_cons] at ih ⊢
    rcases List.mem_cons.1 h with rfl | h
    · omega
    · have := ih h
      omega
end Go.Proofs.YtkplokfcjjcpcaaGreatDoor
end
section
namespace Go.Proofs.YtkplokfcjjcpcaaGreatDoor
open Go Go.RowKit Trm
def Kt.isStop : Kt → Bool
  | .stop => true
  | _ => false
def Sk (s : List Fr) : Prop := ∃ fs, s = fs ++ [⟨1200, .stop⟩] ∧ ∀ f ∈ fs, f.k.isStop = false
theorem Sk.ne {s : List Fr} (h : Sk s) : s ≠ [] := by
  obtain ⟨fs, rfl, _⟩ := h
  simp
theorem Sk.push {s : List Fr} (h : Sk s) (m : Int) {k : Kt} (hk : k.isStop = false) : Sk (⟨m, k⟩ :: s) := by
  obtain ⟨fs, rfl, h2⟩ := h
  refine ⟨⟨m, k⟩ :: fs, rfl, fun f hf => ?_⟩
  rcases List.mem_cons.1 hf with rfl | hf
  · exact hk
  · exact h2 f hf
theorem Sk.pop {f : Fr} {s : List Fr} (h : Sk (f :: s)) : (f = ⟨1200, .stop⟩ ∧ s = []) ∨ (f.k.isStop = false ∧ Sk s) := by
  obtain ⟨fs, h1, h2⟩ := h
  cases fs with
  | nil =>
    simp at h1
    exact .inl h1
  | cons g fs =>
    simp only [List.cons_append, List.cons.injEq] at h1
    obtain ⟨rfl, rfl⟩ := h1
    exact .inr ⟨h2 _ (by simp), fs, rfl, fun g hg => h2 g (by simp [hg])⟩
def SK (l : List Tok) (σ : Ms) : Prop := Sk σ.stk ∨ (σ.stk = [] ∧ σ.begun = true ∧ 1 ≤ σ.i ∧ (tokAt l (σ.i - 1)).k = 7 ∧ σ.i ≤ l.length)
theorem sk_expect {l : List Tok} {σ τ : Ms} {c : List UInt8} {go : Ms → Ms} (he : expectZ l σ c go = .on τ) (hg : Sk (go (σ.to (σ.i + 1))).stk) : Sk τ.stk := by
  obtain ⟨_, rfl⟩ := expect_on he
  exact hg
theorem sk_all {l : List Tok} {σ τ : Ms} {L : List Tm} {al : Al} (h : Sk σ.stk) (he : allZ l σ L al = .on τ) : Sk τ.stk := by
  cases al with
  | comp s =>
    simp only [allZ] at he
    exact sk_expect he h
  | items =>
    simp only [allZ] at he
    split at he
    · obtain rfl := Out.on.inj he
      exact Sk.push (s := σ.stk) h _ rfl
    · exact sk_expect he h
theorem sk_then {l : List Tok} {σ τ : Ms} {x : Tm} {k : Kt} (h : Sk σ.stk) (hk : k.isStop = false) (he : thenZ l σ x k = .on τ) : Sk τ.stk := by
  cases k with
  | stop => cases hk
  | round =>
    simp only [thenZ] at he
    exact sk_expect he h
  | braces =>
    simp only [thenZ] at he
    exact sk_expect he h
  | args L al =>
    simp only [thenZ] at he
    split at he
    · obtain rfl := Out.on.inj he
      exact Sk.push (s := σ.stk) h _ rfl
    · exact sk_all h he
  | tail L =>
    simp only [thenZ] at he
    exact sk_expect he h
  | pre s p =>
    simp only [thenZ] at he
    obtain rfl := Out.on.inj he
    exact h
  | inf s so p =>
    simp only [thenZ] at he
    obtain rfl := Out.on.inj he
    exact h
theorem sk_args {l : List Tok} {σ τ : Ms} {s : ByteArray} (h : Sk σ.stk) (he : argsZ l σ s = .on τ) : Sk τ.stk :=
  sk_expect he (Sk.push (s := σ.stk) h _ rfl)
theorem sk_end {l : List Tok} {σ τ : Ms} (h : Sk σ.stk) (he : endZ l σ = .on τ) : SK l τ := by
  unfold endZ at he
  split at he
  · rename_i h0
    exact absurd h0 h.ne
  · rename_i f r h0
    rw [h0] at h
    rcases h.pop with ⟨rfl, rfl⟩ | ⟨h1, h2⟩
    · simp only [thenZ] at he
      split at he
      · rename_i hp
        have hk : (tokAt l σ.i).k = 7 := by simpa using hp
        have h1 := tokAt_lt (l := l) (i := σ.i) (by rw [hk]; decide)
        obtain rfl := Out.on.inj he
        refine .inr ⟨rfl, rfl, Nat.succ_le_succ (Nat.zero_le _), ?_, h1⟩
        show (tokAt l (σ.i + 1 - 1)).k = 7
        rw [Nat.add_sub_cancel]
        exact hk
      · cases he
    · exact .inl (sk_then (σ := { σ with stk := r }) h2 h1 he)
theorem sk_goOn {L : List Ops.Df} {l : List Tok} {σ τ : Ms} (h : Sk σ.stk) (he : goOnZ L l σ = .on τ) : SK l τ := by
  unfold goOnZ at he
  simp only at he
  split at he
  · split at he
    · obtain rfl := Out.on.inj he
      exact .inl (Sk.push (s := σ.stk) h _ rfl)
    · split at he
      · obtain rfl := Out.on.inj he
        exact .inl h
      · exact sk_end h he
  · exact sk_end h he
theorem sk_closes {l : List Tok} {σ τ : Ms} {c : List UInt8} {s : ByteArray} {m : Int} {k : Kt} (h : Sk σ.stk) (hk : k.isStop = false) (he : closesZ l σ c s (fun ρ => ρ.want m k) = .on τ) : Sk τ.stk := by
  unfold closesZ at he
  split at he
  · split at he
    · exact sk_args (σ := σ.to (σ.i + 1)) h he
    · obtain rfl := Out.on.inj he
      exact h
  · obtain rfl := Out.on.inj he
    exact Sk.push (s := σ.stk) h _ hk
theorem sk_word {L : List Ops.Df} {l : List Tok} {σ τ : Ms} {t : Tok} (h : Sk σ.stk) (he : wordZ L l σ t = .on τ) : Sk τ.stk := by
  unfold wordZ at he
  split at he
  · obtain rfl := Out.on.inj he
    exact h
  · split at he
    · exact sk_args h he
    · split at he
      · obtain rfl := Out.on.inj he
        exact Sk.push (s := σ.stk) h _ rfl
      · obtain rfl := Out.on.inj he
        exact h
theorem sk_begin {L : List Ops.Df} {l : List Tok} {σ τ : Ms} (h : Sk σ.stk) (he : beginZ L l σ = .on τ) : Sk τ.stk := by
  unfold beginZ at he
  simp only at he
  split at he
  · split at he
    · cases he
    · obtain rfl := Out.on.inj he
      exact h
  · split at he
    · obtain rfl := Out.on.inj he
      obtain ⟨_, a2, _⟩ := number_same (σ.to (σ.i + 1)) (tokAt l σ.i).s
      show Sk ((σ.to (σ.i + 1)).number (tokAt l σ.i).s).1.stk
      rw [a2]
      exact h
    · split at he
      · obtain rfl := Out.on.inj he
        exact h
      · split at he
        · split at he
          · obtain rfl := Out.on.inj he
            exact Sk.push (s := σ.stk) h _ rfl
          · split at he
            · exact sk_closes (σ := σ.to (σ.i + 1)) (k := .args [] .items) h rfl he
            · split at he
              · exact sk_closes (σ := σ.to (σ.i + 1)) (k := .braces) h rfl he
              · cases he
        · split at he
          · exact sk_word (σ := σ.to (σ.i + 1)) h he
          · cases he
theorem sk_step {L : List Ops.Df} {l : List Tok} {σ τ : Ms} (h : Sk σ.stk) (he : stepZ L l σ = .on τ) : SK l τ := by
  unfold stepZ at he
  split at he
  · exact sk_goOn h he
  · exact .inl (sk_begin h he)
structure TkOk (l : List Tok) : Prop where
  len : l.length ≤ 5000
  fit : ∀ t ∈ l, TokFit t
  sum : sumS l ≤ 5000
theorem TkOk.at {l : List Tok} (h : TkOk l) (i : Nat) : TokFit (tokAt l i) := by
  unfold tokAt
  cases hq : l[i]? with
  | none => exact ⟨by show (0 : Int) ≤ 0; omega, by show (0 : Int) ≤ 7; omega, by show (-9223372036854775808 : Int) ≤ 0; omega, by show (0 : Int) ≤ _; omega⟩
  | some t => exact h.fit t (List.mem_of_getElem? hq)
theorem TkOk.s_at {l : List Tok} (h : TkOk l) (i : Nat) : (tokAt l i).s.length ≤ 5000 := by
  unfold tokAt
  cases hq : l[i]? with
  | none => simp [tok0]
  | some t => exact Nat.le_trans (sum_mem (List.mem_of_getElem? hq)) h.sum
theorem TkOk.weight {l : List Tok} (h : TkOk l) : (l.map wT).sum ≤ 40000 := by
  have e : ∀ m : List Tok, (m.map wT).sum = 4 * m.length + 4 * sumS m := fun m => by
    induction m with
    | nil => rfl
    | cons t r ih =>
      simp only [List.map_cons, List.sum_cons, ih, wT, sumS, List.length_cons]
      omega
  have := h.len
  have := h.sum
  rw [e]
  omega
theorem lex_ok {l : List UInt8} (hl : l.length ≤ 4999) : TkOk (lexN l 1 0).toks := by
  obtain ⟨h1, h2⟩ := lex_fit l.length l 1 0 (Nat.le_refl _) (by omega)
  obtain ⟨h3, _⟩ := lex_cnt l.length l 1 0 (Nat.le_refl _) (by omega)
  exact ⟨by omega, h1, by omega⟩
structure EndOk (l : List Tok) (i : Nat) (τ : Ms) : Prop where
  fit : Fit l l.length 1 τ
  nz : τ.so.nz
  vs : ∀ p ∈ τ.vs, 0 ≤ p.2 ∧ p.2 ≤ 100000
  nodes : τ.so.nodes ≤ 40000
  stk : τ.stk = []
  stop : (tokAt l (τ.i - 1)).k = 7
  one : 1 ≤ τ.i
theorem start_fit {l : List Tok} {i : Nat} (hi : i ≤ l.length) : Fit l l.length 1 (start i) :=
  ⟨hi, by show 1 ≤ i + 1; omega, fun f hf => (by simp [start] at hf; subst hf; trivial), Int.le_refl 0, by show (0 : Int) ≤ (i : Int); omega, Nat.zero_le _⟩
theorem clause_end {L : List Ops.Df} {l : List Tok} {i : Nat} {τ : Ms} (h : TkOk l) (hi : i ≤ l.length) (hr : clauseZ L l i = .on τ) : EndOk l i τ := by
  rw [clause_run] at hr
  obtain ⟨⟨h1, h2, h3, h4⟩, h5⟩ := runN_keeps (I := fun σ => Fit l l.length 1 σ ∧ QS Trm.Tm.nz σ ∧ WS l σ ∧ SK l σ) (fun σ ρ hs hI he => ⟨hI.1.step (Nat.le_refl _) h.s_at he, hI.2.1.step nz_cl (fun i => ⟨(h.at i).2.2.1, (h.at i).2.2.2⟩) hI.1.c0 (by have := hI.1.c1; have := hI.1.i; have := h.len; omega) he, ws_step hI.2.2.1 he, by
      rcases hI.2.2.2 with h6 | h6
      · exact sk_step h6 he
      · exact absurd h6.1 hs⟩)
    ⟨start_fit hi, ⟨fun e => (by cases e), fun f hf => (by simp [start] at hf; subst hf; trivial), fun p hp => (by cases hp)⟩, by show wS (start i) ≤ _; simp [wS, start, wF, wK], .inl ⟨[], rfl, fun f hf => (by cases hf)⟩⟩ hr
  rcases h4 with h4 | ⟨_, h6, h7, h8, _⟩
  · exact absurd h5 h4.ne
  · refine ⟨h1, h2.so h6, h2.vs, ?_, h5, h8, h7⟩
    have h9 := wTo_all l τ.i
    have h10 := h.weight
    have h11 : wS τ ≤ wTo l τ.i := h3
    unfold wS at h11
    rw [if_pos h6] at h11
    omega
end Go.Proofs.YtkplokfcjjcpcaaGreatDoor
end
section
namespace Go.Proofs.YtkplokfcjjcpcaaGreatDoor
open Go Go.RowKit Go.Maps Trm
attribute [local go_sem ↓] Go.wp_at_zero Go.wp_at_succ
def nilTm : Tm := .mk 0 0 ⟨#[]⟩ []
def fresh (i : Nat) : Ms := ⟨i, [], 0, [], nilTm, 0, false⟩
theorem fresh_want (i : Nat) : (fresh i).want 1200 .stop = start i := rfl
theorem varMap_nil : VarMap (.map []) [] := ⟨Maps.isMap_empty, fun _ _ => ⟨rfl, rfl⟩⟩
def base (w : World) : Base := ⟨w, fun _ => False, w⟩
theorem fresh_state {w w1 w2 : World} {ad : Option Addr} {n cap i a : Nat} (h1 : w1 = (w.alloc (.map #[] 0)).alloc (.cells #[.slice ad n cap, .int .i64 i, .pointer (some ⟨a, 0, none⟩), .map none, .map (some w.heap.size), .slice none 0 0, .int .i64 0, .slice none 0 0, .bool false, .int .i64 0, .int .i64 0, .string ⟨#[]⟩, .slice none 0 0, .int .i64 0] 113))
    (h2 : Prims w2 w1.heap.size (w.heap.size + 1)) (b2 : Below w1.heap.size w1 w2) :
    StX (base w) (w2.setCell ⟨w.heap.size + 1, 3, none⟩ (.map (some w1.heap.size))) (w.heap.size + 1) (.slice ad n cap) a (fresh i) [] (newC (.slice ad n cap) i a w1.heap.size w.heap.size) [] zeroA := by
  have s1 : w1.heap.size = w.heap.size + 2 := by rw [h1]; simp
  have hr : w1.heap[w.heap.size + 1]? = some (.cells #[.slice ad n cap, .int .i64 i, .pointer (some ⟨a, 0, none⟩), .map none, .map (some w.heap.size), .slice none 0 0, .int .i64 0, .slice none 0 0, .bool false, .int .i64 0, .int .i64 0, .string ⟨#[]⟩, .slice none 0 0, .int .i64 0] 113 (0, 0)) := by
    rw [h1]
    exact new_at _ _ (by simp)
  have hm0 := World.ownsMap_made w Tryz.prog 9 (plainElem (H := Unit) Tryz.prog 2)
  have hm : w1.heap[w.heap.size]? = (w.alloc (.map #[] 0)).heap[w.heap.size]? := by
    rw [h1]
    exact Below.heap_alloc _ _ _ (by simp)
  have hr2 : w2.heap[w.heap.size + 1]? = w1.heap[w.heap.size + 1]? := b2.block _ (by omega)
  have hm2 : w2.heap[w.heap.size]? = w1.heap[w.heap.size]? := b2.block _ (by omega)
  have hr2' := hr2.trans hr
  have B1 : Below w.heap.size w w1 := by
    rw [h1]
    exact ((Below.refl _ _).alloc (Nat.le_refl _) _).alloc (by simp) _
  have B2 : Below w.heap.size w (w2.setCell ⟨w.heap.size + 1, 3, none⟩ (.map (some w1.heap.size))) := (B1.trans (b2.mono (by omega))).setCell (p := ⟨w.heap.size + 1, 3, none⟩) (by show w.heap.size ≤ w.heap.size + 1; omega) _
  have hz : (w2.setCell ⟨w.heap.size + 1, 3, none⟩ (.map (some w1.heap.size))).heap.size = w2.heap.size := World.size_setCell _ _ _
  have hl := h2.lt
  have hO : ownL (w.heap.size + 1) (newC (.slice ad n cap) i a w1.heap.size w.heap.size) [] [] = [w.heap.size + 1, w.heap.size] := rfl
  refine ⟨⟨⟨?_⟩, rfl, rfl, rfl, rfl, ⟨rfl, .inl ⟨rfl, rfl⟩⟩, ⟨0, .map [], ?_, Nat.le_refl _, varMap_nil⟩, ⟨rfl, .inl ⟨rfl, rfl⟩⟩, ?_, fun j hj => ?_, fun f hf => (by cases hf), ⟨.inl ⟨rfl, rfl⟩, trivial⟩, ⟨fun h => absurd rfl h, trivial⟩⟩, B2, rfl, rfl, h2.same ?_, ?_, rfl, rfl, rfl, rfl, rfl, rfl, ⟨fun j hj => hj.elim, fun j hj => hj.elim⟩⟩
  · rw [heap_set hr2']
    rfl
  · obtain ⟨es, clock, hb, r⟩ := hm0
    exact ⟨es, clock, (heap_set_ne (show w.heap.size ≠ w.heap.size + 1 by omega) _).trans (hm2.trans (hm.trans hb)), r⟩
  · rw [hO]
    simp
  · rw [hO] at hj
    rw [hz]
    show w.heap.size ≤ j ∧ _
    simp at hj
    omega
  · exact heap_set_ne (by omega) _
  · refine ⟨by rw [hz]; exact hl, ?_⟩
    rw [hO]
    show w1.heap.size ∉ _
    simp
    omega
set_option maxRecDepth 100000 in
set_option maxHeartbeats 1600000 in
theorem newReader_is (w : World) (ad : Option Addr) (n cap i a : Nat) :
    Calls Tryz.prog 50 #[.slice ad n cap, .int .i64 i, .pointer (some ⟨a, 0, none⟩)] w fun e w' => e = .returned (.pointer (some ⟨w.heap.size + 1, 0, none⟩)) ∧ StX (base w) w' (w.heap.size + 1) (.slice ad n cap) a (fresh i) [] (newC (.slice ad n cap) i a (w.heap.size + 2) w.heap.size) [] zeroA := by
  obtain ⟨w1, hw1⟩ : ∃ w1, w1 = (w.alloc (.map #[] 0)).alloc (.cells #[.slice ad n cap, .int .i64 i, .pointer (some ⟨a, 0, none⟩), .map none, .map (some w.heap.size), .slice none 0 0, .int .i64 0, .slice none 0 0, .bool false, .int .i64 0, .int .i64 0, .string ⟨#[]⟩, .slice none 0 0, .int .i64 0] 113) := ⟨_, rfl⟩
  have s1 : w1.heap.size = w.heap.size + 2 := by rw [hw1]; simp
  have hmm := run_makeMap (P := Tryz.prog) 108 w
  have FS := Lib.hid (fun w2 (h2 : Prims w2 w1.heap.size (w.heap.size + 1)) (b2 : Below w1.heap.size w1 w2) => fresh_state (w := w) (ad := ad) (n := n) (cap := cap) (i := i) (a := a) hw1 h2 b2)
  rw [s1] at FS
  have KI := Lib.hid (kinds_is w1 (w.heap.size + 1))
  rw [s1] at KI
  have hfz : ∀ w2, Below w1.heap.size w1 w2 → w2.frozen? ⟨w.heap.size + 1, 3, none⟩ = false := fun w2 b2 => by
    refine free_of_heap (c := #[.slice ad n cap, .int .i64 i, .pointer (some ⟨a, 0, none⟩), .map none, .map (some w.heap.size), .slice none 0 0, .int .i64 0, .slice none 0 0, .bool false, .int .i64 0, .int .i64 0, .string ⟨#[]⟩, .slice none 0 0, .int .i64 0]) (T := 113) ((b2.block _ (by omega)).trans ?_)
    rw [hw1]
    exact new_at _ _ (by simp)
  have hc3 : ∀ w2, Below w1.heap.size w1 w2 → w2.cell? ⟨w.heap.size + 1, 3, none⟩ = some (.map none) := fun w2 b2 => by
    refine cell_of_heap (c := #[.slice ad n cap, .int .i64 i, .pointer (some ⟨a, 0, none⟩), .map none, .map (some w.heap.size), .slice none 0 0, .int .i64 0, .slice none 0 0, .bool false, .int .i64 0, .int .i64 0, .string ⟨#[]⟩, .slice none 0 0, .int .i64 0]) (T := 113) (fr := (0, 0)) ((b2.block _ (by omega)).trans ?_) rfl
    rw [hw1]
    exact new_at _ _ (by simp)
  have HF := Lib.hid hfz
  have HC := Lib.hid hc3
  rw [s1] at HF HC
  clear hfz hc3
  go_enter Tryz.func50, Tryz.ntmps50
  go_wp2_with fail
  rw [← hw1]
  refine KI.out.mono ?_
  rintro e w2 ⟨rfl, h2, b2⟩
  have z3 := HF.out w2 b2
  have y3 := HC.out w2 b2
  have F2 := Lib.hid (FS.out w2 h2 b2)
  clear HF HC FS KI h2 b2
  go_wp2_with fail
  go_ret
  exact ⟨rfl, F2.out⟩
end Go.Proofs.YtkplokfcjjcpcaaGreatDoor
end
section
namespace Go.Proofs.YtkplokfcjjcpcaaGreatDoor
open Go Go.RowKit Trm
attribute [local go_sem ↓] Go.wp_at_zero Go.wp_at_succ
def bh (l : List Tok) (i : Nat) : Nat := if h : i < l.length then (if (tokAt l i).k = 7 then i + 1 else if (tokAt l i).k = 0 then i else bh l (i + 1)) else l.length
  termination_by l.length - i
theorem bh_stop {l : List Tok} {i : Nat} (h : i < l.length) (h7 : (tokAt l i).k = 7) : bh l i = i + 1 := by
  rw [bh, dif_pos h, if_pos h7]
theorem bh_end {l : List Tok} {i : Nat} (h : i < l.length) (h0 : (tokAt l i).k = 0) : bh l i = i := by
  rw [bh, dif_pos h, if_neg (by omega), if_pos h0]
theorem bh_on {l : List Tok} {i : Nat} (h : i < l.length) (h7 : ¬ (tokAt l i).k = 7) (h0 : ¬ (tokAt l i).k = 0) : bh l i = bh l (i + 1) := by
  rw [bh, dif_pos h, if_neg h7, if_neg h0]
theorem bh_out {l : List Tok} {i : Nat} (h : ¬ i < l.length) : bh l i = l.length := by
  rw [bh, dif_neg h]
set_option maxRecDepth 100000 in
set_option maxHeartbeats 1600000 in
theorem behind_is (w : World) (R : Nat) (c : Rc) (l : List Tok) (i : Nat) (h : Rd w R c) (ht : Tks w c.tv l) (hi : c.i = (i : Int)) (hib : i ≤ 1000000) (hl : l.length ≤ 1000000) :
    Calls Tryz.prog 53 #[.pointer (some ⟨R, 0, none⟩)] w fun e w' => e = .returned (.int .i64 (bh l i)) ∧ w' = w := by
  have c0 := h.c_tv
  have c1 := h.c_i
  obtain ⟨ad, cap, g, h1, h2, h3, h4, h5⟩ := ht.got
  rw [h1] at c0
  rw [hi] at c1
  have PC := Lib.hid (fun j (hj : j < l.length) => show ad = some ⟨g, 0, none⟩ ∧ w.cell? ⟨g, j * 6, none⟩ = some (.int .i64 (tokAt l j).k) from by
    obtain ⟨h6, _⟩ := h4 (by omega)
    have hgt : l[j]? = some l[j] := List.getElem?_eq_getElem hj
    rw [tokAt_some hgt]
    exact ⟨h6, h5 _ _ (tcell_get l j 0 _ _ hgt rfl)⟩)
  have HL := Lib.hid hl
  obtain ⟨n, hn⟩ : ∃ n, l.length = n := ⟨_, rfl⟩
  have HN := Lib.hid hn
  rw [hn] at c0 h2
  clear h h1 hi ht h4 h5 hl hn
  go_enter Tryz.func53, Tryz.ntmps53
  go_wp2_with fail
  go_loopw [3] (fun v wr => ∃ j : Nat, v = .int .i64 j ∧ j ≤ 1000001 ∧ wr = w ∧ Hid (bh l j = bh l i)) (fun v _ => n - (intOf v).toNat)
  case atStart => exact ⟨i, rfl, by omega, rfl, rfl⟩
  case round =>
    obtain ⟨j, rfl, hj, rfl, HS⟩ := hrel
    by_cases hlt : j < n
    · have q0 : decide ((j : Int) < (n : Int)) = true := decide_eq_true (by omega)
      obtain ⟨e1, q1⟩ := PC.out j (by rw [HN.out]; exact hlt)
      subst e1
      obtain ⟨k, hk⟩ : ∃ k, (tokAt l j).k = k := ⟨_, rfl⟩
      rw [hk] at q1
      by_cases h7 : k = 7
      · have HE := Lib.hid (HS.out.symm.trans (bh_stop (by rw [HN.out]; exact hlt) (hk.trans h7)))
        have q2 : (k == 7) = true := by simpa using h7
        clear hk HS h7
        go_wp2_with fail
        go_ret
        rw [HE.out]
        exact ⟨by go_num, rfl⟩
      · have q2 : (k == 7) = false := by simpa using h7
        by_cases h0 : k = 0
        · have HE := Lib.hid (HS.out.symm.trans (bh_end (by rw [HN.out]; exact hlt) (hk.trans h0)))
          have q3 : (k == 0) = true := by simpa using h0
          clear hk HS h7 h0
          go_wp2_with fail
          go_ret
          rw [HE.out]
          exact ⟨by go_num, rfl⟩
        · have HE := Lib.hid ((bh_on (by rw [HN.out]; exact hlt) (by rw [hk]; exact h7) (by rw [hk]; exact h0)).symm.trans HS.out)
          have q3 : (k == 0) = false := by simpa using h0
          clear hk HS h7 h0
          go_wp2_with fail
          go_roundw
          case rel => exact ⟨j + 1, by go_num, by have := HL.out; have := HN.out; omega, trivial, HE.out⟩
          case measure => simp [intOf]; omega
    · have q0 : decide ((j : Int) < (n : Int)) = false := decide_eq_false (by omega)
      have HE := Lib.hid (HS.out.symm.trans (bh_out (by rw [HN.out]; exact hlt)))
      clear HS
      go_wp2_with fail
      go_ret
      rw [HE.out, HN.out]
      exact ⟨rfl, rfl⟩
end Go.Proofs.YtkplokfcjjcpcaaGreatDoor
end
