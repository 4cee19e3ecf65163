/- Joined texts: ReadZR ReadZT ReadZS ReadZU ReadZV ReadZW. Conditions: as each states. -/
import Derived.Test.YtkplokfcjjcpcaaGreatDoorRk29
import Derived.Test.YtkplokfcjjcpcaaGreatDoorRk14
section
namespace Go.Proofs.YtkplokfcjjcpcaaGreatDoor
open Go Go.RowKit Go.Maps Trm
mutual
def Trm.Tm.ok : Tm → Bool
  | .mk k n s l => mayB k n s l.length && Trm.Tms.ok l
def Trm.Tms.ok : List Tm → Bool
  | [] => true
  | t :: r => Trm.Tm.ok t && Trm.Tms.ok r
end
mutual
theorem AT.ok_erase : ∀ t : AT, t.erase.ok = t.ok
  | .mk _ _ _ _ _ _ l => by rw [AT.erase, Trm.Tm.ok, AT.ok, ATs.ok_erase l, erase_len]
theorem ATs.ok_erase : ∀ l : List AT, Trm.Tms.ok (ATs.erase l) = ATs.ok l
  | [] => rfl
  | t :: r => by rw [ATs.erase, Trm.Tms.ok, ATs.ok, AT.ok_erase t, ATs.ok_erase r]
end
def Trm.Tm.errno (t : Tm) : Int := checkZ (!t.ok) t.dp t.nodes
theorem errno_erase (t : AT) : t.erase.errno = t.errno := by
  unfold Trm.Tm.errno AT.errno
  rw [AT.ok_erase, AT.dp_erase, AT.nodes_erase]
structure Cz where
  t : Tm
  vs : List (ByteArray × Int)
  line : Int
  next : Int
def readZ (L : List Ops.Df) (l : List Tok) (i : Nat) : Cz × Int :=
  if (tokAt l i).k = 0 then (⟨nilTm, [], 0, 0⟩, 7) else match clauseZ L l i with
    | .bad j => (⟨nilTm, [], (tokAt l j).line, bh l j⟩, 6)
    | .on τ => if τ.so.errno = 0 then (⟨τ.so, τ.vs, (tokAt l i).line, τ.i⟩, 0) else if τ.so.errno = 4 then (⟨nilTm, [], (tokAt l i).line, τ.i⟩, 4) else (⟨nilTm, [], (tokAt l i).line, τ.i⟩, 3)
def cVal (k n : Int) (s : ByteArray) (sv nv : Value) (line next : Int) : Value := .agg #[.int .i64 k, .int .i64 n, .string s, sv, nv, .int .i64 line, .int .i64 next]
def ReadPost (w : World) (c : Cz) (er : Int) (e : Ending) (w' : World) : Prop :=
  ∃ (t : AT) (nv : Value), e = .returned (.tuple #[cVal t.k t.n t.s t.sv nv c.line c.next, .int .i64 er]) ∧ t.erase = c.t ∧ t.mem w' ∧ t.nodes ≤ 40000 ∧ w'.ownsRow w.heap.size 59 2 nv c.vs.length (bindCells c.vs) ∧ Below w.heap.size w w'
theorem clauseInfo : (Tryz.prog.info? 37).map (·.size) = some 7 := by kernel_rfl
end Go.Proofs.YtkplokfcjjcpcaaGreatDoor
end
section
namespace Go.Proofs.YtkplokfcjjcpcaaGreatDoor
open Go Go.RowKit Go.Maps Trm
theorem expect_bad {l : List Tok} {σ : Ms} {c : List UInt8} {go : Ms → Ms} {j : Nat} (h : expectZ l σ c go = .bad j) : j = σ.i := by
  unfold expectZ at h
  split at h
  · cases h
  · exact (Out.bad.inj h).symm
theorem all_bad {l : List Tok} {σ : Ms} {L : List Tm} {al : Al} {j : Nat} (h : allZ l σ L al = .bad j) : j = σ.i := by
  cases al with
  | comp s =>
    simp only [allZ] at h
    exact expect_bad h
  | items =>
    simp only [allZ] at h
    split at h
    · cases h
    · exact expect_bad h
theorem then_bad {l : List Tok} {σ : Ms} {x : Tm} {k : Kt} {j : Nat} (h : thenZ l σ x k = .bad j) : j = σ.i := by
  cases k with
  | stop =>
    simp only [thenZ] at h
    split at h
    · cases h
    · exact (Out.bad.inj h).symm
  | round =>
    simp only [thenZ] at h
    exact expect_bad h
  | braces =>
    simp only [thenZ] at h
    exact expect_bad h
  | args L al =>
    simp only [thenZ] at h
    split at h
    · cases h
    · exact all_bad h
  | tail L =>
    simp only [thenZ] at h
    exact expect_bad h
  | pre s p => simp only [thenZ] at h; cases h
  | inf s so p => simp only [thenZ] at h; cases h
theorem end_bad {l : List Tok} {σ : Ms} {j : Nat} (h : endZ l σ = .bad j) : j = σ.i := by
  unfold endZ at h
  split at h
  · cases h
  · rename_i f r _
    exact then_bad (σ := { σ with stk := r }) h
theorem goOn_bad {L : List Ops.Df} {l : List Tok} {σ : Ms} {j : Nat} (h : goOnZ L l σ = .bad j) : j = σ.i := by
  unfold goOnZ at h
  simp only at h
  split at h
  · split at h
    · cases h
    · split at h
      · cases h
      · exact end_bad h
  · exact end_bad h
theorem closes_bad {l : List Tok} {σ : Ms} {c : List UInt8} {s : ByteArray} {other : Ms → Ms} {j : Nat} (h : closesZ l σ c s other = .bad j) : j = σ.i + 1 := by
  unfold closesZ at h
  split at h
  · split at h
    · unfold argsZ at h; exact expect_bad h
    · cases h
  · cases h
theorem word_bad {L : List Ops.Df} {l : List Tok} {σ : Ms} {t : Tok} {j : Nat} (h : wordZ L l σ t = .bad j) : j = σ.i := by
  unfold wordZ at h
  split at h
  · cases h
  · split at h
    · unfold argsZ at h; exact expect_bad h
    · split at h
      · cases h
      · cases h
theorem begin_bad {L : List Ops.Df} {l : List Tok} {σ : Ms} {j : Nat} (h : beginZ L l σ = .bad j) : j ≤ σ.i + 2 := by
  unfold beginZ at h
  simp only at h
  split at h
  · split at h
    · have := Out.bad.inj h; omega
    · cases h
  · split at h
    · cases h
    · split at h
      · cases h
      · split at h
        · split at h
          · cases h
          · split at h
            · have := closes_bad h
              simp only [Ms.to] at this
              omega
            · split at h
              · have := closes_bad h
                simp only [Ms.to] at this
                omega
              · have := Out.bad.inj h; omega
        · split at h
          · have := word_bad h
            simp only [Ms.to] at this
            omega
          · have := Out.bad.inj h; omega
theorem step_stops {L : List Ops.Df} {l : List Tok} {σ : Ms} {j : Nat} (h : stepZ L l σ = .bad j) : j ≤ σ.i + 2 := by
  unfold stepZ at h
  split at h
  · have := goOn_bad h; omega
  · exact begin_bad h
theorem run_gives {I : Ms → Prop} {L : List Ops.Df} {l : List Tok} (hI : ∀ σ τ, σ.stk ≠ [] → I σ → stepZ L l σ = .on τ → I τ) {j : Nat} : ∀ (f : Nat) (σ : Ms), I σ → runZ L l f σ = .bad j → ∃ ρ, I ρ ∧ stepZ L l ρ = .bad j
  | 0, _, _, h => by cases h
  | f + 1, σ, hi, hr => by
    rw [runZ] at hr
    split at hr
    · cases hr
    · rename_i h0
      split at hr
      · rename_i i hs
        obtain rfl := Out.bad.inj hr
        exact ⟨σ, hi, hs⟩
      · rename_i ρ hs
        exact run_gives hI f ρ (hI σ ρ h0 hi hs) hr
theorem clause_bad {L : List Ops.Df} {l : List Tok} {i j : Nat} (h : TkOk l) (hi : i ≤ l.length) (hr : clauseZ L l i = .bad j) : j ≤ 5002 := by
  obtain ⟨ρ, h1, h2⟩ := run_gives (I := fun σ => Fit l l.length 1 σ) (fun σ ρ _ hI he => hI.step (Nat.le_refl _) h.s_at he) _ _ (start_fit hi) hr
  have := step_stops h2
  have := h1.i
  have := h.len
  omega
end Go.Proofs.YtkplokfcjjcpcaaGreatDoor
end
section
namespace Go.Proofs.YtkplokfcjjcpcaaGreatDoor
open Go Go.RowKit Go.Maps Trm
attribute [local go_sem ↓] Go.wp_at_zero Go.wp_at_succ
set_option maxHeartbeats 3200000 in
theorem seven_heap {W : World} {b : Nat} {x0 x1 x2 x3 x4 x5 x6 : Value} {T : TypeId} (h : W.heap[b]? = some (.cells #[x0, x1, x2, x3, x4, x5, x6] T (0, 0))) (y0 y1 y2 y3 y4 y5 y6 : Value) :
    (((((((W.setCell ⟨b, 0, none⟩ y0).setCell ⟨b, 1, none⟩ y1).setCell ⟨b, 2, none⟩ y2).setCell ⟨b, 3, none⟩ y3).setCell ⟨b, 4, none⟩ y4).setCell ⟨b, 5, none⟩ y5).setCell ⟨b, 6, none⟩ y6).heap[b]? = some (.cells #[y0, y1, y2, y3, y4, y5, y6] T (0, 0)) :=
  heap_set (heap_set (heap_set (heap_set (heap_set (heap_set (heap_set h y0) y1) y2) y3) y4) y5) y6
def z7 : Array Value := #[.int .i64 0, .int .i64 0, .string ⟨#[]⟩, .slice none 0 0, .slice none 0 0, .int .i64 0, .int .i64 0]
structure Seven (W : World) (b : Nat) : Prop where
  row : W.heap[b]? = some (.cells #[.int .i64 0, .int .i64 0, .string ⟨#[]⟩, .slice none 0 0, .slice none 0 0, .int .i64 0, .int .i64 0] 37 (0, 0))
theorem Seven.on {W W' : World} {b : Nat} (h : Seven W b) (k : Below W.heap.size W W') : Seven W' b := ⟨(k.block _ (heap_lt h.row)).trans h.row⟩
theorem Seven.facts {W : World} {b : Nat} (h : Seven W b) : (W.cell? ⟨b, 0, none⟩ = some (.int .i64 0) ∧ W.cell? ⟨b, 1, none⟩ = some (.int .i64 0) ∧ W.cell? ⟨b, 2, none⟩ = some (.string ⟨#[]⟩) ∧ W.cell? ⟨b, 3, none⟩ = some (.slice none 0 0) ∧ W.cell? ⟨b, 4, none⟩ = some (.slice none 0 0) ∧ W.cell? ⟨b, 5, none⟩ = some (.int .i64 0) ∧ W.cell? ⟨b, 6, none⟩ = some (.int .i64 0)) ∧
    (W.frozen? ⟨b, 0, none⟩ = false ∧ W.frozen? ⟨b, 1, none⟩ = false ∧ W.frozen? ⟨b, 2, none⟩ = false ∧ W.frozen? ⟨b, 3, none⟩ = false ∧ W.frozen? ⟨b, 4, none⟩ = false ∧ W.frozen? ⟨b, 5, none⟩ = false ∧ W.frozen? ⟨b, 6, none⟩ = false) :=
  ⟨⟨cell_of_heap h.row rfl, cell_of_heap h.row rfl, cell_of_heap h.row rfl, cell_of_heap h.row rfl, cell_of_heap h.row rfl, cell_of_heap h.row rfl, cell_of_heap h.row rfl⟩, free_of_heap h.row, free_of_heap h.row, free_of_heap h.row, free_of_heap h.row, free_of_heap h.row, free_of_heap h.row, free_of_heap h.row⟩
theorem zeroA_post {w w' : World} {line next er : Int} (b : Below w.heap.size w w') : ReadPost w ⟨nilTm, [], line, next⟩ er (.returned (.tuple #[cVal 0 0 ⟨#[]⟩ (.slice none 0 0) (.slice none 0 0) line next, .int .i64 er])) w' :=
  ⟨zeroA, .slice none 0 0, rfl, rfl, ⟨.inl ⟨rfl, rfl⟩, trivial⟩, by decide, ⟨rfl, .inl ⟨rfl, rfl⟩⟩, b⟩
theorem seven_below {w W : World} (h : Below w.heap.size w W) (y0 y1 y2 y3 y4 y5 y6 : Value) :
    Below w.heap.size w (((((((W.setCell ⟨w.heap.size, 0, none⟩ y0).setCell ⟨w.heap.size, 1, none⟩ y1).setCell ⟨w.heap.size, 2, none⟩ y2).setCell ⟨w.heap.size, 3, none⟩ y3).setCell ⟨w.heap.size, 4, none⟩ y4).setCell ⟨w.heap.size, 5, none⟩ y5).setCell ⟨w.heap.size, 6, none⟩ y6) :=
  ((((((h.setCell (p := ⟨w.heap.size, 0, none⟩) (Nat.le_refl _) _).setCell (p := ⟨w.heap.size, 1, none⟩) (Nat.le_refl _) _).setCell (p := ⟨w.heap.size, 2, none⟩) (Nat.le_refl _) _).setCell (p := ⟨w.heap.size, 3, none⟩) (Nat.le_refl _) _).setCell (p := ⟨w.heap.size, 4, none⟩) (Nat.le_refl _) _).setCell (p := ⟨w.heap.size, 5, none⟩) (Nat.le_refl _) _).setCell (p := ⟨w.heap.size, 6, none⟩) (Nat.le_refl _) _
set_option maxRecDepth 100000 in
set_option maxHeartbeats 3200000 in
theorem read_end (w : World) (ad : Option Addr) (cap i a m : Nat) (L : List Ops.Df) (l : List Tok) (ht : Tab' w a m L) (hk : Tks w (.slice ad l.length cap) l) (hl : TkOk l) (hi : i ≤ 5000) (h0 : (tokAt l i).k = 0) :
    Calls Tryz.prog 18 #[.slice ad l.length cap, .int .i64 i, .pointer (some ⟨a, 0, none⟩)] w (ReadPost w ⟨nilTm, [], 0, 0⟩ 7) := by
  obtain ⟨w1, hw1⟩ : ∃ w1, w.alloc (.cells #[.int .i64 0, .int .i64 0, .string ⟨#[]⟩, .slice none 0 0, .slice none 0 0, .int .i64 0, .int .i64 0] 37) = w1 := ⟨_, rfl⟩
  have b1 : Below w.heap.size w w1 := by
    rw [← hw1]
    exact (Below.refl _ _).alloc (Nat.le_refl _) _
  have hy : Seven w1 w.heap.size := by
    rw [← hw1]
    exact ⟨heap_alloc_new _ _⟩
  have hC : Ctx (base w1) a m L (.slice ad l.length cap) l := ⟨ht.on b1, hk.on b1, fun t hm => ⟨⟨(hl.fit t hm).1, (hl.fit t hm).2.1⟩, Nat.le_trans (sum_mem hm) hl.sum⟩, hl.len⟩
  obtain ⟨n, hn⟩ : ∃ n, l.length = n := ⟨_, rfl⟩
  rw [hn] at hC ⊢
  have NR := Lib.hid (newReader_is w1 ad n cap i a)
  have NX := Lib.hid (fun w2 (h2 : StX (base w1) w2 (w1.heap.size + 1) (.slice ad n cap) a (fresh i) [] (newC (.slice ad n cap) i a (w1.heap.size + 2) w1.heap.size) [] zeroA) => nextS h2 hC (by show i ≤ 10000; omega))
  have YY := Lib.hid (fun w5 (b5 : Below w1.heap.size w1 w5) => (hy.on b5))
  have B1 := Lib.hid b1
  obtain ⟨t, hT⟩ : ∃ t, tokAt l i = t := ⟨_, rfl⟩
  have hT' : tokAt l (fresh i).i = t := hT
  simp only [hT'] at NX
  rw [hT] at h0
  clear hT hT' ht hk hl hi hn hC hy b1
  obtain ⟨tk, tl, tn, ts, tO, tt⟩ := t
  obtain ⟨S, hS⟩ : ∃ S : ByteArray, (⟨ts.toArray⟩ : ByteArray) = S := ⟨_, rfl⟩
  simp only [Tok.val, hS] at NX
  simp only at h0
  subst h0
  clear hS
  go_enter Tryz.func18, Tryz.ntmps18
  go_wp2_with fail
  refine NR.out.mono ?_
  rintro e w2 ⟨rfl, h2⟩
  have H2 := Lib.hid h2
  have N2 := Lib.hid (NX.out w2 h2)
  clear h2 NR NX
  go_wp2_with fail
  refine N2.out.mono ?_
  rintro e w3 ⟨rfl, b3⟩
  have H3 := Lib.hid (H2.out.on b3)
  have hY3 := Lib.hid (fun o => YY.out (w3.alloc o) (H3.out.below.alloc H3.out.below.size o))
  have y0 := fun o => (hY3.out o).facts.1.1
  have y1 := fun o => (hY3.out o).facts.1.2.1
  have y2 := fun o => (hY3.out o).facts.1.2.2.1
  have y3 := fun o => (hY3.out o).facts.1.2.2.2.1
  have y4 := fun o => (hY3.out o).facts.1.2.2.2.2.1
  have y5 := fun o => (hY3.out o).facts.1.2.2.2.2.2.1
  have y6 := fun o => (hY3.out o).facts.1.2.2.2.2.2.2
  have f0 := fun o => (hY3.out o).facts.2.1
  have f1 := fun o => (hY3.out o).facts.2.2.1
  have f2 := fun o => (hY3.out o).facts.2.2.2.1
  have f3 := fun o => (hY3.out o).facts.2.2.2.2.1
  have f4 := fun o => (hY3.out o).facts.2.2.2.2.2.1
  have f5 := fun o => (hY3.out o).facts.2.2.2.2.2.2.1
  have f6 := fun o => (hY3.out o).facts.2.2.2.2.2.2.2
  clear b3 N2 H2
  go_wp2_with fail
  have B4 := Lib.hid (B1.out.trans ((H3.out.below.alloc H3.out.below.size (.cells #[.int .i64 0, .int .i64 tl, .int .i64 tn, .string S, .bool tO, .bool tt] 48)).mono B1.out.size))
  refine bodyPost_ret (results_cell_tmp rfl _ _ w.heap.size 37 _ _ _ rfl (seven_heap (hY3.out (.cells #[.int .i64 0, .int .i64 tl, .int .i64 tn, .string S, .bool tO, .bool tt] 48)).row _ _ _ _ _ _ _) Tryz.underlying37 rfl clauseInfo rfl) rfl ?_
  exact zeroA_post (seven_below B4.out _ _ _ _ _ _ _)
end Go.Proofs.YtkplokfcjjcpcaaGreatDoor
end
section
namespace Go.Proofs.YtkplokfcjjcpcaaGreatDoor
open Go Go.RowKit Go.Maps Trm
attribute [local go_sem ↓] Go.wp_at_zero Go.wp_at_succ
theorem tok_field1 (k l n : Int) (s : ByteArray) (a b : Bool) (w : World) : (Instr.field 48 (.agg #[.int .i64 k, .int .i64 l, .int .i64 n, .string s, .bool a, .bool b]) 1).run Tryz.prog w = .ok (.int .i64 l) w := by kernel_rfl
set_option maxRecDepth 100000 in
set_option maxHeartbeats 3200000 in
theorem read_bad (w : World) (ad : Option Addr) (cap i a m j : Nat) (L : List Ops.Df) (l : List Tok) (ht : Tab' w a m L) (hk : Tks w (.slice ad l.length cap) l) (hl : TkOk l) (hi : i ≤ 5000) (h0 : (tokAt l i).k ≠ 0) (hr : clauseZ L l i = .bad j) :
    Calls Tryz.prog 18 #[.slice ad l.length cap, .int .i64 i, .pointer (some ⟨a, 0, none⟩)] w (ReadPost w ⟨nilTm, [], (tokAt l j).line, bh l j⟩ 6) := by
  have hil : i < l.length := tokAt_lt h0
  have hj := clause_bad hl (Nat.le_of_lt hil) hr
  have hlen := hl.len
  have hr' : runN L l ((fresh i).want 1200 .stop) = .bad j := by rw [fresh_want, ← clause_run]; exact hr
  obtain ⟨w1, hw1⟩ : ∃ w1, w.alloc (.cells #[.int .i64 0, .int .i64 0, .string ⟨#[]⟩, .slice none 0 0, .slice none 0 0, .int .i64 0, .int .i64 0] 37) = w1 := ⟨_, rfl⟩
  have b1 : Below w.heap.size w w1 := by
    rw [← hw1]
    exact (Below.refl _ _).alloc (Nat.le_refl _) _
  have hy : Seven w1 w.heap.size := by
    rw [← hw1]
    exact ⟨heap_alloc_new _ _⟩
  have hC : Ctx (base w1) a m L (.slice ad l.length cap) l := ⟨ht.on b1, hk.on b1, fun t hm => ⟨⟨(hl.fit t hm).1, (hl.fit t hm).2.1⟩, Nat.le_trans (sum_mem hm) hl.sum⟩, hl.len⟩
  obtain ⟨n, hn⟩ : ∃ n, l.length = n := ⟨_, rfl⟩
  rw [hn] at hC ⊢
  have NR := Lib.hid (newReader_is w1 ad n cap i a)
  have NX := Lib.hid (fun w2 (h2 : StX (base w1) w2 (w1.heap.size + 1) (.slice ad n cap) a (fresh i) [] (newC (.slice ad n cap) i a (w1.heap.size + 2) w1.heap.size) [] zeroA) => nextS h2 hC (by show i ≤ 10000; omega))
  have YY := Lib.hid (fun w5 (b5 : Below w1.heap.size w1 w5) => (hy.on b5))
  have B1 := Lib.hid b1
  obtain ⟨t, hT⟩ : ∃ t, tokAt l i = t := ⟨_, rfl⟩
  have hT' : tokAt l (fresh i).i = t := hT
  simp only [hT'] at NX
  rw [hT] at h0
  have CL := Lib.hid (fun w4 (h4 : StX (base w1) w4 (w1.heap.size + 1) (.slice ad n cap) a (fresh i) [] (newC (.slice ad n cap) i a (w1.heap.size + 2) w1.heap.size) [] zeroA) => clause_is h4 hC (Nat.le_refl _) hlen (start_fit (Nat.le_of_lt hil)) (.bad j) hr' (fun τ hτ => by cases hτ))
  have TK := Lib.hid (fun w5 (b5 : Below w1.heap.size w1 w5) => hC.tks.on b5)
  have NX2 := Lib.hid (fun w5 (hb : BadSt (base w1) w5 (w1.heap.size + 1) (.slice ad n cap) j) w6 (b6 : Below w5.heap.size w5 w6) => show Calls _ _ _ w6 (fun e w' => e = .returned (tokAt l j).val ∧ Below w6.heap.size w6 w') from by
    obtain ⟨q1, _, c, q2, q3, q4⟩ := hb
    exact next_is w6 (w1.heap.size + 1) c l j (q2.on b6) (by rw [q3]; exact TK.out w6 (q1.trans (b6.mono q1.size))) q4 (by omega) (by omega))
  have BH := Lib.hid (fun w5 (hb : BadSt (base w1) w5 (w1.heap.size + 1) (.slice ad n cap) j) w6 (b6 : Below w5.heap.size w5 w6) => show Calls _ _ _ w6 (fun e w' => e = .returned (.int .i64 (bh l j)) ∧ w' = w6) from by
    obtain ⟨q1, _, c, q2, q3, q4⟩ := hb
    exact behind_is w6 (w1.heap.size + 1) c l j (q2.on b6) (by rw [q3]; exact TK.out w6 (q1.trans (b6.mono q1.size))) q4 (by omega) (by omega))
  obtain ⟨u, hU⟩ : ∃ u, tokAt l j = u := ⟨_, rfl⟩
  obtain ⟨z, hz⟩ : ∃ z : Nat, bh l j = z := ⟨_, rfl⟩
  rw [hU, hz]
  simp only [hU] at NX2
  simp only [hz] at BH
  have hk0 : (t.k == 0) = false := by simpa using h0
  clear hT hT' ht hk hl hi hn hC hy b1 hU hz hr hr' hj hlen hil h0 TK
  obtain ⟨tk, tl, tn, ts, tO, tt⟩ := t
  obtain ⟨S, hS⟩ : ∃ S : ByteArray, (⟨ts.toArray⟩ : ByteArray) = S := ⟨_, rfl⟩
  simp only [Tok.val, hS] at NX
  simp only at hk0
  obtain ⟨uk, ul, un, us, uO, ut⟩ := u
  obtain ⟨U, hU⟩ : ∃ U : ByteArray, (⟨us.toArray⟩ : ByteArray) = U := ⟨_, rfl⟩
  simp only [Tok.val, hU] at NX2
  simp only
  clear hS hU
  have FD := fun w => tok_field1 uk ul un U uO ut w
  go_enter Tryz.func18, Tryz.ntmps18
  go_wp2_with fail
  refine NR.out.mono ?_
  rintro e w2 ⟨rfl, h2⟩
  have H2 := Lib.hid h2
  have N2 := Lib.hid (NX.out w2 h2)
  clear h2 NR NX
  go_wp2_with fail
  refine N2.out.mono ?_
  rintro e w3 ⟨rfl, b3⟩
  have H3 := Lib.hid (H2.out.on b3)
  have C3 := Lib.hid (fun o => CL.out _ (H3.out.on ((Below.refl _ _).alloc (Nat.le_refl _) o)))
  clear b3 N2 H2
  go_wp2_with fail
  refine (C3.out _).mono ?_
  rintro e w4 ⟨rfl, hb⟩
  have HB := Lib.hid hb
  have NX3 := Lib.hid (fun o => NX2.out w4 hb _ ((Below.refl _ _).alloc (Nat.le_refl _) o))
  have BD := Lib.hid (fun o => (hb.1.alloc hb.1.size o : Below w1.heap.size w1 (w4.alloc o)))
  clear hb NX2 CL C3 H3
  go_wp2_with fail
  refine (NX3.out _).mono ?_
  rintro e w5 ⟨rfl, b5⟩
  have BH5 := Lib.hid (BH.out w4 HB.out w5 (((Below.refl w4.heap.size w4).alloc (Nat.le_refl _) _).trans (b5.mono (by simp))))
  have B5 := Lib.hid ((BD.out _).trans (b5.mono (BD.out _).size))
  clear b5 NX3 BH BD
  go_wp2_with fail
  refine BH5.out.mono ?_
  rintro e w6 ⟨rfl, rfl⟩
  have hY := Lib.hid (YY.out _ B5.out)
  obtain ⟨⟨y0, y1, y2, y3, y4, y5, y6⟩, f0, f1, f2, f3, f4, f5, f6⟩ := hY.out.facts
  clear BH5 YY
  go_wp2_with fail
  refine bodyPost_ret (results_cell_tmp rfl _ _ w.heap.size 37 _ _ _ rfl (seven_heap hY.out.row _ _ _ _ _ _ _) Tryz.underlying37 rfl clauseInfo rfl) rfl ?_
  exact zeroA_post (seven_below (B1.out.trans (B5.out.mono B1.out.size)) _ _ _ _ _ _ _)
end Go.Proofs.YtkplokfcjjcpcaaGreatDoor
end
section
namespace Go.Proofs.YtkplokfcjjcpcaaGreatDoor
open Go Go.RowKit Go.Maps Trm
attribute [local go_sem ↓] Go.wp_at_zero Go.wp_at_succ
theorem row_slice {w : World} {b n : Nat} {e : TypeId} {size : Nat} {v : Value} {xs : List Value} (h : w.ownsRow b e size v n xs) : ∃ ad cap, v = .slice ad n cap := by
  obtain ⟨_, ⟨h1, h2⟩ | ⟨g, cap, _, h1, _⟩⟩ := h
  · exact ⟨none, 0, by rw [h1, h2]⟩
  · exact ⟨_, cap, h1⟩
mutual
theorem AT.off_z {w : World} {x : Nat} (hx : ∀ o k, w.cell? ⟨x, o, none⟩ = some (.int .i64 k) → k = 0) : ∀ t : AT, t.erase.nz → t.mem w → t.ins (fun j => j ≠ x)
  | .mk _ _ _ _ G off l, hn, hm => by
    rw [AT.erase, Trm.Tm.nz] at hn
    rw [AT.mem] at hm
    obtain ⟨h1, h2⟩ := ATs.off_z hx l off G hn.2 hm.2
    exact ⟨h1, h2⟩
theorem ATs.off_z {w : World} {x : Nat} (hx : ∀ o k, w.cell? ⟨x, o, none⟩ = some (.int .i64 k) → k = 0) : ∀ (l : List AT) (off G : Nat), Trm.Tms.nz (ATs.erase l) → ATs.mem w G l off → (l ≠ [] → G ≠ x) ∧ ATs.ins (fun j => j ≠ x) l
  | [], _, _, _, _ => ⟨fun h => absurd rfl h, trivial⟩
  | t :: r, off, G, hn, hm => by
    rw [ATs.erase, Trm.Tms.nz] at hn
    rw [ATs.mem] at hm
    refine ⟨fun _ e => ?_, AT.off_z hx t hn.1 hm.2.1, (ATs.off_z hx r (off + 4) G hn.2 hm.2.2).2⟩
    subst e
    have hk : t.k ≠ 0 := by
      have := hn.1
      rw [AT.erase_mk, Trm.Tm.nz] at this
      exact this.1
    exact hk (hx _ _ hm.1.2.1)
end
theorem seven_other {b j : Nat} (W : World) (h : j ≠ b) (y0 y1 y2 y3 y4 y5 y6 : Value) :
    (((((((W.setCell ⟨b, 0, none⟩ y0).setCell ⟨b, 1, none⟩ y1).setCell ⟨b, 2, none⟩ y2).setCell ⟨b, 3, none⟩ y3).setCell ⟨b, 4, none⟩ y4).setCell ⟨b, 5, none⟩ y5).setCell ⟨b, 6, none⟩ y6).heap[j]? = W.heap[j]? := by
  rw [heap_set_ne h, heap_set_ne h, heap_set_ne h, heap_set_ne h, heap_set_ne h, heap_set_ne h, heap_set_ne h]
theorem Seven.zero {W : World} {b : Nat} (h : Seven W b) (o : Nat) (k : Int) (hc : W.cell? ⟨b, o, none⟩ = some (.int .i64 k)) : k = 0 := by
  obtain ⟨⟨y0, y1, y2, y3, y4, y5, y6⟩, _⟩ := h.facts
  match o with
  | 0 => rw [y0] at hc; simp at hc; exact hc.symm
  | 1 => rw [y1] at hc; simp at hc; exact hc.symm
  | 2 => rw [y2] at hc; simp at hc
  | 3 => rw [y3] at hc; simp at hc
  | 4 => rw [y4] at hc; simp at hc
  | 5 => rw [y5] at hc; simp at hc; exact hc.symm
  | 6 => rw [y6] at hc; simp at hc; exact hc.symm
  | n + 7 =>
    have : W.cell? ⟨b, n + 7, none⟩ = none := by
      unfold World.cell?
      simp only [h.row]
      simp
    rw [this] at hc
    cases hc
theorem on_mem {w0 : Base} {w4 wf : World} {R Y : Nat} {tv : Value} {a : Nat} {τ : Ms} {c : Rc} {so : AT} (h : StX w0 w4 R tv a τ [] c [] so) (hy : Seven w4 Y) (hY : Y < w0.heap.size) (hn : τ.so.nz) (k : ∀ j, j < w4.heap.size → j ≠ Y → wf.heap[j]? = w4.heap[j]?) : so.mem wf ∧ wf.ownsRow w0.heap.size 59 2 c.nv τ.vs.length (bindCells τ.vs) := by
  have h1 := AT.off_z hy.zero so (by rw [h.so]; exact hn) h.mem.som
  have h2 := AT.ins_size _ h.mem.som
  refine ⟨AT.mem_same (S := fun j => j < w4.heap.size ∧ j ≠ Y) (fun j hj => k j hj.1 hj.2) so (ins_both h2 h1 fun j a b => ⟨a, b⟩) h.mem.som, owns_same h.mem.names fun g hg => ?_⟩
  have h3 := h.mem.low g (mem_ownL.2 (.inr (.inr (.inl hg))))
  exact k g h3.2 (by omega)
set_option maxRecDepth 100000 in
set_option maxHeartbeats 3200000 in
theorem read_on (w : World) (ad : Option Addr) (cap i a m : Nat) (τ : Ms) (L : List Ops.Df) (l : List Tok) (ht : Tab' w a m L) (hk : Tks w (.slice ad l.length cap) l) (hl : TkOk l) (hi : i ≤ 5000) (h0 : (tokAt l i).k ≠ 0) (hr : clauseZ L l i = .on τ) :
    Calls Tryz.prog 18 #[.slice ad l.length cap, .int .i64 i, .pointer (some ⟨a, 0, none⟩)] w (ReadPost w (readZ L l i).1 (readZ L l i).2) := by
  have hil : i < l.length := tokAt_lt h0
  have hE := clause_end hl (Nat.le_of_lt hil) hr
  have hrz : readZ L l i = if τ.so.errno = 0 then (⟨τ.so, τ.vs, (tokAt l i).line, τ.i⟩, 0) else if τ.so.errno = 4 then (⟨nilTm, [], (tokAt l i).line, τ.i⟩, 4) else (⟨nilTm, [], (tokAt l i).line, τ.i⟩, 3) := by
    unfold readZ
    rw [if_neg h0, hr]
  have HN := Lib.hid hE.nodes
  have HNZ := Lib.hid hE.nz
  have hlen := hl.len
  have hr' : runN L l ((fresh i).want 1200 .stop) = .on τ := by rw [fresh_want, ← clause_run]; exact hr
  obtain ⟨w1, hw1⟩ : ∃ w1, w.alloc (.cells #[.int .i64 0, .int .i64 0, .string ⟨#[]⟩, .slice none 0 0, .slice none 0 0, .int .i64 0, .int .i64 0] 37) = w1 := ⟨_, rfl⟩
  have b1 : Below w.heap.size w w1 := by
    rw [← hw1]
    exact (Below.refl _ _).alloc (Nat.le_refl _) _
  have hy : Seven w1 w.heap.size := by
    rw [← hw1]
    exact ⟨heap_alloc_new _ _⟩
  have hC : Ctx (base w1) a m L (.slice ad l.length cap) l := ⟨ht.on b1, hk.on b1, fun t hm => ⟨⟨(hl.fit t hm).1, (hl.fit t hm).2.1⟩, Nat.le_trans (sum_mem hm) hl.sum⟩, hl.len⟩
  obtain ⟨n, hn⟩ : ∃ n, l.length = n := ⟨_, rfl⟩
  rw [hn] at hC ⊢
  have NR := Lib.hid (newReader_is w1 ad n cap i a)
  have NX := Lib.hid (fun w2 (h2 : StX (base w1) w2 (w1.heap.size + 1) (.slice ad n cap) a (fresh i) [] (newC (.slice ad n cap) i a (w1.heap.size + 2) w1.heap.size) [] zeroA) => nextS h2 hC (by show i ≤ 10000; omega))
  have YY := Lib.hid (fun w5 (b5 : Below w1.heap.size w1 w5) => (hy.on b5))
  have B1 := Lib.hid b1
  have YLT := Lib.hid (show w.heap.size < w1.heap.size from heap_lt hy.row)
  obtain ⟨t, hT⟩ : ∃ t, tokAt l i = t := ⟨_, rfl⟩
  have hT' : tokAt l (fresh i).i = t := hT
  simp only [hT'] at NX
  rw [hT] at h0 hrz
  have CL := Lib.hid (fun w3 (h3 : StX (base w1) w3 (w1.heap.size + 1) (.slice ad n cap) a (fresh i) [] (newC (.slice ad n cap) i a (w1.heap.size + 2) w1.heap.size) [] zeroA) o => clause_is (w0 := (base w1).with (fun j => j = w3.heap.size) (w3.alloc o)) ((h3.on ((Below.refl _ _).alloc (Nat.le_refl _) o)).rebase (fun j => j = w3.heap.size) (w3.alloc o) (fun _ _ => rfl) (fun j hj => ⟨by rw [hj]; simp, fun hm => by have := (h3.mem.low j hm).2; omega⟩)) hC (Nat.le_refl _) hlen (start_fit (Nat.le_of_lt hil)) (.on τ) hr' (fun τ' hτ => by cases hτ; exact hE.nz))
  have hk0 : (t.k == 0) = false := by simpa using h0
  clear hT hT' ht hk hl hi hn hC hy b1 hr hr' hlen hil h0
  obtain ⟨tk, tl, tn, ts, tO, tt⟩ := t
  obtain ⟨S, hS⟩ : ∃ S : ByteArray, (⟨ts.toArray⟩ : ByteArray) = S := ⟨_, rfl⟩
  simp only [Tok.val, hS] at NX
  simp only at hk0 hrz
  obtain ⟨r, hR⟩ : ∃ r, readZ L l i = r := ⟨_, rfl⟩
  rw [hR] at hrz ⊢
  have HRZ := Lib.hid hrz
  clear hS hrz hE hR
  go_enter Tryz.func18, Tryz.ntmps18
  go_wp2_with fail
  refine NR.out.mono ?_
  rintro e w2 ⟨rfl, h2⟩
  have H2 := Lib.hid h2
  have N2 := Lib.hid (NX.out w2 h2)
  clear h2 NR NX
  go_wp2_with fail
  refine N2.out.mono ?_
  rintro e w3 ⟨rfl, b3⟩
  have H3 := Lib.hid (H2.out.on b3)
  have C3 := Lib.hid (fun o => CL.out w3 H3.out o)
  clear b3 N2 H2
  go_wp2_with fail
  refine (C3.out _).mono ?_
  rintro e w4 ⟨c, so, rfl, h4⟩
  obtain ⟨xa, xn, xk, xsv⟩ := AT.sv_slice h4.mem.som
  obtain ⟨na, nk, hnv⟩ := row_slice h4.mem.names
  have hF : w4.heap[w3.heap.size]? = some (.cells #[.int .i64 tk, .int .i64 tl, .int .i64 tn, .string S, .bool tO, .bool tt] 48 (0, 0)) := (h4.sf.same _ rfl).trans (heap_alloc_new _ _)
  have H4 := Lib.hid h4
  have HM := Lib.hid (fun wf k => on_mem (Y := w.heap.size) (wf := wf) h4 (YY.out w4 h4.below) YLT.out HNZ.out k)
  have HEQ := Lib.hid (show so.errno = τ.so.errno from by rw [← errno_erase, h4.so])
  have HND := Lib.hid (show so.nodes ≤ 40000 from by rw [← AT.nodes_erase, h4.so]; exact HN.out)
  have HSO := Lib.hid h4.so
  have B4 := Lib.hid (show Below w1.heap.size w1 w4 from h4.below)
  clear h4 C3 CL H3
  unfold AT.val
  rw [xsv]
  go_wp2_with fail
  obtain ⟨w5, hw5⟩ : ∃ w5, w4.alloc (.cells #[.int .i64 so.k, .int .i64 so.n, .string so.s, .slice xa xn xk] 34) = w5 := ⟨_, rfl⟩
  rw [hw5]
  have b45 : Below w4.heap.size w4 w5 := by
    rw [← hw5]
    exact (Below.refl _ _).alloc (Nat.le_refl _) _
  have hX : w5.heap[w4.heap.size]? = some (.cells #[.int .i64 so.k, .int .i64 so.n, .string so.s, .slice xa xn xk] 34 (0, 0)) := by
    rw [← hw5]
    exact heap_alloc_new _ _
  have hF5 := (b45.block _ (heap_lt hF)).trans hF
  have H5 := Lib.hid (H4.out.on b45)
  have ci := H5.out.mem.rd.c_i
  rw [H5.out.i] at ci
  have cl := cell_of_heap (o := 1) hF5 rfl
  have ci' : w5.drew.cell? ⟨w1.heap.size + 1, 1, none⟩ = some (.int .i64 τ.i) := ci
  have cl' : w5.drew.cell? ⟨w3.heap.size, 1, none⟩ = some (.int .i64 tl) := cl
  have hlt1 : w1.heap.size + 1 < w5.heap.size := H5.out.mem.rd.lt
  have hlt2 : w3.heap.size < w5.heap.size := heap_lt hF5
  have ci2 := fun o => (World.cell?_alloc_past (w := w5.drew) o (w1.heap.size + 1) 1 hlt1).trans ci'
  have cl2 := fun o => (World.cell?_alloc_past (w := w5.drew) o w3.heap.size 1 hlt2).trans cl'
  have HX := Lib.hid hX
  have B45 := Lib.hid b45
  have S45 := Lib.hid (show w4.heap.size ≤ w5.heap.size from b45.size)
  clear hX hF hF5 hw5 b45 H4
  have HC5 := Lib.hid (heap_alloc_new w5 (.cells #[.int .i64 0, .int .i64 0, .string ⟨#[]⟩, .slice none 0 0, .slice none 0 0, .int .i64 tl, .int .i64 τ.i] 37))
  have b56 : Below w5.heap.size w5 (w5.alloc (.cells #[.int .i64 0, .int .i64 0, .string ⟨#[]⟩, .slice none 0 0, .slice none 0 0, .int .i64 tl, .int .i64 τ.i] 37)).drew := ((Below.refl _ _).alloc (Nat.le_refl _) _).drew
  go_region
  clear ci cl ci' cl' ci2 cl2 hlt1 hlt2
  obtain ⟨w6, hw6⟩ : ∃ w6, (w5.alloc (.cells #[.int .i64 0, .int .i64 0, .string ⟨#[]⟩, .slice none 0 0, .slice none 0 0, .int .i64 tl, .int .i64 τ.i] 37)).drew = w6 := ⟨_, rfl⟩
  rw [hw6] at b56 ⊢
  have B47 := Lib.hid (fun (w7 : World) (b7 : Below w6.heap.size w6 w7) j (hj : j < w4.heap.size) => show w7.heap[j]? = w4.heap[j]? from by
    have e1 := B45.out.block j hj
    have s1 := B45.out.size
    have e2 := b56.block j (by omega)
    have s2 := b56.size
    exact (b7.block j (by omega)).trans (e2.trans e1))
  have hC6 : w6.heap[w5.heap.size]? = some (.cells #[.int .i64 0, .int .i64 0, .string ⟨#[]⟩, .slice none 0 0, .slice none 0 0, .int .i64 tl, .int .i64 τ.i] 37 (0, 0)) := by
    rw [← hw6]
    exact HC5.out
  have hX6 := (b56.block _ (heap_lt HX.out)).trans HX.out
  have H6 := Lib.hid (H5.out.on b56)
  have CK := Lib.hid (check_errno so w6 H6.out.mem.som (by have := HND.out; omega))
  rw [xsv] at CK
  obtain ⟨er, her⟩ : ∃ er, so.errno = er := ⟨_, rfl⟩
  rw [her] at CK HEQ
  obtain ⟨x0, x1, x2, x3⟩ : w6.cell? ⟨w4.heap.size, 0, none⟩ = some (.int .i64 so.k) ∧ w6.cell? ⟨w4.heap.size, 1, none⟩ = some (.int .i64 so.n) ∧ w6.cell? ⟨w4.heap.size, 2, none⟩ = some (.string so.s) ∧ w6.cell? ⟨w4.heap.size, 3, none⟩ = some (.slice xa xn xk) := ⟨cell_of_heap hX6 rfl, cell_of_heap hX6 rfl, cell_of_heap hX6 rfl, cell_of_heap hX6 rfl⟩
  have HX6 := Lib.hid hX6
  have HC6 := Lib.hid hC6
  clear hX6 hC6 hw6 HC5 H5 HX her
  go_wp2_with fail
  refine CK.out.mono ?_
  rintro e w7 ⟨rfl, b7⟩
  have H7 := Lib.hid (H6.out.on b7)
  have hX7 := (b7.block _ (heap_lt HX6.out)).trans HX6.out
  have hC7 := (b7.block _ (heap_lt HC6.out)).trans HC6.out
  have hY7 := YY.out w7 H7.out.below
  have HX7 := Lib.hid hX7
  have HC7 := Lib.hid hC7
  have HY7 := Lib.hid hY7
  have b47 : ∀ j, j < w4.heap.size → w7.heap[j]? = w4.heap[j]? := fun j hj => B47.out w7 b7 j hj
  have K47 := Lib.hid b47
  have S57 := Lib.hid (show w5.heap.size ≤ w7.heap.size from Nat.le_trans b56.size b7.size)
  clear CK HX6 HC6 H6 x0 x1 x2 x3 b7 b56 b47 B47
  by_cases e0 : er = 0
  · subst e0
    have hrq : r = (⟨τ.so, τ.vs, tl, τ.i⟩, 0) := by rw [HRZ.out, if_pos HEQ.out.symm]
    have HRQ := Lib.hid hrq
    clear hrq
    have ci := H7.out.mem.rd.c_nv
    rw [hnv] at ci
    have ci' : w7.drew.cell? ⟨w1.heap.size + 1, 5, none⟩ = some (.slice na τ.vs.length nk) := ci
    obtain ⟨x0, x1, x2, x3⟩ : w7.cell? ⟨w4.heap.size, 0, none⟩ = some (.int .i64 so.k) ∧ w7.cell? ⟨w4.heap.size, 1, none⟩ = some (.int .i64 so.n) ∧ w7.cell? ⟨w4.heap.size, 2, none⟩ = some (.string so.s) ∧ w7.cell? ⟨w4.heap.size, 3, none⟩ = some (.slice xa xn xk) := ⟨cell_of_heap HX7.out rfl, cell_of_heap HX7.out rfl, cell_of_heap HX7.out rfl, cell_of_heap HX7.out rfl⟩
    obtain ⟨c0, c1, c2, c3, c4, c5, c6⟩ : w7.cell? ⟨w5.heap.size, 0, none⟩ = some (.int .i64 0) ∧ w7.cell? ⟨w5.heap.size, 1, none⟩ = some (.int .i64 0) ∧ w7.cell? ⟨w5.heap.size, 2, none⟩ = some (.string ⟨#[]⟩) ∧ w7.cell? ⟨w5.heap.size, 3, none⟩ = some (.slice none 0 0) ∧ w7.cell? ⟨w5.heap.size, 4, none⟩ = some (.slice none 0 0) ∧ w7.cell? ⟨w5.heap.size, 5, none⟩ = some (.int .i64 tl) ∧ w7.cell? ⟨w5.heap.size, 6, none⟩ = some (.int .i64 τ.i) := ⟨cell_of_heap HC7.out rfl, cell_of_heap HC7.out rfl, cell_of_heap HC7.out rfl, cell_of_heap HC7.out rfl, cell_of_heap HC7.out rfl, cell_of_heap HC7.out rfl, cell_of_heap HC7.out rfl⟩
    have g0 : w7.frozen? ⟨w5.heap.size, 0, none⟩ = false := free_of_heap HC7.out
    have g1 : w7.frozen? ⟨w5.heap.size, 1, none⟩ = false := free_of_heap HC7.out
    have g2 : w7.frozen? ⟨w5.heap.size, 2, none⟩ = false := free_of_heap HC7.out
    have g3 : w7.frozen? ⟨w5.heap.size, 3, none⟩ = false := free_of_heap HC7.out
    have g4 : w7.frozen? ⟨w5.heap.size, 4, none⟩ = false := free_of_heap HC7.out
    go_wp2_with fail
    go_region
    clear ci ci' x0 x1 x2 x3 c0 c1 c2 c3 c4 c5 c6 g0 g1 g2 g3 g4
    have hC8 := heap_set (o := 4) (heap_set (o := 3) (heap_set (o := 2) (heap_set (o := 1) (heap_set (o := 0) HC7.out (.int .i64 so.k)) (.int .i64 so.n)) (.string so.s)) (.slice xa xn xk)) (.slice na τ.vs.length nk)
    have k8 : Keeps (fun j => j = w5.heap.size) w7 (((((w7.setCell ⟨w5.heap.size, 0, none⟩ (.int .i64 so.k)).setCell ⟨w5.heap.size, 1, none⟩ (.int .i64 so.n)).setCell ⟨w5.heap.size, 2, none⟩ (.string so.s)).setCell ⟨w5.heap.size, 3, none⟩ (.slice xa xn xk)).setCell ⟨w5.heap.size, 4, none⟩ (.slice na τ.vs.length nk)).drew :=
      ((((((Keeps.refl (fun j => j = w5.heap.size) w7).setCell (p := ⟨w5.heap.size, 0, none⟩) (.inl rfl) _).setCell (p := ⟨w5.heap.size, 1, none⟩) (.inl rfl) _).setCell (p := ⟨w5.heap.size, 2, none⟩) (.inl rfl) _).setCell (p := ⟨w5.heap.size, 3, none⟩) (.inl rfl) _).setCell (p := ⟨w5.heap.size, 4, none⟩) (.inl rfl) _).drew
    have hC8' : (((((w7.setCell ⟨w5.heap.size, 0, none⟩ (.int .i64 so.k)).setCell ⟨w5.heap.size, 1, none⟩ (.int .i64 so.n)).setCell ⟨w5.heap.size, 2, none⟩ (.string so.s)).setCell ⟨w5.heap.size, 3, none⟩ (.slice xa xn xk)).setCell ⟨w5.heap.size, 4, none⟩ (.slice na τ.vs.length nk)).drew.heap[w5.heap.size]? = some (.cells #[.int .i64 so.k, .int .i64 so.n, .string so.s, .slice xa xn xk, .slice na τ.vs.length nk, .int .i64 tl, .int .i64 τ.i] 37 (0, 0)) := hC8
    obtain ⟨w8, hw8⟩ : ∃ w8, (((((w7.setCell ⟨w5.heap.size, 0, none⟩ (.int .i64 so.k)).setCell ⟨w5.heap.size, 1, none⟩ (.int .i64 so.n)).setCell ⟨w5.heap.size, 2, none⟩ (.string so.s)).setCell ⟨w5.heap.size, 3, none⟩ (.slice xa xn xk)).setCell ⟨w5.heap.size, 4, none⟩ (.slice na τ.vs.length nk)).drew = w8 := ⟨_, rfl⟩
    rw [hw8] at k8 hC8' ⊢
    clear hC8 hw8
    have hne : w.heap.size ≠ w5.heap.size := by have := YLT.out; have := B4.out.size; have := S45.out; omega
    have hY8 : Seven w8 w.heap.size := ⟨k8.heap HY7.out.row hne⟩
    have HY8 := Lib.hid hY8
    have K48 := Lib.hid (fun j (hj : j < w4.heap.size) => show w8.heap[j]? = w4.heap[j]? from (k8.block j (Nat.lt_of_lt_of_le hj (Nat.le_trans S45.out S57.out)) (by have := S45.out; intro e; omega)).trans (K47.out j hj))
    have B8 := Lib.hid (show Below w.heap.size w w8 from (B1.out.trans (H7.out.below.mono B1.out.size)).trans (k8.below (fun j hj => by rw [hj]; have := YLT.out; have := B4.out.size; have := S45.out; omega) (by have := (B1.out.trans (H7.out.below.mono B1.out.size)).size; exact this)))
    obtain ⟨c0, c1, c2, c3, c4, c5, c6⟩ : w8.cell? ⟨w5.heap.size, 0, none⟩ = some (.int .i64 so.k) ∧ w8.cell? ⟨w5.heap.size, 1, none⟩ = some (.int .i64 so.n) ∧ w8.cell? ⟨w5.heap.size, 2, none⟩ = some (.string so.s) ∧ w8.cell? ⟨w5.heap.size, 3, none⟩ = some (.slice xa xn xk) ∧ w8.cell? ⟨w5.heap.size, 4, none⟩ = some (.slice na τ.vs.length nk) ∧ w8.cell? ⟨w5.heap.size, 5, none⟩ = some (.int .i64 tl) ∧ w8.cell? ⟨w5.heap.size, 6, none⟩ = some (.int .i64 τ.i) := ⟨cell_of_heap hC8' rfl, cell_of_heap hC8' rfl, cell_of_heap hC8' rfl, cell_of_heap hC8' rfl, cell_of_heap hC8' rfl, cell_of_heap hC8' rfl, cell_of_heap hC8' rfl⟩
    obtain ⟨⟨y0, y1, y2, y3, y4, y5, y6⟩, f0, f1, f2, f3, f4, f5, f6⟩ := HY8.out.facts
    clear k8 hC8' hY8 hne
    go_wp2_with fail
    refine bodyPost_ret (results_cell_tmp rfl _ _ w.heap.size 37 _ _ _ rfl (seven_heap HY8.out.row _ _ _ _ _ _ _) Tryz.underlying37 rfl clauseInfo rfl) rfl ?_
    rw [HRQ.out]
    have hb := seven_below B8.out (.int .i64 so.k) (.int .i64 so.n) (.string so.s) (.slice xa xn xk) (.slice na τ.vs.length nk) (.int .i64 tl) (.int .i64 τ.i)
    obtain ⟨m1, m2⟩ := HM.out _ (fun j hj hne => (seven_other w8 hne _ _ _ _ _ _ _).trans (K48.out j hj))
    refine ⟨so, c.nv, ?_, HSO.out, m1, HND.out, owns_down m2 B1.out.size, hb⟩
    unfold cVal
    rw [hnv, xsv]
    rfl
  · by_cases e4 : er = 4
    · subst e4
      have hrq : r = (⟨nilTm, [], tl, τ.i⟩, 4) := by rw [HRZ.out, if_neg (by rw [← HEQ.out]; decide), if_pos HEQ.out.symm]
      have HRQ := Lib.hid hrq
      obtain ⟨⟨y0, y1, y2, y3, y4, y5, y6⟩, f0, f1, f2, f3, f4, f5, f6⟩ := HY7.out.facts
      obtain ⟨c0, c1, c2, c3, c4, c5, c6⟩ : w7.cell? ⟨w5.heap.size, 0, none⟩ = some (.int .i64 0) ∧ w7.cell? ⟨w5.heap.size, 1, none⟩ = some (.int .i64 0) ∧ w7.cell? ⟨w5.heap.size, 2, none⟩ = some (.string ⟨#[]⟩) ∧ w7.cell? ⟨w5.heap.size, 3, none⟩ = some (.slice none 0 0) ∧ w7.cell? ⟨w5.heap.size, 4, none⟩ = some (.slice none 0 0) ∧ w7.cell? ⟨w5.heap.size, 5, none⟩ = some (.int .i64 tl) ∧ w7.cell? ⟨w5.heap.size, 6, none⟩ = some (.int .i64 τ.i) := ⟨cell_of_heap HC7.out rfl, cell_of_heap HC7.out rfl, cell_of_heap HC7.out rfl, cell_of_heap HC7.out rfl, cell_of_heap HC7.out rfl, cell_of_heap HC7.out rfl, cell_of_heap HC7.out rfl⟩
      clear hrq
      go_wp2_with fail
      refine bodyPost_ret (results_cell_tmp rfl _ _ w.heap.size 37 _ _ _ rfl (seven_heap HY7.out.row _ _ _ _ _ _ _) Tryz.underlying37 rfl clauseInfo rfl) rfl ?_
      rw [HRQ.out]
      exact zeroA_post (seven_below (B1.out.trans (H7.out.below.mono B1.out.size)) _ _ _ _ _ _ _)
    · have q4 : (er == 4) = false := by simpa using e4
      have hrq : r = (⟨nilTm, [], tl, τ.i⟩, 3) := by rw [HRZ.out, if_neg (by rw [← HEQ.out]; exact e0), if_neg (by rw [← HEQ.out]; exact e4)]
      have HRQ := Lib.hid hrq
      obtain ⟨⟨y0, y1, y2, y3, y4, y5, y6⟩, f0, f1, f2, f3, f4, f5, f6⟩ := HY7.out.facts
      obtain ⟨c0, c1, c2, c3, c4, c5, c6⟩ : w7.cell? ⟨w5.heap.size, 0, none⟩ = some (.int .i64 0) ∧ w7.cell? ⟨w5.heap.size, 1, none⟩ = some (.int .i64 0) ∧ w7.cell? ⟨w5.heap.size, 2, none⟩ = some (.string ⟨#[]⟩) ∧ w7.cell? ⟨w5.heap.size, 3, none⟩ = some (.slice none 0 0) ∧ w7.cell? ⟨w5.heap.size, 4, none⟩ = some (.slice none 0 0) ∧ w7.cell? ⟨w5.heap.size, 5, none⟩ = some (.int .i64 tl) ∧ w7.cell? ⟨w5.heap.size, 6, none⟩ = some (.int .i64 τ.i) := ⟨cell_of_heap HC7.out rfl, cell_of_heap HC7.out rfl, cell_of_heap HC7.out rfl, cell_of_heap HC7.out rfl, cell_of_heap HC7.out rfl, cell_of_heap HC7.out rfl, cell_of_heap HC7.out rfl⟩
      clear hrq
      go_wp2_with fail
      refine bodyPost_ret (results_cell_tmp rfl _ _ w.heap.size 37 _ _ _ rfl (seven_heap HY7.out.row _ _ _ _ _ _ _) Tryz.underlying37 rfl clauseInfo rfl) rfl ?_
      rw [HRQ.out]
      exact zeroA_post (seven_below (B1.out.trans (H7.out.below.mono B1.out.size)) _ _ _ _ _ _ _)
end Go.Proofs.YtkplokfcjjcpcaaGreatDoor
end
section
namespace Go.Proofs.YtkplokfcjjcpcaaGreatDoor
open Go Go.RowKit Go.Maps Trm
theorem read_is (w : World) (ad : Option Addr) (n cap i a m : Nat) (L : List Ops.Df) (l : List Tok) (hn : l.length = n) (ht : Tab' w a m L) (hk : Tks w (.slice ad n cap) l) (hl : TkOk l) (hi : i ≤ 5000) :
    Calls Tryz.prog 18 #[.slice ad n cap, .int .i64 i, .pointer (some ⟨a, 0, none⟩)] w (ReadPost w (readZ L l i).1 (readZ L l i).2) := by
  subst hn
  by_cases h0 : (tokAt l i).k = 0
  · have e : readZ L l i = (⟨nilTm, [], 0, 0⟩, 7) := by
      unfold readZ
      rw [if_pos h0]
    rw [e]
    exact read_end w ad cap i a m L l ht hk hl hi h0
  · cases hr : clauseZ L l i with
    | bad j =>
      have e : readZ L l i = (⟨nilTm, [], (tokAt l j).line, bh l j⟩, 6) := by
        unfold readZ
        rw [if_neg h0, hr]
      rw [e]
      exact read_bad w ad cap i a m j L l ht hk hl hi h0 hr
    | on τ => exact read_on w ad cap i a m τ L l ht hk hl hi h0 hr
end Go.Proofs.YtkplokfcjjcpcaaGreatDoor
end
