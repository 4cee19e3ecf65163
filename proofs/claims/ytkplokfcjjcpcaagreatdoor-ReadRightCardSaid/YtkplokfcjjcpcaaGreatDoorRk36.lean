/- Joined texts: RdP RdJ RdB RdI RdK RdM RdN. Conditions: as each states. -/
import Derived.Test.YtkplokfcjjcpcaaGreatDoorRk30
import Derived.Test.YtkplokfcjjcpcaaGreatDoorRk33
import Derived.Test.YtkplokfcjjcpcaaGreatDoorRk09
import Derived.Test.YtkplokfcjjcpcaaGreatDoorRk17
import Derived.Test.YtkplokfcjjcpcaaGreatDoorRk13
import Derived.Deep.AppendLies
section
namespace Go.Proofs.YtkplokfcjjcpcaaGreatDoor
open Go Go.RowKit Trm
theorem all_i {l : List Tok} {σ τ : Ms} {L : List Tm} {al : Al} (h : allZ l σ L al = .on τ) : τ.i = σ.i + 1 := by
  cases al with
  | comp s =>
    simp only [allZ] at h
    obtain ⟨_, rfl⟩ := expect_on h
    rfl
  | items =>
    simp only [allZ] at h
    split at h
    · obtain rfl := Out.on.inj h
      rfl
    · obtain ⟨_, rfl⟩ := expect_on h
      rfl
theorem then_i {l : List Tok} {σ τ : Ms} {x : Tm} {k : Kt} (h : thenZ l σ x k = .on τ) : σ.i ≤ τ.i ∧ (τ.stk = [] → k.isStop = true → σ.i < τ.i) := by
  cases k with
  | stop =>
    simp only [thenZ] at h
    split at h
    · obtain rfl := Out.on.inj h
      exact ⟨Nat.le_succ _, fun _ _ => Nat.lt_succ_self _⟩
    · cases h
  | round =>
    simp only [thenZ] at h
    obtain ⟨_, rfl⟩ := expect_on h
    exact ⟨Nat.le_succ _, fun _ e => by cases e⟩
  | braces =>
    simp only [thenZ] at h
    obtain ⟨_, rfl⟩ := expect_on h
    exact ⟨Nat.le_succ _, fun _ e => by cases e⟩
  | args L al =>
    simp only [thenZ] at h
    split at h
    · obtain rfl := Out.on.inj h
      exact ⟨Nat.le_succ _, fun _ e => by cases e⟩
    · exact ⟨by rw [all_i h]; exact Nat.le_succ _, fun _ e => by cases e⟩
  | tail L =>
    simp only [thenZ] at h
    obtain ⟨_, rfl⟩ := expect_on h
    exact ⟨Nat.le_succ _, fun _ e => by cases e⟩
  | pre s p =>
    simp only [thenZ] at h
    obtain rfl := Out.on.inj h
    exact ⟨Nat.le_refl _, fun _ e => by cases e⟩
  | inf s so p =>
    simp only [thenZ] at h
    obtain rfl := Out.on.inj h
    exact ⟨Nat.le_refl _, fun _ e => by cases e⟩
theorem args_i {l : List Tok} {σ τ : Ms} {s : ByteArray} (h : argsZ l σ s = .on τ) : τ.i = σ.i + 1 := by
  unfold argsZ at h
  obtain ⟨_, rfl⟩ := expect_on h
  rfl
theorem end_i {l : List Tok} {σ τ : Ms} (hs : Sk σ.stk) (h : endZ l σ = .on τ) : σ.i ≤ τ.i ∧ (τ.stk = [] → σ.i < τ.i) := by
  have h0 := h
  unfold endZ at h
  split at h
  · rename_i h1
    exact absurd h1 hs.ne
  · rename_i f r h1
    obtain ⟨a, b⟩ := then_i (σ := { σ with stk := r }) h
    refine ⟨a, fun e => b e ?_⟩
    rw [h1] at hs
    rcases hs.pop with ⟨rfl, _⟩ | ⟨h2, h3⟩
    · rfl
    · exact absurd e (sk_then (σ := { σ with stk := r }) h3 h2 h).ne
theorem goOn_i {L : List Ops.Df} {l : List Tok} {σ τ : Ms} (hs : Sk σ.stk) (h : goOnZ L l σ = .on τ) : σ.i ≤ τ.i ∧ (τ.stk = [] → σ.i < τ.i) := by
  unfold goOnZ at h
  simp only at h
  split at h
  · split at h
    · obtain rfl := Out.on.inj h
      exact ⟨Nat.le_succ _, fun _ => Nat.lt_succ_self _⟩
    · split at h
      · obtain rfl := Out.on.inj h
        exact ⟨Nat.le_succ _, fun _ => Nat.lt_succ_self _⟩
      · exact end_i hs h
  · exact end_i hs h
theorem closes_i {l : List Tok} {σ τ : Ms} {c : List UInt8} {s : ByteArray} {m : Int} {k : Kt} (h : closesZ l σ c s (fun ρ => ρ.want m k) = .on τ) : σ.i ≤ τ.i := by
  unfold closesZ at h
  split at h
  · split at h
    · have := args_i h
      simp only [Ms.to] at this
      omega
    · obtain rfl := Out.on.inj h
      exact Nat.le_succ _
  · obtain rfl := Out.on.inj h
    exact Nat.le_refl _
theorem word_i {L : List Ops.Df} {l : List Tok} {σ τ : Ms} {t : Tok} (h : wordZ L l σ t = .on τ) : σ.i ≤ τ.i := by
  unfold wordZ at h
  split at h
  · obtain rfl := Out.on.inj h
    exact Nat.le_succ _
  · split at h
    · rw [args_i h]; exact Nat.le_succ _
    · split at h
      · obtain rfl := Out.on.inj h
        exact Nat.le_refl _
      · obtain rfl := Out.on.inj h
        exact Nat.le_refl _
theorem begin_i {L : List Ops.Df} {l : List Tok} {σ τ : Ms} (h : beginZ L l σ = .on τ) : σ.i < τ.i := by
  unfold beginZ at h
  simp only at h
  split at h
  · split at h
    · cases h
    · obtain rfl := Out.on.inj h
      exact Nat.lt_succ_self _
  · split at h
    · obtain rfl := Out.on.inj h
      obtain ⟨a1, _, _⟩ := number_same (σ.to (σ.i + 1)) (tokAt l σ.i).s
      show σ.i < ((σ.to (σ.i + 1)).number (tokAt l σ.i).s).1.i
      rw [a1]
      exact Nat.lt_succ_self _
    · split at h
      · obtain rfl := Out.on.inj h
        exact Nat.lt_succ_self _
      · split at h
        · split at h
          · obtain rfl := Out.on.inj h
            exact Nat.lt_succ_self _
          · split at h
            · have := closes_i (k := .args [] .items) h
              simp only [Ms.to] at this
              omega
            · split at h
              · have := closes_i (k := .braces) h
                simp only [Ms.to] at this
                omega
              · cases h
        · split at h
          · have := word_i h
            simp only [Ms.to] at this
            omega
          · cases h
theorem step_i {L : List Ops.Df} {l : List Tok} {σ τ : Ms} (hs : Sk σ.stk) (h : stepZ L l σ = .on τ) : σ.i ≤ τ.i ∧ (τ.stk = [] → σ.i < τ.i) := by
  unfold stepZ at h
  split at h
  · exact goOn_i hs h
  · have := begin_i h
    exact ⟨Nat.le_of_lt this, fun _ => this⟩
end Go.Proofs.YtkplokfcjjcpcaaGreatDoor
end
section
namespace Go.Proofs.YtkplokfcjjcpcaaGreatDoor
open Go Go.RowKit Go.Maps Trm
end Go.Proofs.YtkplokfcjjcpcaaGreatDoor
end
section
namespace Go.Proofs.YtkplokfcjjcpcaaGreatDoor
open Go Go.RowKit Go.Maps Trm
attribute [local go_sem ↓] Go.wp_at_zero Go.wp_at_succ
def exT : List Tok := [⟨1, 1, 0, [97], false, false⟩, ⟨1, 1, 0, [58, 45], false, false⟩, ⟨1, 1, 0, [98], false, false⟩, ⟨6, 1, 0, [44], false, true⟩, ⟨1, 1, 0, [92, 43], false, false⟩, ⟨1, 1, 0, [99], false, false⟩, ⟨7, 1, 0, [], false, true⟩, ⟨1, 1, 0, [45], false, false⟩, ⟨3, 1, 1, [], false, false⟩, ⟨7, 1, 0, [], false, true⟩, ⟨1, 1, 0, [45], false, false⟩, ⟨3, 1, 1, [], false, true⟩, ⟨7, 1, 0, [], false, true⟩, ⟨6, 1, 0, [91], false, false⟩, ⟨1, 1, 0, [97], false, true⟩, ⟨6, 1, 0, [124], false, true⟩, ⟨4, 1, 0, [84], false, true⟩, ⟨6, 1, 0, [93], false, true⟩, ⟨7, 1, 0, [], false, true⟩, ⟨0, 1, 0, [], false, false⟩]
theorem ex_lex : lexN [97, 32, 58, 45, 32, 98, 44, 32, 92, 43, 32, 99, 46, 32, 45, 32, 49, 46, 32, 45, 49, 46, 32, 91, 97, 124, 84, 93, 46] 1 0 = ⟨exT, 0, 0⟩ := by kernel_rfl
def exC1 : Tm := compT ⟨#[58, 45]⟩ [atmT ⟨#[97]⟩, compT ⟨#[44]⟩ [atmT ⟨#[98]⟩, compT ⟨#[92, 43]⟩ [atmT ⟨#[99]⟩]]]
theorem ex_1 : readZ Ops.firstL exT 0 = (⟨exC1, [], 1, 7⟩, 0) := by kernel_rfl
theorem ex_2 : readZ Ops.firstL exT 7 = (⟨compT ⟨#[45]⟩ [intT 1], [], 1, 10⟩, 0) := by kernel_rfl
theorem ex_3 : readZ Ops.firstL exT 10 = (⟨intT (-1), [], 1, 13⟩, 0) := by kernel_rfl
theorem ex_4 : readZ Ops.firstL exT 13 = (⟨compT ⟨#[46]⟩ [atmT ⟨#[97]⟩, varT 0], [(⟨#[84]⟩, 0)], 1, 19⟩, 0) := by kernel_rfl
theorem ex_5 : readZ Ops.firstL exT 19 = (⟨nilTm, [], 0, 0⟩, 7) := by kernel_rfl
theorem ex_ok : TkOk exT := by
  have h := lex_ok (l := [97, 32, 58, 45, 32, 98, 44, 32, 92, 43, 32, 99, 46, 32, 45, 32, 49, 46, 32, 45, 49, 46, 32, 91, 97, 124, 84, 93, 46]) (by decide)
  rw [ex_lex] at h
  exact h
theorem atom6_is (s : ByteArray) (w : World) : Calls Tryz.prog 42 #[.string s] w fun e w' => e = .returned (.agg #[.int .i64 3, .int .i64 0, .string s, .slice none 0 0]) ∧ Below w.heap.size w w' := by
  have BA := Lib.hid (fun o => (Below.refl w.heap.size w).alloc (Nat.le_refl _) o)
  go_enter Tryz.func42, Tryz.ntmps42
  go_wp2_with fail
  refine bodyPost_ret (results_cell_row rfl _ _ w.heap.size 34 _ _ _ rfl (heap_alloc_new _ _) Tryz.underlying34 rfl termInfo) rfl ?_
  exact ⟨rfl, BA.out _⟩
def At (w : World) (H : Nat) (c : Array Value) (T : TypeId) : Prop := w.heap[H]? = some (.cells c T (0, 0))
theorem At.on {w w' : World} {H : Nat} {c : Array Value} {T : TypeId} (h : At w H c T) (b : Below w.heap.size w w') : At w' H c T := (b.block _ (heap_lt h)).trans h
theorem At.new (w : World) (c : Array Value) (T : TypeId) : At (w.alloc (.cells c T)) w.heap.size c T := heap_alloc_new _ _
theorem al1 (w : World) (o : Obj) : Below w.heap.size w (w.alloc o) := (Below.refl _ _).alloc (Nat.le_refl _) o
theorem at4_1 (w : World) (c : Array Value) (T : TypeId) (o2 o3 o4 : Obj) : At ((((w.alloc (.cells c T)).alloc o2).alloc o3).alloc o4) w.heap.size c T := (At.new w c T).on (bt (bt (al1 _ o2) (al1 _ o3)) (al1 _ o4))
theorem at4_2 (w : World) (c : Array Value) (T : TypeId) (o1 o3 o4 : Obj) : At ((((w.alloc o1).alloc (.cells c T)).alloc o3).alloc o4) (w.heap.size + 1) c T := by
  have h := (At.new (w.alloc o1) c T).on (bt (al1 _ o3) (al1 _ o4))
  simpa using h
theorem at4_3 (w : World) (c : Array Value) (T : TypeId) (o1 o2 o4 : Obj) : At ((((w.alloc o1).alloc o2).alloc (.cells c T)).alloc o4) (w.heap.size + 1 + 1) c T := by
  have h := (At.new ((w.alloc o1).alloc o2) c T).on (al1 _ o4)
  simpa using h
def wantA (g1 g2 g3 : Nat) : AT := .mk 4 0 ⟨#[58, 45]⟩ (.slice (some ⟨g3, 0, none⟩) 2 2) g3 0 [.mk 3 0 ⟨#[97]⟩ (.slice none 0 0) 0 0 [], .mk 4 0 ⟨#[44]⟩ (.slice (some ⟨g2, 0, none⟩) 2 2) g2 0 [.mk 3 0 ⟨#[98]⟩ (.slice none 0 0) 0 0 [], .mk 4 0 ⟨#[92, 43]⟩ (.slice (some ⟨g1, 0, none⟩) 1 1) g1 0 [.mk 3 0 ⟨#[99]⟩ (.slice none 0 0) 0 0 []]]]
theorem want_mem {w : World} {g1 g2 g3 : Nat} (h1 : At w g1 #[.int .i64 3, .int .i64 0, .string ⟨#[99]⟩, .slice none 0 0] 34)
    (h2 : At w g2 #[.int .i64 3, .int .i64 0, .string ⟨#[98]⟩, .slice none 0 0, .int .i64 4, .int .i64 0, .string ⟨#[92, 43]⟩, .slice (some ⟨g1, 0, none⟩) 1 1] 34)
    (h3 : At w g3 #[.int .i64 3, .int .i64 0, .string ⟨#[97]⟩, .slice none 0 0, .int .i64 4, .int .i64 0, .string ⟨#[44]⟩, .slice (some ⟨g2, 0, none⟩) 2 2] 34) : (wantA g1 g2 g3).mem w := by
  have hd : ∀ {g : Nat} {c : Array Value} (h : At w g c 34) (o : Nat) (t : AT), c[o]? = some (.int .i64 t.k) → c[o + 1]? = some (.int .i64 t.n) → c[o + 2]? = some (.string t.s) → c[o + 3]? = some t.sv → Head w g o t := fun h o t a b c d => ⟨⟨_, _, h⟩, cell_of_heap h a, cell_of_heap h b, cell_of_heap h c, cell_of_heap h d⟩
  have nl : ∀ (k n : Int) (s : ByteArray), (AT.mk k n s (.slice none 0 0) 0 0 []).mem w := fun _ _ _ => ⟨.inl ⟨rfl, rfl⟩, trivial⟩
  have sl : ∀ (g n : Nat), n ≤ 2 → SvOk (.slice (some ⟨g, 0, none⟩) n n) g 0 n := fun g n hn => .inr ⟨n, rfl, Nat.le_refl _, by unfold maxLen; omega⟩
  refine ⟨sl g3 2 (by omega), hd h3 0 _ rfl rfl rfl rfl, nl _ _ _, hd h3 4 _ rfl rfl rfl rfl, ⟨sl g2 2 (by omega), hd h2 0 _ rfl rfl rfl rfl, nl _ _ _, hd h2 4 _ rfl rfl rfl rfl, ⟨sl g1 1 (by omega), hd h1 0 _ rfl rfl rfl rfl, nl _ _ _, trivial⟩, trivial⟩, trivial⟩
theorem names_at {w w' : World} {b nk : Nat} {na : Option Addr} {s : ByteArray} {n : Int} (h : w.ownsRow b 59 2 (.slice na [(s, n)].length nk) [(s, n)].length (bindCells [(s, n)])) (k : Below w.heap.size w w') : ∃ g, na = some ⟨g, 0, none⟩ ∧ 1 ≤ nk ∧ nk ≤ 9223372036854775807 ∧ g < w'.heap.size ∧ w'.cell? ⟨g, 0, none⟩ = some (.string s) ∧ w'.cell? ⟨g, 1, none⟩ = some (.int .i64 n) := by
  obtain ⟨h1, ⟨_, h0⟩ | ⟨g, cap, cur, hv, h2, h3, h4, h5, h6, h7⟩⟩ := h
  · simp at h0
  · simp only [List.length_cons, List.length_nil, Value.slice.injEq, true_and] at hv
    obtain ⟨rfl, rfl⟩ := hv
    have hc : ∀ j u, (bindCells [(s, n)])[j]? = some u → w'.cell? ⟨g, j, none⟩ = some u := fun j u hu => by
      rw [k.cell (p := ⟨g, j, none⟩) (heap_lt h3)]
      refine cell_of_heap h3 ?_
      have hj : j < [(s, n)].length * 2 := (List.getElem?_eq_some_iff.1 hu).1
      have e := congrArg (fun l : List Value => l[j]?) h7
      simp only [List.getElem?_take] at e
      rw [if_pos hj, hu] at e
      simpa using e
    exact ⟨g, rfl, h4, by unfold maxLen at h5; omega, Nat.lt_of_lt_of_le (heap_lt h3) k.size, hc 0 _ rfl, hc 1 _ rfl⟩
set_option maxRecDepth 100000 in
set_option maxHeartbeats 6400000 in
theorem alive6_is (w : World) (ht : LayA w) :
    Calls Tryz.prog 14 #[] w fun e w' => e = .returned (.bool true) ∧ Below w.heap.size w w' := by
  have LX := Lib.hid (lex_tks ⟨#[97, 32, 58, 45, 32, 98, 44, 32, 92, 43, 32, 99, 46, 32, 45, 32, 49, 46, 32, 45, 49, 46, 32, 91, 97, 124, 84, 93, 46]⟩ ⟨exT, 0, 0⟩ ex_lex 20 rfl (by decide) w ht)
  have NW := Lib.hid (fun w1 (b1 : Below w.heap.size w w1) => new_tab w1 (ht.on b1))
  clear ht
  go_enter Tryz.func14, Tryz.ntmps14
  go_wp2_with fail
  refine LX.out.mono ?_
  rintro e w1 ⟨ad, cap, rfl, t1, b1⟩
  have N1 := Lib.hid (NW.out w1 b1)
  have T1 := Lib.hid t1
  have B1 := Lib.hid b1
  clear t1 b1 LX NW
  go_wp2_with fail
  refine N1.out.mono ?_
  rintro e w2 ⟨rfl, hm, b2⟩
  have RD := Lib.hid (show RdAt w2 (.slice ad 20 cap) w1.heap.size Ops.firstL exT from ⟨hm, T1.out.on b2, ex_ok⟩)
  have B2 := Lib.hid (bt B1.out b2)
  have R1 := Lib.hid (RD.out.lit ad 20 cap rfl 0 (by omega) ex_1 4 0 ⟨#[58, 45]⟩ 2 rfl)
  have R2 := Lib.hid (fun w3 (b3 : Below w2.heap.size w2 w3) => (RD.out.on b3).lit ad 20 cap rfl 7 (by omega) ex_2 4 0 ⟨#[45]⟩ 1 rfl)
  have R3 := Lib.hid (fun w3 (b3 : Below w2.heap.size w2 w3) => (RD.out.on b3).lit ad 20 cap rfl 10 (by omega) ex_3 2 (-1) ⟨#[]⟩ 0 rfl)
  have R4 := Lib.hid (fun w3 (b3 : Below w2.heap.size w2 w3) => (RD.out.on b3).lit ad 20 cap rfl 13 (by omega) ex_4 4 0 ⟨#[46]⟩ 2 rfl)
  have R5 := Lib.hid (fun w3 (b3 : Below w2.heap.size w2 w3) => (RD.out.on b3).lit ad 20 cap rfl 19 (by omega) ex_5 0 0 ⟨#[]⟩ 0 rfl)
  clear hm b2 N1 T1 B1 RD
  go_wp2_with fail
  refine R1.out.mono ?_
  rintro e w3 ⟨x1, a1, na1, k1, nk1, rfl, hx1, _, b3⟩
  have X1 := Lib.hid hx1
  have C3 := Lib.hid b3
  have R2' := Lib.hid (fun o => R2.out _ (bt b3 (al1 w3 o)))
  clear hx1 b3 R1 R2
  go_wp2_with fail
  refine (R2'.out _).mono ?_
  rintro e w4 ⟨x2, a2, na2, k2, nk2, rfl, _, _, b4⟩
  have D4 := Lib.hid (bt C3.out (bt (al1 w3 _) b4))
  have B34 := Lib.hid (bt (al1 w3 _) b4)
  have P4 := Lib.hid (((At.new w3 #[.int .i64 4, .int .i64 0, .string ⟨#[58, 45]⟩, .slice a1 2 k1, .slice na1 0 nk1, .int .i64 1, .int .i64 7] 37).on b4))
  have R3' := Lib.hid (fun o => R3.out _ (bt D4.out (al1 w4 o)))
  clear b4 R2' R3
  go_wp2_with fail
  refine (R3'.out _).mono ?_
  rintro e w5 ⟨x3, a3, na3, k3, nk3, rfl, _, _, b5⟩
  have D5 := Lib.hid (bt D4.out (bt (al1 w4 _) b5))
  have B35 := Lib.hid (bt B34.out (bt (al1 w4 _) b5))
  have P5 := Lib.hid (P4.out.on (bt (al1 w4 _) b5))
  have Q5 := Lib.hid (((At.new w4 #[.int .i64 4, .int .i64 0, .string ⟨#[45]⟩, .slice a2 1 k2, .slice na2 0 nk2, .int .i64 1, .int .i64 10] 37).on b5))
  have R4' := Lib.hid (fun o => R4.out _ (bt D5.out (al1 w5 o)))
  clear b5 R3' R4 P4 D4
  go_wp2_with fail
  refine (R4'.out _).mono ?_
  rintro e w6 ⟨x4, a4, na4, k4, nk4, rfl, _, hr4, b6⟩
  have D6 := Lib.hid (bt D5.out (bt (al1 w5 _) b6))
  have B36 := Lib.hid (bt B35.out (bt (al1 w5 _) b6))
  have P6 := Lib.hid (P5.out.on (bt (al1 w5 _) b6))
  have Q6 := Lib.hid (Q5.out.on (bt (al1 w5 _) b6))
  have S6 := Lib.hid (((At.new w5 #[.int .i64 2, .int .i64 (-1), .string ⟨#[]⟩, .slice a3 0 k3, .slice na3 0 nk3, .int .i64 1, .int .i64 13] 37).on b6))
  have HR4 := Lib.hid hr4
  have R5' := Lib.hid (fun o => R5.out _ (bt D6.out (al1 w6 o)))
  clear b6 R4' R5 P5 Q5 D5 hr4
  go_wp2_with fail
  refine (R5'.out _).mono ?_
  rintro e w7 ⟨x5, a5, na5, k5, nk5, rfl, _, _, b7⟩
  have D7 := Lib.hid (bt D6.out (bt (al1 w6 _) b7))
  have B37 := Lib.hid (bt B36.out (bt (al1 w6 _) b7))
  have P7 := Lib.hid (P6.out.on (bt (al1 w6 _) b7))
  have Q7 := Lib.hid (Q6.out.on (bt (al1 w6 _) b7))
  have S7 := Lib.hid (S6.out.on (bt (al1 w6 _) b7))
  have U7 := Lib.hid (((At.new w6 #[.int .i64 4, .int .i64 0, .string ⟨#[46]⟩, .slice a4 2 k4, .slice na4 1 nk4, .int .i64 1, .int .i64 19] 37).on b7))
  have HR7 := Lib.hid (fun w8 (b8 : Below w7.heap.size w7 w8) => names_at HR4.out (bt (bt (al1 w6 _) b7) b8))
  clear b7 R5' P6 Q6 S6 D6 HR4
  go_wp2_with fail
  refine (atom6_is _ _).mono ?_
  rintro e w8 ⟨rfl, b8⟩
  have E8 := Lib.hid (bt (al1 w7 _) b8)
  clear b8
  go_wp2_with fail
  refine (atom6_is _ _).mono ?_
  rintro e w9 ⟨rfl, b9⟩
  have E9 := Lib.hid (bt E8.out b9)
  clear b9 E8
  go_wp2_with fail
  refine (atom6_is _ _).mono ?_
  rintro e w10 ⟨rfl, b10⟩
  have E10 := Lib.hid (bt E9.out b10)
  clear b10 E9
  have L4 := Lib.hid (fun o1 o2 o3 o4 => show Below w10.heap.size w10 ((((w10.alloc o1).alloc o2).alloc o3).alloc o4) from bt (bt (bt (al1 w10 o1) (al1 _ o2)) (al1 _ o3)) (al1 _ o4))
  have p0 := fun o1 o2 o3 o4 => cell_of_heap (o := 0) (P7.out.on (bt E10.out (L4.out o1 o2 o3 o4))) rfl
  have p1 := fun o1 o2 o3 o4 => cell_of_heap (o := 1) (P7.out.on (bt E10.out (L4.out o1 o2 o3 o4))) rfl
  have p2 := fun o1 o2 o3 o4 => cell_of_heap (o := 2) (P7.out.on (bt E10.out (L4.out o1 o2 o3 o4))) rfl
  have p3 := fun o1 o2 o3 o4 => cell_of_heap (o := 3) (P7.out.on (bt E10.out (L4.out o1 o2 o3 o4))) rfl
  have SM := Lib.hid (fun W (bW : Below w7.heap.size w7 W) g1 g2 g3 (hy : (wantA g1 g2 g3).mem W) => show Calls Tryz.prog 27 #[.agg #[.int .i64 4, .int .i64 0, .string ⟨#[58, 45]⟩, .slice a1 2 k1], .agg #[.int .i64 4, .int .i64 0, .string ⟨#[58, 45]⟩, .slice (some ⟨g3, 0, none⟩) 2 2]] W (fun e w' => e = .returned (.bool true) ∧ Below W.heap.size W w') from by
    obtain ⟨s1, s2, s3, s4, s5, s6, s7, _⟩ := X1.out
    have b3W : Below w3.heap.size w3 W := bt B37.out bW
    have hx := AT.mem_below b3W (AT.ins_size _ s3) s3
    have := same_is 800000 x1 (wantA g1 g2 g3) W (by omega) hx hy (by show 6 ≤ 800000; omega) (by omega)
    rw [AT.same_erase x1 (wantA g1 g2 g3) (by rw [s2]; rfl)] at this
    unfold AT.val at this
    rw [s5, s6, s7, s1] at this
    exact this)
  go_wp2_with fail
  refine (SM.out _ (bt E10.out (L4.out _ _ _ _)) w10.heap.size (w10.heap.size + 1) (w10.heap.size + 1 + 1) ?_).mono ?_
  · exact want_mem (at4_1 _ _ _ _ _ _) (at4_2 _ _ _ _ _ _) (at4_3 _ _ _ _ _ _)
  rintro e w12 ⟨rfl, b12⟩
  have F12 := Lib.hid (bt (bt E10.out (L4.out _ _ _ _)) b12)
  obtain ⟨g, rfl, g1, g2, g3, g4, g5⟩ := HR7.out w12 F12.out
  have y0 := cell_of_heap (o := 0) (Q7.out.on F12.out) rfl
  have z0 := cell_of_heap (o := 0) (S7.out.on F12.out) rfl
  have z1 := cell_of_heap (o := 1) (S7.out.on F12.out) rfl
  have u4 := cell_of_heap (o := 4) (U7.out.on F12.out) rfl
  have HF := Lib.hid (bt B2.out (bt D7.out F12.out))
  clear p0 p1 p2 p3 b12 SM L4
  go_wp2_with fail
  go_ret
  exact ⟨rfl, HF.out⟩
end Go.Proofs.YtkplokfcjjcpcaaGreatDoor
end
section
namespace Go.Proofs.YtkplokfcjjcpcaaGreatDoor
open Go Go.RowKit Go.Maps Trm
attribute [local go_sem ↓] Go.wp_at_zero Go.wp_at_succ
structure NmAt (w : World) (na : Option Addr) (nk : Nat) (vs : List (ByteArray × Int)) : Prop where
  got : ∃ g, (vs ≠ [] → na = some ⟨g, 0, none⟩ ∧ g < w.heap.size) ∧ vs.length ≤ nk ∧ nk ≤ 9223372036854775807 ∧ ∀ j u, (bindCells vs)[j]? = some u → w.cell? ⟨g, j, none⟩ = some u
theorem NmAt.of {w : World} {b : Nat} {T : TypeId} {na : Option Addr} {nk : Nat} {vs : List (ByteArray × Int)} (h : w.ownsRow b T 2 (.slice na vs.length nk) vs.length (bindCells vs)) : NmAt w na nk vs := by
  obtain ⟨h1, ⟨hv, h0⟩ | ⟨g, cap, cur, hv, h2, h3, h4, h5, h6, h7⟩⟩ := h
  · have hl : vs = [] := List.length_eq_zero_iff.1 h0
    subst hl
    simp only [List.length_nil, Value.slice.injEq] at hv
    exact ⟨0, fun h => absurd rfl h, Nat.zero_le _, by rw [hv.2.2]; omega, fun j u hu => by simp [bindCells] at hu⟩
  · simp only [Value.slice.injEq, true_and] at hv
    obtain ⟨rfl, rfl⟩ := hv
    refine ⟨g, fun _ => ⟨rfl, heap_lt h3⟩, h4, by unfold maxLen at h5; omega, fun j u hu => cell_of_heap h3 ?_⟩
    have hj : j < vs.length * 2 := by rw [← h1]; exact (List.getElem?_eq_some_iff.1 hu).1
    have e := congrArg (fun l : List Value => l[j]?) h7
    simp only [List.getElem?_take] at e
    rw [if_pos hj, hu] at e
    simpa using e
theorem NmAt.on {w w' : World} {na : Option Addr} {nk : Nat} {vs : List (ByteArray × Int)} (h : NmAt w na nk vs) (b : Below w.heap.size w w') : NmAt w' na nk vs := by
  obtain ⟨g, h1, h2, h3, h4⟩ := h.got
  refine ⟨g, fun hv => ⟨(h1 hv).1, Nat.lt_of_lt_of_le (h1 hv).2 b.size⟩, h2, h3, fun j u hu => ?_⟩
  have h5 := h4 j u hu
  exact (b.cell (p := ⟨g, j, none⟩) (World.block_lt_of_cell? _ _ h5)).trans h5
theorem bind_get : ∀ (vs : List (ByteArray × Int)) (i : Nat) (p : ByteArray × Int), vs[i]? = some p → (bindCells vs)[i * 2]? = some (.string p.1) ∧ (bindCells vs)[i * 2 + 1]? = some (.int .i64 p.2)
  | [], _, _, h => by simp at h
  | a :: r, 0, p, h => by
    simp only [List.getElem?_cons_zero, Option.some.injEq] at h
    subst h
    exact ⟨rfl, rfl⟩
  | a :: r, i + 1, p, h => by
    have h1 := bind_get r i p (by simpa using h)
    have e : bindCells (a :: r) = .string a.1 :: .int .i64 a.2 :: bindCells r := rfl
    rw [e, show (i + 1) * 2 = i * 2 + 2 from by omega]
    exact ⟨by simpa using h1.1, by simpa using h1.2⟩
theorem bind_snoc (vs : List (ByteArray × Int)) (p : ByteArray × Int) : bindCells (vs ++ [p]) = bindCells vs ++ [.string p.1, .int .i64 p.2] := by simp [bindCells]
structure FSt (w wr : World) (k n : Int) (s : ByteArray) (ad : Option Addr) (a kk : Nat) (line next : Int) (vs : List (ByteArray × Int)) (i : Nat) (v : Value) : Prop where
  res : At wr (w.heap.size + 1) #[.int .i64 0, .int .i64 0, .string ⟨#[]⟩, .slice none 0 0, .slice none 0 0, .int .i64 0, .int .i64 0] 42
  out : At wr (w.heap.size + 1 + 1) #[.int .i64 k, .int .i64 n, .string s, .slice ad a kk, v, .int .i64 line, .int .i64 next] 42
  own : wr.ownsRow (w.heap.size + 3) 118 2 v i (bindCells (vs.take i))
  below : Below w.heap.size w wr
theorem At.grow {w w' : World} {H : Nat} {c : Array Value} {T : TypeId} {row : Option Nat} (h : At w H c T) (g : w.grownBy w' row) (hne : row ≠ some H) : At w' H c T := (g.block H (heap_lt h) (fun e => hne e.symm)).trans h
theorem clause6Info : (Tryz.prog.info? 42).map (·.size) = some 7 := by kernel_rfl
theorem bind_news (w : World) (x0 x1 : Value) (H : Nat) (h : w.heap.size = H) : ∀ j u, [x0, x1][j]? = some u → (w.alloc (.cells #[x0, x1] 118)).cell? ((⟨H, 0, none⟩ : Addr).add j) = some u := by
  subst h
  exact World.news_of_block (heap_alloc_new w _)
theorem bind_one (s : ByteArray) (n : Int) : ∀ u ∈ [Value.string s, .int .i64 n], u.oneCell' = true := by
  intro u hu
  simp at hu
  rcases hu with rfl | rfl <;> rfl
set_option maxRecDepth 100000 in
set_option maxHeartbeats 3200000 in
theorem from_is (w : World) (k n : Int) (s : ByteArray) (ad na : Option Addr) (a kk nk : Nat) (line next : Int) (vs : List (ByteArray × Int)) (hN : NmAt w na nk vs) (hv : vs.length ≤ 100000) :
    Calls Tryz.prog 21 #[.agg #[.int .i64 k, .int .i64 n, .string s, .slice ad a kk, .slice na vs.length nk, .int .i64 line, .int .i64 next]] w fun e w' =>
      ∃ nb nc, e = .returned (.agg #[.int .i64 k, .int .i64 n, .string s, .slice ad a kk, .slice nb vs.length nc, .int .i64 line, .int .i64 next]) ∧ w'.ownsRow w.heap.size 118 2 (.slice nb vs.length nc) vs.length (bindCells vs) ∧ Below w.heap.size w w' := by
  obtain ⟨i0, hi, hz0, hzz, hz2⟩ := info_parts (show (Tryz.prog.info? 118).map (fun i => (i.zero, i.size, i.bytes)) = some (some (.agg #[.string ⟨#[]⟩, .int .i64 0]), 2, 24) by kernel_rfl)
  obtain ⟨w3, hw3⟩ : ∃ w3, ((w.alloc (.cells #[.int .i64 k, .int .i64 n, .string s, .slice ad a kk, .slice na vs.length nk, .int .i64 line, .int .i64 next] 37)).alloc (.cells #[.int .i64 0, .int .i64 0, .string ⟨#[]⟩, .slice none 0 0, .slice none 0 0, .int .i64 0, .int .i64 0] 42)).alloc (.cells #[.int .i64 k, .int .i64 n, .string s, .slice ad a kk, .slice none 0 0, .int .i64 line, .int .i64 next] 42) = w3 := ⟨_, rfl⟩
  have b3 : Below w.heap.size w w3 := by
    rw [← hw3]
    exact bt (bt (al1 w _) (al1 _ _)) (al1 _ _)
  have hs3 : w3.heap.size = w.heap.size + 3 := by rw [← hw3]; simp
  have H0 := Lib.hid (show FSt w w3 k n s ad a kk line next vs 0 (.slice none 0 0) from ⟨by
    rw [← hw3]
    have h := (At.new (w.alloc (.cells #[.int .i64 k, .int .i64 n, .string s, .slice ad a kk, .slice na vs.length nk, .int .i64 line, .int .i64 next] 37)) #[.int .i64 0, .int .i64 0, .string ⟨#[]⟩, .slice none 0 0, .slice none 0 0, .int .i64 0, .int .i64 0] 42).on (al1 _ (.cells #[.int .i64 k, .int .i64 n, .string s, .slice ad a kk, .slice none 0 0, .int .i64 line, .int .i64 next] 42))
    simpa using h, by
    rw [← hw3]
    have h := At.new ((w.alloc (.cells #[.int .i64 k, .int .i64 n, .string s, .slice ad a kk, .slice na vs.length nk, .int .i64 line, .int .i64 next] 37)).alloc (.cells #[.int .i64 0, .int .i64 0, .string ⟨#[]⟩, .slice none 0 0, .slice none 0 0, .int .i64 0, .int .i64 0] 42)) #[.int .i64 k, .int .i64 n, .string s, .slice ad a kk, .slice none 0 0, .int .i64 line, .int .i64 next] 42
    simpa using h, ⟨rfl, .inl ⟨rfl, rfl⟩⟩, b3⟩)
  have NM := Lib.hid (fun wr (b : Below w.heap.size w wr) => hN.on b)
  have cN : w3.cell? ⟨w.heap.size, 4, none⟩ = some (.slice na vs.length nk) := by
    rw [← hw3]
    have h := ((At.new w #[.int .i64 k, .int .i64 n, .string s, .slice ad a kk, .slice na vs.length nk, .int .i64 line, .int .i64 next] 37).on (al1 _ (.cells #[.int .i64 0, .int .i64 0, .string ⟨#[]⟩, .slice none 0 0, .slice none 0 0, .int .i64 0, .int .i64 0] 42))).on (al1 _ (.cells #[.int .i64 k, .int .i64 n, .string s, .slice ad a kk, .slice none 0 0, .int .i64 line, .int .i64 next] 42))
    exact cell_of_heap h rfl
  obtain ⟨nv, hnv⟩ : ∃ nv, vs.length = nv := ⟨_, rfl⟩
  have HNV := Lib.hid hnv
  have hv' := hv
  rw [hnv] at hv' cN hw3
  rw [hnv]
  clear hN b3 hnv hv
  go_enter Tryz.func21, Tryz.ntmps21
  go_wp2_with fail
  go_loopw [16] (fun v wr => ∃ i : Nat, v = .int .i64 i ∧ i ≤ nv ∧ Hid (∃ rb rc, FSt w wr k n s ad a kk line next vs i (.slice rb i rc))) (fun v _ => nv - (intOf v).toNat)
  case atStart => exact ⟨0, rfl, Nat.zero_le _, ⟨none, 0, H0.out⟩⟩
  case round =>
    obtain ⟨i, rfl, hi', HS⟩ := hrel
    obtain ⟨rb, rc, hS⟩ := HS.out
    by_cases hlt : i < nv
    · have q0 : decide ((i : Int) < (nv : Int)) = true := decide_eq_true (by omega)
      obtain ⟨g, hg, hcap, hmax, hcell⟩ := (NM.out wr hS.below).got
      obtain ⟨p, hp⟩ : ∃ p, vs[i]? = some p := ⟨vs[i]'(by rw [HNV.out]; exact hlt), List.getElem?_eq_getElem _⟩
      obtain ⟨h1, h2⟩ := bind_get vs i p hp
      have c0 := hcell _ _ h1
      have c1 := hcell _ _ h2
      obtain ⟨rfl, hgl⟩ := hg (by intro e; rw [e] at hp; simp at hp)
      obtain ⟨ps, pn⟩ := p
      simp only at c0 c1
      have HP := Lib.hid hp
      have HST := Lib.hid hS
      have o4 := fun o => cell_of_heap (o := 4) (hS.out.on (al1 wr o)) rfl
      have hsz : w.heap.size + 3 ≤ wr.heap.size := by
        have := heap_lt hS.out
        omega
      have NEWS := Lib.hid (fun W H h => bind_news W (.string ps) (.int .i64 pn) H h)
      have ONE := Lib.hid (bind_one ps pn)
      have OWN := Lib.hid (fun o1 o2 => owns_same (hS.own) (fun g hg => (bt (al1 wr o1) (al1 _ o2)).block g (hS.own.lt g hg).2))
      clear hp h1 h2 hcell hg hS
      go_wp2_with (at_builtin; refine wpList_append_lies _ rfl (.tmp 21) (.tmp 23) 40 rfl (w.heap.size + 3) 118 i0 (.agg #[.string ⟨#[]⟩, .int .i64 0]) 2 24 Tryz.underlying40 hi hz0 hzz hz2 rfl (by decide) _ _ _ rfl (OWN.out _ _) ⟨wr.heap.size + 1, 0, none⟩ 1 1 [.string ps, .int .i64 pn] rfl rfl (NEWS.out _ _ (by simp)) ONE.out (by omega) ?_ ?_ ?_ (wr.heap.size + 1 + 1) (by simp) ?_)
      · unfold maxLen; omega
      · omega
      · simp; omega
      intro g' cap' w7 hown hgrow _ _
      have hO := HST.out
      have hne : ∀ j, j < w.heap.size + 3 → (Value.slice rb i rc).ownBlock ≠ some j := fun j hj e => by have := (hO.own.lt j e).1; omega
      have hres7 := (hO.res.on (bt (al1 wr _) (al1 _ _))).grow hgrow (hne _ (by omega))
      have hout7 := (hO.out.on (bt (al1 wr _) (al1 _ _))).grow hgrow (hne _ (by omega))
      have d4 := cell_of_heap (o := 4) hout7 rfl
      have z4 := free_of_heap (o := 4) hout7
      have b7 : Below w.heap.size w w7 := (bt hO.below (bt (al1 wr _) (al1 _ _))).grown hgrow (by have := hO.below.size; simp; omega) (fun j hj => by have := (hO.own.lt j hj).1; omega)
      have hg' := (hown.lt g' rfl).1
      have HN := Lib.hid (show FSt w (w7.setCell ⟨w.heap.size + 1 + 1, 4, none⟩ (.slice (some ⟨g', 0, none⟩) (i + 1) cap')) k n s ad a kk line next vs (i + 1) (.slice (some ⟨g', 0, none⟩) (i + 1) cap') from by
        refine ⟨(heap_set_ne (by omega) _).trans hres7, by rw [At, heap_set hout7]; rfl, ?_, b7.setCell (p := ⟨w.heap.size + 1 + 1, 4, none⟩) (by show w.heap.size ≤ w.heap.size + 1 + 1; omega) _⟩
        have e : bindCells (vs.take (i + 1)) = bindCells (vs.take i) ++ [.string ps, .int .i64 pn] := by
          rw [List.take_add_one, HP.out]
          exact bind_snoc _ (ps, pn)
        rw [e]
        exact owns_same hown fun j hj => heap_set_ne (by have := (hown.lt j hj).1; omega) _)
      clear hown hgrow hO hne hres7 hout7 b7 hg' NEWS ONE OWN c0 c1 o4
      go_wp2_with fail
      go_roundw
      case rel => exact ⟨i + 1, by go_num, by omega, ⟨_, _, HN.out⟩⟩
      case measure => simp [intOf]; omega
    · have q0 : decide ((i : Int) < (nv : Int)) = false := decide_eq_false (by omega)
      obtain rfl : i = nv := by omega
      have HST := Lib.hid hS
      have o0 := cell_of_heap (o := 0) hS.out rfl
      have o1 := cell_of_heap (o := 1) hS.out rfl
      have o2 := cell_of_heap (o := 2) hS.out rfl
      have o3 := cell_of_heap (o := 3) hS.out rfl
      have o4 := cell_of_heap (o := 4) hS.out rfl
      have o5 := cell_of_heap (o := 5) hS.out rfl
      have o6 := cell_of_heap (o := 6) hS.out rfl
      have r0 := cell_of_heap (o := 0) hS.res rfl
      have r1 := cell_of_heap (o := 1) hS.res rfl
      have r2 := cell_of_heap (o := 2) hS.res rfl
      have r3 := cell_of_heap (o := 3) hS.res rfl
      have r4 := cell_of_heap (o := 4) hS.res rfl
      have r5 := cell_of_heap (o := 5) hS.res rfl
      have r6 := cell_of_heap (o := 6) hS.res rfl
      have f0 := free_of_heap (o := 0) hS.res
      have f1 := free_of_heap (o := 1) hS.res
      have f2 := free_of_heap (o := 2) hS.res
      have f3 := free_of_heap (o := 3) hS.res
      have f4 := free_of_heap (o := 4) hS.res
      have f5 := free_of_heap (o := 5) hS.res
      have f6 := free_of_heap (o := 6) hS.res
      clear hS hlt
      go_wp2_with fail
      refine bodyPost_ret (results_cell_row rfl _ _ (w.heap.size + 1) 42 _ _ _ rfl (heap_set (o := 6) (heap_set (o := 5) (heap_set (o := 4) (heap_set (o := 3) (heap_set (o := 2) (heap_set (o := 1) (heap_set (o := 0) HST.out.res (.int .i64 k)) (.int .i64 n)) (.string s)) (.slice ad a kk)) (.slice rb i rc)) (.int .i64 line)) (.int .i64 next)) Tryz.underlying42 rfl clause6Info) rfl ?_
      have hO := HST.out
      refine ⟨rb, rc, rfl, ?_, ?_⟩
      · have h1 := hO.own
        rw [List.take_of_length_le (by rw [HNV.out]; exact Nat.le_refl _)] at h1
        refine owns_down (owns_same h1 fun j hj => ?_) (by omega : w.heap.size ≤ w.heap.size + 3)
        exact seven_other wr (by have := (h1.lt j hj).1; omega) _ _ _ _ _ _ _
      · exact ((((((hO.below.setCell (p := ⟨w.heap.size + 1, 0, none⟩) (by show w.heap.size ≤ w.heap.size + 1; omega) _).setCell (p := ⟨w.heap.size + 1, 1, none⟩) (by show w.heap.size ≤ w.heap.size + 1; omega) _).setCell (p := ⟨w.heap.size + 1, 2, none⟩) (by show w.heap.size ≤ w.heap.size + 1; omega) _).setCell (p := ⟨w.heap.size + 1, 3, none⟩) (by show w.heap.size ≤ w.heap.size + 1; omega) _).setCell (p := ⟨w.heap.size + 1, 4, none⟩) (by show w.heap.size ≤ w.heap.size + 1; omega) _).setCell (p := ⟨w.heap.size + 1, 5, none⟩) (by show w.heap.size ≤ w.heap.size + 1; omega) _).setCell (p := ⟨w.heap.size + 1, 6, none⟩) (by show w.heap.size ≤ w.heap.size + 1; omega) _
end Go.Proofs.YtkplokfcjjcpcaaGreatDoor
end
section
namespace Go.Proofs.YtkplokfcjjcpcaaGreatDoor
open Go Go.RowKit Go.Maps Trm
attribute [local go_sem ↓] Go.wp_at_zero Go.wp_at_succ
structure SameAt (w0 : World) (k n : Int) (s : ByteArray) (ad : Option Addr) (a kk : Nat) (ad' : Option Addr) (kk' : Nat) : Prop where
  at' : ∀ w, Below w0.heap.size w0 w → Calls Tryz.prog 27 #[.agg #[.int .i64 k, .int .i64 n, .string s, .slice ad a kk], .agg #[.int .i64 k, .int .i64 n, .string s, .slice ad' a kk']] w fun e w' => e = .returned (.bool true) ∧ Below w.heap.size w w'
theorem SameAt.on {w0 w1 : World} {k n : Int} {s : ByteArray} {ad : Option Addr} {a kk : Nat} {ad' : Option Addr} {kk' : Nat} (h : SameAt w0 k n s ad a kk ad' kk') (b : Below w0.heap.size w0 w1) : SameAt w1 k n s ad a kk ad' kk' :=
  ⟨fun w hb => h.at' w (bt b hb)⟩
theorem sameAt_of {w0 : World} {x y : AT} {k n : Int} {s : ByteArray} {ad ad' : Option Addr} {a kk kk' : Nat} (hx : x.mem w0) (hy : y.mem w0) (h1 : x.nodes ≤ 40000) (h2 : y.nodes ≤ 40000) (he : x.erase = y.erase) (e1 : x.sv = .slice ad a kk) (e2 : y.sv = .slice ad' a kk') (f1 : x.k = k) (f2 : x.n = n) (f3 : x.s = s) (g1 : y.k = k) (g2 : y.n = n) (g3 : y.s = s) :
    SameAt w0 k n s ad a kk ad' kk' := ⟨fun w hb => by
  have := same_is x.nodes x y w (Nat.le_refl _) (AT.mem_below hb (AT.ins_size _ hx) hx) (AT.mem_below hb (AT.ins_size _ hy) hy) (by omega) (by omega)
  rw [AT.same_erase x y he] at this
  unfold AT.val at this
  rw [e1, e2, f1, f2, f3, g1, g2, g3] at this
  exact this⟩
theorem i_lt {i n : Nat} (h : i < n) : ((i : Int) < (n : Int)) := by omega
end Go.Proofs.YtkplokfcjjcpcaaGreatDoor
end
section
namespace Go.Proofs.YtkplokfcjjcpcaaGreatDoor
open Go Go.RowKit Go.Maps Trm
attribute [local go_sem ↓] Go.wp_at_zero Go.wp_at_succ
theorem tok_six {w : World} {ad : Option Addr} {n cap i : Nat} {l : List Tok} {t : Tok} (h : Tks w (.slice ad n cap) l) (ht : l[i]? = some t) : ∃ g, ad = some ⟨g, 0, none⟩ ∧ n ≤ cap ∧ cap ≤ 9223372036854775807 ∧
    (w.cell? ⟨g, i * 6, none⟩ = some (.int .i64 t.k) ∧ w.cell? ⟨g, i * 6 + 1, none⟩ = some (.int .i64 t.line) ∧ w.cell? ⟨g, i * 6 + 2, none⟩ = some (.int .i64 t.n) ∧ w.cell? ⟨g, i * 6 + 3, none⟩ = some (.string t.b) ∧ w.cell? ⟨g, i * 6 + 4, none⟩ = some (.bool t.open') ∧ w.cell? ⟨g, i * 6 + 5, none⟩ = some (.bool t.tight)) := by
  obtain ⟨ad', cap', g, h1, h2, h3, h4, h5⟩ := h.got
  simp only [Value.slice.injEq] at h1
  obtain ⟨rfl, rfl, rfl⟩ := h1
  have hi : i < l.length := (List.getElem?_eq_some_iff.1 ht).1
  refine ⟨g, (h4 (by omega)).1, h2, h3, h5 _ _ (tcell_get l i 0 t _ ht rfl), h5 _ _ (tcell_get l i 1 t _ ht rfl), h5 _ _ (tcell_get l i 2 t _ ht rfl), h5 _ _ (tcell_get l i 3 t _ ht rfl), h5 _ _ (tcell_get l i 4 t _ ht rfl), h5 _ _ (tcell_get l i 5 t _ ht rfl)⟩
theorem read_names {L : List Ops.Df} {l : List Tok} {u : Tm} {vs : List (ByteArray × Int)} {line next er : Int} (h : readZ L l 0 = (⟨u, vs, line, next⟩, er)) (hl : TkOk l) : vs.length ≤ 5000 := by
  unfold readZ at h
  split at h
  · simp only [Prod.mk.injEq, Cz.mk.injEq] at h
    rw [← h.1.2.1]; exact Nat.zero_le _
  · split at h
    · simp only [Prod.mk.injEq, Cz.mk.injEq] at h
      rw [← h.1.2.1]; exact Nat.zero_le _
    · rename_i τ hτ
      have hE := clause_end hl (Nat.zero_le _) hτ
      have h1 := hE.fit.vs
      have h2 := hE.fit.i
      have h3 := hl.len
      split at h
      · simp only [Prod.mk.injEq, Cz.mk.injEq] at h
        rw [← h.1.2.1]; omega
      · split at h
        all_goals
          simp only [Prod.mk.injEq, Cz.mk.injEq] at h
          rw [← h.1.2.1]; exact Nat.zero_le _
end Go.Proofs.YtkplokfcjjcpcaaGreatDoor
end
section
namespace Go.Proofs.YtkplokfcjjcpcaaGreatDoor
open Go Go.RowKit Go.Maps Trm
attribute [local go_sem ↓] Go.wp_at_zero Go.wp_at_succ
structure FromAt (W0 : World) (k x : Int) (s : ByteArray) (ad na : Option Addr) (z kk nk : Nat) (line next : Int) (vs : List (ByteArray × Int)) : Prop where
  at' : ∀ w, Below W0.heap.size W0 w → Calls Tryz.prog 21 #[.agg #[.int .i64 k, .int .i64 x, .string s, .slice ad z kk, .slice na vs.length nk, .int .i64 line, .int .i64 next]] w fun e w' =>
    ∃ nb nc, e = .returned (.agg #[.int .i64 k, .int .i64 x, .string s, .slice ad z kk, .slice nb vs.length nc, .int .i64 line, .int .i64 next]) ∧ NmAt w' nb nc vs ∧ (∀ na' nk', NmAt w na' nk' vs → NmAt w' na' nk' vs) ∧ Below W0.heap.size W0 w'
structure Same6At (W0 : World) (k x : Int) (s : ByteArray) (ad ad' : Option Addr) (z kk kk' : Nat) (line next : Int) (vs : List (ByteArray × Int)) : Prop where
  at' : ∀ w na nb nk nl, Below W0.heap.size W0 w → NmAt w na nk vs → NmAt w nb nl vs → Calls Tryz.prog 20 #[.agg #[.int .i64 k, .int .i64 x, .string s, .slice ad z kk, .slice na vs.length nk, .int .i64 line, .int .i64 next], .agg #[.int .i64 k, .int .i64 x, .string s, .slice ad' z kk', .slice nb vs.length nl, .int .i64 line, .int .i64 next]] w fun e w' =>
    e = .returned (.bool true) ∧ Below W0.heap.size W0 w'
structure Tree (w : World) (k x : Int) (s : ByteArray) (ad : Option Addr) (z kk : Nat) (u : Tm) : Prop where
  got : ∃ t : AT, t.sv = .slice ad z kk ∧ t.erase = u ∧ t.mem w ∧ t.nodes ≤ 40000 ∧ t.k = k ∧ t.n = x ∧ t.s = s
theorem Tree.on {w w' : World} {k x : Int} {s : ByteArray} {ad : Option Addr} {z kk : Nat} {u : Tm} (h : Tree w k x s ad z kk u) (b : Below w.heap.size w w') : Tree w' k x s ad z kk u := by
  obtain ⟨t, h1, h2, h3, h4⟩ := h.got
  exact ⟨t, h1, h2, AT.mem_below b (AT.ins_size _ h3) h3, h4⟩
theorem Tree.same {w : World} {k x : Int} {s : ByteArray} {ad ad' : Option Addr} {z kk kk' : Nat} {u : Tm} (h : Tree w k x s ad z kk u) (h' : Tree w k x s ad' z kk' u) : SameAt w k x s ad z kk ad' kk' := by
  obtain ⟨t, h1, h2, h3, h4, h5, h6, h7⟩ := h.got
  obtain ⟨t', h1', h2', h3', h4', h5', h6', h7'⟩ := h'.got
  exact sameAt_of h3 h3' h4 h4' (h2.trans h2'.symm) h1 h1' h5 h6 h7 h5' h6' h7'
structure Ans (w : World) (k x : Int) (s : ByteArray) (ad : Option Addr) (z kk : Nat) (na : Option Addr) (nk : Nat) (u : Tm) (vs : List (ByteArray × Int)) : Prop where
  tree : Tree w k x s ad z kk u
  nm : NmAt w na nk vs
theorem Ans.on {w w' : World} {k x : Int} {s : ByteArray} {ad : Option Addr} {z kk : Nat} {na : Option Addr} {nk : Nat} {u : Tm} {vs : List (ByteArray × Int)} (h : Ans w k x s ad z kk na nk u vs) (b : Below w.heap.size w w') : Ans w' k x s ad z kk na nk u vs := ⟨h.tree.on b, h.nm.on b⟩
theorem ReadLit.ans {w w' : World} {k n : Int} {s : ByteArray} {a : Nat} {u : Tm} {vs : List (ByteArray × Int)} {line next er : Int} {e : Ending} (h : ReadLit w k n s a u vs line next er e w') :
    ∃ ad kk na nk, e = .returned (.tuple #[.agg #[.int .i64 k, .int .i64 n, .string s, .slice ad a kk, .slice na vs.length nk, .int .i64 line, .int .i64 next], .int .i64 er]) ∧ Ans w' k n s ad a kk na nk u vs ∧ Below w.heap.size w w' := by
  obtain ⟨t, ad, na, kk, nk, rfl, ⟨t1, t2, t3, t4, t5, t6, t7, _⟩, h2, h3⟩ := h
  exact ⟨ad, kk, na, nk, rfl, ⟨⟨t, t1, t2, t3, t4, t5, t6, t7⟩, NmAt.of h2⟩, h3⟩
def SevenC (w : World) (H : Nat) (k x : Int) (s : ByteArray) (ad : Option Addr) (z kk : Nat) (na : Option Addr) (nn nk : Nat) (line next : Int) : Prop :=
  w.cell? ⟨H, 0, none⟩ = some (.int .i64 k) ∧ w.cell? ⟨H, 1, none⟩ = some (.int .i64 x) ∧ w.cell? ⟨H, 2, none⟩ = some (.string s) ∧ w.cell? ⟨H, 3, none⟩ = some (.slice ad z kk) ∧ w.cell? ⟨H, 4, none⟩ = some (.slice na nn nk) ∧ w.cell? ⟨H, 5, none⟩ = some (.int .i64 line) ∧ w.cell? ⟨H, 6, none⟩ = some (.int .i64 next)
theorem At.seven {w : World} {H : Nat} {T : TypeId} {k x : Int} {s : ByteArray} {ad : Option Addr} {z kk : Nat} {na : Option Addr} {nn nk : Nat} {line next : Int} (h : At w H #[.int .i64 k, .int .i64 x, .string s, .slice ad z kk, .slice na nn nk, .int .i64 line, .int .i64 next] T) : SevenC w H k x s ad z kk na nn nk line next :=
  ⟨cell_of_heap (o := 0) h rfl, cell_of_heap (o := 1) h rfl, cell_of_heap (o := 2) h rfl, cell_of_heap (o := 3) h rfl, cell_of_heap (o := 4) h rfl, cell_of_heap (o := 5) h rfl, cell_of_heap (o := 6) h rfl⟩
structure BhSt (w0 wr : World) (l : List Tok) (S : ByteArray) (i : Nat) : Prop where
  below : Below w0.heap.size w0 wr
  no : ∀ j, j < i → ∀ t, l[j]? = some t → t.b ≠ S
theorem BhSt.next {w0 wr w2 : World} {l : List Tok} {S : ByteArray} {i : Nat} {t : Tok} (h : BhSt w0 wr l S i) (b : Below wr.heap.size wr w2) (ht : l[i]? = some t) (hn : t.b ≠ S) : BhSt w0 w2 l S (i + 1) :=
  ⟨bt h.below b, fun j hj u hu => by
    rcases Nat.lt_succ_iff_lt_or_eq.1 hj with h1 | rfl
    · exact h.no j h1 u hu
    · rw [ht] at hu
      cases hu
      exact hn⟩
theorem BhSt.all {w0 wr : World} {l : List Tok} {S : ByteArray} (h : BhSt w0 wr l S l.length) : ∀ t ∈ l, t.b ≠ S := fun t ht => by
  obtain ⟨j, hj, e⟩ := List.getElem_of_mem ht
  exact h.no j hj t (by rw [← e]; exact List.getElem?_eq_getElem hj)
end Go.Proofs.YtkplokfcjjcpcaaGreatDoor
end
