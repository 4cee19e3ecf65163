/- Joined texts: ReadK ReadG ReadI. Conditions: as each states. -/
import Derived.Test.YtkplokfcjjcpcaaGreatDoorRk21
import Derived.Deep.RegionHeld3
import Derived.Deep.DrawnRows
section
namespace Go.Proofs.YtkplokfcjjcpcaaGreatDoor
open Go Go.RowKit Go.Maps Trm
open Go.WideMaps Go.WideElems
attribute [local go_sem ↓] Go.wp_at_zero Go.wp_at_succ
def mvR (R : Nat) (v : Value) : Option (DataW Unit × List MemPlace) :=
  match v with
  | .func (.func k) ⟨[.pointer (some ⟨r, 0, none⟩)]⟩ ⟨[]⟩ => if r = R then some (.lit (.int .i64 k), []) else none
  | _ => none
theorem mvR_mk (R k : Nat) : mvR R (.func (.func k) #[.pointer (some ⟨R, 0, none⟩)] #[]) = some (.lit (.int .i64 k), []) := by simp [mvR]
theorem mvR_inv {R : Nat} {v : Value} {d : DataW Unit} {ps : List MemPlace} (h : mvR R v = some (d, ps)) : ∃ k : Nat, v = .func (.func k) #[.pointer (some ⟨R, 0, none⟩)] #[] ∧ d = .lit (.int .i64 k) := by
  unfold mvR at h
  split at h
  · rename_i k r
    split at h
    · rename_i hs
      subst hs
      simp only [Option.some.injEq, Prod.mk.injEq] at h
      exact ⟨k, rfl, h.1.symm⟩
    · cases h
  · cases h
theorem wpList_insert_mv {P : Program} (R : Nat) (w : World) {ops : Array Oper} {rest : List Oper} {o : Oper} {a : Act} {Q : Exit → Act → World → Prop}
    (hg : o.guard = none) (m x v : Operand) (t : TypeId) (hop : o.op = Op.insert t m x v)
    (k e : TypeId) (K : Keyed P k) (ht : P.underlying t = some (.map k e)) (b n : Nat) (D : DataW Unit)
    (hm : a.eval m = .map (some b)) (hown : w.ownsMap P k (mvR R) b n D) (hn : n < maxLen) (key : Value) (kl : Lit) (hx : a.eval x = key) (hkey : keyOf P k key = some kl)
    (f : Nat) (hv : a.eval v = .func (.func f) #[.pointer (some ⟨R, 0, none⟩)] #[])
    (hK : ∀ w', w'.ownsMap P k (mvR R) b (n + 1) (D.put kl (.lit (.int .i64 f))) → w.grownBy w' (some b) → wpList P ops Q rest (a.put o.dst undef) w') :
    wpList P ops Q (o :: rest) a w := by
  refine wpList_plain hg fun K' hK' => ?_
  obtain ⟨w', hrun, r1, r2⟩ := hown.update K ht hn hkey (mvR_mk R f)
  unfold Oper.wp
  simp [execOp, hop, hm, hx, hv, hrun, Result.andThen]
  exact hK' _ _ (hK w' r1 r2)
theorem own_mv_there {P : Program} {R : Nat} {w : World} {k e t : TypeId} {b n : Nat} {D : DataW Unit} (hown : w.ownsMap P k (mvR R) b n D) (K : Keyed P k) (ht : P.underlying t = some (.map k e)) {z : Value} (hz : (zeroValue e).run P w = .ok z w)
    {key : Value} {kl : Lit} (hkey : keyOf P k key = some kl) {f : Nat} (hat : D.atKey kl .nil = .lit (.int .i64 f)) :
    (Instr.lookup t (.map (some b)) key true).run P w = .ok (.tuple #[.func (.func f) #[.pointer (some ⟨R, 0, none⟩)] #[], .bool true]) w := by
  obtain ⟨es, clock, hb, F, _, rfl⟩ := hown
  rcases Maps.fit_look true K ht hz hb F hkey with ⟨hrun, _, h⟩ | ⟨e0, y, _, _, hrun, hRv, h, _⟩
  · rw [h .nil] at hat
    cases hat
  · rw [h .nil] at hat
    obtain ⟨d, ps⟩ := y
    obtain ⟨k', hv, hd⟩ := mvR_inv hRv
    rw [hrun, hv]
    simp only [hd] at hat
    simp only [DataW.lit.injEq, Lit.int.injEq, true_and] at hat
    have : k' = f := by omega
    subst this
    rfl
theorem own_mv_not {P : Program} {R : Nat} {w : World} {k e t : TypeId} {b n : Nat} {D : DataW Unit} (hown : w.ownsMap P k (mvR R) b n D) (K : Keyed P k) (ht : P.underlying t = some (.map k e)) {z : Value} (hz : (zeroValue e).run P w = .ok z w)
    {key : Value} {kl : Lit} (hkey : keyOf P k key = some kl) (hat : D.atKey kl .nil = .nil) :
    (Instr.lookup t (.map (some b)) key true).run P w = .ok (.tuple #[z, .bool false]) w := by
  obtain ⟨es, clock, hb, F, _, rfl⟩ := hown
  rcases Maps.fit_look true K ht hz hb F hkey with ⟨hrun, _, h⟩ | ⟨e0, y, _, _, hrun, hRv, h, _⟩
  · exact hrun
  · rw [h .nil] at hat
    obtain ⟨d, ps⟩ := y
    obtain ⟨k', hv, hd⟩ := mvR_inv hRv
    simp only [hd] at hat
    cases hat
theorem intKeyR : Keyed Tryz.prog 3 := int_keyed Tryz.underlying3
theorem keyOf_intR {n : Int} (h1 : -9223372036854775808 ≤ n) (h2 : n ≤ 9223372036854775807) : keyOf Tryz.prog 3 (.int .i64 n) = some (.int .i64 n) := keyOf_int_mk Tryz.underlying3 (wf_64R h1 h2)
def primF : Nat → Nat
  | 3 => 141
  | 4 => 142
  | 5 => 143
  | 6 => 144
  | _ => 145
def primD : DataW Unit := DataW.put (DataW.put (DataW.put (DataW.put (DataW.put (DataW.put (.map []) (.int .i64 3) (.lit (.int .i64 (141 : Nat)))) (.int .i64 4) (.lit (.int .i64 (142 : Nat)))) (.int .i64 5) (.lit (.int .i64 (143 : Nat))))
  (.int .i64 6) (.lit (.int .i64 (144 : Nat)))) (.int .i64 1) (.lit (.int .i64 (145 : Nat)))) (.int .i64 2) (.lit (.int .i64 (145 : Nat)))
theorem prim_zero (w : World) : (zeroValue 260).run Tryz.prog w = .ok .nilFunc w := by kernel_rfl
structure Prims (w : World) (P R : Nat) : Prop where
  own : w.ownsMap Tryz.prog 3 (mvR R) P 6 primD
theorem Prims.lt {w : World} {P R : Nat} (h : Prims w P R) : P < w.heap.size := h.own.lt
theorem Prims.same {w w' : World} {P R : Nat} (h : Prims w P R) (e : w'.heap[P]? = w.heap[P]?) : Prims w' P R := by
  obtain ⟨es, clock, hb, r⟩ := h.own
  exact ⟨es, clock, e.trans hb, r⟩
theorem Prims.on {w w' : World} {P R : Nat} (h : Prims w P R) (b : Below w.heap.size w w') : Prims w' P R := h.same (b.block _ h.lt)
theorem Prims.there {w : World} {P R : Nat} (h : Prims w P R) (k : Nat) (hk : 1 ≤ k ∧ k ≤ 6) : (Instr.lookup 107 (.map (some P)) (.int .i64 (k : Int)) true).run Tryz.prog w = .ok (.tuple #[.func (.func (primF k)) #[.pointer (some ⟨R, 0, none⟩)] #[], .bool true]) w := by
  refine own_mv_there h.own intKeyR Tryz.underlying107 (prim_zero w) (keyOf_intR (by omega) (by omega)) ?_
  obtain rfl | rfl | rfl | rfl | rfl | rfl : k = 1 ∨ k = 2 ∨ k = 3 ∨ k = 4 ∨ k = 5 ∨ k = 6 := by omega
  all_goals rfl
theorem Prims.not {w : World} {P R : Nat} (h : Prims w P R) (k : Nat) (hk : k = 0 ∨ k = 7) : (Instr.lookup 107 (.map (some P)) (.int .i64 (k : Int)) true).run Tryz.prog w = .ok (.tuple #[.nilFunc, .bool false]) w := by
  refine own_mv_not h.own intKeyR Tryz.underlying107 (prim_zero w) (keyOf_intR (by omega) (by omega)) ?_
  obtain rfl | rfl := hk
  all_goals rfl
set_option maxRecDepth 100000 in
set_option maxHeartbeats 2000000 in
theorem kinds_is (w : World) (R : Nat) :
    Calls Tryz.prog 91 #[.pointer (some ⟨R, 0, none⟩)] w fun e w' => e = .returned (.map (some w.heap.size)) ∧ Prims w' w.heap.size R ∧ Below w.heap.size w w' := by
  have hmf : ∀ (fn : Fn) (first cap : Array Value) (w : World), (Instr.makeFunc fn first cap).run Tryz.prog w = .ok (.func fn first cap) w := fun _ _ _ _ => rfl
  have hmm := run_makeMap (P := Tryz.prog) 107 w
  have h0 := World.ownsMap_made w Tryz.prog 3 (mvR R)
  have b0 : Below w.heap.size w (w.alloc (.map #[] 0)) := (Below.refl _ _).alloc (Nat.le_refl _) _
  obtain ⟨w0, hw0⟩ : ∃ w0, w0 = w.alloc (.map #[] 0) := ⟨_, rfl⟩
  rw [← hw0] at h0 b0
  simp only [← hw0] at hmm
  clear hw0
  go_enter Tryz.func91, Tryz.ntmps91
  go_wp2_with (first | (refine wpList_insert_mv R w0 rfl _ _ _ 107 rfl 3 260 intKeyR Tryz.underlying107 _ _ _ rfl h0 (by unfold maxLen; omega) _ _ rfl (keyOf_intR (by decide) (by decide)) _ rfl ?_; intro w1 h1 g1; have b1 := b0.grown g1 (by have := b0.size; omega) (fun _ e => by cases e; exact Nat.le_refl _); clear h0 g1 b0) | (refine wpList_insert_mv R w1 rfl _ _ _ 107 rfl 3 260 intKeyR Tryz.underlying107 _ _ _ rfl h1 (by unfold maxLen; omega) _ _ rfl (keyOf_intR (by decide) (by decide)) _ rfl ?_; intro w2 h2 g2; have b2 := b1.grown g2 (by have := b1.size; omega) (fun _ e => by cases e; exact Nat.le_refl _); clear h1 g2 b1) | (refine wpList_insert_mv R w2 rfl _ _ _ 107 rfl 3 260 intKeyR Tryz.underlying107 _ _ _ rfl h2 (by unfold maxLen; omega) _ _ rfl (keyOf_intR (by decide) (by decide)) _ rfl ?_; intro w3 h3 g3; have b3 := b2.grown g3 (by have := b2.size; omega) (fun _ e => by cases e; exact Nat.le_refl _); clear h2 g3 b2) | (refine wpList_insert_mv R w3 rfl _ _ _ 107 rfl 3 260 intKeyR Tryz.underlying107 _ _ _ rfl h3 (by unfold maxLen; omega) _ _ rfl (keyOf_intR (by decide) (by decide)) _ rfl ?_; intro w4 h4 g4; have b4 := b3.grown g4 (by have := b3.size; omega) (fun _ e => by cases e; exact Nat.le_refl _); clear h3 g4 b3) | (refine wpList_insert_mv R w4 rfl _ _ _ 107 rfl 3 260 intKeyR Tryz.underlying107 _ _ _ rfl h4 (by unfold maxLen; omega) _ _ rfl (keyOf_intR (by decide) (by decide)) _ rfl ?_; intro w5 h5 g5; have b5 := b4.grown g5 (by have := b4.size; omega) (fun _ e => by cases e; exact Nat.le_refl _); clear h4 g5 b4) | (refine wpList_insert_mv R w5 rfl _ _ _ 107 rfl 3 260 intKeyR Tryz.underlying107 _ _ _ rfl h5 (by unfold maxLen; omega) _ _ rfl (keyOf_intR (by decide) (by decide)) _ rfl ?_; intro w6 h6 g6; have b6 := b5.grown g6 (by have := b5.size; omega) (fun _ e => by cases e; exact Nat.le_refl _); clear h5 g6 b5))
  go_ret
  exact ⟨rfl, ⟨h6⟩, b6⟩
def newC (tv : Value) (i : Int) (a P nb : Nat) : Rc := ⟨tv, i, a, P, nb, .slice none 0 0, 0, .slice none 0 0, false, 0, 0, ⟨#[]⟩, .slice none 0 0, 0⟩
def zeroA : AT := .mk 0 0 ⟨#[]⟩ (.slice none 0 0) 0 0 []
end Go.Proofs.YtkplokfcjjcpcaaGreatDoor
end
section
namespace Go.Proofs.YtkplokfcjjcpcaaGreatDoor
open Go Go.RowKit Go.Maps Trm
attribute [local go_sem ↓] Go.wp_at_zero Go.wp_at_succ
structure Last (w : World) (c : Rc) (m : Int) : Prop where
  got : ∃ g n cap, c.wv = .slice (some ⟨g, 0, none⟩) (n + 1) cap ∧ n + 1 ≤ cap ∧ cap ≤ 9223372036854775807 ∧ w.cell? ⟨g, n * 2, none⟩ = some (.int .i64 m) ∧ g < w.heap.size ∧ n ≤ 1000000
theorem Last.on {w w' : World} {c : Rc} {m : Int} (h : Last w c m) (b : Below w.heap.size w w') : Last w' c m := by
  obtain ⟨g, n, cap, h1, h2, h3, h4, h5, h6⟩ := h.got
  exact ⟨g, n, cap, h1, h2, h3, (b.cell (p := ⟨g, n * 2, none⟩) h5).trans h4, Nat.lt_of_lt_of_le h5 b.size, h6⟩
set_option maxRecDepth 100000 in
set_option maxHeartbeats 800000 in
theorem most_is (w : World) (R : Nat) (c : Rc) (m : Int) (h : Rd w R c) (hl : Last w c m) :
    Calls Tryz.prog 227 #[.pointer (some ⟨R, 0, none⟩)] w fun e w' => e = .returned (.int .i64 m) ∧ ∃ q, w' = w.drewN q := by
  obtain ⟨g, n, cap, h1, h2, h3, h4, h5, h6⟩ := hl.got
  have c5 := h.c_wv
  rw [h1] at c5
  have hi : (((n + 1 : Nat) : Int) - 1) = (n : Int) := by omega
  have i0 : (0 : Int) ≤ (n : Int) := by omega
  have i1 : (n : Int) < ((n + 1 : Nat) : Int) := by omega
  clear h h1 hl
  go_enter Tryz.func227, Tryz.ntmps227
  go_wp2_with fail
  go_quiet (fail)
  go_wp2_with fail
  go_ret
  exact ⟨rfl, _, rfl⟩
set_option maxRecDepth 100000 in
set_option maxHeartbeats 1600000 in
theorem fits_is (w : World) (R : Nat) (c : Rc) (m p lf : Int) (b : Bool) (h : Rd w R c) (hl : Last w c m) (hb : (decide (0 < p) && decide (p ≤ m) && decide (c.p ≤ lf)) = b) :
    Calls Tryz.prog 230 #[.pointer (some ⟨R, 0, none⟩), .int .i64 p, .int .i64 lf] w fun e w' => e = .returned (.bool b) ∧ ∃ q, w' = w.drewN q := by
  have M := Lib.hid (most_is w R c m h hl)
  have c8 := h.c_p
  obtain ⟨pr, hp⟩ : ∃ pr, c.p = pr := ⟨_, rfl⟩
  rw [hp] at c8 hb
  clear h hl hp
  cases h1 : decide (0 < p)
  · rw [h1] at hb
    obtain rfl : false = b := by simpa using hb
    have d1 : ¬ (0 < p) := by simpa using h1
    clear hb h1
    go_enter Tryz.func230, Tryz.ntmps230
    go_wp2_with fail
    go_ret
    exact ⟨rfl, 0, rfl⟩
  · have d1 : 0 < p := by simpa using h1
    rw [h1] at hb
    cases h2 : decide (p ≤ m)
    · rw [h2] at hb
      obtain rfl : false = b := by simpa using hb
      have d2 : ¬ (p ≤ m) := by simpa using h2
      clear hb h1 h2
      go_enter Tryz.func230, Tryz.ntmps230
      go_wp2_with fail
      refine M.out.mono ?_
      rintro e w1 ⟨rfl, q, rfl⟩
      go_wp2_with fail
      go_ret
      exact ⟨rfl, q, rfl⟩
    · have d2 : p ≤ m := by simpa using h2
      rw [h2] at hb
      simp only [Bool.true_and] at hb
      clear h1 h2
      subst hb
      go_enter Tryz.func230, Tryz.ntmps230
      go_wp2_with fail
      refine M.out.mono ?_
      rintro e w1 ⟨rfl, q, rfl⟩
      go_wp2_with fail
      go_ret
      exact ⟨by simp, q, rfl⟩
set_option maxRecDepth 100000 in
set_option maxHeartbeats 1600000 in
theorem mayJoin_is (w : World) (t : Tok) (hs : t.s.length ≤ 1000000) :
    Calls Tryz.prog 191 #[t.val] w fun e w' => e = .returned (.bool (joinsZ t)) ∧ Below w.heap.size w w' := by
  obtain ⟨b, hb⟩ : ∃ b, joinsZ t = b := ⟨_, rfl⟩
  rw [hb]
  have BA := Lib.hid (fun o => (Below.refl w.heap.size w).alloc (Nat.le_refl _) o)
  obtain ⟨tk, tl, tn, ts, tO, tt⟩ := t
  obtain ⟨S, hS⟩ : ∃ S : ByteArray, (⟨ts.toArray⟩ : ByteArray) = S := ⟨_, rfl⟩
  have hSl : ts = S.toList := by rw [← hS, Lib.toList_data]
  have hsz : S.size = ts.length := by rw [Lib.size_eq, ← hS]
  simp only [joinsZ, Tok.val, hS] at hb hs ⊢
  rw [← hsz] at hb hs
  rw [hSl] at hb
  clear hS hSl hsz
  cases k1 : (tk == 1)
  · cases k2 : (tk == 2)
    · rw [if_neg (by simp at k1 k2; omega)] at hb
      cases k6 : (tk == 6)
      · rw [k6] at hb
        obtain rfl : false = b := by simpa using hb
        clear hb
        go_enter Tryz.func191, Tryz.ntmps191
        go_wp2_with fail
        go_ret
        exact ⟨rfl, BA.out _⟩
      · rw [k6] at hb
        have hq : (S.toList == [44]) = b := by rw [← hb]; simp
        clear hb
        cases b <;>
        · go_enter Tryz.func191, Tryz.ntmps191
          go_wp2_with fail
          go_ret
          exact ⟨rfl, BA.out _⟩
    · rw [if_pos (by simp at k2; omega)] at hb
      subst hb
      go_enter Tryz.func191, Tryz.ntmps191
      go_wp2_with fail
      go_ret
      exact ⟨by simp <;> omega, BA.out _⟩
  · rw [if_pos (by simp at k1; omega)] at hb
    subst hb
    go_enter Tryz.func191, Tryz.ntmps191
    go_wp2_with fail
    go_ret
    exact ⟨by simp <;> omega, BA.out _⟩
structure Tab' (w : World) (a m : Nat) (L : List Ops.Df) : Prop where
  lay : Ops.Lay [] w
  tb : Ops.Tb w a m L
theorem Tab'.on {w w' : World} {a m : Nat} {L : List Ops.Df} (h : Tab' w a m L) (b : Below w.heap.size w w') : Tab' w' a m L := ⟨h.lay.on b, h.tb.on b⟩
set_option maxRecDepth 100000 in
set_option maxHeartbeats 1600000 in
theorem mayBegin_is (w : World) (R : Nat) (c : Rc) (m : Nat) (L : List Ops.Df) (t : Tok) (h : Rd w R c) (ht : Tab' w c.a m L) (hs : t.s.length ≤ 1000000) :
    Calls Tryz.prog 228 #[.pointer (some ⟨R, 0, none⟩), t.val] w fun e w' => e = .returned (.bool (beginsZ L t)) ∧ Below w.heap.size w w' := by
  obtain ⟨b, hb⟩ : ∃ b, beginsZ L t = b := ⟨_, rfl⟩
  rw [hb]
  have BA := Lib.hid (fun o => (Below.refl w.heap.size w).alloc (Nat.le_refl _) o)
  have RR := fun o => h.on (BA.out o)
  have HRR := Lib.hid (fun w1 (b1 : Below w.heap.size w w1) => h.on b1)
  have c2 := fun o => (RR o).c_a
  obtain ⟨S, hS⟩ : ∃ S, t.b = S := ⟨_, rfl⟩
  have hsz : S.size ≤ 1000000 := by rw [Lib.size_eq, ← hS]; exact hs
  have P1 := Lib.hid (fun w1 (b1 : Below w.heap.size w w1) => Ops.prefix_is c.a m L S w1 (ht.on b1).lay (ht.on b1).tb (by unfold maxLen; omega))
  have P2 := Lib.hid (fun w1 (b1 : Below w.heap.size w w1) => Ops.is_is c.a m L S w1 (ht.on b1).tb (by unfold maxLen; omega))
  obtain ⟨a, hA⟩ : ∃ a, c.a = a := ⟨_, rfl⟩
  rw [hA] at P1 P2
  have c2' : ∀ o, (w.alloc o).cell? ⟨R, 2, none⟩ = some (.pointer (some ⟨a, 0, none⟩)) := fun o => by rw [c2 o, hA]
  clear c2 RR h ht hs hA
  obtain ⟨tk, tl, tn, ts, tO, tt⟩ := t
  have hSl : ts = S.toList := by rw [← hS, Lib.toList_data]; rfl
  simp only [Tok.b] at hS
  simp only [beginsZ, preP, Tok.val, Tok.b, hS] at hb ⊢
  rw [hSl] at hb
  clear hSl hS
  have NEW := Lib.hid (fun W1 (hW : w.alloc (.cells #[.int .i64 tk, .int .i64 tl, .int .i64 tn, .string S, .bool tO, .bool tt] 48) = W1) => show Below w.heap.size w W1 ∧ W1.heap[w.heap.size]? = some (.cells #[.int .i64 tk, .int .i64 tl, .int .i64 tn, .string S, .bool tO, .bool tt] 48 (0, 0)) ∧ W1.cell? ⟨R, 2, none⟩ = some (.pointer (some ⟨a, 0, none⟩)) ∧ R < W1.heap.size ∧ w.heap.size < W1.heap.size by
    subst hW
    exact ⟨BA.out _, heap_alloc_new w _, c2' _, World.block_lt_of_cell? _ _ (c2' _), by simp⟩)
  cases k3 : (tk == 3)
  · cases k4 : (tk == 4)
    · cases k5 : (tk == 5)
      · rw [if_neg (by simp at k3 k4 k5; omega)] at hb
        cases k6 : (tk == 6)
        · rw [if_neg (by simp at k6; omega)] at hb
          by_cases k12 : tk = 1 ∨ tk = 2
          · rw [if_pos k12] at hb
            have KEEP := Lib.hid (fun w1 (h1 : Below w.heap.size w w1) w5 (b5 : Below w1.heap.size w1 w5) (n1 : w1.heap[w.heap.size]? = some (.cells #[.int .i64 tk, .int .i64 tl, .int .i64 tn, .string S, .bool tO, .bool tt] 48 (0, 0))) (y2 : w1.cell? ⟨R, 2, none⟩ = some (.pointer (some ⟨a, 0, none⟩))) => show (w5.cell? ⟨R, 2, none⟩ = some (.pointer (some ⟨a, 0, none⟩)) ∧ w5.cell? ⟨w.heap.size, 3, none⟩ = some (.string S)) ∧ w5.cell? ⟨w.heap.size, 4, none⟩ = some (.bool tO) ∧ Below w.heap.size w w5 from
              ⟨⟨(b5.cell (World.block_lt_of_cell? _ _ y2)).trans y2, cell_of_heap ((b5.block _ (heap_lt n1)).trans n1) rfl⟩, cell_of_heap ((b5.block _ (heap_lt n1)).trans n1) rfl, h1.trans (b5.mono h1.size)⟩)
            obtain ⟨p, hp⟩ : ∃ p, (Ops.sidesZ L S 1).1 = p := ⟨_, rfl⟩
            obtain ⟨r, hr⟩ : ∃ r, (Ops.sidesZ L S 1).2.2 = r := ⟨_, rfl⟩
            obtain ⟨z, hz⟩ : ∃ z, Ops.isZ L S = z := ⟨_, rfl⟩
            rw [hp, hr] at P1
            rw [hz] at P2
            rw [hp, hz] at hb
            clear hp hr hz c2'
            have go1 : ∀ (Q : Prop), (tO = true → Q) → (tO = false → decide (0 < p) = true → Q) → (tO = false → decide (0 < p) = false → Q) → Q := fun Q f1 f2 f3 => by
              cases h1 : tO
              · cases h2 : decide (0 < p)
                · exact f3 h1 h2
                · exact f2 h1 h2
              · exact f1 h1
            rcases k12 with h12 | h12
            · subst h12
              refine go1 _ (fun e1 => ?_) (fun e1 e2 => ?_) (fun e1 e2 => ?_)
              · subst e1
                go_enter Tryz.func228, Tryz.ntmps228
                go_wp2_with fail
                obtain ⟨W1, hW1⟩ : ∃ W1, w.alloc (.cells #[.int .i64 1, .int .i64 tl, .int .i64 tn, .string S, .bool true, .bool tt] 48) = W1 := ⟨_, rfl⟩
                rw [hW1]
                obtain ⟨b1, n1, y2, r1, s1⟩ := NEW.out W1 hW1
                have B1 := Lib.hid b1
                have KP := Lib.hid (fun w5 b5 => KEEP.out W1 b1 w5 b5 n1 y2)
                have BD := Lib.hid (show Below w.heap.size w W1.drew from b1.drew)
                obtain ⟨⟨q0, q1⟩, _, _⟩ := KP.out W1 (Below.refl _ _)
                clear hW1 b1 n1 y2 r1 s1 NEW KEEP
                go_region_held3 (fun w' => w'.cell? ⟨R, 2, none⟩ = some (.pointer (some ⟨a, 0, none⟩)) ∧ w'.cell? ⟨w.heap.size, 3, none⟩ = some (.string S)) (first | exact (KP.out _ (Below.refl _ _).drew).1 | exact (KP.out _ ((Below.refl _ _).drew.trans B2.out)).1) (first | (go_at_call 207; refine (P1.out _ BD.out).mono ?_; rintro _ w2 ⟨rfl, b2⟩; have B2 := Lib.hid b2))
                rename_i hHeld
                clear hHeld q0 q1
                obtain ⟨⟨q0, q1⟩, q4, q5⟩ := KP.out w2 ((Below.refl _ _).drew.trans B2.out)
                have Q5 := Lib.hid q5
                clear q5
                go_wp2_with fail
                go_quiet (fail)
                go_wp2_with fail
                go_ret
                exact ⟨by rw [← hb]; simp_all, Q5.out.trans ⟨rfl, rfl, rfl, Nat.le_refl _, fun _ _ => rfl⟩⟩
              · subst e1
                have e2' : 0 < p := by simpa using e2
                go_enter Tryz.func228, Tryz.ntmps228
                go_wp2_with fail
                obtain ⟨W1, hW1⟩ : ∃ W1, w.alloc (.cells #[.int .i64 1, .int .i64 tl, .int .i64 tn, .string S, .bool false, .bool tt] 48) = W1 := ⟨_, rfl⟩
                rw [hW1]
                obtain ⟨b1, n1, y2, r1, s1⟩ := NEW.out W1 hW1
                have B1 := Lib.hid b1
                have KP := Lib.hid (fun w5 b5 => KEEP.out W1 b1 w5 b5 n1 y2)
                have BD := Lib.hid (show Below w.heap.size w W1.drew from b1.drew)
                obtain ⟨⟨q0, q1⟩, _, _⟩ := KP.out W1 (Below.refl _ _)
                clear hW1 b1 n1 y2 r1 s1 NEW KEEP
                go_region_held3 (fun w' => w'.cell? ⟨R, 2, none⟩ = some (.pointer (some ⟨a, 0, none⟩)) ∧ w'.cell? ⟨w.heap.size, 3, none⟩ = some (.string S)) (first | exact (KP.out _ (Below.refl _ _).drew).1 | exact (KP.out _ ((Below.refl _ _).drew.trans B2.out)).1) (first | (go_at_call 207; refine (P1.out _ BD.out).mono ?_; rintro _ w2 ⟨rfl, b2⟩; have B2 := Lib.hid b2))
                rename_i hHeld
                clear hHeld q0 q1
                obtain ⟨⟨q0, q1⟩, q4, q5⟩ := KP.out w2 ((Below.refl _ _).drew.trans B2.out)
                have Q5 := Lib.hid q5
                clear q5
                go_wp2_with fail
                go_quiet (fail)
                go_wp2_with fail
                go_ret
                exact ⟨by rw [← hb]; simp_all, Q5.out.trans ⟨rfl, rfl, rfl, Nat.le_refl _, fun _ _ => rfl⟩⟩
              · subst e1
                have e2' : ¬ (0 < p) := by simpa using e2
                have hb' : (!z) = b := by rw [e2] at hb; simpa using hb
                clear hb
                go_enter Tryz.func228, Tryz.ntmps228
                go_wp2_with fail
                obtain ⟨W1, hW1⟩ : ∃ W1, w.alloc (.cells #[.int .i64 1, .int .i64 tl, .int .i64 tn, .string S, .bool false, .bool tt] 48) = W1 := ⟨_, rfl⟩
                rw [hW1]
                obtain ⟨b1, n1, y2, r1, s1⟩ := NEW.out W1 hW1
                have B1 := Lib.hid b1
                have KP := Lib.hid (fun w5 b5 => KEEP.out W1 b1 w5 b5 n1 y2)
                have BD := Lib.hid (show Below w.heap.size w W1.drew from b1.drew)
                obtain ⟨⟨q0, q1⟩, _, _⟩ := KP.out W1 (Below.refl _ _)
                clear hW1 b1 n1 y2 r1 s1 NEW KEEP
                go_region_held3 (fun w' => w'.cell? ⟨R, 2, none⟩ = some (.pointer (some ⟨a, 0, none⟩)) ∧ w'.cell? ⟨w.heap.size, 3, none⟩ = some (.string S)) (first | exact (KP.out _ (Below.refl _ _).drew).1 | exact (KP.out _ ((Below.refl _ _).drew.trans B2.out)).1) (first | (go_at_call 207; refine (P1.out _ BD.out).mono ?_; rintro _ w2 ⟨rfl, b2⟩; have B2 := Lib.hid b2))
                rename_i hHeld
                clear hHeld q0 q1
                obtain ⟨⟨q0, q1⟩, q4, q5⟩ := KP.out w2 ((Below.refl _ _).drew.trans B2.out)
                have Q5 := Lib.hid q5
                have Q5D := Lib.hid (show Below w.heap.size w w2.drew from q5.drew)
                have K2 := Lib.hid (fun w5 (b5 : Below w2.heap.size w2 w5) => show w5.cell? ⟨R, 2, none⟩ = some (.pointer (some ⟨a, 0, none⟩)) ∧ w5.cell? ⟨w.heap.size, 3, none⟩ = some (.string S) ∧ w5.cell? ⟨w.heap.size, 4, none⟩ = some (.bool false) from ⟨(b5.cell (World.block_lt_of_cell? _ _ q0)).trans q0, (b5.cell (World.block_lt_of_cell? _ _ q1)).trans q1, (b5.cell (World.block_lt_of_cell? _ _ q4)).trans q4⟩)
                clear q5
                go_wp2_with fail
                go_region_held3 (fun w' => w'.cell? ⟨R, 2, none⟩ = some (.pointer (some ⟨a, 0, none⟩)) ∧ w'.cell? ⟨w.heap.size, 3, none⟩ = some (.string S) ∧ w'.cell? ⟨w.heap.size, 4, none⟩ = some (.bool false)) (first | exact ⟨q0, q1, q4⟩ | exact (K2.out _ (Below.refl _ _).drew) | exact (K2.out _ ((Below.refl _ _).drew.trans B3.out))) (first | (go_at_call 237; refine (P2.out _ Q5D.out).mono ?_; rintro _ w3 ⟨rfl, b3⟩; have B3 := Lib.hid b3))
                rename_i hHeld
                clear hHeld q0 q1 q4
                go_wp2_with fail
                go_ret
                exact ⟨by rw [← hb']; rfl, Q5.out.trans (((Below.refl _ _).drew.trans B3.out).mono Q5.out.size)⟩
            · subst h12
              refine go1 _ (fun e1 => ?_) (fun e1 e2 => ?_) (fun e1 e2 => ?_)
              · subst e1
                go_enter Tryz.func228, Tryz.ntmps228
                go_wp2_with fail
                obtain ⟨W1, hW1⟩ : ∃ W1, w.alloc (.cells #[.int .i64 2, .int .i64 tl, .int .i64 tn, .string S, .bool true, .bool tt] 48) = W1 := ⟨_, rfl⟩
                rw [hW1]
                obtain ⟨b1, n1, y2, r1, s1⟩ := NEW.out W1 hW1
                have B1 := Lib.hid b1
                have KP := Lib.hid (fun w5 b5 => KEEP.out W1 b1 w5 b5 n1 y2)
                have BD := Lib.hid (show Below w.heap.size w W1.drew from b1.drew)
                obtain ⟨⟨q0, q1⟩, _, _⟩ := KP.out W1 (Below.refl _ _)
                clear hW1 b1 n1 y2 r1 s1 NEW KEEP
                go_region_held3 (fun w' => w'.cell? ⟨R, 2, none⟩ = some (.pointer (some ⟨a, 0, none⟩)) ∧ w'.cell? ⟨w.heap.size, 3, none⟩ = some (.string S)) (first | exact (KP.out _ (Below.refl _ _).drew).1 | exact (KP.out _ ((Below.refl _ _).drew.trans B2.out)).1) (first | (go_at_call 207; refine (P1.out _ BD.out).mono ?_; rintro _ w2 ⟨rfl, b2⟩; have B2 := Lib.hid b2))
                rename_i hHeld
                clear hHeld q0 q1
                obtain ⟨⟨q0, q1⟩, q4, q5⟩ := KP.out w2 ((Below.refl _ _).drew.trans B2.out)
                have Q5 := Lib.hid q5
                clear q5
                go_wp2_with fail
                go_quiet (fail)
                go_wp2_with fail
                go_ret
                exact ⟨by rw [← hb]; simp_all, Q5.out.trans ⟨rfl, rfl, rfl, Nat.le_refl _, fun _ _ => rfl⟩⟩
              · subst e1
                have e2' : 0 < p := by simpa using e2
                go_enter Tryz.func228, Tryz.ntmps228
                go_wp2_with fail
                obtain ⟨W1, hW1⟩ : ∃ W1, w.alloc (.cells #[.int .i64 2, .int .i64 tl, .int .i64 tn, .string S, .bool false, .bool tt] 48) = W1 := ⟨_, rfl⟩
                rw [hW1]
                obtain ⟨b1, n1, y2, r1, s1⟩ := NEW.out W1 hW1
                have B1 := Lib.hid b1
                have KP := Lib.hid (fun w5 b5 => KEEP.out W1 b1 w5 b5 n1 y2)
                have BD := Lib.hid (show Below w.heap.size w W1.drew from b1.drew)
                obtain ⟨⟨q0, q1⟩, _, _⟩ := KP.out W1 (Below.refl _ _)
                clear hW1 b1 n1 y2 r1 s1 NEW KEEP
                go_region_held3 (fun w' => w'.cell? ⟨R, 2, none⟩ = some (.pointer (some ⟨a, 0, none⟩)) ∧ w'.cell? ⟨w.heap.size, 3, none⟩ = some (.string S)) (first | exact (KP.out _ (Below.refl _ _).drew).1 | exact (KP.out _ ((Below.refl _ _).drew.trans B2.out)).1) (first | (go_at_call 207; refine (P1.out _ BD.out).mono ?_; rintro _ w2 ⟨rfl, b2⟩; have B2 := Lib.hid b2))
                rename_i hHeld
                clear hHeld q0 q1
                obtain ⟨⟨q0, q1⟩, q4, q5⟩ := KP.out w2 ((Below.refl _ _).drew.trans B2.out)
                have Q5 := Lib.hid q5
                clear q5
                go_wp2_with fail
                go_quiet (fail)
                go_wp2_with fail
                go_ret
                exact ⟨by rw [← hb]; simp_all, Q5.out.trans ⟨rfl, rfl, rfl, Nat.le_refl _, fun _ _ => rfl⟩⟩
              · subst e1
                have e2' : ¬ (0 < p) := by simpa using e2
                have hb' : (!z) = b := by rw [e2] at hb; simpa using hb
                clear hb
                go_enter Tryz.func228, Tryz.ntmps228
                go_wp2_with fail
                obtain ⟨W1, hW1⟩ : ∃ W1, w.alloc (.cells #[.int .i64 2, .int .i64 tl, .int .i64 tn, .string S, .bool false, .bool tt] 48) = W1 := ⟨_, rfl⟩
                rw [hW1]
                obtain ⟨b1, n1, y2, r1, s1⟩ := NEW.out W1 hW1
                have B1 := Lib.hid b1
                have KP := Lib.hid (fun w5 b5 => KEEP.out W1 b1 w5 b5 n1 y2)
                have BD := Lib.hid (show Below w.heap.size w W1.drew from b1.drew)
                obtain ⟨⟨q0, q1⟩, _, _⟩ := KP.out W1 (Below.refl _ _)
                clear hW1 b1 n1 y2 r1 s1 NEW KEEP
                go_region_held3 (fun w' => w'.cell? ⟨R, 2, none⟩ = some (.pointer (some ⟨a, 0, none⟩)) ∧ w'.cell? ⟨w.heap.size, 3, none⟩ = some (.string S)) (first | exact (KP.out _ (Below.refl _ _).drew).1 | exact (KP.out _ ((Below.refl _ _).drew.trans B2.out)).1) (first | (go_at_call 207; refine (P1.out _ BD.out).mono ?_; rintro _ w2 ⟨rfl, b2⟩; have B2 := Lib.hid b2))
                rename_i hHeld
                clear hHeld q0 q1
                obtain ⟨⟨q0, q1⟩, q4, q5⟩ := KP.out w2 ((Below.refl _ _).drew.trans B2.out)
                have Q5 := Lib.hid q5
                have Q5D := Lib.hid (show Below w.heap.size w w2.drew from q5.drew)
                have K2 := Lib.hid (fun w5 (b5 : Below w2.heap.size w2 w5) => show w5.cell? ⟨R, 2, none⟩ = some (.pointer (some ⟨a, 0, none⟩)) ∧ w5.cell? ⟨w.heap.size, 3, none⟩ = some (.string S) ∧ w5.cell? ⟨w.heap.size, 4, none⟩ = some (.bool false) from ⟨(b5.cell (World.block_lt_of_cell? _ _ q0)).trans q0, (b5.cell (World.block_lt_of_cell? _ _ q1)).trans q1, (b5.cell (World.block_lt_of_cell? _ _ q4)).trans q4⟩)
                clear q5
                go_wp2_with fail
                go_region_held3 (fun w' => w'.cell? ⟨R, 2, none⟩ = some (.pointer (some ⟨a, 0, none⟩)) ∧ w'.cell? ⟨w.heap.size, 3, none⟩ = some (.string S) ∧ w'.cell? ⟨w.heap.size, 4, none⟩ = some (.bool false)) (first | exact ⟨q0, q1, q4⟩ | exact (K2.out _ (Below.refl _ _).drew) | exact (K2.out _ ((Below.refl _ _).drew.trans B3.out))) (first | (go_at_call 237; refine (P2.out _ Q5D.out).mono ?_; rintro _ w3 ⟨rfl, b3⟩; have B3 := Lib.hid b3))
                rename_i hHeld
                clear hHeld q0 q1 q4
                go_wp2_with fail
                go_ret
                exact ⟨by rw [← hb']; rfl, Q5.out.trans (((Below.refl _ _).drew.trans B3.out).mono Q5.out.size)⟩
          · rw [if_neg k12] at hb
            have k1 : (tk == 1) = false := by simp; omega
            have k2 : (tk == 2) = false := by simp; omega
            subst hb
            clear c2' NEW
            go_enter Tryz.func228, Tryz.ntmps228
            go_wp2_with fail
            go_ret
            exact ⟨rfl, BA.out _⟩
        · rw [if_pos (by simpa using k6)] at hb
          clear c2' NEW
          cases q1 : (S.toList == [40])
          · cases q2 : (S.toList == [91])
            · rw [q1, q2] at hb
              simp only [Bool.false_or] at hb
              go_enter Tryz.func228, Tryz.ntmps228
              go_wp2_with fail
              go_ret
              exact ⟨by rw [← hb]; rfl, BA.out _⟩
            · rw [q1, q2] at hb
              obtain rfl : true = b := by simpa using hb
              clear hb
              go_enter Tryz.func228, Tryz.ntmps228
              go_wp2_with fail
              go_ret
              exact ⟨rfl, BA.out _⟩
          · rw [q1] at hb
            obtain rfl : true = b := by simpa using hb
            clear hb
            go_enter Tryz.func228, Tryz.ntmps228
            go_wp2_with fail
            go_ret
            exact ⟨rfl, BA.out _⟩
      · rw [if_pos (by simp at k5; omega)] at hb
        subst hb
        clear c2' NEW
        go_enter Tryz.func228, Tryz.ntmps228
        go_wp2_with fail
        go_ret
        exact ⟨rfl, BA.out _⟩
    · rw [if_pos (by simp at k4; omega)] at hb
      subst hb
      clear c2' NEW
      go_enter Tryz.func228, Tryz.ntmps228
      go_wp2_with fail
      go_ret
      exact ⟨rfl, BA.out _⟩
  · rw [if_pos (by simp at k3; omega)] at hb
    subst hb
    clear c2' NEW
    go_enter Tryz.func228, Tryz.ntmps228
    go_wp2_with fail
    go_ret
    exact ⟨rfl, BA.out _⟩
end Go.Proofs.YtkplokfcjjcpcaaGreatDoor
end
section
namespace Go.Proofs.YtkplokfcjjcpcaaGreatDoor
open Go Go.RowKit Go.Maps Trm
attribute [local go_sem ↓] Go.wp_at_zero Go.wp_at_succ
def codesA (l : List UInt8) : List AT := l.map fun c => leafA 2 (c.toNat : Int) ⟨#[]⟩
theorem codesA_len (l : List UInt8) : (codesA l).length = l.length := by simp [codesA]
theorem codesA_erase (l : List UInt8) : ATs.erase (codesA l) = l.map fun c => intT (c.toNat : Int) := by
  induction l with
  | nil => rfl
  | cons c r ih =>
    rw [List.map_cons, ← ih]
    rfl
theorem codesA_snoc (l : List UInt8) (c : UInt8) : headCells (codesA (l ++ [c])) = headCells (codesA l) ++ [.int .i64 2, .int .i64 (c.toNat : Int), .string ⟨#[]⟩, .slice none 0 0] := by
  unfold codesA
  rw [List.map_append, headCells_app]
  rfl
theorem grown_drop {w w' : World} {o : Obj} {row : Option Nat} {B : Nat} (h : Below B w w') (hw : B ≤ w.heap.size) {w'' : World} (g : (w'.alloc o).grownBy w'' row) (hr : ∀ k, row = some k → B ≤ k) : Below B w w'' :=
  (h.alloc (Nat.le_trans hw h.size) o).grown g (by simp; have := h.size; omega) hr
def BytesPost (w : World) (l : List UInt8) (e : Ending) (w' : World) : Prop := ∃ v, e = .returned v ∧ w'.ownsRow w.heap.size 34 4 v (l.take 2000).length (headCells (codesA (l.take 2000))) ∧ Below w.heap.size w w'
structure BytesSt (w : World) (l : List UInt8) (i : Nat) (v : Value) (wr : World) : Prop where
  own : wr.ownsRow w.heap.size 34 4 v i (headCells (codesA (l.take i)))
  below : Below w.heap.size w wr
set_option maxRecDepth 100000 in
set_option maxHeartbeats 3200000 in
theorem bytes_is (s : ByteArray) (w : World) (hs : s.size ≤ 100000) :
    Calls Tryz.prog 181 #[.string s] w (BytesPost w s.data.toList) := by
  obtain ⟨i0, hi, hz0, _, hz1, hz2⟩ := info_some (show (Tryz.prog.info? 34).map (fun i => (i.zero, i.size, i.bytes)) = some (some (.agg #[.int .i64 0, .int .i64 0, .string ⟨#[]⟩, .slice none 0 0]), 4, 56) by kernel_rfl)
  have C := Lib.hid (fun n W => whole_is n W)
  have B0 := Lib.hid (Below.refl w.heap.size w)
  obtain ⟨n, hn⟩ : ∃ n, (s.data.toList.take 2000).length = n := ⟨_, rfl⟩
  have hnl : n ≤ s.size ∧ n ≤ 2000 ∧ (n : Int) = min (s.size : Int) 2000 := by
    rw [← hn, List.length_take, Lib.size_eq]
    omega
  obtain ⟨hn1, hn2, hn3⟩ := hnl
  have HN := Lib.hid hn
  have HT := Lib.hid (show s.data.toList.take 2000 = s.data.toList.take n by
    rw [← hn, List.length_take]
    rcases Nat.le_total 2000 s.data.toList.length with h | h
    · rw [Nat.min_eq_left h]
    · rw [Nat.min_eq_right h, List.take_of_length_le h, List.take_of_length_le (Nat.le_refl _)])
  clear hn
  go_enter Tryz.func181, Tryz.ntmps181
  go_wp2_with fail
  rw [← hn3]
  clear hn3
  go_loopw [3, 8] (fun v vi wr => ∃ i : Nat, vi = .int .i64 i ∧ i ≤ n ∧ Hid (BytesSt w s.data.toList i v wr)) (fun _ vi _ => n - (intOf vi).toNat)
  case atStart => exact ⟨0, rfl, Nat.zero_le _, ⟨World.ownsRow_nil _ _ _ _, B0.out⟩⟩
  case round =>
    obtain ⟨i, rfl, hle, HS⟩ := hrel
    by_cases hlt : i < n
    · have hi2 : i < s.size := by omega
      obtain ⟨va, vk, hv⟩ := owns_slice2 HS.out.own
      subst hv
      obtain ⟨y, hy⟩ : ∃ y, s[i] = y := ⟨_, rfl⟩
      have SN := Lib.hid (take_snoc s i hi2)
      rw [hy] at SN
      have yb := y.toNat_lt
      go_wp2_with fail
      refine (C.out _ _).mono ?_
      rintro e w1 ⟨rfl, b1⟩
      have OWN := Lib.hid (row_keeps (F := fun _ => False) HS.out.own (keeps_below b1) (fun _ _ h => h))
      have BW := Lib.hid (HS.out.below.trans (b1.mono HS.out.below.size))
      have hbs := BW.out.size
      clear b1 HS
      unfold AT.val leafA
      simp only [AT.k, AT.n, AT.s, AT.sv]
      go_wp2_with (at_builtin; refine wpList_append_lies _ rfl (.tmp 11) (.tmp 17) 32 rfl w.heap.size 34 i0 (.agg #[.int .i64 0, .int .i64 0, .string ⟨#[]⟩, .slice none 0 0]) 4 56 Tryz.underlying32 hi hz0 hz1 hz2 rfl (by decide) _ i _ rfl (OWN.out.alloc _) ⟨w1.heap.size, 0, none⟩ 1 1 [.int .i64 2, .int .i64 (y.toNat : Int), .string ⟨#[]⟩, .slice none 0 0] rfl rfl (World.news_of_block (heap_alloc_new w1 _)) (by simp [Value.oneCell']) (by omega) ?_ ?_ ?_ (w1.heap.size + 1) (by simp) ?_)
      · unfold maxLen; omega
      · omega
      · simp; omega
      intro g cap w2 hown hgrow hat hlt2
      have NX : Hid (BytesSt w s.data.toList (i + 1) (.slice (some ⟨g, 0, none⟩) (i + 1) cap) w2) := by
        refine ⟨?_, grown_drop BW.out (Nat.le_refl _) hgrow fun k hk => (OWN.out.lt k hk).1⟩
        rw [SN.out, codesA_snoc]
        exact hown
      clear hown hgrow hat hlt2 OWN BW
      go_wp2_with fail
      go_roundw
      case rel => exact ⟨i + 1, by go_num, by omega, NX⟩
      case measure => simp [intOf]; omega
    · obtain rfl : i = n := by omega
      go_wp2_with fail
      go_ret
      refine ⟨_, rfl, ?_, HS.out.below⟩
      rw [HN.out, HT.out]
      exact HS.out.own
end Go.Proofs.YtkplokfcjjcpcaaGreatDoor
end
