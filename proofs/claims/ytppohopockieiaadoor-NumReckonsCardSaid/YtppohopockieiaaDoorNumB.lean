/- The tables of operators: a map of functions that a call makes, and what is found in it. Conditions: none beyond those of each law. -/
import Derived.Test.YtppohopockieiaaDoorNumA
import Derived.Maps.OwnOps
import Derived.Lib.Hide
namespace Go.Proofs.YtppohopockieiaaDoor
open Go Go.RowKit Go.Maps
open Go.WideMaps Go.WideElems

/-- how a function value reads: as its number -/
def fnR (v : Value) : Option (DataW Unit × List MemPlace) :=
  match v with
  | .func (.func k) a b => if a.size = 0 ∧ b.size = 0 then some (.lit (.int .i64 k), []) else none
  | _ => none
theorem fnR_mk (k : Nat) : fnR (.func (.func k) #[] #[]) = some (.lit (.int .i64 k), []) := rfl
theorem fnR_inv {v : Value} {d : DataW Unit} {ps : List MemPlace} (h : fnR v = some (d, ps)) : ∃ k : Nat, v = .func (.func k) #[] #[] ∧ d = .lit (.int .i64 k) := by
  unfold fnR at h
  split at h
  · rename_i k a b
    split at h
    · rename_i hs
      simp only [Option.some.injEq, Prod.mk.injEq] at h
      obtain rfl := Array.eq_empty_of_size_eq_zero hs.1
      obtain rfl := Array.eq_empty_of_size_eq_zero hs.2
      exact ⟨k, rfl, h.1.symm⟩
    · cases h
  · cases h

/-- one entry of a map literal -/
theorem wpList_insert_fn {P : Program} (w : World) {ops : Array Oper} {rest : List Oper} {o : Oper} {a : Act} {Q : Exit → Act → World → Prop}
    (hg : o.guard = none) (m x v : Operand) (t : TypeId) (hop : o.op = Op.insert t m x v)
    (k e : TypeId) (K : Keyed P k) (ht : P.underlying t = some (.map k e)) (b n : Nat) (D : DataW Unit)
    (hm : a.eval m = .map (some b)) (hown : w.ownsMap P k fnR b n D) (hn : n < maxLen) (key : Value) (kl : Lit) (hx : a.eval x = key) (hkey : keyOf P k key = some kl)
    (f : Nat) (hv : a.eval v = .func (.func f) #[] #[])
    (hK : ∀ w', w'.ownsMap P k fnR b (n + 1) (D.put kl (.lit (.int .i64 f))) → w.grownBy w' (some b) → wpList P ops Q rest (a.put o.dst undef) w') :
    wpList P ops Q (o :: rest) a w := by
  refine wpList_plain hg fun K' hK' => ?_
  obtain ⟨w', hrun, r1, r2⟩ := hown.update K ht hn hkey (fnR_mk f)
  unfold Oper.wp
  simp [execOp, hop, hm, hx, hv, hrun, Result.andThen]
  exact hK' _ _ (hK w' r1 r2)

/-- 'v, ok := m[k]': there -/
theorem own_fn_there {P : Program} {w : World} {k e t : TypeId} {b n : Nat} {D : DataW Unit} (hown : w.ownsMap P k fnR b n D) (K : Keyed P k) (ht : P.underlying t = some (.map k e)) {z : Value} (hz : (zeroValue e).run P w = .ok z w)
    {key : Value} {kl : Lit} (hkey : keyOf P k key = some kl) {f : Nat} (hat : D.atKey kl .nil = .lit (.int .i64 f)) :
    (Instr.lookup t (.map (some b)) key true).run P w = .ok (.tuple #[.func (.func f) #[] #[], .bool true]) w := by
  obtain ⟨es, clock, hb, F, _, rfl⟩ := hown
  rcases Maps.fit_look true K ht hz hb F hkey with ⟨hrun, _, h⟩ | ⟨e0, y, _, _, hrun, hRv, h, _⟩
  · rw [h .nil] at hat
    cases hat
  · rw [h .nil] at hat
    obtain ⟨d, ps⟩ := y
    obtain ⟨k', hv, hd⟩ := fnR_inv hRv
    rw [hrun, hv]
    simp only [hd] at hat
    simp only [DataW.lit.injEq, Lit.int.injEq, true_and] at hat
    have : k' = f := by omega
    subst this
    rfl

/-- 'v, ok := m[k]': not there -/
theorem own_fn_not {P : Program} {w : World} {k e t : TypeId} {b n : Nat} {D : DataW Unit} (hown : w.ownsMap P k fnR b n D) (K : Keyed P k) (ht : P.underlying t = some (.map k e)) {z : Value} (hz : (zeroValue e).run P w = .ok z w)
    {key : Value} {kl : Lit} (hkey : keyOf P k key = some kl) (hat : D.atKey kl .nil = .nil) :
    (Instr.lookup t (.map (some b)) key true).run P w = .ok (.tuple #[z, .bool false]) w := by
  obtain ⟨es, clock, hb, F, _, rfl⟩ := hown
  rcases Maps.fit_look true K ht hz hb F hkey with ⟨hrun, _, h⟩ | ⟨e0, y, _, _, hrun, hRv, h, _⟩
  · exact hrun
  · rw [h .nil] at hat
    obtain ⟨d, ps⟩ := y
    obtain ⟨k', hv, hd⟩ := fnR_inv hRv
    simp only [hd] at hat
    cases hat

theorem strKey : Keyed Tryd.prog 9 := string_keyed Tryd.underlying9
theorem keyOf_str {s : ByteArray} (hs : s.size ≤ maxLen) : keyOf Tryd.prog 9 (.string s) = some (.string s.data.toList) := keyOf_string_mk Tryd.underlying9 hs

/-- the table of operators of two numbers -/
def twoD : DataW Unit :=
  DataW.put (DataW.put (DataW.put (DataW.put (DataW.put (DataW.put (DataW.put (DataW.put (DataW.put (DataW.put (DataW.put (DataW.put (DataW.put (DataW.put (DataW.put (DataW.put (.map [])
    (.string [43]) (.lit (.int .i64 (31 : Nat)))) (.string [45]) (.lit (.int .i64 (32 : Nat)))) (.string [42]) (.lit (.int .i64 (33 : Nat))))
    (.string [47, 47]) (.lit (.int .i64 (34 : Nat)))) (.string [114, 101, 109]) (.lit (.int .i64 (35 : Nat)))) (.string [100, 105, 118]) (.lit (.int .i64 (36 : Nat))))
    (.string [109, 111, 100]) (.lit (.int .i64 (37 : Nat)))) (.string [109, 105, 110]) (.lit (.int .i64 (38 : Nat)))) (.string [109, 97, 120]) (.lit (.int .i64 (39 : Nat))))
    (.string [47, 92]) (.lit (.int .i64 (40 : Nat)))) (.string [92, 47]) (.lit (.int .i64 (41 : Nat)))) (.string [120, 111, 114]) (.lit (.int .i64 (42 : Nat))))
    (.string [60, 60]) (.lit (.int .i64 (43 : Nat)))) (.string [62, 62]) (.lit (.int .i64 (44 : Nat)))) (.string [42, 42]) (.lit (.int .i64 (45 : Nat))))
    (.string [94]) (.lit (.int .i64 (45 : Nat)))

set_option maxHeartbeats 2000000 in
theorem ofTwo_is (w : World) :
    Calls Tryd.prog 19 #[] w fun e w' => e = .returned (.map (some w.heap.size)) ∧ w'.ownsMap Tryd.prog 9 fnR w.heap.size 16 twoD ∧ Below w.heap.size w w' := by
  have hmm := run_makeMap (P := Tryd.prog) 35 w
  have h0 := World.ownsMap_made w Tryd.prog 9 fnR
  have b0 : Below w.heap.size w (w.alloc (.map #[] 0)) := (Below.refl _ _).alloc (Nat.le_refl _) _
  obtain ⟨w0, hw0⟩ : ∃ w0, w0 = w.alloc (.map #[] 0) := ⟨_, rfl⟩
  rw [← hw0] at h0 b0
  simp only [← hw0] at hmm
  clear hw0
  go_enter Tryd.func19, Tryd.ntmps19
  go_wp2_with (first | (refine wpList_insert_fn w0 rfl _ _ _ 35 rfl 9 33 strKey Tryd.underlying35 _ _ _ rfl h0 (by unfold maxLen; omega) _ _ rfl (keyOf_str (by decide)) _ rfl ?_; intro w1 h1 g1; have b1 := b0.grown g1 (by have := b0.size; omega) (fun _ e => by cases e; exact Nat.le_refl _); clear h0 g1 b0) | (refine wpList_insert_fn w1 rfl _ _ _ 35 rfl 9 33 strKey Tryd.underlying35 _ _ _ rfl h1 (by unfold maxLen; omega) _ _ rfl (keyOf_str (by decide)) _ rfl ?_; intro w2 h2 g2; have b2 := b1.grown g2 (by have := b1.size; omega) (fun _ e => by cases e; exact Nat.le_refl _); clear h1 g2 b1) | (refine wpList_insert_fn w2 rfl _ _ _ 35 rfl 9 33 strKey Tryd.underlying35 _ _ _ rfl h2 (by unfold maxLen; omega) _ _ rfl (keyOf_str (by decide)) _ rfl ?_; intro w3 h3 g3; have b3 := b2.grown g3 (by have := b2.size; omega) (fun _ e => by cases e; exact Nat.le_refl _); clear h2 g3 b2) | (refine wpList_insert_fn w3 rfl _ _ _ 35 rfl 9 33 strKey Tryd.underlying35 _ _ _ rfl h3 (by unfold maxLen; omega) _ _ rfl (keyOf_str (by decide)) _ rfl ?_; intro w4 h4 g4; have b4 := b3.grown g4 (by have := b3.size; omega) (fun _ e => by cases e; exact Nat.le_refl _); clear h3 g4 b3) | (refine wpList_insert_fn w4 rfl _ _ _ 35 rfl 9 33 strKey Tryd.underlying35 _ _ _ rfl h4 (by unfold maxLen; omega) _ _ rfl (keyOf_str (by decide)) _ rfl ?_; intro w5 h5 g5; have b5 := b4.grown g5 (by have := b4.size; omega) (fun _ e => by cases e; exact Nat.le_refl _); clear h4 g5 b4) | (refine wpList_insert_fn w5 rfl _ _ _ 35 rfl 9 33 strKey Tryd.underlying35 _ _ _ rfl h5 (by unfold maxLen; omega) _ _ rfl (keyOf_str (by decide)) _ rfl ?_; intro w6 h6 g6; have b6 := b5.grown g6 (by have := b5.size; omega) (fun _ e => by cases e; exact Nat.le_refl _); clear h5 g6 b5) | (refine wpList_insert_fn w6 rfl _ _ _ 35 rfl 9 33 strKey Tryd.underlying35 _ _ _ rfl h6 (by unfold maxLen; omega) _ _ rfl (keyOf_str (by decide)) _ rfl ?_; intro w7 h7 g7; have b7 := b6.grown g7 (by have := b6.size; omega) (fun _ e => by cases e; exact Nat.le_refl _); clear h6 g7 b6) | (refine wpList_insert_fn w7 rfl _ _ _ 35 rfl 9 33 strKey Tryd.underlying35 _ _ _ rfl h7 (by unfold maxLen; omega) _ _ rfl (keyOf_str (by decide)) _ rfl ?_; intro w8 h8 g8; have b8 := b7.grown g8 (by have := b7.size; omega) (fun _ e => by cases e; exact Nat.le_refl _); clear h7 g8 b7) | (refine wpList_insert_fn w8 rfl _ _ _ 35 rfl 9 33 strKey Tryd.underlying35 _ _ _ rfl h8 (by unfold maxLen; omega) _ _ rfl (keyOf_str (by decide)) _ rfl ?_; intro w9 h9 g9; have b9 := b8.grown g9 (by have := b8.size; omega) (fun _ e => by cases e; exact Nat.le_refl _); clear h8 g9 b8) | (refine wpList_insert_fn w9 rfl _ _ _ 35 rfl 9 33 strKey Tryd.underlying35 _ _ _ rfl h9 (by unfold maxLen; omega) _ _ rfl (keyOf_str (by decide)) _ rfl ?_; intro w10 h10 g10; have b10 := b9.grown g10 (by have := b9.size; omega) (fun _ e => by cases e; exact Nat.le_refl _); clear h9 g10 b9) | (refine wpList_insert_fn w10 rfl _ _ _ 35 rfl 9 33 strKey Tryd.underlying35 _ _ _ rfl h10 (by unfold maxLen; omega) _ _ rfl (keyOf_str (by decide)) _ rfl ?_; intro w11 h11 g11; have b11 := b10.grown g11 (by have := b10.size; omega) (fun _ e => by cases e; exact Nat.le_refl _); clear h10 g11 b10) | (refine wpList_insert_fn w11 rfl _ _ _ 35 rfl 9 33 strKey Tryd.underlying35 _ _ _ rfl h11 (by unfold maxLen; omega) _ _ rfl (keyOf_str (by decide)) _ rfl ?_; intro w12 h12 g12; have b12 := b11.grown g12 (by have := b11.size; omega) (fun _ e => by cases e; exact Nat.le_refl _); clear h11 g12 b11) | (refine wpList_insert_fn w12 rfl _ _ _ 35 rfl 9 33 strKey Tryd.underlying35 _ _ _ rfl h12 (by unfold maxLen; omega) _ _ rfl (keyOf_str (by decide)) _ rfl ?_; intro w13 h13 g13; have b13 := b12.grown g13 (by have := b12.size; omega) (fun _ e => by cases e; exact Nat.le_refl _); clear h12 g13 b12) | (refine wpList_insert_fn w13 rfl _ _ _ 35 rfl 9 33 strKey Tryd.underlying35 _ _ _ rfl h13 (by unfold maxLen; omega) _ _ rfl (keyOf_str (by decide)) _ rfl ?_; intro w14 h14 g14; have b14 := b13.grown g14 (by have := b13.size; omega) (fun _ e => by cases e; exact Nat.le_refl _); clear h13 g14 b13) | (refine wpList_insert_fn w14 rfl _ _ _ 35 rfl 9 33 strKey Tryd.underlying35 _ _ _ rfl h14 (by unfold maxLen; omega) _ _ rfl (keyOf_str (by decide)) _ rfl ?_; intro w15 h15 g15; have b15 := b14.grown g15 (by have := b14.size; omega) (fun _ e => by cases e; exact Nat.le_refl _); clear h14 g15 b14) | (refine wpList_insert_fn w15 rfl _ _ _ 35 rfl 9 33 strKey Tryd.underlying35 _ _ _ rfl h15 (by unfold maxLen; omega) _ _ rfl (keyOf_str (by decide)) _ rfl ?_; intro w16 h16 g16; have b16 := b15.grown g16 (by have := b15.size; omega) (fun _ e => by cases e; exact Nat.le_refl _); clear h15 g16 b15))
  go_ret
  exact ⟨rfl, h16, b16⟩

end Go.Proofs.YtppohopockieiaaDoor
