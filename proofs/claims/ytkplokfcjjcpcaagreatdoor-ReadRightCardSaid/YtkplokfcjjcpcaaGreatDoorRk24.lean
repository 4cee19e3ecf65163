/- Joined texts: ReadO ReadP ReadQ ReadU. Conditions: as each states. -/
import Derived.Test.YtkplokfcjjcpcaaGreatDoorRk23
section
namespace Go.Proofs.YtkplokfcjjcpcaaGreatDoor
open Go Go.RowKit Go.Maps Trm
attribute [local go_sem ↓] Go.wp_at_zero Go.wp_at_succ
theorem StX.ne {w0 : Base} {w : World} {R : Nat} {tv : Value} {a : Nat} {σ : Ms} {E : List Nat} {c : Rc} {fr : List FrA} {so : AT} (_h : StX w0 w R tv a σ E c fr so) {j : Nat} (hj : Still w (ownL R c fr E) j) : j ≠ R := fun e => hj.2 (mem_ownL.2 (.inl e))
set_option maxRecDepth 100000 in
set_option maxHeartbeats 3200000 in
theorem prefix1_is {w0 : Base} {w : World} {R : Nat} {tv : Value} {a : Nat} {l : List Tok} {σ : Ms} {E : List Nat} {c : Rc} {fr : List FrA} {so : AT} (h : StX w0 w R tv a σ E c fr so) (rb nb pb : Nat) (s : ByteArray) (p : Int) (hk : (KtA.pre rb nb pb s p).mem w0.heap.size w R (Still w (ownL R c fr E))) (hs : s.size ≤ 5000) (x : AT) (hx : Held w (ownL R c fr []) x) :
    Calls Tryz.prog 229 #[x.val, .pointer (some ⟨rb, 0, none⟩), .pointer (some ⟨nb, 0, none⟩), .pointer (some ⟨pb, 0, none⟩)] w (POut w0 R tv a (thenZ l σ x.erase (.pre s p))) := by
  obtain ⟨k1, k2, k3, o1, o2, o3⟩ := hk
  obtain ⟨xa, xn, xk, xsv⟩ := AT.sv_slice hx.mem
  have hR := h.mem.rd.lt
  have h1 := h.ne k1
  have h2 := h.ne k2
  have h3 := h.ne k3
  have hcells : (headCells [x]).toArray = #[.int .i64 x.k, .int .i64 x.n, .string x.s, .slice xa xn xk] := by simp [headCells, xsv]
  have KEEP := Lib.hid (fun W0 (e0 : w.alloc (.cells #[.int .i64 x.k, .int .i64 x.n, .string x.s, .slice xa xn xk] 34) = W0) W (k : Keeps (fun j => j = R) W0 W) =>
    show W.cell? ⟨rb, 0, none⟩ = some (.pointer (some ⟨R, 0, none⟩)) ∧ W.cell? ⟨nb, 0, none⟩ = some (.string s) ∧ W.cell? ⟨pb, 0, none⟩ = some (.int .i64 p) ∧ W.cell? ⟨w.heap.size, 0, none⟩ = some (.int .i64 x.k) ∧ W.cell? ⟨w.heap.size, 1, none⟩ = some (.int .i64 x.n) ∧ W.cell? ⟨w.heap.size, 2, none⟩ = some (.string x.s) ∧ W.cell? ⟨w.heap.size, 3, none⟩ = some (.slice xa xn xk) by
    subst e0
    have b := keeps_below (F := fun j => j = R) ((Below.refl w.heap.size w).alloc (Nat.le_refl _) (.cells #[.int .i64 x.k, .int .i64 x.n, .string x.s, .slice xa xn xk] 34))
    have hrow := k.heap (new_at w (.cells #[.int .i64 x.k, .int .i64 x.n, .string x.s, .slice xa xn xk] 34) rfl) (by omega)
    exact ⟨((o1.keeps b h1).keeps k h1).cell, ((o2.keeps b h2).keeps k h2).cell, ((o3.keeps b h3).keeps k h3).cell, cell_of_heap hrow rfl, cell_of_heap hrow rfl, cell_of_heap hrow rfl, cell_of_heap hrow rfl⟩)
  have FIN := Lib.hid (fun W0 (e0 : w.alloc (.cells #[.int .i64 x.k, .int .i64 x.n, .string x.s, .slice xa xn xk] 34) = W0) w2 (b2 : Below (W0.alloc (.cells #[.int .i64 x.k, .int .i64 x.n, .string x.s, .slice xa xn xk] 34)).drew.heap.size (W0.alloc (.cells #[.int .i64 x.k, .int .i64 x.n, .string x.s, .slice xa xn xk] 34)).drew w2) =>
    show Keeps (fun j => j = R) W0 w2 ∧ Calls Tryz.prog 148 #[.pointer (some ⟨R, 0, none⟩), (rowA 4 s W0.heap.size [x]).val, .int .i64 p] w2 (fun e w' => e = .returned (.tuple #[]) ∧ Keeps (fun j => j = R) w2 w' ∧ RSt w0 w' R tv a (σ.be (compT s [x.erase]) p)) by
    subst e0
    have b0 := (Below.refl w.heap.size w).alloc (Nat.le_refl _) (.cells #[.int .i64 x.k, .int .i64 x.n, .string x.s, .slice xa xn xk] 34)
    have bb := (Below.refl _ (w.alloc (.cells #[.int .i64 x.k, .int .i64 x.n, .string x.s, .slice xa xn xk] 34))).alloc (Nat.le_refl _) (.cells #[.int .i64 x.k, .int .i64 x.n, .string x.s, .slice xa xn xk] 34)
    have b2' : Below ((w.alloc (.cells #[.int .i64 x.k, .int .i64 x.n, .string x.s, .slice xa xn xk] 34)).alloc (.cells (headCells [x]).toArray 34)).heap.size ((w.alloc (.cells #[.int .i64 x.k, .int .i64 x.n, .string x.s, .slice xa xn xk] 34)).alloc (.cells (headCells [x]).toArray 34)) w2 := by
      rw [hcells]
      exact ⟨b2.os, b2.tape, b2.output, b2.size, b2.block⟩
    have hh := h.on b0
    have hr := (heldRow (l := [x]) (by simpa using hx.on b0) hh.O_lt s (by simp)).on b2'
    refine ⟨below_keeps (keeps_below bb) ⟨b2.os, b2.tape, b2.output, b2.size, b2.block⟩, beS ((hh.on ((Below.refl _ _).alloc (Nat.le_refl _) _)).on b2') _ p hr.mem hr.ins⟩)
  have CP := Lib.hid (fun W b => comp_is s (some ⟨b, 0, none⟩) 1 1 W (by omega))
  simp only [thenZ]
  unfold AT.val at FIN ⊢
  simp only [rowA, AT.k, AT.n, AT.s, AT.sv, List.length_cons, List.length_nil] at FIN
  rw [xsv]
  clear h hx xsv hcells o1 o2 o3 k1 k2 k3 h1 h2 h3
  go_enter Tryz.func229, Tryz.ntmps229
  go_wp2_with fail
  obtain ⟨W0, hW0⟩ : ∃ W0, w.alloc (.cells #[.int .i64 x.k, .int .i64 x.n, .string x.s, .slice xa xn xk] 34) = W0 := ⟨_, rfl⟩
  rw [hW0]
  have KP := Lib.hid (KEEP.out W0 hW0)
  have FN := Lib.hid (FIN.out W0 hW0)
  obtain ⟨q1, q2, q3, q4, q5, q6, q7⟩ := KP.out W0 (Keeps.refl _ _)
  have KD := Lib.hid (show Keeps (fun j => j = R) W0 W0.drew from (Keeps.refl _ _).drew)
  have KA := Lib.hid (show Keeps (fun j => j = R) W0 (W0.alloc (.cells #[.int .i64 x.k, .int .i64 x.n, .string x.s, .slice xa xn xk] 34)).drew from ((Keeps.refl _ _).alloc _).drew)
  clear hW0 KEEP FIN
  go_region_held3 (fun W => W.cell? ⟨rb, 0, none⟩ = some (.pointer (some ⟨R, 0, none⟩)) ∧ W.cell? ⟨nb, 0, none⟩ = some (.string s) ∧ W.cell? ⟨pb, 0, none⟩ = some (.int .i64 p) ∧ W.cell? ⟨w.heap.size, 0, none⟩ = some (.int .i64 x.k) ∧ W.cell? ⟨w.heap.size, 1, none⟩ = some (.int .i64 x.n) ∧ W.cell? ⟨w.heap.size, 2, none⟩ = some (.string x.s) ∧ W.cell? ⟨w.heap.size, 3, none⟩ = some (.slice xa xn xk)) (first | exact KP.out _ KD.out | exact KP.out _ KA.out | exact KP.out _ K3.out | exact KP.out _ K2.out) (first | (go_at_call 221; refine (CP.out _ _).mono ?_; rintro _ w2 ⟨rfl, b2⟩; obtain ⟨kk2, be2⟩ := FN.out w2 b2; have K2 := Lib.hid kk2; have BE2 := Lib.hid be2) | (go_at_call 148; refine BE2.out.mono ?_; rintro _ w3 ⟨rfl, kk3, hs3⟩; have K3 := Lib.hid (keeps_two K2.out kk3); have HS := Lib.hid hs3))
  all_goals
    go_wp2_with fail
    first | go_end0 | refine bodyPost_ret (results_none rfl _ _ _) rfl ?_
    exact ⟨rfl, HS.out⟩
set_option maxRecDepth 100000 in
set_option maxHeartbeats 3200000 in
theorem infix1_is {w0 : Base} {w : World} {R : Nat} {tv : Value} {a : Nat} {l : List Tok} {σ : Ms} {E : List Nat} {c : Rc} {fr : List FrA} {so : AT} (h : StX w0 w R tv a σ E c fr so) (rb nb sb pb : Nat) (s : ByteArray) (y : AT) (p : Int) (hk : (KtA.inf rb nb sb pb s y p).mem w0.heap.size w R (Still w (ownL R c fr E))) (hs : s.size ≤ 5000) (x : AT) (hx : Held w (ownL R c fr []) x) :
    Calls Tryz.prog 231 #[x.val, .pointer (some ⟨rb, 0, none⟩), .pointer (some ⟨nb, 0, none⟩), .pointer (some ⟨sb, 0, none⟩), .pointer (some ⟨pb, 0, none⟩)] w (POut w0 R tv a (thenZ l σ x.erase (.inf s y.erase p))) := by
  obtain ⟨k1, k2, k4, k3, o1, o2, o4, o3, ym, yi⟩ := hk
  obtain ⟨ya, yn, yk, ysv⟩ := AT.sv_slice ym
  rw [ysv] at o4
  obtain ⟨xa, xn, xk, xsv⟩ := AT.sv_slice hx.mem
  have hR := h.mem.rd.lt
  have h1 := h.ne k1
  have h2 := h.ne k2
  have h3 := h.ne k3
  have h4 := h.ne k4
  have hy : Held w (ownL R c fr []) y := ⟨ym, AT.ins_mono (fun _ hj => hj.less fun _ h => by cases h) y yi⟩
  have hcells : (headCells [y, x]).toArray = #[.int .i64 y.k, .int .i64 y.n, .string y.s, .slice ya yn yk, .int .i64 x.k, .int .i64 x.n, .string x.s, .slice xa xn xk] := by simp [headCells, xsv, ysv]
  have KEEP := Lib.hid (fun W0 (e0 : w.alloc (.cells #[.int .i64 x.k, .int .i64 x.n, .string x.s, .slice xa xn xk] 34) = W0) W (k : Keeps (fun j => j = R) W0 W) =>
    show W.cell? ⟨rb, 0, none⟩ = some (.pointer (some ⟨R, 0, none⟩)) ∧ W.cell? ⟨nb, 0, none⟩ = some (.string s) ∧ W.cell? ⟨pb, 0, none⟩ = some (.int .i64 p) ∧ W.cell? ⟨w.heap.size, 0, none⟩ = some (.int .i64 x.k) ∧ W.cell? ⟨w.heap.size, 1, none⟩ = some (.int .i64 x.n) ∧ W.cell? ⟨w.heap.size, 2, none⟩ = some (.string x.s) ∧ W.cell? ⟨w.heap.size, 3, none⟩ = some (.slice xa xn xk) ∧ W.cell? ⟨sb, 0, none⟩ = some (.int .i64 y.k) ∧ W.cell? ⟨sb, 1, none⟩ = some (.int .i64 y.n) ∧ W.cell? ⟨sb, 2, none⟩ = some (.string y.s) ∧ W.cell? ⟨sb, 3, none⟩ = some (.slice ya yn yk) by
    subst e0
    have b := keeps_below (F := fun j => j = R) ((Below.refl w.heap.size w).alloc (Nat.le_refl _) (.cells #[.int .i64 x.k, .int .i64 x.n, .string x.s, .slice xa xn xk] 34))
    have hrow := k.heap (new_at w (.cells #[.int .i64 x.k, .int .i64 x.n, .string x.s, .slice xa xn xk] 34) rfl) (by omega)
    have hsb := k.heap (b.heap o4 h4) h4
    exact ⟨((o1.keeps b h1).keeps k h1).cell, ((o2.keeps b h2).keeps k h2).cell, ((o3.keeps b h3).keeps k h3).cell, cell_of_heap hrow rfl, cell_of_heap hrow rfl, cell_of_heap hrow rfl, cell_of_heap hrow rfl, cell_of_heap hsb rfl, cell_of_heap hsb rfl, cell_of_heap hsb rfl, cell_of_heap hsb rfl⟩)
  have FIN := Lib.hid (fun W0 (e0 : w.alloc (.cells #[.int .i64 x.k, .int .i64 x.n, .string x.s, .slice xa xn xk] 34) = W0) w2 (b2 : Below (W0.alloc (.cells #[.int .i64 y.k, .int .i64 y.n, .string y.s, .slice ya yn yk, .int .i64 x.k, .int .i64 x.n, .string x.s, .slice xa xn xk] 34)).drew.heap.size (W0.alloc (.cells #[.int .i64 y.k, .int .i64 y.n, .string y.s, .slice ya yn yk, .int .i64 x.k, .int .i64 x.n, .string x.s, .slice xa xn xk] 34)).drew w2) =>
    show Keeps (fun j => j = R) W0 w2 ∧ Calls Tryz.prog 148 #[.pointer (some ⟨R, 0, none⟩), (rowA 4 s W0.heap.size [y, x]).val, .int .i64 p] w2 (fun e w' => e = .returned (.tuple #[]) ∧ Keeps (fun j => j = R) w2 w' ∧ RSt w0 w' R tv a (σ.be (compT s [y.erase, x.erase]) p)) by
    subst e0
    have b0 := (Below.refl w.heap.size w).alloc (Nat.le_refl _) (.cells #[.int .i64 x.k, .int .i64 x.n, .string x.s, .slice xa xn xk] 34)
    have bb := (Below.refl _ (w.alloc (.cells #[.int .i64 x.k, .int .i64 x.n, .string x.s, .slice xa xn xk] 34))).alloc (Nat.le_refl _) (.cells #[.int .i64 y.k, .int .i64 y.n, .string y.s, .slice ya yn yk, .int .i64 x.k, .int .i64 x.n, .string x.s, .slice xa xn xk] 34)
    have b2' : Below ((w.alloc (.cells #[.int .i64 x.k, .int .i64 x.n, .string x.s, .slice xa xn xk] 34)).alloc (.cells (headCells [y, x]).toArray 34)).heap.size ((w.alloc (.cells #[.int .i64 x.k, .int .i64 x.n, .string x.s, .slice xa xn xk] 34)).alloc (.cells (headCells [y, x]).toArray 34)) w2 := by
      rw [hcells]
      exact ⟨b2.os, b2.tape, b2.output, b2.size, b2.block⟩
    have hh := h.on b0
    have hr := (heldRow (l := [y, x]) (by simpa using And.intro (hy.on b0) (hx.on b0)) hh.O_lt s (by simp)).on b2'
    refine ⟨below_keeps (keeps_below bb) ⟨b2.os, b2.tape, b2.output, b2.size, b2.block⟩, beS ((hh.on ((Below.refl _ _).alloc (Nat.le_refl _) _)).on b2') _ p hr.mem hr.ins⟩)
  have CP := Lib.hid (fun W b => comp_is s (some ⟨b, 0, none⟩) 2 2 W (by omega))
  simp only [thenZ]
  unfold AT.val at FIN ⊢
  simp only [rowA, AT.k, AT.n, AT.s, AT.sv, List.length_cons, List.length_nil] at FIN
  rw [xsv]
  clear h hx hy ym yi xsv ysv hcells o1 o2 o3 o4 k1 k2 k3 k4 h1 h2 h3 h4
  go_enter Tryz.func231, Tryz.ntmps231
  go_wp2_with fail
  obtain ⟨W0, hW0⟩ : ∃ W0, w.alloc (.cells #[.int .i64 x.k, .int .i64 x.n, .string x.s, .slice xa xn xk] 34) = W0 := ⟨_, rfl⟩
  rw [hW0]
  have KP := Lib.hid (KEEP.out W0 hW0)
  have FN := Lib.hid (FIN.out W0 hW0)
  obtain ⟨q1, q2, q3, q4, q5, q6, q7, q8, q9, q10, q11⟩ := KP.out W0 (Keeps.refl _ _)
  have KD := Lib.hid (show Keeps (fun j => j = R) W0 W0.drew from (Keeps.refl _ _).drew)
  have KA := Lib.hid (show Keeps (fun j => j = R) W0 (W0.alloc (.cells #[.int .i64 y.k, .int .i64 y.n, .string y.s, .slice ya yn yk, .int .i64 x.k, .int .i64 x.n, .string x.s, .slice xa xn xk] 34)).drew from ((Keeps.refl _ _).alloc _).drew)
  clear hW0 KEEP FIN
  go_region_held3 (fun W => W.cell? ⟨rb, 0, none⟩ = some (.pointer (some ⟨R, 0, none⟩)) ∧ W.cell? ⟨nb, 0, none⟩ = some (.string s) ∧ W.cell? ⟨pb, 0, none⟩ = some (.int .i64 p) ∧ W.cell? ⟨w.heap.size, 0, none⟩ = some (.int .i64 x.k) ∧ W.cell? ⟨w.heap.size, 1, none⟩ = some (.int .i64 x.n) ∧ W.cell? ⟨w.heap.size, 2, none⟩ = some (.string x.s) ∧ W.cell? ⟨w.heap.size, 3, none⟩ = some (.slice xa xn xk) ∧ W.cell? ⟨sb, 0, none⟩ = some (.int .i64 y.k) ∧ W.cell? ⟨sb, 1, none⟩ = some (.int .i64 y.n) ∧ W.cell? ⟨sb, 2, none⟩ = some (.string y.s) ∧ W.cell? ⟨sb, 3, none⟩ = some (.slice ya yn yk)) (first | exact KP.out _ KD.out | exact KP.out _ KA.out | exact KP.out _ K3.out | exact KP.out _ K2.out) (first | (go_at_call 221; refine (CP.out _ _).mono ?_; rintro _ w2 ⟨rfl, b2⟩; obtain ⟨kk2, be2⟩ := FN.out w2 b2; have K2 := Lib.hid kk2; have BE2 := Lib.hid be2) | (go_at_call 148; refine BE2.out.mono ?_; rintro _ w3 ⟨rfl, kk3, hs3⟩; have K3 := Lib.hid (keeps_two K2.out kk3); have HS := Lib.hid hs3))
  all_goals
    go_wp2_with fail
    first | go_end0 | refine bodyPost_ret (results_none rfl _ _ _) rfl ?_
    exact ⟨rfl, HS.out⟩
end Go.Proofs.YtkplokfcjjcpcaaGreatDoor
end
section
namespace Go.Proofs.YtkplokfcjjcpcaaGreatDoor
open Go Go.RowKit Go.Maps Trm
attribute [local go_sem ↓] Go.wp_at_zero Go.wp_at_succ
theorem Held.less {w : World} {R : Nat} {c : Rc} {fr : List FrA} {E E' : List Nat} {x : AT} (h : Held w (ownL R c fr E) x) (hE : ∀ j ∈ E', j ∈ E) : Held w (ownL R c fr E') x := ⟨h.mem, AT.ins_mono (fun _ hj => hj.less hE) x h.ins⟩
set_option maxRecDepth 100000 in
set_option maxHeartbeats 3200000 in
theorem compound1_is {w0 : Base} {w : World} {a m : Nat} {L : List Ops.Df} {R : Nat} {tv : Value} {l : List Tok} {σ : Ms} {c : Rc} {fr : List FrA} {so : AT} (h : StX w0 w R tv a σ [] c fr so) (hC : Ctx w0 a m L tv l) (hi : σ.i ≤ 10000) (rb nb : Nat) (s : ByteArray) (hk : (AlA.comp rb nb s).mem w R (Still w (ownL R c fr []))) (hs : s.size ≤ 5000)
    (v : Value) (G : Nat) (ls : List AT) (ht : Held w (ownL R c fr []) (.mk 4 0 s v G 0 ls)) :
    Calls Tryz.prog 226 #[v, .pointer (some ⟨rb, 0, none⟩), .pointer (some ⟨nb, 0, none⟩)] w (POut w0 R tv a (allZ l σ (ATs.erase ls) (.comp s))) := by
  obtain ⟨k1, k2, o1, o2⟩ := hk
  obtain ⟨va, vn, vk, hv⟩ := AT.sv_slice ht.mem
  have h1 := h.ne k1
  have h2 := h.ne k2
  have hR := h.mem.rd.lt
  simp only [AT.sv] at hv
  have EX := Lib.hid (fun b hb => expectS h hC ⟨#[41]⟩ b hb hi)
  have KEEP := Lib.hid (fun W (k : Keeps (fun j => j = R) w W) => show W.cell? ⟨rb, 0, none⟩ = some (.pointer (some ⟨R, 0, none⟩)) ∧ W.cell? ⟨nb, 0, none⟩ = some (.string s) from ⟨(o1.keeps k h1).cell, (o2.keeps k h2).cell⟩)
  have q1 := (KEEP.out w (Keeps.refl _ _)).1
  have HT := Lib.hid ht
  subst hv
  have CP := Lib.hid (fun W => comp_is s va vn vk W (by omega))
  have BE := Lib.hid (fun w2 τ c1 (h1 : StX w0 w2 R tv a τ [] c1 fr so) (h2 : Held w2 (ownL R c1 fr []) (.mk 4 0 s (.slice va vn vk) G 0 ls)) => beS h1 _ 0 h2.mem h2.ins)
  unfold AT.val at BE
  simp only [AT.k, AT.n, AT.s, AT.sv] at BE
  simp only [allZ, expectZ]
  clear ht k1 k2 h1 h2 o1 o2 h
  cases hb : isP l σ.i [41]
  · have E1 := Lib.hid (EX.out false hb)
    clear EX
    go_enter Tryz.func226, Tryz.ntmps226
    go_wp2_with fail
    refine E1.out.mono ?_
    rintro e w1 ⟨rfl, _, _, h1⟩
    have H1 := Lib.hid (h1 trivial)
    clear h1 E1
    simp only [Bool.false_eq_true, if_false]
    unfold stuckE
    go_wp2_with fail
    exact ⟨rfl, rfl, H1.out.bad⟩
  · have E1 := Lib.hid (EX.out true hb)
    clear EX
    go_enter Tryz.func226, Tryz.ntmps226
    go_wp2_with fail
    refine E1.out.mono ?_
    rintro e w1 ⟨rfl, k1, h1, _⟩
    have H1 := Lib.hid (h1 trivial)
    have T1 := Lib.hid (HT.out.R k1)
    have K1 := Lib.hid k1
    simp only [if_true]
    clear h1 k1 q1 E1
    go_wp2_with fail
    obtain ⟨q1, q2⟩ := KEEP.out w1 K1.out
    have KD := Lib.hid (show Keeps (fun j => j = R) w w1.drew from K1.out.drew)
    have FN := Lib.hid (fun w2 (b2 : Below w1.drew.heap.size w1.drew w2) => show Keeps (fun j => j = R) w w2 ∧ _ from ⟨below_keeps KD.out b2, BE.out w2 _ _ (H1.out.on ⟨b2.os, b2.tape, b2.output, b2.size, b2.block⟩) (T1.out.on ⟨b2.os, b2.tape, b2.output, b2.size, b2.block⟩)⟩)
    clear BE HT H1 T1
    go_region_held3 (fun W => W.cell? ⟨rb, 0, none⟩ = some (.pointer (some ⟨R, 0, none⟩)) ∧ W.cell? ⟨nb, 0, none⟩ = some (.string s)) (first | exact KEEP.out _ KD.out | exact KEEP.out _ K3.out | exact KEEP.out _ K2.out) (first | (go_at_call 221; refine (CP.out _).mono ?_; rintro _ w2 ⟨rfl, b2⟩; obtain ⟨kk2, be2⟩ := FN.out w2 b2; have K2 := Lib.hid kk2; have BE2 := Lib.hid be2) | (go_at_call 148; refine BE2.out.mono ?_; rintro _ w3 ⟨rfl, kk3, hs3⟩; have K3 := Lib.hid (keeps_two K2.out kk3); have HS := Lib.hid hs3))
    all_goals
      go_wp2_with fail
      first | go_end0 | refine bodyPost_ret (results_none rfl _ _ _) rfl ?_
      exact ⟨rfl, HS.out⟩
structure LRow (w : World) (O : List Nat) (v : Value) (G : Nat) (l : List AT) : Prop where
  sv : SvOk v G 0 l.length
  mem : ATs.mem w G l 0
  G : l ≠ [] → Still w O G
  ins : ATs.ins (Still w O) l
theorem LRow.keeps {F : Nat → Prop} {w w' : World} {O : List Nat} {v : Value} {G : Nat} {l : List AT} (h : LRow w O v G l) (k : Keeps F w w') (hF : ∀ j, F j → j ∈ O ∨ w.heap.size ≤ j) : LRow w' O v G l := by
  have hS : ∀ j, Still w O j → ¬ F j := fun j hj hFj => by
    rcases hF j hFj with h1 | h1
    · exact hj.2 h1
    · have := hj.1; omega
  exact ⟨h.sv, ATs.mem_keeps k hS h.G h.ins h.mem, fun hl => (h.G hl).keeps k.size, ATs.ins_mono (fun _ hj => hj.keeps k.size) l h.ins⟩
theorem LRow.R {w w' : World} {R : Nat} {c : Rc} {fr : List FrA} {E : List Nat} {v : Value} {G : Nat} {l : List AT} (h : LRow w (ownL R c fr E) v G l) (k : Keeps (fun j => j = R) w w') : LRow w' (ownL R c fr E) v G l := h.keeps k fun _ hj => .inl (mem_ownL.2 (.inl hj))
theorem LRow.on {w w' : World} {O : List Nat} {v : Value} {G : Nat} {l : List AT} (h : LRow w O v G l) (b : Below w.heap.size w w') : LRow w' O v G l := h.keeps (F := fun _ => False) (keeps_below b) fun _ hj => hj.elim
theorem mem_of_row {w : World} {G : Nat} : ∀ {l : List AT} {o : Nat}, ATs.mem w G l o → ∀ t ∈ l, t.mem w
  | [], _, _, t, h => by cases h
  | u :: r, o, hm, t, h => by
    rcases List.mem_cons.1 h with rfl | h
    · exact hm.2.1
    · exact mem_of_row hm.2.2 t h
theorem heldNew {w w' : World} {O : List Nat} {t : AT} (hm : t.mem w') (hi : t.ins (fun j => Still w O j ∨ w.heap.size ≤ j)) (hO : ∀ j ∈ O, j < w.heap.size) : Held w' O t := by
  refine ⟨hm, AT.ins_mono (fun j hj => ?_) t (AT.mem_keeps.AT.ins_and t hi (AT.ins_size t hm))⟩
  refine ⟨hj.2, fun h => ?_⟩
  rcases hj.1 with h1 | h1
  · exact h1.2 h
  · have := hO j h; omega
set_option maxRecDepth 100000 in
set_option maxHeartbeats 3200000 in
theorem items1_is {w0 : Base} {w : World} {a m : Nat} {L : List Ops.Df} {R : Nat} {tv : Value} {l : List Tok} {σ : Ms} {c : Rc} {fr : List FrA} {so : AT} (h : StX w0 w R tv a σ [] c fr so) (hC : Ctx w0 a m L tv l) (hi : σ.i ≤ 10000) (rb lb G : Nat) (v : Value) (ls : List AT) (k1 : Still w (ownL R c fr []) rb) (k2 : Still w (ownL R c fr []) lb) (o1 : One w rb 102 (pt R)) (o2 : One w lb 32 v) (hr : LRow w (ownL R c fr []) v G ls) (hn : ls.length ≤ 10000)
    (x : AT) (hx : Held w (ownL R c fr []) x) :
    Calls Tryz.prog 225 #[x.val, .pointer (some ⟨rb, 0, none⟩), .pointer (some ⟨lb, 0, none⟩)] w (POut w0 R tv a (thenZ l σ x.erase (.tail (ATs.erase ls)))) := by
  obtain ⟨va, vk, hv, _, _, hva⟩ := sv_form hr.sv
  obtain ⟨xa, xn, xk, xsv⟩ := AT.sv_slice hx.mem
  have h1 := h.ne k1
  have h2 := h.ne k2
  have hR := h.mem.rd.lt
  rw [hv] at o2
  have b0 := (Below.refl w.heap.size w).alloc (Nat.le_refl _) (.cells #[.int .i64 x.k, .int .i64 x.n, .string x.s, .slice xa xn xk] 34)
  have EX := Lib.hid (fun b hb => expectS (h.on b0) hC ⟨#[93]⟩ b hb hi)
  have KEEP := Lib.hid (fun W (k : Keeps (fun j => j = R) (w.alloc (.cells #[.int .i64 x.k, .int .i64 x.n, .string x.s, .slice xa xn xk] 34)) W) =>
    show W.cell? ⟨rb, 0, none⟩ = some (.pointer (some ⟨R, 0, none⟩)) ∧ W.cell? ⟨lb, 0, none⟩ = some (.slice va ls.length vk) ∧ W.cell? ⟨w.heap.size, 0, none⟩ = some (.int .i64 x.k) ∧ W.cell? ⟨w.heap.size, 1, none⟩ = some (.int .i64 x.n) ∧ W.cell? ⟨w.heap.size, 2, none⟩ = some (.string x.s) ∧ W.cell? ⟨w.heap.size, 3, none⟩ = some (.slice xa xn xk) by
    have b := keeps_below (F := fun j => j = R) b0
    have hrow := k.heap (new_at w (.cells #[.int .i64 x.k, .int .i64 x.n, .string x.s, .slice xa xn xk] 34) rfl) (by omega)
    exact ⟨((o1.keeps b h1).keeps k h1).cell, ((o2.keeps b h2).keeps k h2).cell, cell_of_heap hrow rfl, cell_of_heap hrow rfl, cell_of_heap hrow rfl, cell_of_heap hrow rfl⟩)
  have q1 := (KEEP.out _ (Keeps.refl _ _)).1
  have HX := Lib.hid (hx.on b0)
  have HL := Lib.hid (hr.on b0)
  have BE := Lib.hid (fun w2 τ c1 (h1 : StX w0 w2 R tv a τ [] c1 fr so) (t : AT) (h2 : Held w2 (ownL R c1 fr []) t) => beS h1 t 0 h2.mem h2.ins)
  have LS := Lib.hid (fun W τ c1 (h1 : StX w0 W R tv a τ [] c1 fr so) (hl : LRow W (ownL R c1 fr []) v G ls) (hx1 : Held W (ownL R c1 fr []) x) =>
    list_is ls x va vk W (Still W (ownL R c1 fr [])) (fun j hj => hj.1) (by omega) G hva hl.mem (fun t ht => ⟨mem_of_row hl.mem t ht, list_ins hl.ins t ht⟩) hx1.mem hx1.ins)
  simp only [thenZ, expectZ]
  unfold AT.val at LS ⊢
  rw [xsv] at LS ⊢
  obtain ⟨n, hnn⟩ : ∃ n, ls.length = n := ⟨_, rfl⟩
  rw [hnn] at KEEP LS
  clear hx hr k1 k2 h1 h2 o1 o2 h b0 hva xsv hnn hv
  cases hb : isP l σ.i [93]
  · have E1 := Lib.hid (EX.out false hb)
    clear EX
    go_enter Tryz.func225, Tryz.ntmps225
    go_wp2_with fail
    refine E1.out.mono ?_
    rintro e w1 ⟨rfl, _, _, h1⟩
    have H1 := Lib.hid (h1 trivial)
    clear h1 E1
    simp only [Bool.false_eq_true, if_false]
    unfold stuckE
    go_wp2_with fail
    exact ⟨rfl, rfl, H1.out.bad⟩
  · have E1 := Lib.hid (EX.out true hb)
    clear EX
    go_enter Tryz.func225, Tryz.ntmps225
    go_wp2_with fail
    refine E1.out.mono ?_
    rintro e w1 ⟨rfl, k1, h1, _⟩
    have H1 := Lib.hid ((h1 trivial).drewN 1)
    have X1 := Lib.hid ((HX.out.R k1).on (w' := w1.drewN 1) ⟨rfl, rfl, rfl, Nat.le_refl _, fun _ _ => rfl⟩)
    have L1 := Lib.hid ((HL.out.R k1).on (w' := w1.drewN 1) ⟨rfl, rfl, rfl, Nat.le_refl _, fun _ _ => rfl⟩)
    have K1 := Lib.hid k1
    simp only [if_true]
    clear h1 k1 q1 E1 HX HL
    go_wp2_with fail
    obtain ⟨q1, q2, q3, q4, q5, q6⟩ := KEEP.out w1 K1.out
    have KD := Lib.hid (show Keeps (fun j => j = R) _ w1.drew from K1.out.drew)
    have LD := Lib.hid (show Calls _ _ _ w1.drew _ from LS.out _ _ _ H1.out L1.out X1.out)
    have FN := Lib.hid (fun w2 (t : AT) (hm : t.mem w2) (hi2 : t.ins (fun j => Still (w1.drewN 1) (ownL R { c with i := c.i + 1 } fr []) j ∨ (w1.drewN 1).heap.size ≤ j)) (b2 : Below (w1.drewN 1).heap.size (w1.drewN 1) w2) => show Keeps (fun j => j = R) _ w2 ∧ _ from ⟨below_keeps KD.out b2, BE.out w2 _ _ (H1.out.on b2) t (heldNew hm hi2 H1.out.O_lt)⟩)
    clear BE H1 X1 L1 LS
    go_region_held3 (fun W => W.cell? ⟨rb, 0, none⟩ = some (.pointer (some ⟨R, 0, none⟩)) ∧ W.cell? ⟨lb, 0, none⟩ = some (.slice va n vk) ∧ W.cell? ⟨w.heap.size, 0, none⟩ = some (.int .i64 x.k) ∧ W.cell? ⟨w.heap.size, 1, none⟩ = some (.int .i64 x.n) ∧ W.cell? ⟨w.heap.size, 2, none⟩ = some (.string x.s) ∧ W.cell? ⟨w.heap.size, 3, none⟩ = some (.slice xa xn xk)) (first | exact KEEP.out _ KD.out | exact KEEP.out _ K3.out | exact KEEP.out _ K2.out) (first | (go_at_call 180; refine LD.out.mono ?_; rintro _ w2 ⟨t, rfl, te, tm, ti, b2, ta, tn, tk, tsv⟩; obtain ⟨kk2, be2⟩ := FN.out w2 t tm ti b2; rw [te] at be2; unfold AT.val at be2 ⊢; rw [tsv] at be2 ⊢; have K2 := Lib.hid kk2; have BE2 := Lib.hid be2; clear tm ti b2 kk2 be2 tsv te) | (go_at_call 148; refine BE2.out.mono ?_; rintro _ w3 ⟨rfl, kk3, hs3⟩; have K3 := Lib.hid (keeps_two K2.out kk3); have HS := Lib.hid hs3))
    all_goals
      go_wp2_with fail
      first | go_end0 | refine bodyPost_ret (results_none rfl _ _ _) rfl ?_
      exact ⟨rfl, HS.out⟩
end Go.Proofs.YtkplokfcjjcpcaaGreatDoor
end
section
namespace Go.Proofs.YtkplokfcjjcpcaaGreatDoor
open Go Go.RowKit Go.Maps Trm
attribute [local go_sem ↓] Go.wp_at_zero Go.wp_at_succ
set_option maxRecDepth 100000 in
set_option maxHeartbeats 3200000 in
theorem items_is {w0 : Base} {w : World} {a m : Nat} {L : List Ops.Df} {R : Nat} {tv : Value} {l : List Tok} {σ : Ms} {c : Rc} {fr : List FrA} {so : AT} (h : StX w0 w R tv a σ [] c fr so) (hC : Ctx w0 a m L tv l) (hi : σ.i ≤ 10000) (hst : σ.stk.length ≤ 100000) (G : Nat) (v : Value) (ls : List AT) (hr : LRow w (ownL R c fr []) v G ls) (hn : ls.length ≤ 10000) :
    Calls Tryz.prog 186 #[.pointer (some ⟨R, 0, none⟩), v] w (POut w0 R tv a (allZ l σ (ATs.erase ls) .items)) := by
  obtain ⟨va, vk, hv, _, _, _⟩ := sv_form hr.sv
  have hmf : ∀ (fn : Fn) (first cap : Array Value) (w : World), (Instr.makeFunc fn first cap).run Tryz.prog w = .ok (.func fn first cap) w := fun _ _ _ _ => rfl
  have b1 := (Below.refl w.heap.size w).alloc (Nat.le_refl _) (.cells #[.pointer (some ⟨R, 0, none⟩)] 102)
  have b2 := b1.alloc (by simp) (.cells #[v] 32)
  have hO := h.O_lt
  have TK := Lib.hid (fun b hb => takesS (h.on b2) hC ⟨#[124]⟩ b hb hi)
  have RB : Hid (One ((w.alloc (.cells #[.pointer (some ⟨R, 0, none⟩)] 102)).alloc (.cells #[v] 32)) w.heap.size 102 (pt R) ∧ One ((w.alloc (.cells #[.pointer (some ⟨R, 0, none⟩)] 102)).alloc (.cells #[v] 32)) (w.heap.size + 1) 32 v) := by
    refine ⟨?_, new_at _ _ (by simp)⟩
    unfold One
    rw [Below.heap_alloc _ _ _ (by simp)]
    exact new_at _ _ rfl
  have ST : Hid (∀ w1, Keeps (fun j => j = R) ((w.alloc (.cells #[.pointer (some ⟨R, 0, none⟩)] 102)).alloc (.cells #[v] 32)) w1 → Still w1 (ownL R c fr []) w.heap.size ∧ Still w1 (ownL R c fr []) (w.heap.size + 1)) := fun w1 k => by
    have := k.size
    simp at this
    exact ⟨⟨by omega, fun hm => by have := hO _ hm; omega⟩, ⟨by omega, fun hm => by have := hO _ hm; omega⟩⟩
  have hR := h.mem.rd.lt
  have HR2 := Lib.hid (hr.on b2)
  have HL : Hid (ls.length ≤ 10000) := hn
  have q1 : ((w.alloc (.cells #[.pointer (some ⟨R, 0, none⟩)] 102)).alloc (.cells #[v] 32)).cell? ⟨w.heap.size, 0, none⟩ = some (.pointer (some ⟨R, 0, none⟩)) := RB.out.1.cell
  have HV := Lib.hid hv
  rw [hv] at q1 TK RB ST HR2 ⊢
  simp only [allZ]
  clear h hr b1 b2 hO hn hv
  cases hb : isP l σ.i [124]
  · have E1 := Lib.hid (TK.out false hb)
    clear TK
    rw [if_neg (by simp)]
    have AT1 := Lib.hid (fun W => atom_is ⟨#[91, 93]⟩ W (by decide))
    have HE := Lib.hid (show thenZ l σ (leafA 3 0 ⟨#[91, 93]⟩).erase (.tail (ATs.erase ls)) = if isP l σ.i [93] = true then .on ((σ.to (σ.i + 1)).be (lstT nilT (ATs.erase ls)) 0) else .bad σ.i from rfl)
    unfold expectZ
    cases hc : isP l σ.i [93]
    · rw [hc] at HE
      go_enter Tryz.func186, Tryz.ntmps186
      go_wp2_with fail
      refine E1.out.mono ?_
      rintro e w1 ⟨rfl, k1, _, h1⟩
      have H1 := Lib.hid (h1 trivial)
      have K1 := Lib.hid k1
      clear h1 k1 q1 E1
      go_wp2_with fail
      refine (AT1.out _).mono ?_
      rintro e w2 ⟨rfl, b2⟩
      have H2 := H1.out.on b2
      have R1 := RB.out.1.keeps K1.out (by omega)
      have R2 := RB.out.2.keeps K1.out (by omega)
      have S12 := ST.out w1 K1.out
      have I1 := Lib.hid (items1_is H2 hC hi w.heap.size (w.heap.size + 1) G _ ls (S12.1.keeps b2.size) (S12.2.keeps b2.size) (R1.keeps (keeps_below (F := fun _ => False) b2) (fun h => h)) (R2.keeps (keeps_below (F := fun _ => False) b2) (fun h => h)) ((HR2.out.R K1.out).on b2) HL.out (leafA 3 0 ⟨#[91, 93]⟩) ⟨leafA_mem _ _ _ _, leafA_ins _ _ _ _⟩)
      clear H1 H2 R1 R2 S12 b2 K1 RB ST HR2 AT1
      go_wp2_with fail
      refine I1.out.mono ?_
      rintro e w3 hp
      have HP := Lib.hid hp
      clear hp I1
      rw [HE.out] at HP
      obtain ⟨rfl, hp2⟩ := HP.out
      have HP2 := Lib.hid hp2
      clear hp2 HP
      unfold stuckE
      go_wp2_with fail
      exact ⟨rfl, rfl, HP2.out⟩
    · rw [hc] at HE
      go_enter Tryz.func186, Tryz.ntmps186
      go_wp2_with fail
      refine E1.out.mono ?_
      rintro e w1 ⟨rfl, k1, _, h1⟩
      have H1 := Lib.hid (h1 trivial)
      have K1 := Lib.hid k1
      clear h1 k1 q1 E1
      go_wp2_with fail
      refine (AT1.out _).mono ?_
      rintro e w2 ⟨rfl, b2⟩
      have H2 := H1.out.on b2
      have R1 := RB.out.1.keeps K1.out (by omega)
      have R2 := RB.out.2.keeps K1.out (by omega)
      have S12 := ST.out w1 K1.out
      have I1 := Lib.hid (items1_is H2 hC hi w.heap.size (w.heap.size + 1) G _ ls (S12.1.keeps b2.size) (S12.2.keeps b2.size) (R1.keeps (keeps_below (F := fun _ => False) b2) (fun h => h)) (R2.keeps (keeps_below (F := fun _ => False) b2) (fun h => h)) ((HR2.out.R K1.out).on b2) HL.out (leafA 3 0 ⟨#[91, 93]⟩) ⟨leafA_mem _ _ _ _, leafA_ins _ _ _ _⟩)
      clear H1 H2 R1 R2 S12 b2 K1 RB ST HR2 AT1
      go_wp2_with fail
      refine I1.out.mono ?_
      rintro e w3 hp
      have HP := Lib.hid hp
      clear hp I1
      rw [HE.out] at HP
      obtain ⟨rfl, hp2⟩ := HP.out
      have HP2 := Lib.hid hp2
      clear hp2 HP
      go_wp2_with fail
      first | go_end0 | refine bodyPost_ret (results_none rfl _ _ _) rfl ?_
      exact ⟨rfl, HP2.out⟩
  · have E1 := Lib.hid (TK.out true hb)
    clear TK
    rw [if_pos rfl]
    go_enter Tryz.func186, Tryz.ntmps186
    go_wp2_with fail
    refine E1.out.mono ?_
    rintro e w1 ⟨rfl, k1, h1, _⟩
    have H1 := h1 trivial
    have R1 := RB.out.1.keeps k1 (by omega)
    have R2 := RB.out.2.keeps k1 (by omega)
    obtain ⟨S1, S2⟩ := ST.out w1 k1
    have L1 := HR2.out.R k1
    have W1 := Lib.hid (wantS (k := .tail w.heap.size (w.heap.size + 1) G (.slice va ls.length vk) ls) H1 ⟨S1, S2, R1, R2, L1.sv, L1.mem, L1.G, L1.ins⟩ 999 hst)
    have y1 := R1.cell
    clear H1 h1 R1 R2 S1 S2 L1 k1 q1 E1 RB ST HR2
    go_wp2_with fail
    refine W1.out.mono ?_
    rintro e w2 ⟨rfl, hs⟩
    have HS := Lib.hid hs
    clear hs W1
    go_wp2_with fail
    first | go_end0 | refine bodyPost_ret (results_none rfl _ _ _) rfl ?_
    exact ⟨rfl, HS.out⟩
set_option maxRecDepth 100000 in
set_option maxHeartbeats 3200000 in
theorem arguments_is {w0 : Base} {w : World} {R : Nat} {tv : Value} {a : Nat} {σ : Ms} {c : Rc} {fr : List FrA} {so : AT} (v : Value) (h : StX w0 w R tv a σ v.ownBlock.toList c fr so) (hst : σ.stk.length ≤ 100000) (ls : List AT) (hr : w.ownsRow w0.heap.size 34 4 v ls.length (headCells ls)) (ht : ∀ t ∈ ls, Held w (ownL R c fr v.ownBlock.toList) t) (al : AlA) (hal : al.mem w R (Still w (ownL R c fr v.ownBlock.toList))) :
    Calls Tryz.prog 185 #[.pointer (some ⟨R, 0, none⟩), v, al.val R] w (POut w0 R tv a (.on (σ.want 999 (.args (ATs.erase ls) al.al)))) := by
  obtain ⟨va, vk, hv⟩ := owns_slice2 hr
  obtain ⟨K, fa, fb, hf⟩ : ∃ K fa fb, al.val R = .func (.func K) fa fb := by cases al <;> exact ⟨_, _, _, rfl⟩
  have hmf : ∀ (fn : Fn) (first cap : Array Value) (w : World), (Instr.makeFunc fn first cap).run Tryz.prog w = .ok (.func fn first cap) w := fun _ _ _ _ => rfl
  have b1 := (Below.refl w.heap.size w).alloc (Nat.le_refl _) (.cells #[.pointer (some ⟨R, 0, none⟩)] 102)
  have b2 := b1.alloc (by simp) (.cells #[v] 32)
  have b3 := b2.alloc (by simp; omega) (.cells #[al.val R] 258)
  have hO : ∀ j ∈ ownL R c fr v.ownBlock.toList, j < w.heap.size := fun j hj => (h.mem.low j hj).2
  have hz : (((w.alloc (.cells #[.pointer (some ⟨R, 0, none⟩)] 102)).alloc (.cells #[v] 32)).alloc (.cells #[al.val R] 258)).heap.size = w.heap.size + 3 := by simp
  have H3 := h.more b3 (g := w.heap.size + 1) (by omega) (by omega)
  have hS : ∀ j, Still w (ownL R c fr v.ownBlock.toList) j → Still (((w.alloc (.cells #[.pointer (some ⟨R, 0, none⟩)] 102)).alloc (.cells #[v] 32)).alloc (.cells #[al.val R] 258)) (ownL R c fr ((w.heap.size + 1) :: v.ownBlock.toList)) j := fun j hj => ⟨Nat.lt_of_lt_of_le hj.1 b3.size, fun hm => by
    rw [(ownL_cons R c fr (w.heap.size + 1) v.ownBlock.toList).mem_iff, List.mem_cons] at hm
    rcases hm with hm | hm
    · have := hj.1; omega
    · exact hj.2 hm⟩
  have hS2 : ∀ j, w.heap.size ≤ j → j < w.heap.size + 3 → j ≠ w.heap.size + 1 → Still (((w.alloc (.cells #[.pointer (some ⟨R, 0, none⟩)] 102)).alloc (.cells #[v] 32)).alloc (.cells #[al.val R] 258)) (ownL R c fr ((w.heap.size + 1) :: v.ownBlock.toList)) j := fun j h1 h2 h3 => ⟨by omega, fun hm => by
    rw [(ownL_cons R c fr (w.heap.size + 1) v.ownBlock.toList).mem_iff, List.mem_cons] at hm
    rcases hm with hm | hm
    · exact h3 hm
    · have := hO j hm; omega⟩
  have hk := keeps_below (F := fun _ => False) b3
  have hKM : (KtA.args w.heap.size (w.heap.size + 1) (w.heap.size + 2) v ls al).mem w0.heap.size (((w.alloc (.cells #[.pointer (some ⟨R, 0, none⟩)] 102)).alloc (.cells #[v] 32)).alloc (.cells #[al.val R] 258)) R (Still (((w.alloc (.cells #[.pointer (some ⟨R, 0, none⟩)] 102)).alloc (.cells #[v] 32)).alloc (.cells #[al.val R] 258)) (ownL R c fr ((w.heap.size + 1) :: v.ownBlock.toList))) := by
    refine ⟨hS2 _ (by omega) (by omega) (by omega), hS2 _ (by omega) (by omega) (by omega), AlA.mem_keeps hal hk (fun _ _ h => h) hS, ?_, new_at _ _ (by simp), ?_, row_keeps hr hk (fun _ _ h => h), fun t htt => ⟨AT.mem_keeps hk (ht t htt).ins (fun _ _ h => h) (ht t htt).mem, AT.ins_mono hS t (ht t htt).ins⟩⟩
    · unfold One
      rw [Below.heap_alloc _ _ _ (by simp; omega), Below.heap_alloc _ _ _ (by simp)]
      exact new_at _ _ rfl
    · unfold One
      rw [Below.heap_alloc _ _ _ (by simp)]
      exact new_at _ _ (by simp)
  have q1 : (((w.alloc (.cells #[.pointer (some ⟨R, 0, none⟩)] 102)).alloc (.cells #[v] 32)).alloc (.cells #[al.val R] 258)).cell? ⟨w.heap.size, 0, none⟩ = some (.pointer (some ⟨R, 0, none⟩)) := hKM.2.2.2.1.cell
  have W1 := Lib.hid (wantS (k := .args w.heap.size (w.heap.size + 1) (w.heap.size + 2) v ls al) H3 hKM 999 hst)
  rw [hf] at q1 W1 ⊢
  rw [hv] at q1 W1 ⊢
  clear hr ht hal b1 b2 b3 hO hz H3 hS hS2 hk hKM h
  go_enter Tryz.func185, Tryz.ntmps185
  go_wp2_with fail
  refine W1.out.mono ?_
  rintro e w2 ⟨rfl, hs⟩
  have HS := Lib.hid hs
  clear hs W1
  go_wp2_with fail
  first | go_end0 | refine bodyPost_ret (results_none rfl _ _ _) rfl ?_
  exact ⟨rfl, HS.out⟩
end Go.Proofs.YtkplokfcjjcpcaaGreatDoor
end
section
namespace Go.Proofs.YtkplokfcjjcpcaaGreatDoor
open Go Go.RowKit Go.Maps Trm
attribute [local go_sem ↓] Go.wp_at_zero Go.wp_at_succ
def BOut (w0 : Base) (R : Nat) (tv : Value) (a : Nat) : Out → Ending → World → Prop
  | .on τ, e, w' => e = .returned (.bool true) ∧ RSt w0 w' R tv a τ
  | .bad i, e, w' => e = stuckE ∧ BadSt w0 w' R tv i
set_option maxRecDepth 100000 in
set_option maxHeartbeats 3200000 in
theorem compound_is {w0 : Base} {w : World} {a m : Nat} {L : List Ops.Df} {R : Nat} {tv : Value} {l : List Tok} {σ : Ms} {c : Rc} {fr : List FrA} {so : AT} (h : StX w0 w R tv a σ [] c fr so) (hC : Ctx w0 a m L tv l) (hi : σ.i ≤ 10000) (hst : σ.stk.length ≤ 100000) (s : ByteArray) :
    Calls Tryz.prog 189 #[.pointer (some ⟨R, 0, none⟩), .string s] w (POut w0 R tv a (argsZ l σ s)) := by
  have hmf : ∀ (fn : Fn) (first cap : Array Value) (w : World), (Instr.makeFunc fn first cap).run Tryz.prog w = .ok (.func fn first cap) w := fun _ _ _ _ => rfl
  have b1 := (Below.refl w.heap.size w).alloc (Nat.le_refl _) (.cells #[.pointer (some ⟨R, 0, none⟩)] 102)
  have b2 := b1.alloc (by simp) (.cells #[.string s] 9)
  have hO := h.O_lt
  have hR := h.mem.rd.lt
  have EX := Lib.hid (fun b hb => expectS (h.on b2) hC ⟨#[40]⟩ b hb hi)
  have RB : Hid (One ((w.alloc (.cells #[.pointer (some ⟨R, 0, none⟩)] 102)).alloc (.cells #[.string s] 9)) w.heap.size 102 (pt R) ∧ One ((w.alloc (.cells #[.pointer (some ⟨R, 0, none⟩)] 102)).alloc (.cells #[.string s] 9)) (w.heap.size + 1) 9 (.string s)) := by
    refine ⟨?_, new_at _ _ (by simp)⟩
    unfold One
    rw [Below.heap_alloc _ _ _ (by simp)]
    exact new_at _ _ rfl
  have ST : Hid (∀ w1, Keeps (fun j => j = R) ((w.alloc (.cells #[.pointer (some ⟨R, 0, none⟩)] 102)).alloc (.cells #[.string s] 9)) w1 → Still w1 (ownL R c fr []) w.heap.size ∧ Still w1 (ownL R c fr []) (w.heap.size + 1)) := fun w1 k => by
    have := k.size
    simp at this
    exact ⟨⟨by omega, fun hm => by have := hO _ hm; omega⟩, ⟨by omega, fun hm => by have := hO _ hm; omega⟩⟩
  have q1 : ((w.alloc (.cells #[.pointer (some ⟨R, 0, none⟩)] 102)).alloc (.cells #[.string s] 9)).cell? ⟨w.heap.size, 0, none⟩ = some (.pointer (some ⟨R, 0, none⟩)) := RB.out.1.cell
  unfold argsZ expectZ
  clear h b1 b2 hO
  cases hb : isP l σ.i [40]
  · have E1 := Lib.hid (EX.out false hb)
    clear EX
    go_enter Tryz.func189, Tryz.ntmps189
    go_wp2_with fail
    refine E1.out.mono ?_
    rintro e w1 ⟨rfl, _, _, h1⟩
    have H1 := Lib.hid (h1 trivial)
    clear h1 E1
    simp only [Bool.false_eq_true, if_false]
    unfold stuckE
    go_wp2_with fail
    exact ⟨rfl, rfl, H1.out.bad⟩
  · have E1 := Lib.hid (EX.out true hb)
    clear EX
    go_enter Tryz.func189, Tryz.ntmps189
    go_wp2_with fail
    refine E1.out.mono ?_
    rintro e w1 ⟨rfl, k1, h1, _⟩
    have R1 := RB.out.1.keeps k1 (by omega)
    have R2 := RB.out.2.keeps k1 (by omega)
    obtain ⟨S1, S2⟩ := ST.out w1 k1
    have AR := Lib.hid (arguments_is (.slice none 0 0) (h1 trivial) hst [] (World.ownsRow_nil _ _ _ _) (fun t ht => by cases ht) (.comp w.heap.size (w.heap.size + 1) s) ⟨S1, S2, R1, R2⟩)
    have p1 := R1.cell
    unfold AlA.val pt at AR
    simp only [if_true]
    clear h1 k1 E1 R1 R2 S1 S2 RB ST q1
    go_wp2_with fail
    refine AR.out.mono ?_
    rintro e w2 ⟨rfl, hs⟩
    have HS := Lib.hid hs
    clear hs AR
    go_wp2_with fail
    first | go_end0 | refine bodyPost_ret (results_none rfl _ _ _) rfl ?_
    exact ⟨rfl, HS.out⟩
structure Box6 (w : World) (b : Nat) (k n m : Int) (s : ByteArray) (o t : Bool) : Prop where
  row : w.heap[b]? = some (.cells #[.int .i64 k, .int .i64 n, .int .i64 m, .string s, .bool o, .bool t] 48 (0, 0))
theorem Box6.keeps {F : Nat → Prop} {w w' : World} {b : Nat} {k n m : Int} {s : ByteArray} {o t : Bool} (h : Box6 w b k n m s o t) (kk : Keeps F w w') (hF : ¬ F b) : Box6 w' b k n m s o t := ⟨kk.heap h.row hF⟩
theorem Box6.facts {w : World} {b : Nat} {k n m : Int} {s : ByteArray} {o t : Bool} (h : Box6 w b k n m s o t) : w.cell? ⟨b, 0, none⟩ = some (.int .i64 k) ∧ w.cell? ⟨b, 1, none⟩ = some (.int .i64 n) ∧ w.cell? ⟨b, 2, none⟩ = some (.int .i64 m) ∧ w.cell? ⟨b, 3, none⟩ = some (.string s) ∧ w.cell? ⟨b, 4, none⟩ = some (.bool o) ∧ w.cell? ⟨b, 5, none⟩ = some (.bool t) :=
  ⟨cell_of_heap h.row rfl, cell_of_heap h.row rfl, cell_of_heap h.row rfl, cell_of_heap h.row rfl, cell_of_heap h.row rfl, cell_of_heap h.row rfl⟩
set_option maxRecDepth 100000 in
set_option maxHeartbeats 3200000 in
theorem closes_no {w0 : Base} {w : World} {a m : Nat} {L : List Ops.Df} {R : Nat} {tv : Value} {l : List Tok} {σ : Ms} {c : Rc} {fr : List FrA} {so : AT} (h : StX w0 w R tv a σ [] c fr so) (hC : Ctx w0 a m L tv l) (hi : σ.i ≤ 10000) (s name : ByteArray) (hb : isP l σ.i s.data.toList = false) :
    Calls Tryz.prog 184 #[.pointer (some ⟨R, 0, none⟩), .string s, .string name] w fun e w' => e = .returned (.bool false) ∧ StX w0 w' R tv a σ [] c fr so := by
  have NX := Lib.hid (nextS h hC hi)
  have TK := Lib.hid (fun w1 (b1 : Below w.heap.size w w1) o => takesS (h.on (b1.alloc b1.size o)) hC s false hb hi)
  obtain ⟨t, ht⟩ : ∃ t, tokAt l σ.i = t := ⟨_, rfl⟩
  rw [ht] at NX
  obtain ⟨tk, tl, tn, ts, tO, tt⟩ := t
  obtain ⟨S, hS⟩ : ∃ S : ByteArray, (⟨ts.toArray⟩ : ByteArray) = S := ⟨_, rfl⟩
  simp only [Tok.val, hS] at NX
  clear h ht hS
  go_enter Tryz.func184, Tryz.ntmps184
  go_wp2_with fail
  refine NX.out.mono ?_
  rintro e w1 ⟨rfl, b1⟩
  have T1 := Lib.hid (TK.out w1 b1)
  clear b1 NX TK
  go_wp2_with fail
  refine (T1.out _).mono ?_
  rintro e w2 ⟨rfl, _, _, h2⟩
  have H2 := Lib.hid (h2 trivial)
  clear h2 T1
  go_wp2_with fail
  go_ret
  exact ⟨rfl, H2.out⟩
set_option maxRecDepth 100000 in
set_option maxHeartbeats 3200000 in
theorem closes_yes {w0 : Base} {w : World} {a m : Nat} {L : List Ops.Df} {R : Nat} {tv : Value} {l : List Tok} {σ : Ms} {c : Rc} {fr : List FrA} {so : AT} (h : StX w0 w R tv a σ [] c fr so) (hC : Ctx w0 a m L tv l) (hi : σ.i + 1 ≤ 10000) (hst : σ.stk.length ≤ 100000) (s name : ByteArray) (hs : name.size ≤ 5000) (hb : isP l σ.i s.data.toList = true) (o : Out) (ho : (if (tokAt l σ.i).open' = true then argsZ l (σ.to (σ.i + 1)) name else .on ((σ.to (σ.i + 1)).be (atmT name) 0)) = o) :
    Calls Tryz.prog 184 #[.pointer (some ⟨R, 0, none⟩), .string s, .string name] w (BOut w0 R tv a o) := by
  have hR := h.mem.rd.lt
  have NX := Lib.hid (nextS h hC (by omega))
  have TK := Lib.hid (fun w1 (b1 : Below w.heap.size w w1) o => takesS (h.on (b1.alloc b1.size o)) hC s true hb (by omega))
  obtain ⟨t, ht⟩ : ∃ t, tokAt l σ.i = t := ⟨_, rfl⟩
  rw [ht] at NX ho
  obtain ⟨tk, tl, tn, ts, tO, tt⟩ := t
  obtain ⟨S, hS⟩ : ∃ S : ByteArray, (⟨ts.toArray⟩ : ByteArray) = S := ⟨_, rfl⟩
  simp only [Tok.val, hS] at NX
  simp only at ho
  have BX := Lib.hid (fun (w1 : World) (b1 : Below w.heap.size w w1) => And.intro (Nat.lt_of_lt_of_le hR b1.size) (Box6.mk (k := tk) (n := tl) (m := tn) (s := S) (o := tO) (t := tt) (heap_alloc_new w1 (.cells #[.int .i64 tk, .int .i64 tl, .int .i64 tn, .string S, .bool tO, .bool tt] 48))))
  have CM := Lib.hid (fun w2 (h2 : StX w0 w2 R tv a (σ.to (σ.i + 1)) [] { c with i := c.i + 1 } fr so) => compound_is h2 hC hi hst name)
  have AT1 := Lib.hid (fun W => atom_is name W (by omega))
  have BE := Lib.hid (fun w2 w3 (h2 : StX w0 w2 R tv a (σ.to (σ.i + 1)) [] { c with i := c.i + 1 } fr so) (b3 : Below w2.heap.size w2 w3) => beS (h2.on b3) (leafA 3 0 name) 0 (leafA_mem _ _ _ _) (leafA_ins _ _ _ _))
  clear h ht hS
  cases tO
  · rw [if_neg (by simp)] at ho
    subst ho
    clear CM
    go_enter Tryz.func184, Tryz.ntmps184
    go_wp2_with fail
    refine NX.out.mono ?_
    rintro e w1 ⟨rfl, b1⟩
    have T1 := Lib.hid (TK.out w1 b1)
    obtain ⟨hR1, BX1⟩ := BX.out w1 b1
    have BB := Lib.hid BX1
    clear b1 NX TK BX1 BX
    go_wp2_with fail
    refine (T1.out _).mono ?_
    rintro e w2 ⟨rfl, k2, h2, _⟩
    obtain ⟨_, _, _, _, q4, _⟩ := (BB.out.keeps k2 (by omega)).facts
    have H2 := Lib.hid (h2 trivial)
    clear h2 k2 T1 BB
    go_wp2_with fail
    refine (AT1.out _).mono ?_
    rintro e w3 ⟨rfl, b3⟩
    have B3 := Lib.hid (BE.out w2 w3 H2.out b3)
    clear b3 H2 AT1 BE q4
    go_wp2_with fail
    refine B3.out.mono ?_
    rintro e w4 ⟨rfl, _, hs4⟩
    have HS := Lib.hid hs4
    clear hs4 B3
    go_wp2_with fail
    go_ret
    exact ⟨rfl, HS.out⟩
  · rw [if_pos rfl] at ho
    clear AT1 BE
    cases o
    · go_enter Tryz.func184, Tryz.ntmps184
      go_wp2_with fail
      refine NX.out.mono ?_
      rintro e w1 ⟨rfl, b1⟩
      have T1 := Lib.hid (TK.out w1 b1)
      obtain ⟨hR1, BX1⟩ := BX.out w1 b1
      have BB := Lib.hid BX1
      clear b1 NX TK BX1 BX
      go_wp2_with fail
      refine (T1.out _).mono ?_
      rintro e w2 ⟨rfl, k2, h2, _⟩
      obtain ⟨_, _, _, _, q4, _⟩ := (BB.out.keeps k2 (by omega)).facts
      have C2 := Lib.hid (CM.out w2 (h2 trivial))
      rw [ho] at C2
      clear h2 k2 T1 BB CM
      go_wp2_with fail
      refine C2.out.mono ?_
      rintro e w3 ⟨rfl, hs4⟩
      have HS := Lib.hid hs4
      clear hs4 C2
      go_wp2_with fail
      go_ret
      exact ⟨rfl, HS.out⟩
    · go_enter Tryz.func184, Tryz.ntmps184
      go_wp2_with fail
      refine NX.out.mono ?_
      rintro e w1 ⟨rfl, b1⟩
      have T1 := Lib.hid (TK.out w1 b1)
      obtain ⟨hR1, BX1⟩ := BX.out w1 b1
      have BB := Lib.hid BX1
      clear b1 NX TK BX1 BX
      go_wp2_with fail
      refine (T1.out _).mono ?_
      rintro e w2 ⟨rfl, k2, h2, _⟩
      obtain ⟨_, _, _, _, q4, _⟩ := (BB.out.keeps k2 (by omega)).facts
      have C2 := Lib.hid (CM.out w2 (h2 trivial))
      rw [ho] at C2
      clear h2 k2 T1 BB CM
      go_wp2_with fail
      refine C2.out.mono ?_
      rintro e w3 ⟨rfl, hs4⟩
      have HS := Lib.hid hs4
      clear hs4 C2
      unfold stuckE
      go_wp2_with fail
      exact ⟨rfl, rfl, HS.out⟩
end Go.Proofs.YtkplokfcjjcpcaaGreatDoor
end
