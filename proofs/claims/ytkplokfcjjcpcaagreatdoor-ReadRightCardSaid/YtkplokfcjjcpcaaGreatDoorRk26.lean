/- Joined texts: ReadZA ReadZB ReadZC ReadZD ReadZE ReadR. Conditions: as each states. -/
import Derived.Test.YtkplokfcjjcpcaaGreatDoorRk25
import Derived.Deep.Cut
import Derived.Test.YtkplokfcjjcpcaaGreatDoorRk24
section
namespace Go.Proofs.YtkplokfcjjcpcaaGreatDoor
open Go Go.RowKit Go.Maps Trm
attribute [local go_sem ↓] Go.wp_at_zero Go.wp_at_succ
set_option maxRecDepth 100000 in
set_option maxHeartbeats 3200000 in
theorem words_at {w0 : Base} {w : World} {a m : Nat} {L : List Ops.Df} {R : Nat} {tv : Value} {l : List Tok} {σ : Ms} {c : Rc} {fr : List FrA} {so : AT} (h : StX w0 w R tv a σ [] c fr so) (hC : Ctx w0 a m L tv l) (hi : σ.i + 3 ≤ 10000) (hst : σ.stk.length ≤ 90000) (hne : σ.stk ≠ []) (t : Tok) (hs : t.s.length ≤ 5000) :
    Calls Tryz.prog 145 #[.pointer (some ⟨R, 0, none⟩), t.val] w (POut w0 R tv a (wordZ L l (σ.to (σ.i + 1)) t)) := by
  have hR := h.mem.rd.lt
  obtain ⟨tk, tl, tn, ts, tO, tt⟩ := t
  obtain ⟨S, hS⟩ : ∃ S : ByteArray, (⟨ts.toArray⟩ : ByteArray) = S := ⟨_, rfl⟩
  have hSd : S.data.toList = ts := by rw [← hS]
  simp only at hs
  have hS5 : S.size ≤ 5000 := by rw [Lib.size_eq, hSd]; exact hs
  have b0 := (Below.refl w.heap.size w).alloc (Nat.le_refl _) (.cells #[.int .i64 tk, .int .i64 tl, .int .i64 tn, .string S, .bool tO, .bool tt] 48)
  have PA := Lib.hid (passS (h.on b0) (show σ.i ≤ 10000 by omega))
  have BX := Lib.hid (Box6.mk (k := tk) (n := tl) (m := tn) (s := S) (o := tO) (t := tt) (heap_alloc_new w (.cells #[.int .i64 tk, .int .i64 tl, .int .i64 tn, .string S, .bool tO, .bool tt] 48)))
  obtain ⟨τ, hτ⟩ : ∃ τ, σ.to (σ.i + 1) = τ := ⟨_, rfl⟩
  have hi1 : τ.i + 2 ≤ 10000 := by rw [← hτ]; show σ.i + 1 + 2 ≤ 10000; omega
  have hst1 : τ.stk.length ≤ 90000 := by rw [← hτ]; exact hst
  have hne1 : τ.stk ≠ [] := by rw [← hτ]; exact hne
  obtain ⟨d, hd⟩ : ∃ d : Rc, ({ c with i := c.i + 1 } : Rc) = d := ⟨_, rfl⟩
  rw [hτ] at PA ⊢
  rw [hd] at PA
  simp only [Tok.val, hS]
  obtain ⟨o, ho⟩ : ∃ o, wordZ L l τ ⟨tk, tl, tn, ts, tO, tt⟩ = o := ⟨_, rfl⟩
  rw [ho]
  unfold wordZ at ho
  simp only [Tok.b, hS] at ho
  obtain ⟨b1, hb1⟩ : ∃ b, (tk == 1 && ts == [45] && (tokAt l τ.i).k == 3 && (tokAt l τ.i).tight) = b := ⟨_, rfl⟩
  obtain ⟨b2, hb2⟩ : ∃ b, (decide (0 < (preP L S).1) && decide ((preP L S).1 ≤ τ.most) && beginsZ L (tokAt l τ.i)) = b := ⟨_, rfl⟩
  rw [hb1, hb2] at ho
  have NG := Lib.hid (fun w1 (h1 : StX w0 w1 R tv a τ [] d fr so) => negative_is h1 hC (by omega) ⟨tk, tl, tn, ts, tO, tt⟩ b1 hb1)
  simp only [Tok.val, hS] at NG
  have CM := Lib.hid (fun w2 (h2 : StX w0 w2 R tv a τ [] d fr so) => compound_is h2 hC (by omega) (by omega) S)
  have PX := Lib.hid (fun w2 (h2 : StX w0 w2 R tv a τ [] d fr so) => prefix_st h2 hC (by omega) hst1 hne1 S hS5 b2 hb2)
  have AT1 := Lib.hid (fun W => atom_is S W (by omega))
  have BE := Lib.hid (fun w2 w3 (h2 : StX w0 w2 R tv a τ [] d fr so) (b3 : Below w2.heap.size w2 w3) => beS (h2.on b3) (leafA 3 0 S) 0 (leafA_mem _ _ _ _) (leafA_ins _ _ _ _))
  clear h b0 hS hSd hb1 hb2 hτ hd
  cases b1
  · rw [if_neg (by simp)] at ho
    cases tO
    · rw [if_neg (by simp)] at ho
      clear CM
      cases b2
      · rw [if_neg (by simp)] at ho
        subst ho
        go_enter Tryz.func145, Tryz.ntmps145
        go_wp2_with fail
        refine PA.out.mono ?_
        rintro e w1 ⟨rfl, k1, h1⟩
        have B1 := BX.out.keeps k1 (by omega)
        obtain ⟨p0, p1, p2, p3, p4, p5⟩ := B1.facts
        have N1 := Lib.hid (NG.out w1 h1)
        have H1 := Lib.hid h1
        have BB := Lib.hid B1
        clear h1 k1 PA BX NG B1
        go_wp2_with fail
        refine N1.out.mono ?_
        rintro e w2 ⟨rfl, _, hf⟩
        have b2 := hf trivial
        have BB2 := Lib.hid (BB.out.keeps (F := fun _ => False) (keeps_below b2) (fun h => h))
        obtain ⟨_, _, _, q3, q4, _⟩ := BB2.out.facts
        have H2 := Lib.hid (H1.out.on b2)
        clear hf b2 N1 H1 BB p0 p1 p2 p3 p4 p5
        go_wp2_with fail
        refine (PX.out w2 H2.out).mono ?_
        rintro e w3 ⟨rfl, _, hf3⟩
        have b3 := hf3 trivial
        obtain ⟨_, _, _, r3, _, _⟩ := (BB2.out.keeps (F := fun _ => False) (keeps_below b3) (fun h => h)).facts
        have H3 := Lib.hid (H2.out.on b3)
        clear hf3 b3 PX H2 BB2 q3 q4
        go_wp2_with fail
        refine (AT1.out _).mono ?_
        rintro e w4 ⟨rfl, b4⟩
        have B4 := Lib.hid (BE.out w3 w4 H3.out b4)
        clear b4 H3 AT1 BE r3
        go_wp2_with fail
        refine B4.out.mono ?_
        rintro e w5 ⟨rfl, _, hs5⟩
        have HS := Lib.hid hs5
        clear hs5 B4
        go_wp2_with fail
        first | go_end0 | refine bodyPost_ret (results_none rfl _ _ _) rfl ?_
        exact ⟨rfl, HS.out⟩
      · rw [if_pos rfl] at ho
        subst ho
        go_enter Tryz.func145, Tryz.ntmps145
        go_wp2_with fail
        refine PA.out.mono ?_
        rintro e w1 ⟨rfl, k1, h1⟩
        have B1 := BX.out.keeps k1 (by omega)
        obtain ⟨p0, p1, p2, p3, p4, p5⟩ := B1.facts
        have N1 := Lib.hid (NG.out w1 h1)
        have H1 := Lib.hid h1
        have BB := Lib.hid B1
        clear h1 k1 PA BX NG B1
        go_wp2_with fail
        refine N1.out.mono ?_
        rintro e w2 ⟨rfl, _, hf⟩
        have b2 := hf trivial
        have BB2 := Lib.hid (BB.out.keeps (F := fun _ => False) (keeps_below b2) (fun h => h))
        obtain ⟨_, _, _, q3, q4, _⟩ := BB2.out.facts
        have H2 := Lib.hid (H1.out.on b2)
        clear hf b2 N1 H1 BB p0 p1 p2 p3 p4 p5
        go_wp2_with fail
        refine (PX.out w2 H2.out).mono ?_
        rintro e w3 ⟨rfl, hf3, _⟩
        have HS := Lib.hid (hf3 trivial)
        clear hf3 PX H2
        go_wp2_with fail
        first | go_end0 | refine bodyPost_ret (results_none rfl _ _ _) rfl ?_
        exact ⟨rfl, HS.out⟩
    · rw [if_pos rfl] at ho
      clear PX AT1 BE
      rw [ho] at CM
      cases o
      · go_enter Tryz.func145, Tryz.ntmps145
        go_wp2_with fail
        refine PA.out.mono ?_
        rintro e w1 ⟨rfl, k1, h1⟩
        have B1 := BX.out.keeps k1 (by omega)
        obtain ⟨p0, p1, p2, p3, p4, p5⟩ := B1.facts
        have N1 := Lib.hid (NG.out w1 h1)
        have H1 := Lib.hid h1
        have BB := Lib.hid B1
        clear h1 k1 PA BX NG B1
        go_wp2_with fail
        refine N1.out.mono ?_
        rintro e w2 ⟨rfl, _, hf⟩
        have b2 := hf trivial
        have BB2 := Lib.hid (BB.out.keeps (F := fun _ => False) (keeps_below b2) (fun h => h))
        obtain ⟨_, _, _, q3, q4, _⟩ := BB2.out.facts
        have H2 := Lib.hid (H1.out.on b2)
        clear hf b2 N1 H1 BB p0 p1 p2 p3 p4 p5
        go_wp2_with fail
        refine (CM.out w2 H2.out).mono ?_
        rintro e w3 ⟨rfl, hs5⟩
        have HS := Lib.hid hs5
        clear hs5 CM H2
        go_wp2_with fail
        first | go_end0 | refine bodyPost_ret (results_none rfl _ _ _) rfl ?_
        exact ⟨rfl, HS.out⟩
      · go_enter Tryz.func145, Tryz.ntmps145
        go_wp2_with fail
        refine PA.out.mono ?_
        rintro e w1 ⟨rfl, k1, h1⟩
        have B1 := BX.out.keeps k1 (by omega)
        obtain ⟨p0, p1, p2, p3, p4, p5⟩ := B1.facts
        have N1 := Lib.hid (NG.out w1 h1)
        have H1 := Lib.hid h1
        have BB := Lib.hid B1
        clear h1 k1 PA BX NG B1
        go_wp2_with fail
        refine N1.out.mono ?_
        rintro e w2 ⟨rfl, _, hf⟩
        have b2 := hf trivial
        have BB2 := Lib.hid (BB.out.keeps (F := fun _ => False) (keeps_below b2) (fun h => h))
        obtain ⟨_, _, _, q3, q4, _⟩ := BB2.out.facts
        have H2 := Lib.hid (H1.out.on b2)
        clear hf b2 N1 H1 BB p0 p1 p2 p3 p4 p5
        go_wp2_with fail
        refine (CM.out w2 H2.out).mono ?_
        rintro e w3 ⟨rfl, hs5⟩
        have HS := Lib.hid hs5
        clear hs5 CM H2
        unfold stuckE
        go_wp2_with fail
        exact ⟨rfl, rfl, HS.out⟩
  · rw [if_pos rfl] at ho
    subst ho
    go_enter Tryz.func145, Tryz.ntmps145
    go_wp2_with fail
    refine PA.out.mono ?_
    rintro e w1 ⟨rfl, k1, h1⟩
    have B1 := BX.out.keeps k1 (by omega)
    obtain ⟨p0, p1, p2, p3, p4, p5⟩ := B1.facts
    have N1 := Lib.hid (NG.out w1 h1)
    have H1 := Lib.hid h1
    have BB := Lib.hid B1
    clear h1 k1 PA BX NG B1
    go_wp2_with fail
    refine N1.out.mono ?_
    rintro e w2 ⟨rfl, hf, _⟩
    have HS := Lib.hid (hf trivial)
    clear hf N1
    go_wp2_with fail
    first | go_end0 | refine bodyPost_ret (results_none rfl _ _ _) rfl ?_
    exact ⟨rfl, HS.out⟩
end Go.Proofs.YtkplokfcjjcpcaaGreatDoor
end
section
namespace Go.Proofs.YtkplokfcjjcpcaaGreatDoor
open Go Go.RowKit Go.Maps Trm
attribute [local go_sem ↓] Go.wp_at_zero Go.wp_at_succ
set_option maxRecDepth 100000 in
set_option maxHeartbeats 3200000 in
theorem begin_there {w0 : Base} {w : World} {a m : Nat} {L : List Ops.Df} {R : Nat} {tv : Value} {l : List Tok} {σ : Ms} {c : Rc} {fr : List FrA} {so : AT} (h : StX w0 w R tv a σ [] c fr so) (hC : Ctx w0 a m L tv l) (hi : σ.i ≤ 10000) (k : Nat) (hk : 1 ≤ k ∧ k ≤ 6) (hu : (tokAt l σ.i).k = (k : Int)) (o : Out)
    (FN : ∀ w1, StX w0 w1 R tv a σ [] c fr so → Calls Tryz.prog (primF k) #[.pointer (some ⟨R, 0, none⟩), (tokAt l σ.i).val] w1 (POut w0 R tv a o)) :
    Calls Tryz.prog 150 #[.pointer (some ⟨R, 0, none⟩)] w (POut w0 R tv a o) := by
  have hR := h.mem.rd.lt
  have NX := Lib.hid (nextS h hC hi)
  obtain ⟨u, hu'⟩ : ∃ u, tokAt l σ.i = u := ⟨_, rfl⟩
  rw [hu'] at NX hu
  simp only [hu'] at FN
  clear hu'
  obtain ⟨uk, ul, un, us, uO, ut⟩ := u
  obtain ⟨U, hU⟩ : ∃ U : ByteArray, (⟨us.toArray⟩ : ByteArray) = U := ⟨_, rfl⟩
  simp only [Tok.val, hU] at NX FN
  simp only at hu
  obtain ⟨f, hf⟩ : ∃ f, primF k = f := ⟨_, rfl⟩
  rw [hf] at FN
  have HF : Hid (f = 141 ∨ f = 142 ∨ f = 143 ∨ f = 144 ∨ f = 145) := by
    show _ ∨ _
    rw [← hf]
    obtain rfl | rfl | rfl | rfl | rfl | rfl : k = 1 ∨ k = 2 ∨ k = 3 ∨ k = 4 ∨ k = 5 ∨ k = 6 := by omega
    all_goals simp [primF]
  have FX := Lib.hid (fun w1 (b1 : Below w.heap.size w w1) => FN (w1.alloc (.cells #[.int .i64 uk, .int .i64 ul, .int .i64 un, .string U, .bool uO, .bool ut] 48)).drew ((h.on (b1.alloc b1.size _)).on (Below.refl _ _).drew))
  have KP := Lib.hid (fun w1 (b1 : Below w.heap.size w w1) W (b : Below (w1.alloc (.cells #[.int .i64 uk, .int .i64 ul, .int .i64 un, .string U, .bool uO, .bool ut] 48)).heap.size (w1.alloc (.cells #[.int .i64 uk, .int .i64 ul, .int .i64 un, .string U, .bool uO, .bool ut] 48)) W) =>
    show (W.cell? ⟨R, 3, none⟩ = some (.map (some c.P)) ∧ W.cell? ⟨w1.heap.size, 0, none⟩ = some (.int .i64 uk) ∧ (Instr.lookup 107 (.map (some c.P)) (.int .i64 uk) true).run Tryz.prog W = .ok (.tuple #[.func (.func f) #[.pointer (some ⟨R, 0, none⟩)] #[], .bool true]) W) ∧ (W.cell? ⟨w1.heap.size, 1, none⟩ = some (.int .i64 ul) ∧ W.cell? ⟨w1.heap.size, 2, none⟩ = some (.int .i64 un) ∧ W.cell? ⟨w1.heap.size, 3, none⟩ = some (.string U) ∧ W.cell? ⟨w1.heap.size, 4, none⟩ = some (.bool uO) ∧ W.cell? ⟨w1.heap.size, 5, none⟩ = some (.bool ut)) from by
      have hx := (h.on (b1.alloc b1.size _)).on b
      obtain ⟨q0, q1, q2, q3, q4, q5⟩ := ((Box6.mk (k := uk) (n := ul) (m := un) (s := U) (o := uO) (t := ut) (heap_alloc_new w1 (.cells #[.int .i64 uk, .int .i64 ul, .int .i64 un, .string U, .bool uO, .bool ut] 48))).keeps (F := fun _ => False) (keeps_below b) (fun h => h)).facts
      have hl := hx.prims.there k hk
      rw [hf, ← hu] at hl
      exact ⟨⟨hx.mem.rd.c_P, q0, hl⟩, q1, q2, q3, q4, q5⟩)
  clear h hU hf hu FN
  cases o
  · go_enter Tryz.func150, Tryz.ntmps150
    go_wp2_with fail
    refine NX.out.mono ?_
    rintro e w1 ⟨rfl, b1⟩
    have F1 := Lib.hid (FX.out w1 b1)
    have K1 := Lib.hid (KP.out w1 b1)
    obtain ⟨⟨q0, q1, q2⟩, q3⟩ := K1.out _ (Below.refl _ _)
    clear b1 NX FX KP q3
    go_upto_region 1 with fail
    go_region_held3 (fun W => W.cell? ⟨R, 3, none⟩ = some (.map (some c.P)) ∧ W.cell? ⟨w1.heap.size, 0, none⟩ = some (.int .i64 uk) ∧ (Instr.lookup 107 (.map (some c.P)) (.int .i64 uk) true).run Tryz.prog W = .ok (.tuple #[.func (.func f) #[.pointer (some ⟨R, 0, none⟩)] #[], .bool true]) W) (first | exact (K1.out _ (Below.refl _ _).drew).1) (fail)
    all_goals
      rename_i hHeld
      clear hHeld q0 q1 q2
      obtain ⟨⟨q0, q1, _⟩, q2, q3, q4, q5, q6⟩ := K1.out _ (Below.refl _ _).drew
      clear K1
      rcases HF.out with rfl | rfl | rfl | rfl | rfl
      all_goals
        go_wp2_with fail
        refine F1.out.mono ?_
        rintro e w3 ⟨rfl, hs⟩
        have HS := Lib.hid hs
        clear hs F1
        go_wp2_with fail
        first | go_end0 | refine bodyPost_ret (results_none rfl _ _ _) rfl ?_
        exact ⟨rfl, HS.out⟩
  · go_enter Tryz.func150, Tryz.ntmps150
    go_wp2_with fail
    refine NX.out.mono ?_
    rintro e w1 ⟨rfl, b1⟩
    have F1 := Lib.hid (FX.out w1 b1)
    have K1 := Lib.hid (KP.out w1 b1)
    obtain ⟨⟨q0, q1, q2⟩, q3⟩ := K1.out _ (Below.refl _ _)
    clear b1 NX FX KP q3
    go_upto_region 1 with fail
    go_region_held3 (fun W => W.cell? ⟨R, 3, none⟩ = some (.map (some c.P)) ∧ W.cell? ⟨w1.heap.size, 0, none⟩ = some (.int .i64 uk) ∧ (Instr.lookup 107 (.map (some c.P)) (.int .i64 uk) true).run Tryz.prog W = .ok (.tuple #[.func (.func f) #[.pointer (some ⟨R, 0, none⟩)] #[], .bool true]) W) (first | exact (K1.out _ (Below.refl _ _).drew).1) (fail)
    all_goals
      rename_i hHeld
      clear hHeld q0 q1 q2
      obtain ⟨⟨q0, q1, _⟩, q2, q3, q4, q5, q6⟩ := K1.out _ (Below.refl _ _).drew
      clear K1
      rcases HF.out with rfl | rfl | rfl | rfl | rfl
      all_goals
        go_wp2_with fail
        refine F1.out.mono ?_
        rintro e w3 ⟨rfl, hs⟩
        have HS := Lib.hid hs
        clear hs F1
        unfold stuckE
        go_wp2_with fail
        exact ⟨rfl, rfl, HS.out⟩
set_option maxRecDepth 100000 in
set_option maxHeartbeats 3200000 in
theorem begin_not {w0 : Base} {w : World} {a m : Nat} {L : List Ops.Df} {R : Nat} {tv : Value} {l : List Tok} {σ : Ms} {c : Rc} {fr : List FrA} {so : AT} (h : StX w0 w R tv a σ [] c fr so) (hC : Ctx w0 a m L tv l) (hi : σ.i ≤ 10000) (k : Nat) (hk : k = 0 ∨ k = 7) (hu : (tokAt l σ.i).k = (k : Int)) :
    Calls Tryz.prog 150 #[.pointer (some ⟨R, 0, none⟩)] w (POut w0 R tv a (.bad σ.i)) := by
  have hR := h.mem.rd.lt
  have NX := Lib.hid (nextS h hC hi)
  obtain ⟨u, hu'⟩ : ∃ u, tokAt l σ.i = u := ⟨_, rfl⟩
  rw [hu'] at NX hu
  clear hu'
  obtain ⟨uk, ul, un, us, uO, ut⟩ := u
  obtain ⟨U, hU⟩ : ∃ U : ByteArray, (⟨us.toArray⟩ : ByteArray) = U := ⟨_, rfl⟩
  simp only [Tok.val, hU] at NX
  simp only at hu
  have KP := Lib.hid (fun w1 (b1 : Below w.heap.size w w1) W (b : Below (w1.alloc (.cells #[.int .i64 uk, .int .i64 ul, .int .i64 un, .string U, .bool uO, .bool ut] 48)).heap.size (w1.alloc (.cells #[.int .i64 uk, .int .i64 ul, .int .i64 un, .string U, .bool uO, .bool ut] 48)) W) =>
    show (W.cell? ⟨R, 3, none⟩ = some (.map (some c.P)) ∧ W.cell? ⟨w1.heap.size, 0, none⟩ = some (.int .i64 uk) ∧ (Instr.lookup 107 (.map (some c.P)) (.int .i64 uk) true).run Tryz.prog W = .ok (.tuple #[.nilFunc, .bool false]) W) ∧ Hid (BadSt w0 W R tv σ.i) from by
      have hx := (h.on (b1.alloc b1.size _)).on b
      have q0 := ((Box6.mk (k := uk) (n := ul) (m := un) (s := U) (o := uO) (t := ut) (heap_alloc_new w1 (.cells #[.int .i64 uk, .int .i64 ul, .int .i64 un, .string U, .bool uO, .bool ut] 48))).keeps (F := fun _ => False) (keeps_below b) (fun h => h)).facts.1
      have hl := hx.prims.not k hk
      rw [← hu] at hl
      exact ⟨⟨hx.mem.rd.c_P, q0, hl⟩, hx.bad⟩)
  clear h hU hu
  go_enter Tryz.func150, Tryz.ntmps150
  go_wp2_with fail
  refine NX.out.mono ?_
  rintro e w1 ⟨rfl, b1⟩
  have K1 := Lib.hid (KP.out w1 b1)
  obtain ⟨⟨q0, q1, q2⟩, _⟩ := K1.out _ (Below.refl _ _)
  clear b1 NX KP
  go_upto_region 1 with fail
  go_region_held3 (fun W => W.cell? ⟨R, 3, none⟩ = some (.map (some c.P)) ∧ W.cell? ⟨w1.heap.size, 0, none⟩ = some (.int .i64 uk) ∧ (Instr.lookup 107 (.map (some c.P)) (.int .i64 uk) true).run Tryz.prog W = .ok (.tuple #[.nilFunc, .bool false]) W) (first | exact (K1.out _ (Below.refl _ _).drew).1) (fail)
  all_goals
    rename_i hHeld
    clear hHeld q0 q1 q2
    have HS := Lib.hid (K1.out _ (Below.refl _ _).drew).2
    clear K1
    go_wp2_with fail
    refine (giveUp_is _ _).mono ?_
    rintro e w2 ⟨rfl, hw⟩
    obtain rfl := hw.symm
    unfold stuckE
    go_wp2_with fail
    exact ⟨rfl, rfl, HS.out.out⟩
end Go.Proofs.YtkplokfcjjcpcaaGreatDoor
end
section
namespace Go.Proofs.YtkplokfcjjcpcaaGreatDoor
open Go Go.RowKit Go.Maps Trm
attribute [local go_sem ↓] Go.wp_at_zero Go.wp_at_succ
theorem tok_fit {w0 : Base} {a m : Nat} {L : List Ops.Df} {tv : Value} {l : List Tok} (hC : Ctx w0 a m L tv l) (i : Nat) : (0 ≤ (tokAt l i).k ∧ (tokAt l i).k ≤ 7) ∧ (tokAt l i).s.length ≤ 5000 := by
  unfold tokAt
  cases hq : l[i]? with
  | none => simp [tok0]
  | some t => exact hC.toks t (List.mem_of_getElem? hq)
theorem begin_is {w0 : Base} {w : World} {a m : Nat} {L : List Ops.Df} {R : Nat} {tv : Value} {l : List Tok} {σ : Ms} {c : Rc} {fr : List FrA} {so : AT} (h : StX w0 w R tv a σ [] c fr so) (hC : Ctx w0 a m L tv l) (hi : σ.i + 4 ≤ 10000) (hst : σ.stk.length ≤ 90000) (hne : σ.stk ≠ []) (h0 : 0 ≤ σ.cnt) (h1 : σ.cnt ≤ 100000) (hv : σ.vs.length ≤ 100000) :
    Calls Tryz.prog 150 #[.pointer (some ⟨R, 0, none⟩)] w (POut w0 R tv a (beginZ L l σ)) := by
  obtain ⟨⟨k0, k7⟩, hs⟩ := tok_fit hC σ.i
  have hk : (tokAt l σ.i).k = ((0 : Nat) : Int) ∨ (tokAt l σ.i).k = ((1 : Nat) : Int) ∨ (tokAt l σ.i).k = ((2 : Nat) : Int) ∨ (tokAt l σ.i).k = ((3 : Nat) : Int) ∨ (tokAt l σ.i).k = ((4 : Nat) : Int) ∨ (tokAt l σ.i).k = ((5 : Nat) : Int) ∨ (tokAt l σ.i).k = ((6 : Nat) : Int) ∨ (tokAt l σ.i).k = ((7 : Nat) : Int) := by omega
  rcases hk with hk | hk | hk | hk | hk | hk | hk | hk
  · rw [show beginZ L l σ = .bad σ.i by simp [beginZ, hk]]
    exact begin_not h hC (by omega) 0 (by omega) hk
  · rw [show beginZ L l σ = wordZ L l (σ.to (σ.i + 1)) (tokAt l σ.i) by simp [beginZ, hk]]
    exact begin_there h hC (by omega) 1 (by omega) hk _ (fun w1 h1 => words_at h1 hC (by omega) hst hne _ hs)
  · rw [show beginZ L l σ = wordZ L l (σ.to (σ.i + 1)) (tokAt l σ.i) by simp [beginZ, hk]]
    exact begin_there h hC (by omega) 2 (by omega) hk _ (fun w1 h1 => words_at h1 hC (by omega) hst hne _ hs)
  · rw [show beginZ L l σ = (if (tokAt l σ.i).n < 0 then .bad σ.i else .on ((σ.to (σ.i + 1)).be (intT (tokAt l σ.i).n) 0)) by simp [beginZ, hk]]
    exact begin_there h hC (by omega) 3 (by omega) hk _ (fun w1 h1 => pnumber_is h1 (by omega) _)
  · rw [show beginZ L l σ = .on (((σ.to (σ.i + 1)).number (tokAt l σ.i).s).1.be (varT ((σ.to (σ.i + 1)).number (tokAt l σ.i).s).2) 0) by simp [beginZ, hk]]
    exact begin_there h hC (by omega) 4 (by omega) hk _ (fun w1 h1 => named_at h1 (by omega) _ hs h0 (by omega) hv)
  · rw [show beginZ L l σ = .on ((σ.to (σ.i + 1)).be (lstT nilT (codesT (tokAt l σ.i).s)) 0) by simp [beginZ, hk]]
    exact begin_there h hC (by omega) 5 (by omega) hk _ (fun w1 h1 => codes_at h1 (by omega) _ hs)
  · rw [show beginZ L l σ = bracketZ l σ (tokAt l σ.i).s by simp [beginZ, bracketZ, hk]]
    exact begin_there h hC (by omega) 6 (by omega) hk _ (fun w1 h1 => bracket_is h1 hC (by omega) hst _)
  · rw [show beginZ L l σ = .bad σ.i by simp [beginZ, hk]]
    exact begin_not h hC (by omega) 7 (by omega) hk
end Go.Proofs.YtkplokfcjjcpcaaGreatDoor
end
section
namespace Go.Proofs.YtkplokfcjjcpcaaGreatDoor
open Go Go.RowKit Go.Maps Trm
attribute [local go_sem ↓] Go.wp_at_zero Go.wp_at_succ
set_option maxRecDepth 100000 in
set_option maxHeartbeats 3200000 in
theorem postfix_st {w0 : Base} {w : World} {a m : Nat} {L : List Ops.Df} {R : Nat} {tv : Value} {l : List Tok} {σ : Ms} {c : Rc} {fr : List FrA} {so : AT} (h : StX w0 w R tv a σ [] c fr so) (hC : Ctx w0 a m L tv l) (hi : σ.i + 1 ≤ 10000) (hst : σ.stk.length ≤ 90000) (hne : σ.stk ≠ []) (s : ByteArray) (hs : s.size ≤ 5000) (b : Bool) (hb : fitsZ σ (Ops.sidesZ L s 3).1 (Ops.sidesZ L s 3).2.1 = b) :
    Calls Tryz.prog 193 #[.pointer (some ⟨R, 0, none⟩), .string s] w fun e w' => e = .returned (.bool b) ∧ (b = true → RSt w0 w' R tv a ((σ.to (σ.i + 1)).be (compT s [σ.so]) (Ops.sidesZ L s 3).1)) ∧ (b = false → Below w.heap.size w w') := by
  have hR := h.mem.rd.lt
  have ca := h.mem.rd.c_a
  rw [h.a] at ca
  have hse := h.so
  have PF := Lib.hid (by
    have ht := h.tabW hC
    rw [h.a] at ht
    exact Ops.postfix_is a m L s w ht.lay ht.tb (by unfold maxLen; omega))
  obtain ⟨p, hp⟩ : ∃ p, (Ops.sidesZ L s 3).1 = p := ⟨_, rfl⟩
  obtain ⟨lf, hlf⟩ : ∃ x, (Ops.sidesZ L s 3).2.1 = x := ⟨_, rfl⟩
  rw [hp, hlf] at PF hb
  rw [hp]
  have FT := Lib.hid (fun W (b1 : Below w.heap.size w W) => fits_is W R c σ.most p lf b (h.on b1).mem.rd ((h.on b1).last hne (by omega)) (by rw [h.p]; exact hb))
  have PA := Lib.hid (fun W (b1 : Below w.heap.size w W) => passS (h.on b1) (show σ.i ≤ 10000 by omega))
  obtain ⟨τ, hτ⟩ : ∃ τ, σ.to (σ.i + 1) = τ := ⟨_, rfl⟩
  have hdk := h.mem.k
  have hdn := h.mem.n
  have hds := h.mem.s
  have hdv := h.mem.sv
  obtain ⟨d, hd⟩ : ∃ d : Rc, ({ c with i := c.i + 1 } : Rc) = d := ⟨_, rfl⟩
  have HD : Hid (d.k = so.k ∧ d.n = so.n ∧ d.s = so.s ∧ d.sv = so.sv) := by
    rw [← hd]
    exact ⟨hdk, hdn, hds, hdv⟩
  rw [hτ, hd] at PA
  rw [hτ]
  obtain ⟨xa, xn, xk, xsv⟩ := AT.sv_slice h.mem.som
  have BE := Lib.hid (fun w1 w2 (h1 : StX w0 w1 R tv a τ [] d fr so) (b2 : Below (w1.alloc (.cells (headCells [so]).toArray 34)).heap.size (w1.alloc (.cells (headCells [so]).toArray 34)) w2) => by
    have hr := (heldRow (l := [so]) (by simpa using Held.mk h1.mem.som h1.mem.soi) h1.O_lt s (by simp)).on b2
    exact beS ((h1.on ((Below.refl w1.heap.size w1).alloc (Nat.le_refl _) _)).on b2) _ p hr.mem hr.ins)
  have hcells : (headCells [so]).toArray = #[.int .i64 so.k, .int .i64 so.n, .string so.s, .slice xa xn xk] := by simp [headCells, xsv]
  have HE : Hid (∀ b, (rowA 4 s b [so]).erase = compT s [σ.so]) := fun _ => by
    rw [← hse]
    rfl
  simp only [HE.out] at BE
  rw [hcells] at BE
  unfold AT.val at BE
  simp only [rowA, AT.k, AT.n, AT.s, AT.sv, List.length_cons, List.length_nil] at BE
  have CP := Lib.hid (fun W b => comp_is s (some ⟨b, 0, none⟩) 1 1 W (by omega))
  have LD := Lib.hid (fun w1 (h1 : StX w0 w1 R tv a τ [] d fr so) => show w1.cell? ⟨R, 9, none⟩ = some (.int .i64 so.k) ∧ w1.cell? ⟨R, 10, none⟩ = some (.int .i64 so.n) ∧ w1.cell? ⟨R, 11, none⟩ = some (.string so.s) ∧ w1.cell? ⟨R, 12, none⟩ = some (.slice xa xn xk) from by
    obtain ⟨e1, e2, e3, e4⟩ := HD.out
    refine ⟨?_, ?_, ?_, ?_⟩
    · rw [← e1]; exact h1.mem.rd.c_k
    · rw [← e2]; exact h1.mem.rd.c_n
    · rw [← e3]; exact h1.mem.rd.c_s
    · rw [← xsv, ← e4]; exact h1.mem.rd.c_sv)
  clear h hse hp hlf hτ hd hdk hdn hds hdv HD HE hcells hb xsv
  cases b
  · clear PA BE CP LD
    go_enter Tryz.func193, Tryz.ntmps193
    go_wp2_with fail
    refine PF.out.mono ?_
    rintro e w1 ⟨rfl, b1⟩
    have F1 := Lib.hid (FT.out w1 b1)
    have B1 := Lib.hid b1
    clear b1 FT PF
    go_wp2_with fail
    refine F1.out.mono ?_
    rintro e w2 ⟨rfl, q, rfl⟩
    clear F1
    go_wp2_with fail
    go_ret
    exact ⟨rfl, fun h => (by cases h), fun _ => drewn_below B1.out q⟩
  · go_enter Tryz.func193, Tryz.ntmps193
    go_wp2_with fail
    refine PF.out.mono ?_
    rintro e w1 ⟨rfl, b1⟩
    have F1 := Lib.hid (FT.out w1 b1)
    have P1 := Lib.hid (fun q => PA.out _ (drewn_below b1 q))
    clear b1 FT PF PA
    go_wp2_with fail
    refine F1.out.mono ?_
    rintro e w2 ⟨rfl, q, rfl⟩
    have P2 := Lib.hid (P1.out q)
    clear F1 P1
    go_wp2_with fail
    refine P2.out.mono ?_
    rintro e w3 ⟨rfl, _, h3⟩
    obtain ⟨q0, q1, q2, q3⟩ := LD.out w3 h3
    have E2 := Lib.hid (fun w2 b2 => BE.out w3 w2 h3 b2)
    have hR3 := h3.mem.rd.lt
    clear h3 P2 LD BE
    go_wp2_with fail
    refine (CP.out _ _).mono ?_
    rintro e w4 ⟨rfl, b4⟩
    have E3 := Lib.hid (E2.out w4 b4)
    clear b4 E2 CP q0 q1 q2 q3
    go_wp2_with fail
    refine E3.out.mono ?_
    rintro e w5 ⟨rfl, _, hs5⟩
    have HS := Lib.hid hs5
    clear hs5 E3
    go_wp2_with fail
    go_ret
    exact ⟨rfl, fun _ => HS.out, fun h => (by cases h)⟩
end Go.Proofs.YtkplokfcjjcpcaaGreatDoor
end
section
namespace Go.Proofs.YtkplokfcjjcpcaaGreatDoor
open Go Go.RowKit Go.Maps Trm
attribute [local go_sem ↓] Go.wp_at_zero Go.wp_at_succ
structure InSt (w0 : Base) (wc : World) (R : Nat) (tv : Value) (a : Nat) (τ : Ms) (d : Rc) (fr : List FrA) (so : AT) (rb nb pb : Nat) (s : ByteArray) (p : Int) : Prop where
  st : StX w0 wc R tv a τ [] d fr so
  orb : One wc rb 102 (pt R)
  onb : One wc nb 9 (.string s)
  opb : One wc pb 3 (.int .i64 p)
  srb : Still wc (ownL R d fr []) rb
  snb : Still wc (ownL R d fr []) nb
  spb : Still wc (ownL R d fr []) pb
theorem PreSt.pass {w0 : Base} {wi wc w' : World} {R : Nat} {tv : Value} {a : Nat} {σ τ : Ms} {c d : Rc} {fr : List FrA} {so : AT} {rb nb pb : Nat} {s : ByteArray} {p : Int} (h : PreSt w0 wi wc R tv a σ c fr so rb nb pb s p) (k : Keeps (fun j => j = R) wc w') (h' : StX w0 w' R tv a τ [] d fr so) (ho : ownL R d fr [] = ownL R c fr []) : InSt w0 w' R tv a τ d fr so rb nb pb s p := by
  have hR : R ∈ ownL R c fr [] := mem_ownL.2 (.inl rfl)
  have hn : ∀ j, Still wc (ownL R c fr []) j → ¬ j = R := fun j hj e => hj.2 (e ▸ hR)
  exact ⟨h', h.orb.keeps k (hn _ h.srb), h.onb.keeps k (hn _ h.snb), h.opb.keeps k (hn _ h.spb), ho ▸ h.srb.keeps k.size, ho ▸ h.snb.keeps k.size, ho ▸ h.spb.keeps k.size⟩
theorem InSt.kt {w0 : Base} {w : World} {R : Nat} {tv : Value} {a : Nat} {τ : Ms} {d : Rc} {fr : List FrA} {so : AT} {rb nb pb : Nat} {s : ByteArray} {p : Int} (h : InSt w0 w R tv a τ d fr so rb nb pb s p) : StX w0 (w.alloc (.cells #[.int .i64 so.k, .int .i64 so.n, .string so.s, so.sv] 34)) R tv a τ [] d fr so ∧ (KtA.inf rb nb w.heap.size pb s so p).mem w0.heap.size (w.alloc (.cells #[.int .i64 so.k, .int .i64 so.n, .string so.s, so.sv] 34)) R (Still (w.alloc (.cells #[.int .i64 so.k, .int .i64 so.n, .string so.s, so.sv] 34)) (ownL R d fr [])) := by
  have b := (Below.refl w.heap.size w).alloc (Nat.le_refl _) (.cells #[.int .i64 so.k, .int .i64 so.n, .string so.s, so.sv] 34)
  have k := keeps_below (F := fun _ => False) b
  have hx := h.st.on b
  refine ⟨hx, h.srb.keeps b.size, h.snb.keeps b.size, ⟨by simp, fun hm => ?_⟩, h.spb.keeps b.size, h.orb.keeps k (fun h => h), h.onb.keeps k (fun h => h), heap_alloc_new _ _, h.opb.keeps k (fun h => h), hx.mem.som, hx.mem.soi⟩
  have := h.st.O_lt _ hm
  omega
set_option maxRecDepth 100000 in
set_option maxHeartbeats 6400000 in
theorem infix_st {w0 : Base} {w : World} {a m : Nat} {L : List Ops.Df} {R : Nat} {tv : Value} {l : List Tok} {σ : Ms} {c : Rc} {fr : List FrA} {so : AT} (h : StX w0 w R tv a σ [] c fr so) (hC : Ctx w0 a m L tv l) (hi : σ.i + 1 ≤ 10000) (hst : σ.stk.length ≤ 90000) (hne : σ.stk ≠ []) (s : ByteArray) (hs : s.size ≤ 5000) (b : Bool) (hb : fitsZ σ (Ops.sidesZ L s 2).1 (Ops.sidesZ L s 2).2.1 = b) :
    Calls Tryz.prog 192 #[.pointer (some ⟨R, 0, none⟩), .string s] w fun e w' => e = .returned (.bool b) ∧ (b = true → RSt w0 w' R tv a ((σ.to (σ.i + 1)).want (Ops.sidesZ L s 2).2.2 (.inf s σ.so (Ops.sidesZ L s 2).1))) ∧ (b = false → Below w.heap.size w w') := by
  have hR := h.mem.rd.lt
  have hO := h.O_lt
  have hmf : ∀ (fn : Fn) (first cap : Array Value) (w : World), (Instr.makeFunc fn first cap).run Tryz.prog w = .ok (.func fn first cap) w := fun _ _ _ _ => rfl
  obtain ⟨W0, hW0⟩ : ∃ W0, (w.alloc (.cells #[.pointer (some ⟨R, 0, none⟩)] 102)).alloc (.cells #[.string s] 9) = W0 := ⟨_, rfl⟩
  have bW : Below w.heap.size w W0 := by
    rw [← hW0]
    exact ((Below.refl w.heap.size w).alloc (Nat.le_refl _) _).alloc (by simp) _
  have hzW : W0.heap.size = w.heap.size + 2 := by rw [← hW0]; simp
  have o1 : One W0 w.heap.size 102 (pt R) := by
    unfold One
    rw [← hW0, Below.heap_alloc _ _ _ (by simp)]
    exact new_at _ _ rfl
  have o2 : One W0 (w.heap.size + 1) 9 (.string s) := by
    unfold One
    rw [← hW0]
    exact new_at _ _ (by simp)
  have PRE := Lib.hid (fun W pb (b : Below W0.heap.size W0 W) (o3 : One W pb 3 (.int .i64 (Ops.sidesZ L s 2).1)) (hp : W0.heap.size ≤ pb) => show PreSt w0 w W R tv a σ c fr so w.heap.size (w.heap.size + 1) pb s (Ops.sidesZ L s 2).1 from by
    have k := keeps_below (F := fun _ => False) b
    have := b.size
    have := o3.lt
    exact ⟨(h.on bW).on b, o1.keeps k (fun h => h), o2.keeps k (fun h => h), o3, ⟨by omega, fun hm => by have := hO _ hm; omega⟩, ⟨by omega, fun hm => by have := hO _ hm; omega⟩, ⟨by omega, fun hm => by have := hO _ hm; omega⟩, bW.trans (b.mono bW.size)⟩)
  have KP := Lib.hid (fun W (b : Below W0.heap.size W0 W) => show W.cell? ⟨w.heap.size, 0, none⟩ = some (.pointer (some ⟨R, 0, none⟩)) ∧ W.cell? ⟨w.heap.size + 1, 0, none⟩ = some (.string s) ∧ W.cell? ⟨R, 2, none⟩ = some (.pointer (some ⟨a, 0, none⟩)) from by
    have k := keeps_below (F := fun _ => False) b
    have hc := ((h.on bW).on b).mem.rd.c_a
    rw [h.a] at hc
    exact ⟨(o1.keeps k (fun h => h)).cell, (o2.keeps k (fun h => h)).cell, hc⟩)
  have PF := Lib.hid (fun W (b : Below W0.heap.size W0 W) => by
    have ht := ((h.on bW).on b).tabW hC
    rw [h.a] at ht
    exact Ops.infix_is a m L s W ht.lay ht.tb (by unfold maxLen; omega))
  have FT := Lib.hid (fun wc (hc : StX w0 wc R tv a σ [] c fr so) p lf (hb : fitsZ σ p lf = b) => fits_is wc R c σ.most p lf b hc.mem.rd (hc.last hne (by omega)) (by rw [hc.p]; exact hb))
  have PA := Lib.hid (fun wc (hc : StX w0 wc R tv a σ [] c fr so) => passS hc (show σ.i ≤ 10000 by omega))
  have hse := h.so
  obtain ⟨p, hp⟩ : ∃ p, (Ops.sidesZ L s 2).1 = p := ⟨_, rfl⟩
  obtain ⟨lf, hlf⟩ : ∃ x, (Ops.sidesZ L s 2).2.1 = x := ⟨_, rfl⟩
  obtain ⟨r, hr⟩ : ∃ r, (Ops.sidesZ L s 2).2.2 = r := ⟨_, rfl⟩
  simp only [hp, hlf, hr] at PRE PF hb ⊢
  have q := KP.out W0 (Below.refl _ _)
  have HZ := Lib.hid hzW
  clear h o1 o2 bW hO hzW hp hr hlf
  go_enter Tryz.func192, Tryz.ntmps192
  go_wp2_with fail
  obtain ⟨q1, q2, q3⟩ := q
  go_cut [5, 6, 7] from 8 (fun s5 s6 s7 wc => ∃ pb, s5 = .pointer (some ⟨pb, 0, none⟩) ∧ s6 = .int .i64 lf ∧ s7 = .int .i64 r ∧ Hid (PreSt w0 w wc R tv a σ c fr so w.heap.size (w.heap.size + 1) pb s p))
  case first =>
    have BD := Lib.hid (show Below W0.heap.size W0 W0.drew from (Below.refl _ _).drew)
    have BA := Lib.hid (show Below W0.heap.size W0 (W0.alloc (.cells #[.int .i64 0] 3)).drew from ((Below.refl _ _).alloc (Nat.le_refl _) _).drew)
    have PBX := Lib.hid (fun w2 (b2 : Below (W0.alloc (.cells #[.int .i64 0] 3)).drew.heap.size (W0.alloc (.cells #[.int .i64 0] 3)).drew w2) => show w2.cell? ⟨W0.heap.size, 0, none⟩ = some (.int .i64 0) ∧ w2.frozen? ⟨W0.heap.size, 0, none⟩ = false ∧ Hid (w2.heap[W0.heap.size]? = some (.cells #[.int .i64 0] 3 (0, 0))) from by
      have e := (b2.block W0.heap.size (by show W0.heap.size < (W0.alloc _).heap.size; simp)).trans (heap_alloc_new W0 _)
      exact ⟨cell_of_heap e rfl, free_of_heap e, e⟩)
    go_region_held3 (fun W => W.cell? ⟨w.heap.size, 0, none⟩ = some (.pointer (some ⟨R, 0, none⟩)) ∧ W.cell? ⟨w.heap.size + 1, 0, none⟩ = some (.string s) ∧ W.cell? ⟨R, 2, none⟩ = some (.pointer (some ⟨a, 0, none⟩))) (first | exact KP.out _ BD.out | exact KP.out _ BA.out | exact KP.out _ B2.out | exact KP.out _ (B2.out.alloc B2.out.size _) | exact KP.out _ (B2.out.setCell (by simp) _)) (first | (go_at_call 206; refine (PF.out _ BA.out).mono ?_; rintro _ w2 ⟨rfl, b2⟩; have B2 := Lib.hid (show Below W0.heap.size W0 w2 from BA.out.trans (b2.mono BA.out.size)); obtain ⟨pc, pz, E2⟩ := PBX.out w2 b2) | (go_at_call 206; refine (PF.out _ BD.out).mono ?_; rintro _ w2 ⟨rfl, b2⟩; have B2 := Lib.hid (show Below W0.heap.size W0 w2 from BD.out.trans (b2.mono BD.out.size))))
    · go_wp2_with fail
      go_meet
      case rel => exact ⟨_, rfl, rfl, rfl, PRE.out _ _ (B2.out.alloc B2.out.size _) (new_at _ _ rfl) B2.out.size⟩
    · go_wp2_with fail
      go_meet
      case rel => exact ⟨_, rfl, rfl, rfl, PRE.out _ _ (B2.out.setCell (p := ⟨W0.heap.size, 0, none⟩) (Nat.le_refl _) _) (heap_set E2.out _) (Nat.le_refl _)⟩
  case rest =>
    obtain ⟨pb, rfl, rfl, rfl, PS⟩ := hcut
    have q4 := PS.out.opb.cell
    have q5 := PS.out.orb.cell
    unfold pt at q5
    clear q1 q2 q3 PRE KP PF
    have F1 := Lib.hid (FT.out wc PS.out.st p lf hb)
    cases b
    · clear FT PA hse
      go_wp2_with fail
      refine F1.out.mono ?_
      rintro e w2 ⟨rfl, q, rfl⟩
      clear F1
      go_wp2_with fail
      go_ret
      exact ⟨rfl, drewn_below PS.out.bl q⟩
    · have P1 := Lib.hid (fun q => PA.out (wc.drewN q) (PS.out.st.drewN q))
      have G1 := Lib.hid (fun q w3 (k3 : Keeps (fun j => j = R) (wc.drewN q) w3) (h3 : StX w0 w3 R tv a (σ.to (σ.i + 1)) [] { c with i := c.i + 1 } fr so) => (PS.out.on (drewn_below (Below.refl _ _) q)).pass k3 h3 rfl)
      obtain ⟨τ, hτ⟩ : ∃ τ, σ.to (σ.i + 1) = τ := ⟨_, rfl⟩
      have hst1 : τ.stk.length ≤ 90000 := by rw [← hτ]; exact hst
      obtain ⟨d, hd⟩ : ∃ d : Rc, ({ c with i := c.i + 1 } : Rc) = d := ⟨_, rfl⟩
      simp only [hτ, hd] at P1 G1 ⊢
      have q6 := fun q => (PS.out.on (drewn_below (Below.refl _ _) q)).orb.cell
      unfold pt at q6
      have Q6 := Lib.hid q6
      have HT := Lib.hid hτ
      clear FT PA PS q6 hτ hd
      go_wp2_with fail
      refine F1.out.mono ?_
      rintro e w2 ⟨rfl, q, rfl⟩
      have P2 := Lib.hid (P1.out q)
      have G2 := Lib.hid (G1.out q)
      have q6 := Q6.out q
      clear F1 P1 G1 Q6 q4 q5
      go_wp2_with fail
      refine P2.out.mono ?_
      rintro e w3 ⟨rfl, k3, h3⟩
      have I3 := G2.out w3 k3 h3
      obtain ⟨xa, xn, xk, xsv⟩ := AT.sv_slice h3.mem.som
      have r1 := h3.mem.rd.c_k
      have r2 := h3.mem.rd.c_n
      have r3 := h3.mem.rd.c_s
      have r4 := h3.mem.rd.c_sv
      rw [h3.mem.k] at r1
      rw [h3.mem.n] at r2
      rw [h3.mem.s] at r3
      rw [h3.mem.sv, xsv] at r4
      have r5 := I3.orb.cell
      unfold pt at r5
      have hRb := I3.srb.1
      have KT := I3.kt
      have W2 := Lib.hid (wantS (k := .inf w.heap.size (w.heap.size + 1) w3.heap.size pb s so p) KT.1 KT.2 r (by omega))
      have r6 := ((I3.orb.keeps (keeps_below (F := fun _ => False) ((Below.refl w3.heap.size w3).alloc (Nat.le_refl _) (.cells #[.int .i64 so.k, .int .i64 so.n, .string so.s, so.sv] 34))) (fun h => h))).cell
      rw [xsv] at W2 r6
      unfold KtA.val pt at W2
      unfold pt at r6
      clear h3 k3 I3 KT P2 G2 q6
      go_wp2_with fail
      refine W2.out.mono ?_
      rintro e w4 ⟨rfl, hs4⟩
      have HS := Lib.hid hs4
      clear hs4 W2
      go_wp2_with fail
      go_ret
      exact ⟨rfl, by rw [← hse, HT.out]; exact HS.out⟩
end Go.Proofs.YtkplokfcjjcpcaaGreatDoor
end
section
namespace Go.Proofs.YtkplokfcjjcpcaaGreatDoor
open Go Go.RowKit Go.Maps Trm
attribute [local go_sem ↓] Go.wp_at_zero Go.wp_at_succ
theorem ownL_app (R : Nat) (c : Rc) (fr : List FrA) (E : List Nat) : ownL R c fr E = ownL R c fr [] ++ E := by simp [ownL]
theorem StX.mine {F : Nat → Prop} {w0 : Base} {w w' : World} {R : Nat} {tv : Value} {a : Nat} {σ : Ms} {E E' : List Nat} {c : Rc} {fr : List FrA} {so : AT} (h : StX w0 w R tv a σ E c fr so) (k : Keeps F w w') (hF : ∀ j, F j → j ∈ E ∨ w.heap.size ≤ j) (hE : E'.Nodup) (hE' : ∀ j ∈ E', j ∈ E ∨ (w.heap.size ≤ j ∧ j < w'.heap.size)) : StX w0 w' R tv a σ E' c fr so := by
  have hnd := h.mem.nodup
  rw [ownL_app] at hnd
  obtain ⟨hn1, hn2, hn3⟩ := List.nodup_append.1 hnd
  have hlow := h.mem.low
  have hA : ∀ j ∈ ownL R c fr [], ¬ F j := fun j hj hFj => by
    rcases hF j hFj with h1 | h1
    · exact hn3 j hj j h1 rfl
    · have := (hlow j (by rw [ownL_app]; exact List.mem_append_left _ hj)).2; omega
  have hS : ∀ j, Still w (ownL R c fr E) j → ¬ F j := fun j hj hFj => by
    rcases hF j hFj with h1 | h1
    · exact hj.2 (by rw [ownL_app]; exact List.mem_append_right _ h1)
    · have := hj.1; omega
  have hS' : ∀ j, Still w (ownL R c fr E) j → Still w' (ownL R c fr E') j := fun j hj => ⟨Nat.lt_of_lt_of_le hj.1 k.size, fun hm => by
    rw [ownL_app] at hm
    rcases List.mem_append.1 hm with h1 | h1
    · exact hj.2 (by rw [ownL_app]; exact List.mem_append_left _ h1)
    · rcases hE' j h1 with h2 | h2
      · exact hj.2 (by rw [ownL_app]; exact List.mem_append_right _ h2)
      · have := hj.1; omega⟩
  have hlt : ∀ j ∈ ownL R c fr [], w0.heap.size ≤ j ∧ j < w.heap.size := fun j hj => hlow j (by rw [ownL_app]; exact List.mem_append_left _ hj)
  have hB : Below w0.heap.size w0 w' := h.below.trans (k.below (fun j hj => by
    rcases hF j hj with h1 | h1
    · exact (hlow j (by rw [ownL_app]; exact List.mem_append_right _ h1)).1
    · have := h.below.size; omega) h.below.size)
  obtain ⟨m, D, n1, n2, n3⟩ := h.mem.nums
  refine ⟨⟨h.mem.rd.kept k (hA _ (mem_ownL.2 (.inl rfl))), h.mem.k, h.mem.n, h.mem.s, h.mem.sv, row_keeps h.mem.wait k fun g hg => hA g (mem_ownL.2 (.inr (.inr (.inr (.inl hg))))), ⟨m, D, ?_, n2, n3⟩, row_keeps h.mem.names k fun g hg => hA g (mem_ownL.2 (.inr (.inr (.inl hg)))), ?_, fun j hj => ?_, fun f hf => KtA.mem_keeps (h.mem.frs f hf) k hS hS' fun j hj => hA j (mem_ownL.2 (.inr (.inr (.inr (.inr (.inl ⟨f, hf, hj⟩)))))), AT.mem_keeps k h.mem.soi hS h.mem.som, AT.ins_mono hS' so h.mem.soi⟩, hB, h.tv, h.a, h.prims.same (k.block _ h.pS.1 (hS _ h.pS)), hS' _ h.pS, h.i, h.cnt, h.stk, h.so, h.p, h.bg, h.sf.keeps k hS hS'⟩
  · obtain ⟨es, clock, hb, r⟩ := n1
    exact ⟨es, clock, k.heap hb (hA _ (mem_ownL.2 (.inr (.inl rfl)))), r⟩
  · rw [ownL_app]
    refine List.nodup_append.2 ⟨hn1, hE, fun i hi j hj e => ?_⟩
    subst e
    rcases hE' i hj with h1 | h1
    · exact hn3 i hi i h1 rfl
    · have := (hlt i hi).2; omega
  · rw [ownL_app] at hj
    rcases List.mem_append.1 hj with h1 | h1
    · exact ⟨(hlt j h1).1, Nat.lt_of_lt_of_le (hlt j h1).2 k.size⟩
    · rcases hE' j h1 with h2 | h2
      · have := hlow j (by rw [ownL_app]; exact List.mem_append_right _ h2)
        exact ⟨this.1, Nat.lt_of_lt_of_le this.2 k.size⟩
      · have := h.below.size
        exact ⟨by omega, h2.2⟩
theorem row_last {w w' : World} {b n g cap : Nat} {e : TypeId} {xs z ys : List Value} (h : w.ownsRow b e 4 (.slice (some ⟨g, 0, none⟩) (n + 1) cap) (n + 1) (xs ++ z)) (hx : xs.length = n * 4) (y0 y1 y2 y3 : Value) (hy : ys = [y0, y1, y2, y3])
    (hg : ∀ cur, w.heap[g]? = some (.cells cur e (0, 0)) → w'.heap[g]? = some (.cells ((((cur.setIfInBounds (n * 4) y0).setIfInBounds (n * 4 + 1) y1).setIfInBounds (n * 4 + 2) y2).setIfInBounds (n * 4 + 3) y3) e (0, 0))) : w'.ownsRow b e 4 (.slice (some ⟨g, 0, none⟩) (n + 1) cap) (n + 1) (xs ++ ys) := by
  obtain ⟨h0, ⟨h1, h2⟩ | ⟨g', cap', cur, hv, h2, h3, h4, h5, h6, h7⟩⟩ := h
  · simp at h1
  · simp at hv
    obtain ⟨rfl, rfl⟩ := hv
    subst hy
    refine ⟨by simp [hx]; omega, .inr ⟨g, cap, _, rfl, h2, hg cur h3, h4, h5, by simpa using h6, ?_⟩⟩
    have hcur : n * 4 + 4 ≤ cur.size := by omega
    apply List.ext_getElem?
    intro i
    have h8 := congrArg (fun l => l[i]?) h7
    simp only [List.getElem?_take] at h8 ⊢
    rw [List.length_append, hx] at h0
    by_cases hi : i < (n + 1) * 4
    · rw [if_pos hi] at h8 ⊢
      simp only [Array.toList_setIfInBounds]
      by_cases h9 : i < n * 4
      · rw [List.getElem?_set_ne (by omega), List.getElem?_set_ne (by omega), List.getElem?_set_ne (by omega), List.getElem?_set_ne (by omega), h8, List.getElem?_append_left (by omega), List.getElem?_append_left (by omega)]
      · rw [List.getElem?_append_right (by omega), hx]
        have hl : cur.toList.length = cur.size := by simp
        obtain rfl | rfl | rfl | rfl : i = n * 4 ∨ i = n * 4 + 1 ∨ i = n * 4 + 2 ∨ i = n * 4 + 3 := by omega
        · rw [List.getElem?_set_ne (by omega), List.getElem?_set_ne (by omega), List.getElem?_set_ne (by omega), List.getElem?_set_self (by omega)]
          simp
        · rw [List.getElem?_set_ne (by omega), List.getElem?_set_ne (by omega), List.getElem?_set_self (by simp; omega)]
          simp
        · rw [List.getElem?_set_ne (by omega), List.getElem?_set_self (by simp; omega)]
          simp
        · rw [List.getElem?_set_self (by simp; omega)]
          simp
    · rw [if_neg hi, List.getElem?_eq_none (by simp [hx]; omega)]
end Go.Proofs.YtkplokfcjjcpcaaGreatDoor
end
