/- Joined texts: ReadZG ReadZH ReadZI ReadZK ReadZM. Conditions: as each states. -/
import Derived.Test.YtkplokfcjjcpcaaGreatDoorRk27
import Derived.Test.YtkplokfcjjcpcaaGreatDoorRk20
import Derived.Defers
import Derived.Recover
import Derived.Laws.Pointers
import Derived.Test.YtkplokfcjjcpcaaGreatDoorRk23
section
namespace Go.Proofs.YtkplokfcjjcpcaaGreatDoor
open Go Go.RowKit Go.Maps Trm
attribute [local go_sem ↓] Go.wp_at_zero Go.wp_at_succ
set_option maxRecDepth 100000 in
set_option maxHeartbeats 3200000 in
theorem goOn_is {w0 : Base} {w : World} {a m : Nat} {L : List Ops.Df} {R : Nat} {tv : Value} {l : List Tok} {σ : Ms} {c : Rc} {fr : List FrA} {so : AT} (h : StX w0 w R tv a σ [] c fr so) (hC : Ctx w0 a m L tv l) (hi : σ.i + 1 ≤ 10000) (hst : σ.stk.length ≤ 90000) (hne : σ.stk ≠ []) (hft : ∀ f ∈ σ.stk, f.k.fits) :
    Calls Tryz.prog 149 #[.pointer (some ⟨R, 0, none⟩)] w (POut w0 R tv a (goOnZ L l σ)) := by
  have hR := h.mem.rd.lt
  have NX := Lib.hid (nextS h hC (by omega))
  obtain ⟨_, hs⟩ := tok_fit hC σ.i
  obtain ⟨o, ho⟩ : ∃ o, goOnZ L l σ = o := ⟨_, rfl⟩
  rw [ho]
  unfold goOnZ at ho
  obtain ⟨u, hu⟩ : ∃ u, tokAt l σ.i = u := ⟨_, rfl⟩
  rw [hu] at NX ho hs
  dsimp only at ho
  obtain ⟨j, hj⟩ : ∃ j, joinsZ u = j := ⟨_, rfl⟩
  rw [hj] at ho
  have MJ := Lib.hid (fun W => mayJoin_is W u (by omega))
  simp only [hj] at MJ
  clear hu hj
  obtain ⟨uk, ul, un, us, uO, ut⟩ := u
  obtain ⟨U, hU⟩ : ∃ U : ByteArray, (⟨us.toArray⟩ : ByteArray) = U := ⟨_, rfl⟩
  have hUd : U.data.toList = us := by rw [← hU]
  simp only at hs
  have hU5 : U.size ≤ 5000 := by rw [Lib.size_eq, hUd]; exact hs
  simp only [Tok.val, hU] at NX MJ
  simp only [Tok.b, hU] at ho
  obtain ⟨bi, hbi⟩ : ∃ b, fitsZ σ (Ops.sidesZ L U 2).1 (Ops.sidesZ L U 2).2.1 = b := ⟨_, rfl⟩
  obtain ⟨bp, hbp⟩ : ∃ b, fitsZ σ (Ops.sidesZ L U 3).1 (Ops.sidesZ L U 3).2.1 = b := ⟨_, rfl⟩
  rw [hbi, hbp] at ho
  have BU := Lib.hid (fun (w1 : World) W (b : Below (w1.alloc (.cells #[.int .i64 uk, .int .i64 ul, .int .i64 un, .string U, .bool uO, .bool ut] 48)).heap.size (w1.alloc (.cells #[.int .i64 uk, .int .i64 ul, .int .i64 un, .string U, .bool uO, .bool ut] 48)) W) => ((Box6.mk (k := uk) (n := ul) (m := un) (s := U) (o := uO) (t := ut) (heap_alloc_new w1 (.cells #[.int .i64 uk, .int .i64 ul, .int .i64 un, .string U, .bool uO, .bool ut] 48))).keeps (F := fun _ => False) (keeps_below b) (fun h => h)).facts)
  have EN := Lib.hid (fun W (b : Below w.heap.size w W) => end_is (h.on b) hC (by omega) hst hne hft)
  have IX := Lib.hid (fun W (b : Below w.heap.size w W) => infix_st (h.on b) hC hi hst hne U hU5 bi hbi)
  have PX := Lib.hid (fun W (b : Below w.heap.size w W) => postfix_st (h.on b) hC hi hst hne U hU5 bp hbp)
  clear h hU hUd hs hbi hbp
  cases j
  · rw [if_neg (by simp)] at ho
    rw [ho] at EN
    clear IX PX
    cases o
    · go_enter Tryz.func149, Tryz.ntmps149
      go_wp2_with fail
      refine NX.out.mono ?_
      rintro e w1 ⟨rfl, b1⟩
      obtain ⟨p0, p1, p2, p3, p4, p5⟩ := BU.out w1 _ (Below.refl _ _)
      have BA := Lib.hid (show Below w.heap.size w (w1.alloc (.cells #[.int .i64 uk, .int .i64 ul, .int .i64 un, .string U, .bool uO, .bool ut] 48)) from b1.alloc b1.size _)
      have B1 := Lib.hid (BU.out w1)
      clear b1 NX BU
      go_wp2_with fail
      refine (MJ.out _).mono ?_
      rintro e w2 ⟨rfl, b2⟩
      have B2 := Lib.hid (BA.out.trans (b2.mono BA.out.size))
      have p3' := (B1.out w2 b2).2.2.2.1
      have D2 := Lib.hid b2
      clear b2 MJ BA p0 p1 p2 p3 p4 p5
      clear p3' B1 D2
      have E2 := Lib.hid (EN.out w2 B2.out)
      clear EN
      go_wp2_with fail
      refine E2.out.mono ?_
      rintro e w9 ⟨rfl, hs⟩
      have HS := Lib.hid hs
      clear hs E2
      go_wp2_with fail
      first | go_end0 | refine bodyPost_ret (results_none rfl _ _ _) rfl ?_
      exact ⟨rfl, HS.out⟩
    · go_enter Tryz.func149, Tryz.ntmps149
      go_wp2_with fail
      refine NX.out.mono ?_
      rintro e w1 ⟨rfl, b1⟩
      obtain ⟨p0, p1, p2, p3, p4, p5⟩ := BU.out w1 _ (Below.refl _ _)
      have BA := Lib.hid (show Below w.heap.size w (w1.alloc (.cells #[.int .i64 uk, .int .i64 ul, .int .i64 un, .string U, .bool uO, .bool ut] 48)) from b1.alloc b1.size _)
      have B1 := Lib.hid (BU.out w1)
      clear b1 NX BU
      go_wp2_with fail
      refine (MJ.out _).mono ?_
      rintro e w2 ⟨rfl, b2⟩
      have B2 := Lib.hid (BA.out.trans (b2.mono BA.out.size))
      have p3' := (B1.out w2 b2).2.2.2.1
      have D2 := Lib.hid b2
      clear b2 MJ BA p0 p1 p2 p3 p4 p5
      clear p3' B1 D2
      have E2 := Lib.hid (EN.out w2 B2.out)
      clear EN
      go_wp2_with fail
      refine E2.out.mono ?_
      rintro e w9 ⟨rfl, hs⟩
      have HS := Lib.hid hs
      clear hs E2
      unfold stuckE
      go_wp2_with fail
      exact ⟨rfl, rfl, HS.out⟩
  · rw [if_pos rfl] at ho
    cases bi
    · rw [if_neg (by simp)] at ho
      cases bp
      · rw [if_neg (by simp)] at ho
        rw [ho] at EN
        cases o
        · go_enter Tryz.func149, Tryz.ntmps149
          go_wp2_with fail
          refine NX.out.mono ?_
          rintro e w1 ⟨rfl, b1⟩
          obtain ⟨p0, p1, p2, p3, p4, p5⟩ := BU.out w1 _ (Below.refl _ _)
          have BA := Lib.hid (show Below w.heap.size w (w1.alloc (.cells #[.int .i64 uk, .int .i64 ul, .int .i64 un, .string U, .bool uO, .bool ut] 48)) from b1.alloc b1.size _)
          have B1 := Lib.hid (BU.out w1)
          clear b1 NX BU
          go_wp2_with fail
          refine (MJ.out _).mono ?_
          rintro e w2 ⟨rfl, b2⟩
          have B2 := Lib.hid (BA.out.trans (b2.mono BA.out.size))
          have p3' := (B1.out w2 b2).2.2.2.1
          have D2 := Lib.hid b2
          clear b2 MJ BA p0 p1 p2 p3 p4 p5
          have I2 := Lib.hid (IX.out w2 B2.out)
          clear IX
          go_wp2_with fail
          refine I2.out.mono ?_
          rintro e w3 ⟨rfl, _, hf⟩
          have b3 := hf trivial
          have B3 := Lib.hid (B2.out.trans (b3.mono B2.out.size))
          have p3'' := (B1.out w3 (D2.out.trans (b3.mono D2.out.size))).2.2.2.1
          have P2 := Lib.hid (PX.out w3 B3.out)
          clear hf b3 I2 B1 D2 B2 PX p3'
          go_wp2_with fail
          refine P2.out.mono ?_
          rintro e w4 ⟨rfl, _, hf⟩
          have b4 := hf trivial
          have B4 := Lib.hid (B3.out.trans (b4.mono B3.out.size))
          clear hf b4 P2 B3 p3''
          have E2 := Lib.hid (EN.out w4 B4.out)
          clear EN
          go_wp2_with fail
          refine E2.out.mono ?_
          rintro e w9 ⟨rfl, hs⟩
          have HS := Lib.hid hs
          clear hs E2
          go_wp2_with fail
          first | go_end0 | refine bodyPost_ret (results_none rfl _ _ _) rfl ?_
          exact ⟨rfl, HS.out⟩
        · go_enter Tryz.func149, Tryz.ntmps149
          go_wp2_with fail
          refine NX.out.mono ?_
          rintro e w1 ⟨rfl, b1⟩
          obtain ⟨p0, p1, p2, p3, p4, p5⟩ := BU.out w1 _ (Below.refl _ _)
          have BA := Lib.hid (show Below w.heap.size w (w1.alloc (.cells #[.int .i64 uk, .int .i64 ul, .int .i64 un, .string U, .bool uO, .bool ut] 48)) from b1.alloc b1.size _)
          have B1 := Lib.hid (BU.out w1)
          clear b1 NX BU
          go_wp2_with fail
          refine (MJ.out _).mono ?_
          rintro e w2 ⟨rfl, b2⟩
          have B2 := Lib.hid (BA.out.trans (b2.mono BA.out.size))
          have p3' := (B1.out w2 b2).2.2.2.1
          have D2 := Lib.hid b2
          clear b2 MJ BA p0 p1 p2 p3 p4 p5
          have I2 := Lib.hid (IX.out w2 B2.out)
          clear IX
          go_wp2_with fail
          refine I2.out.mono ?_
          rintro e w3 ⟨rfl, _, hf⟩
          have b3 := hf trivial
          have B3 := Lib.hid (B2.out.trans (b3.mono B2.out.size))
          have p3'' := (B1.out w3 (D2.out.trans (b3.mono D2.out.size))).2.2.2.1
          have P2 := Lib.hid (PX.out w3 B3.out)
          clear hf b3 I2 B1 D2 B2 PX p3'
          go_wp2_with fail
          refine P2.out.mono ?_
          rintro e w4 ⟨rfl, _, hf⟩
          have b4 := hf trivial
          have B4 := Lib.hid (B3.out.trans (b4.mono B3.out.size))
          clear hf b4 P2 B3 p3''
          have E2 := Lib.hid (EN.out w4 B4.out)
          clear EN
          go_wp2_with fail
          refine E2.out.mono ?_
          rintro e w9 ⟨rfl, hs⟩
          have HS := Lib.hid hs
          clear hs E2
          unfold stuckE
          go_wp2_with fail
          exact ⟨rfl, rfl, HS.out⟩
      · rw [if_pos rfl] at ho
        subst ho
        clear EN
        go_enter Tryz.func149, Tryz.ntmps149
        go_wp2_with fail
        refine NX.out.mono ?_
        rintro e w1 ⟨rfl, b1⟩
        obtain ⟨p0, p1, p2, p3, p4, p5⟩ := BU.out w1 _ (Below.refl _ _)
        have BA := Lib.hid (show Below w.heap.size w (w1.alloc (.cells #[.int .i64 uk, .int .i64 ul, .int .i64 un, .string U, .bool uO, .bool ut] 48)) from b1.alloc b1.size _)
        have B1 := Lib.hid (BU.out w1)
        clear b1 NX BU
        go_wp2_with fail
        refine (MJ.out _).mono ?_
        rintro e w2 ⟨rfl, b2⟩
        have B2 := Lib.hid (BA.out.trans (b2.mono BA.out.size))
        have p3' := (B1.out w2 b2).2.2.2.1
        have D2 := Lib.hid b2
        clear b2 MJ BA p0 p1 p2 p3 p4 p5
        have I2 := Lib.hid (IX.out w2 B2.out)
        clear IX
        go_wp2_with fail
        refine I2.out.mono ?_
        rintro e w3 ⟨rfl, _, hf⟩
        have b3 := hf trivial
        have B3 := Lib.hid (B2.out.trans (b3.mono B2.out.size))
        have p3'' := (B1.out w3 (D2.out.trans (b3.mono D2.out.size))).2.2.2.1
        have P2 := Lib.hid (PX.out w3 B3.out)
        clear hf b3 I2 B1 D2 B2 PX p3'
        go_wp2_with fail
        refine P2.out.mono ?_
        rintro e w8 ⟨rfl, hf, _⟩
        have HS := Lib.hid (hf trivial)
        clear hf
        go_wp2_with fail
        first | go_end0 | refine bodyPost_ret (results_none rfl _ _ _) rfl ?_
        exact ⟨rfl, HS.out⟩
    · rw [if_pos rfl] at ho
      subst ho
      clear EN PX
      go_enter Tryz.func149, Tryz.ntmps149
      go_wp2_with fail
      refine NX.out.mono ?_
      rintro e w1 ⟨rfl, b1⟩
      obtain ⟨p0, p1, p2, p3, p4, p5⟩ := BU.out w1 _ (Below.refl _ _)
      have BA := Lib.hid (show Below w.heap.size w (w1.alloc (.cells #[.int .i64 uk, .int .i64 ul, .int .i64 un, .string U, .bool uO, .bool ut] 48)) from b1.alloc b1.size _)
      have B1 := Lib.hid (BU.out w1)
      clear b1 NX BU
      go_wp2_with fail
      refine (MJ.out _).mono ?_
      rintro e w2 ⟨rfl, b2⟩
      have B2 := Lib.hid (BA.out.trans (b2.mono BA.out.size))
      have p3' := (B1.out w2 b2).2.2.2.1
      have D2 := Lib.hid b2
      clear b2 MJ BA p0 p1 p2 p3 p4 p5
      have I2 := Lib.hid (IX.out w2 B2.out)
      clear IX
      go_wp2_with fail
      refine I2.out.mono ?_
      rintro e w8 ⟨rfl, hf, _⟩
      have HS := Lib.hid (hf trivial)
      clear hf
      go_wp2_with fail
      first | go_end0 | refine bodyPost_ret (results_none rfl _ _ _) rfl ?_
      exact ⟨rfl, HS.out⟩
set_option maxRecDepth 100000 in
set_option maxHeartbeats 3200000 in
theorem step_is {w0 : Base} {w : World} {a m : Nat} {L : List Ops.Df} {R : Nat} {tv : Value} {l : List Tok} {σ : Ms} {c : Rc} {fr : List FrA} {so : AT} (h : StX w0 w R tv a σ [] c fr so) (hC : Ctx w0 a m L tv l) (hi : σ.i + 4 ≤ 10000) (hst : σ.stk.length ≤ 90000) (hne : σ.stk ≠ []) (hft : ∀ f ∈ σ.stk, f.k.fits) (h0 : 0 ≤ σ.cnt) (h1 : σ.cnt ≤ 100000) (hv : σ.vs.length ≤ 100000) :
    Calls Tryz.prog 95 #[.pointer (some ⟨R, 0, none⟩)] w (POut w0 R tv a (stepZ L l σ)) := by
  have hR := h.mem.rd.lt
  have cb := h.mem.rd.c_bg
  rw [h.bg] at cb
  have BG := Lib.hid (begin_is h hC hi hst hne h0 h1 hv)
  have GO := Lib.hid (goOn_is h hC (by omega) hst hne hft)
  obtain ⟨o, ho⟩ : ∃ o, stepZ L l σ = o := ⟨_, rfl⟩
  rw [ho]
  unfold stepZ at ho
  obtain ⟨b, hb⟩ : ∃ b, σ.begun = b := ⟨_, rfl⟩
  rw [hb] at cb ho
  clear h hb h0 h1 hv hft
  cases b
  · rw [if_neg (by simp)] at ho
    rw [ho] at BG
    clear GO
    cases o
    all_goals
      go_enter Tryz.func95, Tryz.ntmps95
      go_wp2_with fail
      refine BG.out.mono ?_
      rintro e w3 ⟨rfl, hs⟩
      have HS := Lib.hid hs
      clear hs BG
      first | (go_wp2_with fail; (first | go_end0 | refine bodyPost_ret (results_none rfl _ _ _) rfl ?_); exact ⟨rfl, HS.out⟩) | (unfold stuckE; go_wp2_with fail; exact ⟨rfl, rfl, HS.out⟩)
  · rw [if_pos rfl] at ho
    rw [ho] at GO
    clear BG
    cases o
    all_goals
      go_enter Tryz.func95, Tryz.ntmps95
      go_wp2_with fail
      refine GO.out.mono ?_
      rintro e w3 ⟨rfl, hs⟩
      have HS := Lib.hid hs
      clear hs GO
      first | (go_wp2_with fail; (first | go_end0 | refine bodyPost_ret (results_none rfl _ _ _) rfl ?_); exact ⟨rfl, HS.out⟩) | (unfold stuckE; go_wp2_with fail; exact ⟨rfl, rfl, HS.out⟩)
end Go.Proofs.YtkplokfcjjcpcaaGreatDoor
end
section
namespace Go.Proofs.YtkplokfcjjcpcaaGreatDoor
open Go Go.RowKit Trm
def KF (i : Nat) : Kt → Prop
  | .args L al => L.length ≤ i ∧ al.fit
  | .tail L => L.length ≤ i
  | .pre s _ => s.size ≤ 5000
  | .inf s _ _ => s.size ≤ 5000
  | _ => True
theorem KF.mono {i j : Nat} {k : Kt} (h : KF i k) (hij : i ≤ j) : KF j k := by
  cases k with
  | args L al => exact ⟨Nat.le_trans h.1 hij, h.2⟩
  | tail L => exact Nat.le_trans (show L.length ≤ i from h) hij
  | pre s p => exact h
  | inf s so p => exact h
  | _ => trivial
theorem KF.fits {i : Nat} {k : Kt} (h : KF i k) (hi : i ≤ 9000) : k.fits := by
  cases k with
  | args L al => exact ⟨Nat.le_trans h.1 hi, h.2⟩
  | tail L =>
    have h1 : L.length ≤ i := h
    show L.length ≤ 10000
    omega
  | pre s p => exact h
  | inf s so p => exact h
  | _ => trivial
structure Fit (l : List Tok) (K d : Nat) (σ : Ms) : Prop where
  i : σ.i ≤ K
  st : σ.stk.length ≤ σ.i + d
  fr : ∀ f ∈ σ.stk, KF σ.i f.k
  c0 : 0 ≤ σ.cnt
  c1 : σ.cnt ≤ (σ.i : Int)
  vs : σ.vs.length ≤ σ.i
theorem Fit.pass {l : List Tok} {K : Nat} {σ : Ms} (h : Fit l K 1 σ) (hK : l.length ≤ K) (hi : σ.i < l.length) : Fit l K 0 (σ.to (σ.i + 1)) :=
  ⟨by show σ.i + 1 ≤ K; omega, by show σ.stk.length ≤ σ.i + 1 + 0; exact h.st, fun f hf => (h.fr f hf).mono (Nat.le_succ _), h.c0, by show σ.cnt ≤ ((σ.i + 1 : Nat) : Int); have := h.c1; omega, Nat.le_succ_of_le h.vs⟩
theorem Fit.up {l : List Tok} {K : Nat} {σ : Ms} (h : Fit l K 0 σ) : Fit l K 1 σ := ⟨h.i, Nat.le_succ_of_le h.st, h.fr, h.c0, h.c1, h.vs⟩
theorem Fit.be {l : List Tok} {K d : Nat} {σ : Ms} (h : Fit l K d σ) (x : Tm) (p : Int) : Fit l K d (σ.be x p) := ⟨h.i, h.st, h.fr, h.c0, h.c1, h.vs⟩
theorem Fit.want {l : List Tok} {K : Nat} {σ : Ms} (h : Fit l K 0 σ) (m : Int) {k : Kt} (hk : KF σ.i k) : Fit l K 1 (σ.want m k) :=
  ⟨h.i, by show σ.stk.length + 1 ≤ σ.i + 1; have := h.st; omega, fun f hf => by
    rcases List.mem_cons.1 hf with rfl | hf
    · exact hk
    · exact h.fr f hf, h.c0, h.c1, h.vs⟩
theorem Fit.expect {l : List Tok} {K : Nat} {σ τ : Ms} {c : List UInt8} {go : Ms → Ms} (h : Fit l K 0 σ) (hK : l.length ≤ K) (he : expectZ l σ c go = .on τ) (hg : Fit l K 0 (σ.to (σ.i + 1)) → Fit l K 1 (go (σ.to (σ.i + 1)))) : Fit l K 1 τ := by
  obtain ⟨h1, rfl⟩ := expect_on he
  exact hg (h.up.pass hK h1)
theorem Fit.all {l : List Tok} {K : Nat} {σ τ : Ms} {L : List Tm} {al : Al} (h : Fit l K 0 σ) (hK : l.length ≤ K) (hL : L.length ≤ σ.i + 1) (he : allZ l σ L al = .on τ) : Fit l K 1 τ := by
  cases al with
  | comp s =>
    simp only [allZ] at he
    exact h.expect hK he fun h2 => (h2.be _ _).up
  | items =>
    simp only [allZ] at he
    split at he
    · rename_i hp
      obtain rfl := Out.on.inj he
      exact (h.up.pass hK (isP_lt hp)).want _ hL
    · exact h.expect hK he fun h2 => (h2.be _ _).up
theorem Fit.then_ {l : List Tok} {K : Nat} {σ τ : Ms} {x : Tm} {k : Kt} (h : Fit l K 0 σ) (hK : l.length ≤ K) (hk : KF σ.i k) (he : thenZ l σ x k = .on τ) : Fit l K 1 τ := by
  cases k with
  | stop =>
    simp only [thenZ] at he
    split at he
    · rename_i hp
      have h1 := tokAt_lt (l := l) (i := σ.i) (by simp at hp; rw [hp]; decide)
      obtain rfl := Out.on.inj he
      exact ((h.up.pass hK h1).be _ _).up
    · cases he
  | round =>
    simp only [thenZ] at he
    exact h.expect hK he fun h2 => (h2.be _ _).up
  | braces =>
    simp only [thenZ] at he
    exact h.expect hK he fun h2 => (h2.be _ _).up
  | args L al =>
    simp only [thenZ] at he
    have hL : (L ++ [x]).length ≤ σ.i + 1 := by
      have := hk.1
      simp
      omega
    split at he
    · rename_i hp
      obtain rfl := Out.on.inj he
      exact (h.up.pass hK (isP_lt hp)).want _ ⟨hL, hk.2⟩
    · exact h.all hK hL he
  | tail L =>
    simp only [thenZ] at he
    exact h.expect hK he fun h2 => (h2.be _ _).up
  | pre s p =>
    simp only [thenZ] at he
    obtain rfl := Out.on.inj he
    exact (h.be _ _).up
  | inf s so p =>
    simp only [thenZ] at he
    obtain rfl := Out.on.inj he
    exact (h.be _ _).up
theorem Fit.args {l : List Tok} {K : Nat} {σ τ : Ms} {s : ByteArray} (h : Fit l K 0 σ) (hK : l.length ≤ K) (hs : s.size ≤ 5000) (he : argsZ l σ s = .on τ) : Fit l K 1 τ :=
  h.expect hK he fun h2 => h2.want _ ⟨Nat.zero_le _, hs⟩
theorem Fit.end_ {l : List Tok} {K : Nat} {σ τ : Ms} (h : Fit l K 1 σ) (hK : l.length ≤ K) (he : endZ l σ = .on τ) : Fit l K 1 τ := by
  unfold endZ at he
  split at he
  · obtain rfl := Out.on.inj he
    exact h
  · rename_i f r h0
    have hst := h.st
    rw [h0] at hst
    simp at hst
    have hf := h.fr
    rw [h0] at hf
    exact Fit.then_ (σ := { σ with stk := r }) ⟨h.i, hst, fun g hg => hf g (by simp [hg]), h.c0, h.c1, h.vs⟩ hK (hf f (by simp)) he
theorem tok_b (t : Tok) (h : t.s.length ≤ 5000) : t.b.size ≤ 5000 := by
  rw [Lib.size_eq]
  exact h
theorem Fit.goOn {L : List Ops.Df} {l : List Tok} {K : Nat} {σ τ : Ms} (h : Fit l K 1 σ) (hK : l.length ≤ K) (hs : ∀ i, (tokAt l i).s.length ≤ 5000) (he : goOnZ L l σ = .on τ) : Fit l K 1 τ := by
  unfold goOnZ at he
  simp only at he
  split at he
  · rename_i hj
    have h1 := tokAt_lt (l := l) (i := σ.i) (by
      unfold joinsZ at hj
      split at hj
      · omega
      · simp at hj; omega)
    split at he
    · obtain rfl := Out.on.inj he
      exact (h.pass hK h1).want _ (tok_b _ (hs _))
    · split at he
      · obtain rfl := Out.on.inj he
        exact ((h.pass hK h1).be _ _).up
      · exact h.end_ hK he
  · exact h.end_ hK he
theorem Fit.closes {l : List Tok} {K : Nat} {σ τ : Ms} {c : List UInt8} {s : ByteArray} {m : Int} {k : Kt} (h : Fit l K 0 σ) (hK : l.length ≤ K) (hs : s.size ≤ 5000) (hk : KF σ.i k) (he : closesZ l σ c s (fun ρ => ρ.want m k) = .on τ) : Fit l K 1 τ := by
  unfold closesZ at he
  split at he
  · rename_i hp
    have h2 := h.up.pass hK (isP_lt hp)
    split at he
    · exact h2.args hK hs he
    · obtain rfl := Out.on.inj he
      exact (h2.be _ _).up
  · obtain rfl := Out.on.inj he
    exact h.want _ hk
theorem Fit.word {L : List Ops.Df} {l : List Tok} {K : Nat} {σ τ : Ms} {t : Tok} (h : Fit l K 0 σ) (hK : l.length ≤ K) (hs : t.s.length ≤ 5000) (he : wordZ L l σ t = .on τ) : Fit l K 1 τ := by
  unfold wordZ at he
  split at he
  · rename_i hc
    have h1 := tokAt_lt (l := l) (i := σ.i) (by simp at hc; rw [hc.1.2]; decide)
    obtain rfl := Out.on.inj he
    exact ((h.up.pass hK h1).be _ _).up
  · split at he
    · exact h.args hK (tok_b _ hs) he
    · split at he
      · obtain rfl := Out.on.inj he
        exact h.want _ (tok_b _ hs)
      · obtain rfl := Out.on.inj he
        exact (h.be _ _).up
theorem Fit.number {l : List Tok} {K : Nat} {σ : Ms} (h : Fit l K 1 σ) (hK : l.length ≤ K) (hi : σ.i < l.length) (s : List UInt8) : Fit l K 1 ((σ.to (σ.i + 1)).number s).1 := by
  have h2 := h.pass hK hi
  have c1 := h.c1
  have c0 := h.c0
  have v1 := h.vs
  unfold Ms.number
  split
  · exact h2.up
  · split
    · exact ⟨h2.i, Nat.le_succ_of_le h2.st, h2.fr, by show 0 ≤ σ.cnt + 1; omega, by show σ.cnt + 1 ≤ ((σ.i + 1 : Nat) : Int); omega, h2.vs⟩
    · exact ⟨h2.i, Nat.le_succ_of_le h2.st, h2.fr, by show 0 ≤ σ.cnt + 1; omega, by show σ.cnt + 1 ≤ ((σ.i + 1 : Nat) : Int); omega, by show (σ.vs ++ _).length ≤ σ.i + 1; simp; exact v1⟩
theorem Fit.begin_ {L : List Ops.Df} {l : List Tok} {K : Nat} {σ τ : Ms} (h : Fit l K 1 σ) (hK : l.length ≤ K) (hs : ∀ i, (tokAt l i).s.length ≤ 5000) (he : beginZ L l σ = .on τ) : Fit l K 1 τ := by
  unfold beginZ at he
  simp only at he
  split at he
  · rename_i hk
    have h1 := tokAt_lt (l := l) (i := σ.i) (by rw [hk]; decide)
    split at he
    · cases he
    · obtain rfl := Out.on.inj he
      exact ((h.pass hK h1).be _ _).up
  · split at he
    · rename_i hk
      have h1 := tokAt_lt (l := l) (i := σ.i) (by rw [hk]; decide)
      obtain rfl := Out.on.inj he
      exact (h.number hK h1 _).be _ _
    · split at he
      · rename_i hk
        have h1 := tokAt_lt (l := l) (i := σ.i) (by rw [hk]; decide)
        obtain rfl := Out.on.inj he
        exact ((h.pass hK h1).be _ _).up
      · split at he
        · rename_i hk
          have h1 := tokAt_lt (l := l) (i := σ.i) (by rw [hk]; decide)
          have h2 := h.pass hK h1
          split at he
          · obtain rfl := Out.on.inj he
            exact h2.want _ trivial
          · split at he
            · exact h2.closes (k := .args [] .items) hK (by decide) ⟨Nat.zero_le _, trivial⟩ he
            · split at he
              · exact h2.closes (k := .braces) hK (by decide) trivial he
              · cases he
        · split at he
          · rename_i hk
            have h1 := tokAt_lt (l := l) (i := σ.i) (by omega)
            exact (h.pass hK h1).word hK (hs _) he
          · cases he
theorem Fit.step {L : List Ops.Df} {l : List Tok} {K : Nat} {σ τ : Ms} (h : Fit l K 1 σ) (hK : l.length ≤ K) (hs : ∀ i, (tokAt l i).s.length ≤ 5000) (he : stepZ L l σ = .on τ) : Fit l K 1 τ := by
  unfold stepZ at he
  split at he
  · exact h.goOn hK hs he
  · exact h.begin_ hK hs he
end Go.Proofs.YtkplokfcjjcpcaaGreatDoor
end
section
namespace Go.Proofs.YtkplokfcjjcpcaaGreatDoor
open Go Go.RowKit Go.Maps Trm
attribute [local go_sem ↓] Go.wp_at_zero Go.wp_at_succ
set_option maxRecDepth 100000 in
set_option maxHeartbeats 1600000 in
theorem catch_idle (w : World) :
    CallsD Tryz.prog 92 #[] .returning w fun e u' w' => e = .returned (.tuple #[]) ∧ u' = .returning ∧ Below w.heap.size w w' := by
  have b := (Below.refl w.heap.size w).alloc (Nat.le_refl _) (.cells #[] 177)
  have hTA : (Instr.typeAssert .nilIface 20 177 true).run Tryz.prog w = .ok (.tuple #[.agg #[], .bool false]) w := by kernel_rfl
  refine callsD_of_wpS Tryz.func92 rfl fun c₀ cs hu => ?_
  have HU := Lib.hid hu
  apply wpS_seq
  apply wpS_region
  simp [wpOpsS, go_sem, recoverD, hu, Tryz.ntmps92, Exit.thenS]
  refine wpS_of_wp ?_
  simp only [Array.replicate, List.replicate, Array.setIfInBounds]
  clear hu
  go_wp2_with fail
  have hu := HU.out
  clear HU hTA
  cases c₀
  simp only at hu
  subst hu
  simp [bodyPostS, results, Tryz.results92]
  exact b
set_option maxRecDepth 100000 in
set_option maxHeartbeats 1600000 in
theorem catch_stuck (w : World) :
    CallsD Tryz.prog 92 #[] (.panicking [{ v := .iface 177 (.agg #[]), recovered := false }]) w fun e u' w' => e = .returned (.tuple #[]) ∧ u' = .panicking [{ v := .iface 177 (.agg #[]), recovered := true }] ∧ Below w.heap.size w w' := by
  have b := (Below.refl w.heap.size w).alloc (Nat.le_refl _) (.cells #[] 177)
  have hTA : (Instr.typeAssert (.iface 177 (.agg #[])) 20 177 true).run Tryz.prog w = .ok (.tuple #[.agg #[], .bool true]) w := by kernel_rfl
  refine callsD_of_wpS Tryz.func92 rfl fun c₀ cs hu => ?_
  have HU := Lib.hid hu
  apply wpS_seq
  apply wpS_region
  simp [wpOpsS, go_sem, recoverD, hu, Tryz.ntmps92, Exit.thenS]
  refine wpS_of_wp ?_
  simp only [Array.replicate, List.replicate, Array.setIfInBounds]
  clear hu
  go_wp2_with fail
  have hu := HU.out
  clear HU hTA
  cases c₀
  simp only at hu
  subst hu
  simp [bodyPostS, results, Tryz.results92]
  exact b
end Go.Proofs.YtkplokfcjjcpcaaGreatDoor
end
section
namespace Go.Proofs.YtkplokfcjjcpcaaGreatDoor
open Go Go.RowKit Go.Maps Trm
def leftW (n R : Nat) (w : World) : Nat := match w.cell? ⟨R, 1, none⟩, w.cell? ⟨R, 7, none⟩, w.cell? ⟨R, 8, none⟩ with
  | some (.int _ i), some (.slice _ k _), some (.bool b) => 4 * (n - i.toNat) + 2 * k + (if b = true then 0 else 1)
  | _, _, _ => 0
theorem StX.wv_form {w0 : Base} {w : World} {R : Nat} {tv : Value} {a : Nat} {σ : Ms} {E : List Nat} {c : Rc} {fr : List FrA} {so : AT} (h : StX w0 w R tv a σ E c fr so) : ∃ ad cap, c.wv = .slice ad σ.stk.length cap := by
  have hl : σ.stk.length = fr.length := by rw [← h.stk, List.length_map]
  rw [hl]
  obtain ⟨_, ⟨h1, h2⟩ | ⟨g, cap, cur, hv, _⟩⟩ := h.mem.wait
  · rw [h2]
    exact ⟨none, 0, h1⟩
  · exact ⟨_, cap, hv⟩
theorem StX.left {w0 : Base} {w : World} {R : Nat} {tv : Value} {a : Nat} {σ : Ms} {E : List Nat} {c : Rc} {fr : List FrA} {so : AT} (h : StX w0 w R tv a σ E c fr so) (l : List Tok) : leftW l.length R w = σ.left l := by
  obtain ⟨ad, cap, e⟩ := h.wv_form
  have c1 := h.mem.rd.c_i
  have c7 := h.mem.rd.c_wv
  have c8 := h.mem.rd.c_bg
  rw [e] at c7
  rw [h.i] at c1
  rw [h.bg] at c8
  unfold leftW Ms.left
  rw [c1, c7, c8]
  simp
def Base.with (w0 : Base) (Z : Nat → Prop) (wz : World) : Base := ⟨w0.toWorld, Z, wz⟩
theorem StX.rebase {w0 : Base} {w : World} {R : Nat} {tv : Value} {a : Nat} {σ : Ms} {E : List Nat} {c : Rc} {fr : List FrA} {so : AT} (h : StX w0 w R tv a σ E c fr so) (Z : Nat → Prop) (wz : World) (hs : ∀ j, Z j → w.heap[j]? = wz.heap[j]?) (hz : ∀ j, Z j → Still w (ownL R c fr E) j) : StX (w0.with Z wz) w R tv a σ E c fr so :=
  ⟨h.mem, h.below, h.tv, h.a, h.prims, h.pS, h.i, h.cnt, h.stk, h.so, h.p, h.bg, ⟨hs, hz⟩⟩
end Go.Proofs.YtkplokfcjjcpcaaGreatDoor
end
section
namespace Go.Proofs.YtkplokfcjjcpcaaGreatDoor
open Go Go.RowKit Trm
structure Cl (Q : Tm → Prop) : Prop where
  atom : ∀ s, Q (atmT s)
  comp : ∀ s L, (∀ t ∈ L, Q t) → Q (compT s L)
  int : ∀ n : Int, -9223372036854775808 ≤ n → n ≤ 9223372036854775807 → Q (intT n)
  var : ∀ n : Int, 0 ≤ n → n ≤ 100000 → Q (varT n)
theorem Cl.lst {Q : Tm → Prop} (h : Cl Q) {tl : Tm} (ht : Q tl) : ∀ L : List Tm, (∀ t ∈ L, Q t) → Q (lstT tl L)
  | [], _ => ht
  | x :: r, hL => h.comp _ _ fun t hm => by
    rcases List.mem_cons.1 hm with rfl | hm
    · exact hL _ (by simp)
    · rw [List.mem_singleton] at hm
      subst hm
      exact h.lst ht r fun t hm => hL t (by simp [hm])
def KQ (Q : Tm → Prop) : Kt → Prop
  | .args L _ => ∀ t ∈ L, Q t
  | .tail L => ∀ t ∈ L, Q t
  | .inf _ so _ => Q so
  | _ => True
structure QS (Q : Tm → Prop) (σ : Ms) : Prop where
  so : σ.begun = true → Q σ.so
  fr : ∀ f ∈ σ.stk, KQ Q f.k
  vs : ∀ p ∈ σ.vs, 0 ≤ p.2 ∧ p.2 ≤ 100000
theorem QS.to {Q : Tm → Prop} {σ : Ms} (h : QS Q σ) (i : Nat) : QS Q (σ.to i) := ⟨h.so, h.fr, h.vs⟩
theorem QS.be {Q : Tm → Prop} {σ : Ms} (h : QS Q σ) {x : Tm} (hx : Q x) (p : Int) : QS Q (σ.be x p) := ⟨fun _ => hx, h.fr, h.vs⟩
theorem QS.want {Q : Tm → Prop} {σ : Ms} (h : QS Q σ) (m : Int) {k : Kt} (hk : KQ Q k) : QS Q (σ.want m k) :=
  ⟨fun e => (by cases e), fun f hf => by
    rcases List.mem_cons.1 hf with rfl | hf
    · exact hk
    · exact h.fr f hf, h.vs⟩
theorem QS.expect {Q : Tm → Prop} {l : List Tok} {σ τ : Ms} {c : List UInt8} {go : Ms → Ms} (h : QS Q σ) (he : expectZ l σ c go = .on τ) (hg : QS Q (σ.to (σ.i + 1)) → QS Q (go (σ.to (σ.i + 1)))) : QS Q τ := by
  obtain ⟨h1, rfl⟩ := expect_on he
  exact hg (h.to _)
theorem QS.all {Q : Tm → Prop} (cl : Cl Q) {l : List Tok} {σ τ : Ms} {L : List Tm} {al : Al} (h : QS Q σ) (hL : ∀ t ∈ L, Q t) (he : allZ l σ L al = .on τ) : QS Q τ := by
  cases al with
  | comp s =>
    simp only [allZ] at he
    exact h.expect he fun h2 => h2.be (cl.comp _ _ hL) _
  | items =>
    simp only [allZ] at he
    split at he
    · obtain rfl := Out.on.inj he
      exact (h.to _).want _ hL
    · exact h.expect he fun h2 => h2.be (cl.lst (cl.atom _) _ hL) _
theorem QS.then_ {Q : Tm → Prop} (cl : Cl Q) {l : List Tok} {σ τ : Ms} {x : Tm} {k : Kt} (h : QS Q σ) (hx : Q x) (hk : KQ Q k) (he : thenZ l σ x k = .on τ) : QS Q τ := by
  cases k with
  | stop =>
    simp only [thenZ] at he
    split at he
    · obtain rfl := Out.on.inj he
      exact (h.to _).be hx _
    · cases he
  | round =>
    simp only [thenZ] at he
    exact h.expect he fun h2 => h2.be hx _
  | braces =>
    simp only [thenZ] at he
    exact h.expect he fun h2 => h2.be (cl.comp _ _ fun t ht => by rw [List.mem_singleton] at ht; rw [ht]; exact hx) _
  | args L al =>
    simp only [thenZ] at he
    have hL : ∀ t ∈ L ++ [x], Q t := fun t ht => by
      rcases List.mem_append.1 ht with h1 | h1
      · exact hk t h1
      · rw [List.mem_singleton] at h1; rw [h1]; exact hx
    split at he
    · obtain rfl := Out.on.inj he
      exact (h.to _).want _ hL
    · exact h.all cl hL he
  | tail L =>
    simp only [thenZ] at he
    exact h.expect he fun h2 => h2.be (cl.lst hx _ hk) _
  | pre s p =>
    simp only [thenZ] at he
    obtain rfl := Out.on.inj he
    exact h.be (cl.comp _ _ fun t ht => by rw [List.mem_singleton] at ht; rw [ht]; exact hx) _
  | inf s so p =>
    simp only [thenZ] at he
    obtain rfl := Out.on.inj he
    refine h.be (cl.comp _ _ fun t ht => ?_) _
    rcases List.mem_cons.1 ht with rfl | ht
    · exact hk
    · rw [List.mem_singleton] at ht; rw [ht]; exact hx
theorem QS.args {Q : Tm → Prop} {l : List Tok} {σ τ : Ms} {s : ByteArray} (h : QS Q σ) (he : argsZ l σ s = .on τ) : QS Q τ :=
  h.expect he fun h2 => h2.want _ (fun t ht => by cases ht)
theorem QS.end_ {Q : Tm → Prop} (cl : Cl Q) {l : List Tok} {σ τ : Ms} (h : QS Q σ) (hb : σ.begun = true) (he : endZ l σ = .on τ) : QS Q τ := by
  unfold endZ at he
  split at he
  · obtain rfl := Out.on.inj he
    exact h
  · rename_i f r h0
    have hf := h.fr
    rw [h0] at hf
    exact QS.then_ (σ := { σ with stk := r }) cl ⟨h.so, fun g hg => hf g (by simp [hg]), h.vs⟩ (h.so hb) (hf f (by simp)) he
theorem QS.goOn {Q : Tm → Prop} (cl : Cl Q) {L : List Ops.Df} {l : List Tok} {σ τ : Ms} (h : QS Q σ) (hb : σ.begun = true) (he : goOnZ L l σ = .on τ) : QS Q τ := by
  unfold goOnZ at he
  simp only at he
  split at he
  · split at he
    · obtain rfl := Out.on.inj he
      exact (h.to _).want _ (h.so hb)
    · split at he
      · obtain rfl := Out.on.inj he
        exact (h.to _).be (cl.comp _ _ fun t ht => by rw [List.mem_singleton] at ht; rw [ht]; exact h.so hb) _
      · exact h.end_ cl hb he
  · exact h.end_ cl hb he
theorem QS.closes {Q : Tm → Prop} (cl : Cl Q) {l : List Tok} {σ τ : Ms} {c : List UInt8} {s : ByteArray} {m : Int} {k : Kt} (h : QS Q σ) (hk : KQ Q k) (he : closesZ l σ c s (fun ρ => ρ.want m k) = .on τ) : QS Q τ := by
  unfold closesZ at he
  split at he
  · split at he
    · exact (h.to _).args he
    · obtain rfl := Out.on.inj he
      exact (h.to _).be (cl.atom _) _
  · obtain rfl := Out.on.inj he
    exact h.want _ hk
theorem wrap_in (n : Int) : -9223372036854775808 ≤ wrap64 n ∧ wrap64 n ≤ 9223372036854775807 := by
  unfold wrap64
  omega
theorem QS.word {Q : Tm → Prop} (cl : Cl Q) {L : List Ops.Df} {l : List Tok} {σ τ : Ms} {t : Tok} (h : QS Q σ) (he : wordZ L l σ t = .on τ) : QS Q τ := by
  unfold wordZ at he
  split at he
  · obtain rfl := Out.on.inj he
    exact (h.to _).be (cl.int _ (wrap_in _).1 (wrap_in _).2) _
  · split at he
    · exact h.args he
    · split at he
      · obtain rfl := Out.on.inj he
        exact h.want _ trivial
      · obtain rfl := Out.on.inj he
        exact h.be (cl.atom _) _
theorem fndV_mem {vs : List (ByteArray × Int)} {s : ByteArray} {n : Int} (h : fndV vs s = some n) : ∃ p ∈ vs, p.2 = n := by
  unfold fndV at h
  obtain ⟨p, hp, e⟩ := Option.map_eq_some_iff.1 h
  exact ⟨p, List.mem_of_find?_eq_some hp, e⟩
theorem QS.number {Q : Tm → Prop} {σ : Ms} (h : QS Q σ) (c0 : 0 ≤ σ.cnt) (c1 : σ.cnt ≤ 100000) (s : List UInt8) : QS Q (σ.number s).1 ∧ 0 ≤ (σ.number s).2 ∧ (σ.number s).2 ≤ 100000 := by
  unfold Ms.number
  split
  · rename_i n hn
    obtain ⟨p, hp, e⟩ := fndV_mem hn
    have := h.vs p hp
    rw [e] at this
    exact ⟨h, this.1, this.2⟩
  · split
    · exact ⟨⟨h.so, h.fr, h.vs⟩, c0, c1⟩
    · refine ⟨⟨h.so, h.fr, fun p hp => ?_⟩, c0, c1⟩
      rcases List.mem_append.1 hp with h1 | h1
      · exact h.vs p h1
      · rw [List.mem_singleton] at h1; rw [h1]; exact ⟨c0, c1⟩
theorem QS.begin_ {Q : Tm → Prop} (cl : Cl Q) {L : List Ops.Df} {l : List Tok} {σ τ : Ms} (hn : ∀ i, -9223372036854775808 ≤ (tokAt l i).n ∧ (tokAt l i).n ≤ 9223372036854775807) (h : QS Q σ) (c0 : 0 ≤ σ.cnt) (c1 : σ.cnt ≤ 100000) (he : beginZ L l σ = .on τ) : QS Q τ := by
  unfold beginZ at he
  simp only at he
  split at he
  · split at he
    · cases he
    · obtain rfl := Out.on.inj he
      exact (h.to _).be (cl.int _ (hn _).1 (hn _).2) _
  · split at he
    · obtain rfl := Out.on.inj he
      obtain ⟨h1, h2, h3⟩ := QS.number (h.to (σ.i + 1)) c0 c1 (tokAt l σ.i).s
      exact h1.be (cl.var _ h2 h3) _
    · split at he
      · obtain rfl := Out.on.inj he
        refine (h.to _).be (cl.lst (cl.atom _) _ fun t ht => ?_) _
        unfold codesT at ht
        obtain ⟨c, _, e⟩ := List.mem_map.1 ht
        rw [← e]
        have := c.toNat_lt
        exact cl.int _ (by omega) (by omega)
      · split at he
        · split at he
          · obtain rfl := Out.on.inj he
            exact (h.to _).want _ trivial
          · split at he
            · exact QS.closes (k := .args [] .items) cl (h.to _) (fun t ht => by cases ht) he
            · split at he
              · exact QS.closes (k := .braces) cl (h.to _) trivial he
              · cases he
        · split at he
          · exact QS.word cl (h.to _) he
          · cases he
theorem QS.step {Q : Tm → Prop} (cl : Cl Q) {L : List Ops.Df} {l : List Tok} {σ τ : Ms} (hn : ∀ i, -9223372036854775808 ≤ (tokAt l i).n ∧ (tokAt l i).n ≤ 9223372036854775807) (h : QS Q σ) (c0 : 0 ≤ σ.cnt) (c1 : σ.cnt ≤ 100000) (he : stepZ L l σ = .on τ) : QS Q τ := by
  unfold stepZ at he
  split at he
  · exact h.goOn cl ‹_› he
  · exact h.begin_ cl hn c0 c1 he
def wK : Kt → Nat
  | .args L _ => Tms.nodes L + L.length + 2
  | .tail L => Tms.nodes L + L.length + 2
  | .braces => 1
  | .pre _ _ => 1
  | .inf _ so _ => so.nodes + 1
  | _ => 0
def wF : List Fr → Nat
  | [] => 0
  | f :: r => wK f.k + wF r
def wS (σ : Ms) : Nat := (if σ.begun = true then σ.so.nodes else 0) + wF σ.stk
def wT (t : Tok) : Nat := 4 + 4 * t.s.length
def wTo : List Tok → Nat → Nat
  | _, 0 => 0
  | [], _ => 0
  | t :: r, i + 1 => wT t + wTo r i
theorem wTo_succ : ∀ {l : List Tok} {i : Nat}, i < l.length → wTo l (i + 1) = wTo l i + 4 + 4 * (tokAt l i).s.length
  | [], _, h => by simp at h
  | t :: r, 0, _ => by
    have h0 : wTo r 0 = 0 := by cases r <;> rfl
    show wT t + wTo r 0 = 0 + 4 + 4 * t.s.length
    rw [h0, wT]
    omega
  | t :: r, i + 1, h => by
    have := wTo_succ (l := r) (i := i) (by simpa using h)
    show wT t + wTo r (i + 1) = wT t + wTo r i + 4 + 4 * (tokAt r i).s.length
    omega
theorem wTo_all : ∀ (l : List Tok) (i : Nat), wTo l i ≤ (l.map wT).sum
  | _, 0 => by simp [wTo]
  | [], i + 1 => by simp [wTo]
  | t :: r, i + 1 => by
    have := wTo_all r i
    simp [wTo]
    omega
theorem nodes_app (l m : List Tm) : Tms.nodes (l ++ m) = Tms.nodes l + Tms.nodes m := by
  induction l with
  | nil => simp [Tms.nodes]
  | cons t r ih => rw [List.cons_append, Tms.nodes, Tms.nodes, ih]; omega
theorem nodes_comp (s : ByteArray) (l : List Tm) : (compT s l).nodes = Tms.nodes l + 1 := by rw [compT, Tm.nodes]
theorem nodes_one (x : Tm) : Tms.nodes [x] = x.nodes := by simp [Tms.nodes]
theorem nodes_lst (tl : Tm) : ∀ L : List Tm, (lstT tl L).nodes = Tms.nodes L + L.length + tl.nodes
  | [] => by simp [lstT, Tms.nodes]
  | x :: r => by
    have := nodes_lst tl r
    rw [lstT, nodes_comp]
    simp only [Tms.nodes, this, List.length_cons]
    omega
theorem nodes_nil : nilT.nodes = 1 := by simp [nilT, atmT, Tm.nodes, Tms.nodes]
theorem nodes_atom (s : ByteArray) : (atmT s).nodes = 1 := by simp [atmT, Tm.nodes, Tms.nodes]
theorem nodes_int (n : Int) : (intT n).nodes = 1 := by simp [intT, Tm.nodes, Tms.nodes]
theorem nodes_var (n : Int) : (varT n).nodes = 1 := by simp [varT, Tm.nodes, Tms.nodes]
theorem nodes_codes (l : List UInt8) : Tms.nodes (codesT l) = (l.take 2000).length ∧ (codesT l).length = (l.take 2000).length := by
  unfold codesT
  refine ⟨?_, by simp⟩
  generalize l.take 2000 = r
  induction r with
  | nil => simp [Tms.nodes]
  | cons c r ih => rw [List.map_cons, Tms.nodes, ih, nodes_int, List.length_cons]; omega
def WS (l : List Tok) (σ : Ms) : Prop := wS σ ≤ wTo l σ.i
theorem wS_be (σ : Ms) (x : Tm) (p : Int) : wS (σ.be x p) = x.nodes + wF σ.stk := by simp [wS, Ms.be]
theorem wS_want (σ : Ms) (m : Int) (k : Kt) : wS (σ.want m k) = wK k + wF σ.stk := by simp [wS, Ms.want, wF]
theorem ws_all {l : List Tok} {σ τ : Ms} {L : List Tm} {al : Al} (h : Tms.nodes L + L.length + 1 + wF σ.stk ≤ wTo l σ.i) (he : allZ l σ L al = .on τ) : WS l τ := by
  unfold WS
  cases al with
  | comp s =>
    simp only [allZ] at he
    obtain ⟨h1, rfl⟩ := expect_on he
    rw [wS_be, nodes_comp]
    have := wTo_succ h1
    simp only [Ms.be, Ms.to]
    omega
  | items =>
    simp only [allZ] at he
    split at he
    · rename_i hp
      have := wTo_succ (isP_lt hp)
      obtain rfl := Out.on.inj he
      rw [wS_want]
      simp only [Ms.want, Ms.to, wK]
      omega
    · obtain ⟨h1, rfl⟩ := expect_on he
      have := wTo_succ h1
      rw [wS_be, nodes_lst, nodes_nil]
      simp only [Ms.be, Ms.to]
      omega
theorem ws_then {l : List Tok} {σ τ : Ms} {x : Tm} {k : Kt} (h : x.nodes + wK k + wF σ.stk ≤ wTo l σ.i) (he : thenZ l σ x k = .on τ) : WS l τ := by
  cases k with
  | stop =>
    simp only [thenZ] at he
    split at he
    · rename_i hp
      have h1 := wTo_succ (tokAt_lt (l := l) (i := σ.i) (by simp at hp; rw [hp]; decide))
      obtain rfl := Out.on.inj he
      unfold WS
      rw [wS_be]
      simp only [Ms.be, Ms.to, wK] at h ⊢
      omega
    · cases he
  | round =>
    simp only [thenZ] at he
    obtain ⟨h1, rfl⟩ := expect_on he
    have := wTo_succ h1
    unfold WS
    rw [wS_be]
    simp only [Ms.be, Ms.to, wK] at h ⊢
    omega
  | braces =>
    simp only [thenZ] at he
    obtain ⟨h1, rfl⟩ := expect_on he
    have := wTo_succ h1
    unfold WS
    rw [wS_be, nodes_comp, nodes_one]
    simp only [Ms.be, Ms.to, wK] at h ⊢
    omega
  | args L al =>
    simp only [thenZ, wK] at he h
    have h2 : Tms.nodes (L ++ [x]) = Tms.nodes L + x.nodes := by rw [nodes_app, nodes_one]
    have h3 : (L ++ [x]).length = L.length + 1 := by simp
    split at he
    · rename_i hp
      have := wTo_succ (isP_lt hp)
      obtain rfl := Out.on.inj he
      unfold WS
      rw [wS_want]
      simp only [Ms.want, Ms.to, wK]
      omega
    · exact ws_all (by omega) he
  | tail L =>
    simp only [thenZ, wK] at he h
    obtain ⟨h1, rfl⟩ := expect_on he
    have := wTo_succ h1
    unfold WS
    rw [wS_be, nodes_lst]
    simp only [Ms.be, Ms.to]
    omega
  | pre s p =>
    simp only [thenZ, wK] at he h
    obtain rfl := Out.on.inj he
    unfold WS
    rw [wS_be, nodes_comp, nodes_one]
    simp only [Ms.be]
    omega
  | inf s so p =>
    simp only [thenZ, wK] at he h
    obtain rfl := Out.on.inj he
    unfold WS
    rw [wS_be, nodes_comp]
    simp only [Ms.be, Tms.nodes]
    omega
theorem ws_args {l : List Tok} {σ τ : Ms} {s : ByteArray} (h : wF σ.stk ≤ wTo l σ.i) (he : argsZ l σ s = .on τ) : WS l τ := by
  unfold argsZ at he
  obtain ⟨h1, rfl⟩ := expect_on he
  have := wTo_succ h1
  unfold WS
  rw [wS_want]
  simp only [Ms.want, Ms.to, wK, Tms.nodes, List.length_nil]
  omega
theorem ws_end {l : List Tok} {σ τ : Ms} (h : WS l σ) (hb : σ.begun = true) (he : endZ l σ = .on τ) : WS l τ := by
  unfold endZ at he
  split at he
  · obtain rfl := Out.on.inj he
    exact h
  · rename_i f r h0
    unfold WS wS at h
    rw [if_pos hb, h0, wF] at h
    refine ws_then (σ := { σ with stk := r }) ?_ he
    show σ.so.nodes + wK f.k + wF r ≤ wTo l σ.i
    omega
theorem ws_goOn {L : List Ops.Df} {l : List Tok} {σ τ : Ms} (h : WS l σ) (hb : σ.begun = true) (he : goOnZ L l σ = .on τ) : WS l τ := by
  unfold goOnZ at he
  simp only at he
  have h0 := h
  unfold WS wS at h0
  rw [if_pos hb] at h0
  split at he
  · rename_i hj
    have h1 := wTo_succ (tokAt_lt (l := l) (i := σ.i) (by
      unfold joinsZ at hj
      split at hj
      · omega
      · simp at hj; omega))
    split at he
    · obtain rfl := Out.on.inj he
      unfold WS
      rw [wS_want]
      simp only [Ms.want, Ms.to, wK]
      omega
    · split at he
      · obtain rfl := Out.on.inj he
        unfold WS
        rw [wS_be, nodes_comp, nodes_one]
        simp only [Ms.be, Ms.to]
        omega
      · exact ws_end h hb he
  · exact ws_end h hb he
theorem ws_closes {l : List Tok} {σ τ : Ms} {c : List UInt8} {s : ByteArray} {m : Int} {k : Kt} (h : wK k + wF σ.stk ≤ wTo l σ.i) (he : closesZ l σ c s (fun ρ => ρ.want m k) = .on τ) : WS l τ := by
  unfold closesZ at he
  split at he
  · rename_i hp
    have h1 := wTo_succ (isP_lt hp)
    split at he
    · refine ws_args ?_ he
      simp only [Ms.to]
      omega
    · obtain rfl := Out.on.inj he
      unfold WS
      rw [wS_be, nodes_atom]
      simp only [Ms.be, Ms.to]
      omega
  · obtain rfl := Out.on.inj he
    unfold WS
    rw [wS_want]
    simp only [Ms.want]
    exact h
theorem ws_word {L : List Ops.Df} {l : List Tok} {σ τ : Ms} {t : Tok} (h : 1 + wF σ.stk ≤ wTo l σ.i) (he : wordZ L l σ t = .on τ) : WS l τ := by
  unfold wordZ at he
  split at he
  · rename_i hc
    have h1 := wTo_succ (tokAt_lt (l := l) (i := σ.i) (by simp at hc; rw [hc.1.2]; decide))
    obtain rfl := Out.on.inj he
    unfold WS
    rw [wS_be, nodes_int]
    simp only [Ms.be, Ms.to]
    omega
  · split at he
    · exact ws_args (by omega) he
    · split at he
      · obtain rfl := Out.on.inj he
        unfold WS
        rw [wS_want]
        simp only [Ms.want, wK]
        exact h
      · obtain rfl := Out.on.inj he
        unfold WS
        rw [wS_be, nodes_atom]
        simp only [Ms.be]
        exact h
theorem ws_begin {L : List Ops.Df} {l : List Tok} {σ τ : Ms} (h : WS l σ) (hb : σ.begun = false) (he : beginZ L l σ = .on τ) : WS l τ := by
  unfold WS wS at h
  rw [if_neg (by rw [hb]; decide), Nat.zero_add] at h
  unfold beginZ at he
  simp only at he
  split at he
  · rename_i hk
    have h1 := wTo_succ (tokAt_lt (l := l) (i := σ.i) (by rw [hk]; decide))
    split at he
    · cases he
    · obtain rfl := Out.on.inj he
      unfold WS
      rw [wS_be, nodes_int]
      simp only [Ms.be, Ms.to]
      omega
  · split at he
    · rename_i hk
      have h1 := wTo_succ (tokAt_lt (l := l) (i := σ.i) (by rw [hk]; decide))
      obtain rfl := Out.on.inj he
      obtain ⟨a1, a2, _⟩ := number_same (σ.to (σ.i + 1)) (tokAt l σ.i).s
      unfold WS
      rw [wS_be, nodes_var, a2]
      simp only [Ms.be, a1]
      simp only [Ms.to]
      omega
    · split at he
      · rename_i hk
        have h1 := wTo_succ (tokAt_lt (l := l) (i := σ.i) (by rw [hk]; decide))
        obtain rfl := Out.on.inj he
        obtain ⟨b1, b2⟩ := nodes_codes (tokAt l σ.i).s
        have b3 : ((tokAt l σ.i).s.take 2000).length ≤ (tokAt l σ.i).s.length := by rw [List.length_take]; omega
        unfold WS
        rw [wS_be, nodes_lst, nodes_nil, b1, b2]
        simp only [Ms.be, Ms.to]
        omega
      · split at he
        · rename_i hk
          have h1 := wTo_succ (tokAt_lt (l := l) (i := σ.i) (by rw [hk]; decide))
          split at he
          · obtain rfl := Out.on.inj he
            unfold WS
            rw [wS_want]
            simp only [Ms.want, Ms.to, wK]
            omega
          · split at he
            · refine ws_closes (k := .args [] .items) ?_ he
              simp only [Ms.to, wK, Tms.nodes, List.length_nil]
              omega
            · split at he
              · refine ws_closes (k := .braces) ?_ he
                simp only [Ms.to, wK]
                omega
              · cases he
        · split at he
          · rename_i hk
            have h1 := wTo_succ (tokAt_lt (l := l) (i := σ.i) (by omega))
            refine ws_word ?_ he
            simp only [Ms.to]
            omega
          · cases he
theorem ws_step {L : List Ops.Df} {l : List Tok} {σ τ : Ms} (h : WS l σ) (he : stepZ L l σ = .on τ) : WS l τ := by
  unfold stepZ at he
  split at he
  · exact ws_goOn h ‹_› he
  · exact ws_begin h (by simpa using ‹¬ σ.begun = true›) he
end Go.Proofs.YtkplokfcjjcpcaaGreatDoor
end
