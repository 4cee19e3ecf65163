/- Joined texts: RdK RdM RdN. Conditions: as each states. -/
import Derived.Test.YtkplokfcjjcpcaaGreatDoorQk37
section
namespace Go.Proofs.YtkplokfcjjcpcaaGreatDoor
open Go Go.RowKit Go.Maps Trm
attribute [local go_sem ↓] Go.wp_at_zero Go.wp_at_succ
structure SameAt (w0 : World) (k n : Int) (s : ByteArray) (ad : Option Addr) (a kk : Nat) (ad' : Option Addr) (kk' : Nat) : Prop where
  at' : ∀ w, Below w0.heap.size w0 w → Calls Tryz.prog 27 #[.agg #[.int .i64 k, .int .i64 n, .string s, .slice ad a kk], .agg #[.int .i64 k, .int .i64 n, .string s, .slice ad' a kk']] w fun e w' => e = .returned (.bool true) ∧ Below w.heap.size w w'
theorem SameAt.on {w0 w1 : World} {k n : Int} {s : ByteArray} {ad : Option Addr} {a kk : Nat} {ad' : Option Addr} {kk' : Nat} (h : SameAt w0 k n s ad a kk ad' kk') (b : Below w0.heap.size w0 w1) : SameAt w1 k n s ad a kk ad' kk' :=
  ⟨fun w hb => h.at' w (bt b hb)⟩
theorem sameAt_of {w0 : World} {x y : AT} {k n : Int} {s : ByteArray} {ad ad' : Option Addr} {a kk kk' : Nat} (hx : x.mem w0) (hy : y.mem w0) (h1 : x.nodes ≤ 40000) (h2 : y.nodes ≤ 40000) (he : x.erase = y.erase) (e1 : x.sv = .slice ad a kk) (e2 : y.sv = .slice ad' a kk') (f1 : x.k = k) (f2 : x.n = n) (f3 : x.s = s) (g1 : y.k = k) (g2 : y.n = n) (g3 : y.s = s) :
    SameAt w0 k n s ad a kk ad' kk' := ⟨fun w hb => by
  have := same_is x.nodes x y w (Nat.le_refl _) (AT.mem_below hb (AT.ins_size _ hx) hx) (AT.mem_below hb (AT.ins_size _ hy) hy) (by omega) (by omega)
  rw [AT.same_erase x y he] at this
  unfold AT.val at this
  rw [e1, e2, f1, f2, f3, g1, g2, g3] at this
  exact this⟩
theorem i_lt {i n : Nat} (h : i < n) : ((i : Int) < (n : Int)) := by omega
set_option maxRecDepth 100000 in
set_option maxHeartbeats 3200000 in
theorem same6_is (w : World) (k n : Int) (s : ByteArray) (ad ad' na nb : Option Addr) (a kk kk' nk nl : Nat) (line next : Int) (vs : List (ByteArray × Int)) (SM : SameAt w k n s ad a kk ad' kk') (hA : NmAt w na nk vs) (hB : NmAt w nb nl vs) (hv : vs.length ≤ 100000) :
    Calls Tryz.prog 20 #[.agg #[.int .i64 k, .int .i64 n, .string s, .slice ad a kk, .slice na vs.length nk, .int .i64 line, .int .i64 next], .agg #[.int .i64 k, .int .i64 n, .string s, .slice ad' a kk', .slice nb vs.length nl, .int .i64 line, .int .i64 next]] w fun e w' => e = .returned (.bool true) ∧ Below w.heap.size w w' := by
  obtain ⟨nv, hnv⟩ : ∃ nv, vs.length = nv := ⟨_, rfl⟩
  have HNV := Lib.hid hnv
  rw [hnv]
  rw [hnv] at hv
  obtain ⟨w2, hw2⟩ : ∃ w2, (w.alloc (.cells #[.int .i64 k, .int .i64 n, .string s, .slice ad a kk, .slice na nv nk, .int .i64 line, .int .i64 next] 42)).alloc (.cells #[.int .i64 k, .int .i64 n, .string s, .slice ad' a kk', .slice nb nv nl, .int .i64 line, .int .i64 next] 42) = w2 := ⟨_, rfl⟩
  have b2 : Below w.heap.size w w2 := by
    rw [← hw2]
    exact bt (al1 w _) (al1 _ _)
  have PA : At w2 w.heap.size #[.int .i64 k, .int .i64 n, .string s, .slice ad a kk, .slice na nv nk, .int .i64 line, .int .i64 next] 42 := by
    rw [← hw2]
    exact (At.new w _ _).on (al1 _ _)
  have PB : At w2 (w.heap.size + 1) #[.int .i64 k, .int .i64 n, .string s, .slice ad' a kk', .slice nb nv nl, .int .i64 line, .int .i64 next] 42 := by
    rw [← hw2]
    have h := At.new (w.alloc (.cells #[.int .i64 k, .int .i64 n, .string s, .slice ad a kk, .slice na nv nk, .int .i64 line, .int .i64 next] 42)) #[.int .i64 k, .int .i64 n, .string s, .slice ad' a kk', .slice nb nv nl, .int .i64 line, .int .i64 next] 42
    simpa using h
  have S2 := Lib.hid (SM.at' w2 b2)
  have B2 := Lib.hid b2
  have p0 := cell_of_heap (o := 0) PA rfl
  have p1 := cell_of_heap (o := 1) PA rfl
  have p2 := cell_of_heap (o := 2) PA rfl
  have p3 := cell_of_heap (o := 3) PA rfl
  have q0 := cell_of_heap (o := 0) PB rfl
  have q1 := cell_of_heap (o := 1) PB rfl
  have q2 := cell_of_heap (o := 2) PB rfl
  have q3 := cell_of_heap (o := 3) PB rfl
  have QA := Lib.hid PA
  have QB := Lib.hid PB
  have NA := Lib.hid (fun wr (b : Below w.heap.size w wr) => hA.on b)
  have NB := Lib.hid (fun wr (b : Below w.heap.size w wr) => hB.on b)
  clear SM hA hB PA PB b2 hnv
  go_enter Tryz.func20, Tryz.ntmps20
  go_wp2_with fail
  refine S2.out.mono ?_
  rintro e w3 ⟨rfl, b3⟩
  have RA := Lib.hid (QA.out.on b3)
  have RB := Lib.hid (QB.out.on b3)
  have B3 := Lib.hid (bt B2.out b3)
  have p4 := cell_of_heap (o := 4) RA.out rfl
  have p5 := cell_of_heap (o := 5) RA.out rfl
  have p6 := cell_of_heap (o := 6) RA.out rfl
  have r4 := cell_of_heap (o := 4) RB.out rfl
  have r5 := cell_of_heap (o := 5) RB.out rfl
  have r6 := cell_of_heap (o := 6) RB.out rfl
  clear b3 p0 p1 p2 p3 q0 q1 q2 q3 S2 B2 QA QB hw2
  go_wp2_with fail
  clear p4 p5 p6 r4 r5 r6
  go_loopw [38] (fun v wr => ∃ i : Nat, v = .int .i64 i ∧ i ≤ nv ∧ Hid (Below w3.heap.size w3 wr)) (fun v _ => nv - (intOf v).toNat)
  case atStart => exact ⟨0, rfl, Nat.zero_le _, Below.refl _ _⟩
  case round =>
    obtain ⟨i, rfl, hi', HS⟩ := hrel
    by_cases hlt : i < nv
    · have d0 : decide ((i : Int) < (nv : Int)) = true := decide_eq_true (by omega)
      obtain ⟨g, hg, hcap, hmax, hcell⟩ := (NA.out wr (bt B3.out HS.out)).got
      obtain ⟨g', hg', hcap', hmax', hcell'⟩ := (NB.out wr (bt B3.out HS.out)).got
      obtain ⟨p, hp⟩ : ∃ p, vs[i]? = some p := ⟨vs[i]'(by rw [HNV.out]; exact hlt), List.getElem?_eq_getElem _⟩
      have hne : vs ≠ [] := fun e => by rw [e] at hp; simp at hp
      obtain ⟨rfl, hgl⟩ := hg hne
      obtain ⟨rfl, hgl'⟩ := hg' hne
      obtain ⟨h1, h2⟩ := bind_get vs i p hp
      have c0 := hcell _ _ h1
      have c1 := hcell _ _ h2
      have e0 := hcell' _ _ h1
      have e1 := hcell' _ _ h2
      obtain ⟨ps, pn⟩ := p
      simp only at c0 c1 e0 e1
      have p4 := cell_of_heap (o := 4) (RA.out.on HS.out) rfl
      have r4 := cell_of_heap (o := 4) (RB.out.on HS.out) rfl
      have i2 := i_lt hlt
      clear hp h1 h2 hcell hcell' hg hg' hne hcap hmax hcap' hmax' hgl hgl'
      go_wp2_with fail
      go_quiet (fail)
      go_wp2_with fail
      go_roundw
      case rel => exact ⟨i + 1, by go_num, by omega, Lib.hid (bt HS.out ⟨rfl, rfl, rfl, Nat.le_refl _, fun _ _ => rfl⟩)⟩
      case measure => simp [intOf]; omega
    · have d0 : decide ((i : Int) < (nv : Int)) = false := decide_eq_false (by omega)
      have HB := Lib.hid (bt B3.out HS.out)
      go_wp2_with fail
      go_ret
      exact ⟨rfl, HB.out⟩
end Go.Proofs.YtkplokfcjjcpcaaGreatDoor
end
section
namespace Go.Proofs.YtkplokfcjjcpcaaGreatDoor
open Go Go.RowKit Go.Maps Trm
attribute [local go_sem ↓] Go.wp_at_zero Go.wp_at_succ
theorem tok_six {w : World} {ad : Option Addr} {n cap i : Nat} {l : List Tok} {t : Tok} (h : Tks w (.slice ad n cap) l) (ht : l[i]? = some t) : ∃ g, ad = some ⟨g, 0, none⟩ ∧ n ≤ cap ∧ cap ≤ 9223372036854775807 ∧
    (w.cell? ⟨g, i * 6, none⟩ = some (.int .i64 t.k) ∧ w.cell? ⟨g, i * 6 + 1, none⟩ = some (.int .i64 t.line) ∧ w.cell? ⟨g, i * 6 + 2, none⟩ = some (.int .i64 t.n) ∧ w.cell? ⟨g, i * 6 + 3, none⟩ = some (.string t.b) ∧ w.cell? ⟨g, i * 6 + 4, none⟩ = some (.bool t.open') ∧ w.cell? ⟨g, i * 6 + 5, none⟩ = some (.bool t.tight)) := by
  obtain ⟨ad', cap', g, h1, h2, h3, h4, h5⟩ := h.got
  simp only [Value.slice.injEq] at h1
  obtain ⟨rfl, rfl, rfl⟩ := h1
  have hi : i < l.length := (List.getElem?_eq_some_iff.1 ht).1
  refine ⟨g, (h4 (by omega)).1, h2, h3, h5 _ _ (tcell_get l i 0 t _ ht rfl), h5 _ _ (tcell_get l i 1 t _ ht rfl), h5 _ _ (tcell_get l i 2 t _ ht rfl), h5 _ _ (tcell_get l i 3 t _ ht rfl), h5 _ _ (tcell_get l i 4 t _ ht rfl), h5 _ _ (tcell_get l i 5 t _ ht rfl)⟩
theorem read_names {L : List Ops.Df} {l : List Tok} {u : Tm} {vs : List (ByteArray × Int)} {line next er : Int} (h : readZ L l 0 = (⟨u, vs, line, next⟩, er)) (hl : TkOk l) : vs.length ≤ 5000 := by
  unfold readZ at h
  split at h
  · simp only [Prod.mk.injEq, Cz.mk.injEq] at h
    rw [← h.1.2.1]; exact Nat.zero_le _
  · split at h
    · simp only [Prod.mk.injEq, Cz.mk.injEq] at h
      rw [← h.1.2.1]; exact Nat.zero_le _
    · rename_i τ hτ
      have hE := clause_end hl (Nat.zero_le _) hτ
      have h1 := hE.fit.vs
      have h2 := hE.fit.i
      have h3 := hl.len
      split at h
      · simp only [Prod.mk.injEq, Cz.mk.injEq] at h
        rw [← h.1.2.1]; omega
      · split at h
        all_goals
          simp only [Prod.mk.injEq, Cz.mk.injEq] at h
          rw [← h.1.2.1]; exact Nat.zero_le _
set_option maxRecDepth 100000 in
set_option maxHeartbeats 3200000 in
theorem behind_far (A B : ByteArray) (nm T P : Nat) (w : World) (ht : LayA w) (h : 800 < A.size ∨ 800 < B.size) :
    Calls Tryz.prog 4 #[.agg #[.string A, .string B, .int .u8 nm, .int .u8 T, .int .u16 P]] w fun e w' => e = .returned (.bool true) ∧ Below w.heap.size w w' := by
  have b0 := al1 w (.cells #[.string A, .string B, .int .u8 nm, .int .u8 T, .int .u16 P] 52)
  have X0 := At.new w #[.string A, .string B, .int .u8 nm, .int .u8 T, .int .u16 P] 52
  obtain ⟨w0, hw0⟩ : ∃ w0, w.alloc (.cells #[.string A, .string B, .int .u8 nm, .int .u8 T, .int .u16 P] 52) = w0 := ⟨_, rfl⟩
  rw [hw0] at b0 X0
  have AL := Lib.hid (alive6_is w0 (ht.on b0))
  have XH := Lib.hid X0
  have BH := Lib.hid b0
  have ch : 800 < A.size ∨ (¬ 800 < A.size ∧ 800 < B.size) := by omega
  clear ht h b0 X0
  go_enter Tryz.func4, Tryz.ntmps4
  go_wp2_with fail
  refine AL.out.mono ?_
  rintro e w1 ⟨rfl, b1⟩
  have X1 := XH.out.on b1
  have x0 := cell_of_heap (o := 0) X1 rfl
  have x1 := cell_of_heap (o := 1) X1 rfl
  have x2 := cell_of_heap (o := 2) X1 rfl
  have x3 := cell_of_heap (o := 3) X1 rfl
  have x4 := cell_of_heap (o := 4) X1 rfl
  have B1 := Lib.hid (bt BH.out b1)
  clear b1 X1
  go_wp2_with fail
  go_quiet (fail)
  have bq : Below w1.heap.size w1 (w1.drewN nq) := ⟨rfl, rfl, rfl, Nat.le_refl _, fun _ _ => rfl⟩
  have B2 := Lib.hid (bt B1.out bq)
  clear x0 x1 x2 x3 x4 bq
  rcases ch with h1 | ⟨h1, h2⟩
  · have e1 : decide ((800 : Int) < (A.size : Int)) = true := by simp; omega
    go_wp2_with fail
    go_ret
    exact ⟨rfl, B2.out⟩
  · have e1 : decide ((800 : Int) < (A.size : Int)) = false := by simp; omega
    have e2 : decide ((800 : Int) < (B.size : Int)) = true := by simp; omega
    go_wp2_with fail
    go_ret
    exact ⟨rfl, B2.out⟩
end Go.Proofs.YtkplokfcjjcpcaaGreatDoor
end
section
namespace Go.Proofs.YtkplokfcjjcpcaaGreatDoor
open Go Go.RowKit Go.Maps Trm
attribute [local go_sem ↓] Go.wp_at_zero Go.wp_at_succ
structure FromAt (W0 : World) (k x : Int) (s : ByteArray) (ad na : Option Addr) (z kk nk : Nat) (line next : Int) (vs : List (ByteArray × Int)) : Prop where
  at' : ∀ w, Below W0.heap.size W0 w → Calls Tryz.prog 21 #[.agg #[.int .i64 k, .int .i64 x, .string s, .slice ad z kk, .slice na vs.length nk, .int .i64 line, .int .i64 next]] w fun e w' =>
    ∃ nb nc, e = .returned (.agg #[.int .i64 k, .int .i64 x, .string s, .slice ad z kk, .slice nb vs.length nc, .int .i64 line, .int .i64 next]) ∧ NmAt w' nb nc vs ∧ (∀ na' nk', NmAt w na' nk' vs → NmAt w' na' nk' vs) ∧ Below W0.heap.size W0 w'
theorem fromAt_of {W0 : World} {na : Option Addr} {nk : Nat} {vs : List (ByteArray × Int)} (k x : Int) (s : ByteArray) (ad : Option Addr) (z kk : Nat) (line next : Int) (h : NmAt W0 na nk vs) (hv : vs.length ≤ 5000) : FromAt W0 k x s ad na z kk nk line next vs :=
  ⟨fun w hb => (from_is w k x s ad na z kk nk line next vs (h.on hb) (by omega)).mono fun e w' ⟨nb, nc, he, ho, hb'⟩ => ⟨nb, nc, he, NmAt.of ho, fun _ _ hn => hn.on hb', bt hb hb'⟩⟩
structure Same6At (W0 : World) (k x : Int) (s : ByteArray) (ad ad' : Option Addr) (z kk kk' : Nat) (line next : Int) (vs : List (ByteArray × Int)) : Prop where
  at' : ∀ w na nb nk nl, Below W0.heap.size W0 w → NmAt w na nk vs → NmAt w nb nl vs → Calls Tryz.prog 20 #[.agg #[.int .i64 k, .int .i64 x, .string s, .slice ad z kk, .slice na vs.length nk, .int .i64 line, .int .i64 next], .agg #[.int .i64 k, .int .i64 x, .string s, .slice ad' z kk', .slice nb vs.length nl, .int .i64 line, .int .i64 next]] w fun e w' =>
    e = .returned (.bool true) ∧ Below W0.heap.size W0 w'
theorem same6At_of {W0 : World} {k x : Int} {s : ByteArray} {ad ad' : Option Addr} {z kk kk' : Nat} {vs : List (ByteArray × Int)} (line next : Int) (h : SameAt W0 k x s ad z kk ad' kk') (hv : vs.length ≤ 5000) : Same6At W0 k x s ad ad' z kk kk' line next vs :=
  ⟨fun w na nb nk nl hb h1 h2 => (same6_is w k x s ad ad' na nb z kk kk' nk nl line next vs (h.on hb) h1 h2 (by omega)).mono fun _ _ hp => ⟨hp.1, bt hb hp.2⟩⟩
structure Tree (w : World) (k x : Int) (s : ByteArray) (ad : Option Addr) (z kk : Nat) (u : Tm) : Prop where
  got : ∃ t : AT, t.sv = .slice ad z kk ∧ t.erase = u ∧ t.mem w ∧ t.nodes ≤ 40000 ∧ t.k = k ∧ t.n = x ∧ t.s = s
theorem Tree.on {w w' : World} {k x : Int} {s : ByteArray} {ad : Option Addr} {z kk : Nat} {u : Tm} (h : Tree w k x s ad z kk u) (b : Below w.heap.size w w') : Tree w' k x s ad z kk u := by
  obtain ⟨t, h1, h2, h3, h4⟩ := h.got
  exact ⟨t, h1, h2, AT.mem_below b (AT.ins_size _ h3) h3, h4⟩
theorem Tree.same {w : World} {k x : Int} {s : ByteArray} {ad ad' : Option Addr} {z kk kk' : Nat} {u : Tm} (h : Tree w k x s ad z kk u) (h' : Tree w k x s ad' z kk' u) : SameAt w k x s ad z kk ad' kk' := by
  obtain ⟨t, h1, h2, h3, h4, h5, h6, h7⟩ := h.got
  obtain ⟨t', h1', h2', h3', h4', h5', h6', h7'⟩ := h'.got
  exact sameAt_of h3 h3' h4 h4' (h2.trans h2'.symm) h1 h1' h5 h6 h7 h5' h6' h7'
structure Ans (w : World) (k x : Int) (s : ByteArray) (ad : Option Addr) (z kk : Nat) (na : Option Addr) (nk : Nat) (u : Tm) (vs : List (ByteArray × Int)) : Prop where
  tree : Tree w k x s ad z kk u
  nm : NmAt w na nk vs
theorem Ans.on {w w' : World} {k x : Int} {s : ByteArray} {ad : Option Addr} {z kk : Nat} {na : Option Addr} {nk : Nat} {u : Tm} {vs : List (ByteArray × Int)} (h : Ans w k x s ad z kk na nk u vs) (b : Below w.heap.size w w') : Ans w' k x s ad z kk na nk u vs := ⟨h.tree.on b, h.nm.on b⟩
theorem ReadLit.ans {w w' : World} {k n : Int} {s : ByteArray} {a : Nat} {u : Tm} {vs : List (ByteArray × Int)} {line next er : Int} {e : Ending} (h : ReadLit w k n s a u vs line next er e w') :
    ∃ ad kk na nk, e = .returned (.tuple #[.agg #[.int .i64 k, .int .i64 n, .string s, .slice ad a kk, .slice na vs.length nk, .int .i64 line, .int .i64 next], .int .i64 er]) ∧ Ans w' k n s ad a kk na nk u vs ∧ Below w.heap.size w w' := by
  obtain ⟨t, ad, na, kk, nk, rfl, ⟨t1, t2, t3, t4, t5, t6, t7, _⟩, h2, h3⟩ := h
  exact ⟨ad, kk, na, nk, rfl, ⟨⟨t, t1, t2, t3, t4, t5, t6, t7⟩, NmAt.of h2⟩, h3⟩
def SevenC (w : World) (H : Nat) (k x : Int) (s : ByteArray) (ad : Option Addr) (z kk : Nat) (na : Option Addr) (nn nk : Nat) (line next : Int) : Prop :=
  w.cell? ⟨H, 0, none⟩ = some (.int .i64 k) ∧ w.cell? ⟨H, 1, none⟩ = some (.int .i64 x) ∧ w.cell? ⟨H, 2, none⟩ = some (.string s) ∧ w.cell? ⟨H, 3, none⟩ = some (.slice ad z kk) ∧ w.cell? ⟨H, 4, none⟩ = some (.slice na nn nk) ∧ w.cell? ⟨H, 5, none⟩ = some (.int .i64 line) ∧ w.cell? ⟨H, 6, none⟩ = some (.int .i64 next)
theorem At.seven {w : World} {H : Nat} {T : TypeId} {k x : Int} {s : ByteArray} {ad : Option Addr} {z kk : Nat} {na : Option Addr} {nn nk : Nat} {line next : Int} (h : At w H #[.int .i64 k, .int .i64 x, .string s, .slice ad z kk, .slice na nn nk, .int .i64 line, .int .i64 next] T) : SevenC w H k x s ad z kk na nn nk line next :=
  ⟨cell_of_heap (o := 0) h rfl, cell_of_heap (o := 1) h rfl, cell_of_heap (o := 2) h rfl, cell_of_heap (o := 3) h rfl, cell_of_heap (o := 4) h rfl, cell_of_heap (o := 5) h rfl, cell_of_heap (o := 6) h rfl⟩
theorem enc_size (r : Int) : (Utf8.encode r).size ≤ 4 := by
  obtain ⟨c, hc⟩ : ∃ c, (if Utf8.valid r then r.toNat else Utf8.runeError) = c := ⟨_, rfl⟩
  unfold Utf8.encode
  simp only [hc]
  by_cases h1 : c < 128
  · rw [if_pos h1]; show 1 ≤ 4; omega
  · rw [if_neg h1]
    by_cases h2 : c < 2048
    · rw [if_pos h2]; show 2 ≤ 4; omega
    · rw [if_neg h2]
      by_cases h3 : c < 65536
      · rw [if_pos h3]; show 3 ≤ 4; omega
      · rw [if_neg h3]; show 4 ≤ 4; omega
structure BhSt (w0 wr : World) (l : List Tok) (S : ByteArray) (i : Nat) : Prop where
  below : Below w0.heap.size w0 wr
  no : ∀ j, j < i → ∀ t, l[j]? = some t → t.b ≠ S
theorem BhSt.next {w0 wr w2 : World} {l : List Tok} {S : ByteArray} {i : Nat} {t : Tok} (h : BhSt w0 wr l S i) (b : Below wr.heap.size wr w2) (ht : l[i]? = some t) (hn : t.b ≠ S) : BhSt w0 w2 l S (i + 1) :=
  ⟨bt h.below b, fun j hj u hu => by
    rcases Nat.lt_succ_iff_lt_or_eq.1 hj with h1 | rfl
    · exact h.no j h1 u hu
    · rw [ht] at hu
      cases hu
      exact hn⟩
theorem BhSt.all {w0 wr : World} {l : List Tok} {S : ByteArray} (h : BhSt w0 wr l S l.length) : ∀ t ∈ l, t.b ≠ S := fun t ht => by
  obtain ⟨j, hj, e⟩ := List.getElem_of_mem ht
  exact h.no j hj t (by rw [← e]; exact List.getElem?_eq_getElem hj)
end Go.Proofs.YtkplokfcjjcpcaaGreatDoor
end
