/- Joined texts: RdO. Conditions: as each states. -/
import Derived.Test.YtkplokfcjjcpcaaGreatDoorQk38
namespace Go.Proofs.YtkplokfcjjcpcaaGreatDoor
open Go Go.RowKit Go.Maps Trm
attribute [local go_sem ↓] Go.wp_at_zero Go.wp_at_succ
set_option maxRecDepth 100000 in
set_option maxHeartbeats 12800000 in
theorem behind_near (A B : ByteArray) (nm T P : Nat) (w : World) (ht : LayA w) (hv : Ops.Lay Ops.rivalsL w) (h1 : A.size ≤ 800) (h2 : B.size ≤ 800) (hn : nm ≤ 255) (hT : T ≤ 255) (hP : P ≤ 65535) :
    Calls Tryz.prog 4 #[.agg #[.string A, .string B, .int .u8 nm, .int .u8 T, .int .u16 P]] w fun e w' => e = .returned (.bool true) ∧ Below w.heap.size w w' := by
  have b0 := al1 w (.cells #[.string A, .string B, .int .u8 nm, .int .u8 T, .int .u16 P] 52)
  have X0 := At.new w #[.string A, .string B, .int .u8 nm, .int .u8 T, .int .u16 P] 52
  obtain ⟨w0, hw0⟩ : ∃ w0, w.alloc (.cells #[.string A, .string B, .int .u8 nm, .int .u8 T, .int .u16 P] 52) = w0 := ⟨_, rfl⟩
  rw [hw0] at b0 X0
  obtain ⟨S1, hS1⟩ : ∃ S : ByteArray, A ++ ⟨#[32, 46, 10]⟩ = S := ⟨_, rfl⟩
  obtain ⟨S2, hS2⟩ : ∃ S : ByteArray, S1 ++ B = S := ⟨_, rfl⟩
  have hl1 : S1.data.toList = A.data.toList ++ [32, 46, 10] := by rw [← hS1]; simp
  have hl2 : S2.data.toList = A.data.toList ++ [32, 46, 10] ++ B.data.toList := by rw [← hS2]; simp [hl1]
  have hz1 : S1.size = A.size + 3 := by rw [Lib.size_eq, hl1, List.length_append, ← Lib.size_eq]; rfl
  have hz2 : S2.size = A.size + 3 + B.size := by rw [Lib.size_eq, hl2, List.length_append, List.length_append, ← Lib.size_eq, ← Lib.size_eq]; rfl
  obtain ⟨⟨l, la, e1⟩, hR1⟩ : ∃ R, lexN S1.data.toList 1 0 = R := ⟨_, rfl⟩
  obtain ⟨⟨m, lb, e2⟩, hR2⟩ : ∃ R, lexN S2.data.toList 1 0 = R := ⟨_, rfl⟩
  have hok : TkOk l := by
    have h := lex_ok (l := S1.data.toList) (by rw [← Lib.size_eq]; omega)
    rw [hR1] at h
    exact h
  have hok2 : TkOk m := by
    have h := lex_ok (l := S2.data.toList) (by rw [← Lib.size_eq]; omega)
    rw [hR2] at h
    exact h
  obtain ⟨n, hn1⟩ : ∃ n, l.length = n := ⟨_, rfl⟩
  obtain ⟨q, hq⟩ : ∃ q, m.length = q := ⟨_, rfl⟩
  have hn5 : n ≤ 5000 := by rw [← hn1]; exact hok.len
  have hq5 : q ≤ 5000 := by rw [← hq]; exact hok2.len
  obtain ⟨⟨⟨u, vs, line, next⟩, er⟩, hrz⟩ : ∃ r, readZ Ops.firstL l 0 = r := ⟨_, rfl⟩
  obtain ⟨⟨k, x, s, z⟩, hhd⟩ : ∃ h, u.hd = h := ⟨_, rfl⟩
  have hvs := read_names hrz hok
  have hmz : e1 = 0 → er = 0 → next = (n : Int) - 1 → readZ Ops.firstL m 0 = (⟨u, vs, line, next⟩, 0) := fun a1 a2 a3 => by
    subst a1 a2
    rw [hl1] at hR1
    rw [hl2] at hR2
    exact read_behind hR1 hR2 rfl (by rw [← Lib.size_eq]; exact h1) (by rw [← Lib.size_eq]; exact h2) hrz (by rw [hn1]; exact a3)
  have AL := Lib.hid (alive6_is w0 (ht.on b0))
  have XH := Lib.hid X0
  have BH := Lib.hid b0
  have LX := Lib.hid (fun w1 (b1 : Below w.heap.size w w1) => lex_tks S1 ⟨l, la, e1⟩ hR1 n hn1 (by omega) w1 (ht.on b1))
  have LY := Lib.hid (fun w1 (b1 : Below w.heap.size w w1) => lex_tks S2 ⟨m, lb, e2⟩ hR2 q hq (by omega) w1 (ht.on b1))
  have NW := Lib.hid (fun w1 (b1 : Below w.heap.size w w1) => new_tab w1 (ht.on b1))
  have NO := Lib.hid (fun w1 (b1 : Below w.heap.size w w1) => Ops.new_is w1 (hv.on b1))
  have RL := Lib.hid (fun (w2 : World) (a : Nat) (ad : Option Addr) (cap : Nat) (L : List Ops.Df) (hm : ∃ m, Tab' w2 a m L) (t2 : Tks w2 (.slice ad n cap) l) (hL : readZ L l 0 = (⟨u, vs, line, next⟩, er)) => (show RdAt w2 (.slice ad n cap) a L l from ⟨hm, t2, hok⟩).lit ad n cap rfl 0 (by omega) hL k x s z hhd)
  have RM := Lib.hid (fun (w2 : World) (a : Nat) (ad : Option Addr) (cap : Nat) (hm : ∃ m, Tab' w2 a m Ops.firstL) (t2 : Tks w2 (.slice ad q cap) m) (hL : readZ Ops.firstL m 0 = (⟨u, vs, line, next⟩, 0)) => (show RdAt w2 (.slice ad q cap) a Ops.firstL m from ⟨hm, t2, hok2⟩).lit ad q cap rfl 0 (by omega) hL k x s z hhd)
  have HRZ := Lib.hid hrz
  have HMZ := Lib.hid hmz
  have HN1 := Lib.hid hn1
  have HV := Lib.hid hv
  have g1 : decide ((800 : Int) < (A.size : Int)) = false := by simp; omega
  have g2 : decide ((800 : Int) < (B.size : Int)) = false := by simp; omega
  have s1 : ¬ 9223372036854775807 < A.size + 3 := by omega
  have s2 : ¬ 9223372036854775807 < S1.size + B.size := by omega
  obtain ⟨E, hE⟩ : ∃ E, Utf8.encode (97 + (nm : Int) % 26) = E := ⟨_, rfl⟩
  have hE4 : E.size ≤ 4 := by rw [← hE]; exact enc_size _
  obtain ⟨S, hS⟩ : ∃ S : ByteArray, ⟨#[111, 112]⟩ ++ E = S := ⟨_, rfl⟩
  have HSn : Hid (S ≠ ⟨#[]⟩) := fun e => by
    rw [← hS] at e
    have := congrArg ByteArray.size e
    rw [ByteArray.size_append] at this
    have e2 : (⟨#[111, 112]⟩ : ByteArray).size = 2 := rfl
    have e3 : (⟨#[]⟩ : ByteArray).size = 0 := rfl
    omega
  have s3 : ¬ 9223372036854775807 < 2 + E.size := by omega
  clear ht hv h1 h2 b0 X0 hl1 hl2 hz1 hz2 hR1 hR2 hok hok2 hn1 hq hrz hhd hmz
  go_enter Tryz.func4, Tryz.ntmps4
  go_wp2_with fail
  refine AL.out.mono ?_
  rintro e w1 ⟨rfl, b1⟩
  have X1 := XH.out.on b1
  have x0 := cell_of_heap (o := 0) X1 rfl
  have x1 := cell_of_heap (o := 1) X1 rfl
  have x2 := cell_of_heap (o := 2) X1 rfl
  have x3 := cell_of_heap (o := 3) X1 rfl
  have x4 := cell_of_heap (o := 4) X1 rfl
  have B1 := Lib.hid (bt BH.out b1)
  clear b1 X1
  go_wp2_with fail
  go_quiet (fail)
  have bq : Below w1.heap.size w1 (w1.drewN nq) := ⟨rfl, rfl, rfl, Nat.le_refl _, fun _ _ => rfl⟩
  have B2 := Lib.hid (bt B1.out bq)
  clear x0 x1 x2 x3 x4 bq AL XH BH hw0
  have L1 := Lib.hid (LX.out _ B2.out)
  obtain ⟨w1', hw1⟩ : ∃ w1', w1.drewN nq = w1' := ⟨_, rfl⟩
  rw [hw1] at B2 L1 ⊢
  clear hw1 B1
  go_wp2_with fail
  refine L1.out.mono ?_
  rintro e w2 ⟨ad, cap, rfl, t2, b2⟩
  have T2 := Lib.hid t2
  have B3 := Lib.hid (bt B2.out b2)
  clear t2 b2 L1 LX B2
  by_cases he1 : e1 = 0
  case neg =>
    have d1 : (e1 != 0) = true := by simpa using he1
    go_wp2_with fail
    go_ret
    exact ⟨rfl, B3.out⟩
  subst he1
  have N2 := Lib.hid (NW.out w2 B3.out)
  go_wp2_with fail
  refine N2.out.mono ?_
  rintro e w3 ⟨rfl, hm, b3⟩
  have R3 := Lib.hid (RL.out w3 w2.heap.size ad cap _ hm (T2.out.on b3) HRZ.out)
  have T3 := Lib.hid (T2.out.on b3)
  have B4 := Lib.hid (bt B3.out b3)
  clear hm b3 N2 T2 B3
  go_wp2_with fail
  refine R3.out.mono ?_
  rintro e w4 hp
  obtain ⟨xa, xk, xn, xnk, rfl, ax, b4⟩ := hp.ans
  have A5 := Lib.hid (fun o => ax.on (al1 w4 o))
  have T5 := Lib.hid (fun o => T3.out.on (bt b4 (al1 w4 o)))
  have B5 := Lib.hid (fun o => bt B4.out (bt b4 (al1 w4 o)))
  have XC := Lib.hid (At.new w4 #[.int .i64 k, .int .i64 x, .string s, .slice xa z xk, .slice xn vs.length xnk, .int .i64 line, .int .i64 next] 37)
  have c6 := cell_of_heap (o := 6) XC.out rfl
  clear hp ax b4 R3 T3 B4
  by_cases her : er = 0
  case neg =>
    have d1 : (er != 0) = true := by simpa using her
    go_wp2_with fail
    go_ret
    exact ⟨rfl, B5.out _⟩
  subst her
  by_cases hnx : next = (n : Int) - 1
  case neg =>
    have d1 : (next != (n : Int) - 1) = true := by simpa using hnx
    go_wp2_with fail
    go_ret
    exact ⟨rfl, B5.out _⟩
  have d1 : (next != (n : Int) - 1) = false := by simpa using hnx
  have HMr := Lib.hid (HMZ.out (by first | rfl | trivial) (by first | rfl | trivial) hnx)
  have HNX := Lib.hid hnx
  clear hnx
  have L5 := Lib.hid (LY.out _ (B5.out (.cells #[.int .i64 k, .int .i64 x, .string s, .slice xa z xk, .slice xn vs.length xnk, .int .i64 line, .int .i64 next] 37)))
  go_wp2_with fail
  refine L5.out.mono ?_
  rintro e w5 ⟨ad2, cap2, rfl, t5, b5⟩
  have X5 := Lib.hid (XC.out.on b5)
  have B6 := Lib.hid (bt (B5.out _) b5)
  have A6 := Lib.hid ((A5.out _).on b5)
  have T6 := Lib.hid ((T5.out _).on b5)
  have U6 := Lib.hid t5
  clear c6 d1 t5 b5 L5 A5 T5 B5 XC LY HMZ
  have c6 := cell_of_heap (o := 6) X5.out rfl
  by_cases hqn : (q : Int) < next
  case pos =>
    have d1 : decide ((q : Int) < next) = true := decide_eq_true hqn
    go_wp2_with fail
    go_ret
    exact ⟨rfl, B6.out⟩
  have d1 : decide ((q : Int) < next) = false := decide_eq_false hqn
  have N6 := Lib.hid (NW.out w5 B6.out)
  go_wp2_with fail
  refine N6.out.mono ?_
  rintro e w6 ⟨rfl, hm, b6⟩
  have R6 := Lib.hid (RM.out w6 w5.heap.size ad2 cap2 hm (U6.out.on b6) HMr.out)
  have B7 := Lib.hid (bt B6.out b6)
  have X7 := Lib.hid (X5.out.on b6)
  have A7 := Lib.hid (A6.out.on b6)
  have T7 := Lib.hid (T6.out.on b6)
  clear hm b6 c6 d1 hqn N6 X5 B6 A6 T6 U6 NW RM HMr
  go_wp2_with fail
  refine R6.out.mono ?_
  rintro e w7 hp
  obtain ⟨ya, yk, yn, ynk, rfl, ay, b7⟩ := hp.ans
  obtain ⟨w8, hw8⟩ : ∃ w8, w7.alloc (.cells #[.int .i64 k, .int .i64 x, .string s, .slice ya z yk, .slice yn vs.length ynk, .int .i64 line, .int .i64 next] 37) = w8 := ⟨_, rfl⟩
  have b78 : Below w7.heap.size w7 w8 := by rw [← hw8]; exact al1 _ _
  have YC : At w8 w7.heap.size #[.int .i64 k, .int .i64 x, .string s, .slice ya z yk, .slice yn vs.length ynk, .int .i64 line, .int .i64 next] 37 := by rw [← hw8]; exact At.new _ _ _
  have Y8 := Lib.hid YC
  have X8 := Lib.hid (X7.out.on (bt b7 b78))
  have A8 := Lib.hid (A7.out.on (bt b7 b78))
  have C8 := Lib.hid (ay.on b78)
  have T8 := Lib.hid (T7.out.on (bt b7 b78))
  have B8 := Lib.hid (bt B7.out (bt b7 b78))
  have N8 := Lib.hid (NO.out w8 B8.out)
  have HW8 := Lib.hid hw8
  clear hp ay b7 b78 YC R6 B7 X7 A7 T7 NO hw8
  go_wp2_with fail
  rw [HW8.out]
  refine N8.out.mono ?_
  rintro e w9 ⟨rfl, mm, hmm, tb, b9⟩
  have TB := Lib.hid tb
  have HMM := Lib.hid hmm
  have B9 := Lib.hid b9
  have T9 := Lib.hid (T8.out.on b9)
  obtain ⟨a, ha⟩ : ∃ a, w8.heap.size = a := ⟨_, rfl⟩
  have HA := Lib.hid ha
  rw [ha] at TB ⊢
  clear tb hmm b9 N8 ha HW8
  have OP := Lib.hid (fun w' (b : Below w9.heap.size w9 w') => Ops.op_is a mm Ops.firstL ⟨(P : Int) % 1201, (T : Int) % 7 + 1, S⟩ w' (HV.out.on (bt (bt B8.out B9.out) b)) (TB.out.on b) (by rw [Ops.first_len]; omega))
  have HL := Lib.hid (fun w' (b : Below w8.heap.size w8 w') => show Ops.Lay [] w' from (HV.out.on (bt B8.out b)).none)
  clear TB HV
  go_wp2_with fail
  go_loopw [98] (fun v wr => ∃ i : Nat, v = .int .i64 i ∧ i ≤ n ∧ Hid (BhSt w9 wr l S i)) (fun v _ => n - (intOf v).toNat)
  case atStart => exact ⟨0, rfl, Nat.zero_le _, ⟨Below.refl _ _, fun j hj => absurd hj (Nat.not_lt_zero _)⟩⟩
  case round =>
    obtain ⟨i, rfl, hi, HS⟩ := hrel
    by_cases hlt : i < n
    · obtain ⟨t, ht⟩ : ∃ t, l[i]? = some t := ⟨l[i]'(by rw [HN1.out]; exact hlt), List.getElem?_eq_getElem _⟩
      obtain ⟨g, rfl, hc1, hc2, c0, c1, c2, c3, c4, c5⟩ := tok_six (T9.out.on HS.out.below) ht
      have d1 : decide ((i : Int) < (n : Int)) = true := decide_eq_true (by omega)
      have i2 := i_lt hlt
      obtain ⟨tb, htb⟩ : ∃ b, t.b = b := ⟨_, rfl⟩
      rw [htb] at c3
      have BB := Lib.hid (fun o => bt (bt B8.out B9.out) (bt HS.out.below (al1 wr o)))
      by_cases hh : tb = S
      · have e4 : (tb.toList == S.toList) = true := by rw [hh]; simp
        clear hh ht htb hc1 hc2 OP HL RL T8 T9 HRZ X8 Y8 A8 C8
        go_wp2_with fail
        go_ret
        exact ⟨rfl, BB.out _⟩
      · have e4 : (tb.toList == S.toList) = false := by
          rw [beq_eq_false_iff_ne]
          exact fun e => hh (Ops.name_eq e)
        have NX := Lib.hid (fun o => HS.out.next (al1 wr o) ht (by rw [htb]; exact hh))
        clear hh ht htb hc1 hc2 OP HL RL T8 T9 HRZ X8 Y8 A8 C8 BB
        go_wp2_with fail
        go_roundw
        case rel => exact ⟨i + 1, by go_num, by omega, Lib.hid (NX.out _)⟩
        case measure => simp [intOf]; omega
    · have d1 : decide ((i : Int) < (n : Int)) = false := decide_eq_false (by omega)
      have hin : i = n := by omega
      have hno : ∀ t ∈ l, t.b ≠ S := by
        have h := HS.out
        rw [hin, ← HN1.out] at h
        exact h.all
      have HZ := Lib.hid ((read_other (L := Ops.firstL) (d := ⟨(P : Int) % 1201, (T : Int) % 7 + 1, S⟩) HSn.out hno 0).trans HRZ.out)
      have O := Lib.hid (OP.out wr HS.out.below)
      have BR := Lib.hid (bt B9.out HS.out.below)
      have p0 : (0 : Int) ≤ (P : Int) := by omega
      have t0 : (0 : Int) ≤ (T : Int) := by omega
      have p1 : (P : Int) ≤ 65535 := by omega
      have t1 : (T : Int) ≤ 255 := by omega
      clear hno hin HS OP B9 T9 HRZ hi HSn HN1 HNX
      obtain ⟨pp, hpp⟩ : ∃ pp : Int, (P : Int) % 1201 = pp := ⟨_, rfl⟩
      obtain ⟨tt, htt⟩ : ∃ tt : Int, (T : Int) % 7 + 1 = tt := ⟨_, rfl⟩
      rw [hpp, htt] at O HZ
      go_wp2_with fail
      refine O.out.mono ?_
      rintro e w11 ⟨rfl, t11, g11⟩
      have B11 := Lib.hid (BR.out.grown g11 BR.out.size (fun j hj => by cases hj; exact Nat.le_of_lt HMM.out))
      have R11 := Lib.hid (RL.out w11 a ad cap _ ⟨mm, ⟨HL.out w11 B11.out, t11⟩⟩ (T8.out.on B11.out) HZ.out)
      have X11 := Lib.hid (X8.out.on B11.out)
      have Y11 := Lib.hid (Y8.out.on B11.out)
      have A11 := Lib.hid (A8.out.on B11.out)
      have C11 := Lib.hid (C8.out.on B11.out)
      have BX := Lib.hid (bt B8.out B11.out)
      clear t11 g11 O BR RL HL T8 X8 Y8 A8 C8 B8 B11 HZ HMM p0 t0
      go_wp2_with fail
      refine R11.out.mono ?_
      rintro e w12 hp
      obtain ⟨za, zk, zn, znk, rfl, az, b12⟩ := hp.ans
      obtain ⟨W, hW⟩ : ∃ W, w12.alloc (.cells #[.int .i64 k, .int .i64 x, .string s, .slice za z zk, .slice zn vs.length znk, .int .i64 line, .int .i64 next] 37) = W := ⟨_, rfl⟩
      have b12W : Below w12.heap.size w12 W := by rw [← hW]; exact al1 _ _
      have ZC : At W w12.heap.size #[.int .i64 k, .int .i64 x, .string s, .slice za z zk, .slice zn vs.length znk, .int .i64 line, .int .i64 next] 37 := by rw [← hW]; exact At.new _ _ _
      have bW := bt b12 b12W
      have XW := X11.out.on bW
      have YW := Y11.out.on bW
      have AW := A11.out.on bW
      have CW := C11.out.on bW
      have DW := az.on b12W
      have FX := fromAt_of k x s xa z xk line next AW.nm hvs
      have FY := fromAt_of k x s ya z yk line next CW.nm hvs
      have FZ := fromAt_of k x s za z zk line next DW.nm hvs
      have SXY := same6At_of line next (AW.tree.same CW.tree) hvs
      have SXZ := same6At_of line next (AW.tree.same DW.tree) hvs
      have KEEP := Lib.hid (fun w' (b : Below W.heap.size W w') => show (w'.cell? ⟨w4.heap.size, 0, none⟩ = some (.int .i64 k) ∧ w'.cell? ⟨w4.heap.size, 1, none⟩ = some (.int .i64 x) ∧ w'.cell? ⟨w4.heap.size, 2, none⟩ = some (.string s) ∧ w'.cell? ⟨w4.heap.size, 3, none⟩ = some (.slice xa z xk) ∧ w'.cell? ⟨w4.heap.size, 4, none⟩ = some (.slice xn vs.length xnk) ∧ w'.cell? ⟨w4.heap.size, 5, none⟩ = some (.int .i64 line) ∧ w'.cell? ⟨w4.heap.size, 6, none⟩ = some (.int .i64 next)) ∧ (w'.cell? ⟨w7.heap.size, 0, none⟩ = some (.int .i64 k) ∧ w'.cell? ⟨w7.heap.size, 1, none⟩ = some (.int .i64 x) ∧ w'.cell? ⟨w7.heap.size, 2, none⟩ = some (.string s) ∧ w'.cell? ⟨w7.heap.size, 3, none⟩ = some (.slice ya z yk) ∧ w'.cell? ⟨w7.heap.size, 4, none⟩ = some (.slice yn vs.length ynk) ∧ w'.cell? ⟨w7.heap.size, 5, none⟩ = some (.int .i64 line) ∧ w'.cell? ⟨w7.heap.size, 6, none⟩ = some (.int .i64 next)) ∧ (w'.cell? ⟨w12.heap.size, 0, none⟩ = some (.int .i64 k) ∧ w'.cell? ⟨w12.heap.size, 1, none⟩ = some (.int .i64 x) ∧ w'.cell? ⟨w12.heap.size, 2, none⟩ = some (.string s) ∧ w'.cell? ⟨w12.heap.size, 3, none⟩ = some (.slice za z zk) ∧ w'.cell? ⟨w12.heap.size, 4, none⟩ = some (.slice zn vs.length znk) ∧ w'.cell? ⟨w12.heap.size, 5, none⟩ = some (.int .i64 line) ∧ w'.cell? ⟨w12.heap.size, 6, none⟩ = some (.int .i64 next)) from ⟨(XW.on b).seven, (YW.on b).seven, (ZC.on b).seven⟩)
      have BW := Lib.hid (bt BX.out bW)
      have HW := Lib.hid hW
      clear hp az b12 b12W ZC bW XW YW AW CW DW hW R11 X11 Y11 A11 C11 BX
      go_wp2_with fail
      rw [HW.out]
      obtain ⟨⟨x0, x1, x2, x3, x4, x5, x6⟩, ⟨y0, y1, y2, y3, y4, y5, y6⟩, ⟨z0, z1, z2, z3, z4, z5, z6⟩⟩ := KEEP.out W (Below.refl _ _)
      go_region_held3 (fun w' => (w'.cell? ⟨w4.heap.size, 0, none⟩ = some (.int .i64 k) ∧ w'.cell? ⟨w4.heap.size, 1, none⟩ = some (.int .i64 x) ∧ w'.cell? ⟨w4.heap.size, 2, none⟩ = some (.string s) ∧ w'.cell? ⟨w4.heap.size, 3, none⟩ = some (.slice xa z xk) ∧ w'.cell? ⟨w4.heap.size, 4, none⟩ = some (.slice xn vs.length xnk) ∧ w'.cell? ⟨w4.heap.size, 5, none⟩ = some (.int .i64 line) ∧ w'.cell? ⟨w4.heap.size, 6, none⟩ = some (.int .i64 next)) ∧ (w'.cell? ⟨w7.heap.size, 0, none⟩ = some (.int .i64 k) ∧ w'.cell? ⟨w7.heap.size, 1, none⟩ = some (.int .i64 x) ∧ w'.cell? ⟨w7.heap.size, 2, none⟩ = some (.string s) ∧ w'.cell? ⟨w7.heap.size, 3, none⟩ = some (.slice ya z yk) ∧ w'.cell? ⟨w7.heap.size, 4, none⟩ = some (.slice yn vs.length ynk) ∧ w'.cell? ⟨w7.heap.size, 5, none⟩ = some (.int .i64 line) ∧ w'.cell? ⟨w7.heap.size, 6, none⟩ = some (.int .i64 next)) ∧ (w'.cell? ⟨w12.heap.size, 0, none⟩ = some (.int .i64 k) ∧ w'.cell? ⟨w12.heap.size, 1, none⟩ = some (.int .i64 x) ∧ w'.cell? ⟨w12.heap.size, 2, none⟩ = some (.string s) ∧ w'.cell? ⟨w12.heap.size, 3, none⟩ = some (.slice za z zk) ∧ w'.cell? ⟨w12.heap.size, 4, none⟩ = some (.slice zn vs.length znk) ∧ w'.cell? ⟨w12.heap.size, 5, none⟩ = some (.int .i64 line) ∧ w'.cell? ⟨w12.heap.size, 6, none⟩ = some (.int .i64 next)))
        (first | exact KEEP.out _ (by assumption) | exact KEEP.out _ (Below.refl _ _) | exact KEEP.out _ (Below.refl _ _).drew | go_keep)
        (first
          | (go_at_call 21; refine (FromAt.at' (by assumption) _ (by first | assumption | exact Below.refl _ _ | exact (Below.refl _ _).drew)).mono ?_; rintro _ wq ⟨nb, nc, rfl, hN, hK, hb⟩; try (have hM := hK _ _ (by assumption)))
          | (go_at_call 20; refine (Same6At.at' (by assumption) _ _ _ _ _ (by assumption) (by assumption) (by assumption)).mono ?_; rintro _ wq ⟨rfl, hb⟩))
      all_goals
        have HF : Hid (Below w.heap.size w wq) := bt BW.out hb
        go_wp2_with fail
        go_ret
        exact ⟨rfl, HF.out⟩
end Go.Proofs.YtkplokfcjjcpcaaGreatDoor
