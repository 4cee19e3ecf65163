/- The law OpsPlay returns true: its walk. Conditions: the listed variables read as the text lays them. -/
import Derived.Test.YtnnhpjpfmmlimaaDoorOpZE
namespace Go.Proofs.YtnnhpjpfmmlimaaDoor
open Go Go.RowKit Go.Maps
open Go.WideMaps Go.WideElems

set_option maxRecDepth 100000 in
set_option maxHeartbeats 1600000 in
theorem play_out (ad : Option Addr) (n cap : Nat) (nm : ByteArray) (w : World) (hl : Lay w) (h : 400 < n ∨ 2000 < nm.size) :
    Calls Tryd.prog 3 #[.slice ad n cap, .string nm] w fun e w' => e = .returned (.bool true) ∧ Below w.heap.size w w' := by
  have AL := Lib.hid (alive_is _ hl)
  have ch : (400 < n) ∨ (¬ 400 < n ∧ 2000 < nm.size) := by
    by_cases a1 : 400 < n
    · exact .inl a1
    · exact .inr ⟨a1, h.resolve_left a1⟩
  clear hl h
  rcases ch with h1 | ⟨h1, h2⟩
  · have e1 : decide ((400 : Int) < (n : Int)) = true := by simp; omega
    go_enter Tryd.func3, Tryd.ntmps3
    go_wp2_with fail
    refine AL.out.mono ?_
    rintro e w1 ⟨rfl, b1⟩
    have B1 := Lib.hid b1
    clear b1
    go_wp2_with fail
    go_ret
    exact ⟨rfl, B1.out⟩
  · have e1 : decide ((400 : Int) < (n : Int)) = false := by simp; omega
    have e2 : decide ((2000 : Int) < (nm.size : Int)) = true := by simp; omega
    go_enter Tryd.func3, Tryd.ntmps3
    go_wp2_with fail
    refine AL.out.mono ?_
    rintro e w1 ⟨rfl, b1⟩
    have B1 := Lib.hid b1
    clear b1
    go_wp2_with fail
    go_ret
    exact ⟨rfl, B1.out⟩

/-- the loop over the Ops on the way -/
structure PlayS (w1 wr : World) (a m b : Nat) (L : List Df) (v7 v8 : Value) : Prop where
  lay : Lay wr
  tab : Tb wr a m L
  rt : Rt wr b L
  low : Below w1.heap.size w1 wr
  asd : Aside2 wr b v7 v8
  ord : w1.heap.size ≤ a ∧ a < m ∧ m < b

set_option maxRecDepth 100000 in
set_option maxHeartbeats 6400000 in
theorem play_in (ad : Option Addr) (n cap B off : Nat) (l : List Df) (nm : ByteArray) (w : World) (hl : Lay w) (ha : ArgRow w ad n cap B off l) (h1 : ¬ 400 < n) (h2 : ¬ 2000 < nm.size) :
    Calls Tryd.prog 3 #[.slice ad n cap, .string nm] w fun e w' => e = .returned (.bool true) ∧ Below w.heap.size w w' := by
  have AL := Lib.hid (alive_is _ hl)
  have HL := Lib.hid hl
  have HA := Lib.hid ha
  have e1 : decide ((400 : Int) < (n : Int)) = false := by simp; omega
  have e2 : decide ((2000 : Int) < (nm.size : Int)) = false := by simp; omega
  have hsn := small (n := nm) (by omega)
  have hcp := ha.max
  have hfit := ha.fits
  have HLN := Lib.hid ha.len
  clear hl ha
  go_enter Tryd.func3, Tryd.ntmps3
  go_wp2_with fail
  refine AL.out.mono ?_
  rintro e w1 ⟨rfl, b1⟩
  have L1 := Lib.hid (HL.out.on b1)
  have NW := Lib.hid (new_is w1 L1.out)
  have B1 := Lib.hid b1
  clear b1 AL
  go_wp2_with fail
  refine NW.out.mono ?_
  rintro e w2 ⟨rfl, m, hm, ht, hb⟩
  obtain ⟨a, hA⟩ : ∃ a, w1.heap.size = a := ⟨_, rfl⟩
  have RN := Lib.hid (rnew_is w2)
  have hS := Lib.hid (fun w3 (hr : Rt w3 w2.heap.size firstL) (b3 : Below w2.heap.size w2 w3) => show PlayS w1 w3 a m w2.heap.size firstL (.pointer none) (.slice none 0 0) from
    ⟨L1.out.on (bt hb b3), by rw [hA] at ht; exact ht.on b3, hr, bt hb b3, .none rfl rfl, by omega, by omega, by have := ht.lt.2; omega⟩)
  rw [hA] at ⊢
  clear NW hm ht hb
  go_wp2_with fail
  refine RN.out.mono ?_
  rintro e w3 ⟨rfl, hr, b3⟩
  have S3 := Lib.hid (hS.out w3 hr b3)
  obtain ⟨b, hbb⟩ : ∃ b, w2.heap.size = b := ⟨_, rfl⟩
  rw [hbb] at S3 ⊢
  clear hS hr b3 RN hbb
  go_wp2_with fail
  go_loopw [41, 7, 8] (fun v v7 v8 wr => ∃ i : Nat, i ≤ n ∧ v = .int .i64 i ∧ Hid (PlayS w1 wr a m b (madeZ (l.take i)) v7 v8)) (fun v _ _ _ => n - (intOf v).toNat)
  case atStart => exact ⟨0, by omega, rfl, S3⟩
  case round =>
    obtain ⟨i, hi, rfl, HS⟩ := hrel
    by_cases hlt : i < n
    · obtain ⟨d, hd⟩ : ∃ d, l[i]? = some d := ⟨_, List.getElem?_eq_getElem (by rw [HLN.out]; exact hlt)⟩
      obtain rfl := HA.out.at' (by omega)
      obtain ⟨c0, c1, c2⟩ := (HA.out.on (bt B1.out HS.out.low)).mem i d hd
      have hnx := made_next hd
      have hsm := made_small (l.take i)
      obtain ⟨L, hLL⟩ : ∃ L, madeZ (l.take i) = L := ⟨_, rfl⟩
      rw [hLL] at hnx hsm HS
      have HNX := Lib.hid hnx
      have HSM := Lib.hid hsm
      have i0 : (0 : Int) ≤ (i : Int) := by omega
      have i1 : (i : Int) < (n : Int) := by omega
      have K4 : Below wr.heap.size wr (wr.alloc (.cells #[.int .i64 d.pri, .int .i64 d.typ, .string d.name] 29)) := (Below.refl _ _).alloc (Nat.le_refl _) _
      have N4 : (wr.alloc (.cells #[.int .i64 d.pri, .int .i64 d.typ, .string d.name] 29)).heap[wr.heap.size]? = some (.cells #[.int .i64 d.pri, .int .i64 d.typ, .string d.name] 29 (0, 0)) := new_at _ _ rfl
      obtain ⟨d0, d1, d2, _, _, _⟩ := (Three.mk N4).facts
      have TW := Lib.hid (show Two w1 (wr.alloc (.cells #[.int .i64 d.pri, .int .i64 d.typ, .string d.name] 29)) a m b wr.heap.size d L L u7 u8 from
        ⟨HS.out.lay.on K4, HS.out.tab.on K4, HS.out.rt.on K4, bt HS.out.low K4, N4, HS.out.asd.on K4, HS.out.ord.1, HS.out.ord.2.1, HS.out.ord.2.2, HS.out.rt.lt⟩)
      obtain ⟨W4, hW4⟩ : ∃ W4, wr.alloc (.cells #[.int .i64 d.pri, .int .i64 d.typ, .string d.name] 29) = W4 := ⟨_, rfl⟩
      obtain ⟨D, hD⟩ : ∃ D, wr.heap.size = D := ⟨_, rfl⟩
      have HW4 := Lib.hid hW4
      have HDD := Lib.hid hD
      rw [hW4] at TW d0 d1 d2
      rw [hD] at TW d0 d1 d2
      have OPP := Lib.hid (fun W Lr (h : Two w1 W a m b D d L Lr u7 u8) => two_op L1.out h HSM.out.2)
      have ROP := Lib.hid (fun W Ll (h : Two w1 W a m b D d Ll L u7 u8) => two_rop L1.out h HSM.out.2)
      obtain ⟨z, hz⟩ : ∃ z, (opZ L d).1 = z := ⟨_, rfl⟩
      obtain ⟨L', hL'⟩ : ∃ L', (opZ L d).2 = L' := ⟨_, rfl⟩
      rw [hz, hL'] at OPP ROP
      rw [hL'] at HNX
      have SM' := op_small (d := d) HSM.out.1 HSM.out.2
      rw [hL'] at SM'
      have HSM' := Lib.hid SM'
      have FF := Lib.hid (fun W Ll Lr (h : Two w1 W a m b D d Ll Lr u7 u8) => show W.cell? ⟨D, 0, none⟩ = some (.int .i64 d.pri) ∧ W.cell? ⟨D, 1, none⟩ = some (.int .i64 d.typ) ∧ W.cell? ⟨D, 2, none⟩ = some (.string d.name) from by
        obtain ⟨q0, q1, q2, _, _, _⟩ := (Three.mk h.put).facts
        exact ⟨q0, q1, q2⟩)
      have HBF := Lib.hid (show Below w.heap.size w W4 from bt B1.out TW.out.low)
      obtain ⟨p, t, x⟩ := d
      simp only at c0 c1 c2 d0 d1 d2 OPP ROP FF HW4
      clear hd hnx hsm hLL K4 N4 hW4 hD hz hL' SM' HS
      by_cases hbig : 2000 < x.size
      · have e3 : decide ((2000 : Int) < (x.size : Int)) = true := by simp; omega
        rw [← HW4.out, ← HDD.out] at d2
        go_wp2_with fail
        go_ret
        exact ⟨rfl, by rw [HW4.out]; exact HBF.out⟩
      · have e3 : decide ((2000 : Int) < (x.size : Int)) = false := by simp; omega
        have d2' := d2
        rw [← HW4.out, ← HDD.out] at d2'
        go_wp2_with fail
        rw [HW4.out, HDD.out]
        clear d2' c0 c1 c2
        go_region_held3 (fun w5 => w5.cell? ⟨D, 0, none⟩ = some (.int .i64 p) ∧ w5.cell? ⟨D, 1, none⟩ = some (.int .i64 t) ∧ w5.cell? ⟨D, 2, none⟩ = some (.string x))
          (first | exact FF.out _ _ _ (TW.out.same ⟨rfl, rfl, rfl, rfl⟩) | exact FF.out _ _ _ (hop.same ⟨rfl, rfl, rfl, rfl⟩) | exact FF.out _ _ _ (hrop.same ⟨rfl, rfl, rfl, rfl⟩))
          (first | (go_at_call 10; refine (OPP.out _ _ (by first | exact hrop.same ⟨rfl, rfl, rfl, rfl⟩ | exact TW.out.same ⟨rfl, rfl, rfl, rfl⟩)).mono ?_; rintro _ w6 ⟨rfl, hop⟩) | (go_at_call 11; refine (ROP.out _ _ (by first | exact hop.same ⟨rfl, rfl, rfl, rfl⟩ | exact TW.out.same ⟨rfl, rfl, rfl, rfl⟩)).mono ?_; rintro _ w6 ⟨rfl, hrop⟩))
        all_goals
          have T6 := Lib.hid hrop
          clear hop hrop OPP ROP FF
          by_cases hhalf : i = n / 2
          · have hh : (i : Int) = (n : Int) / 2 := by omega
            have hh2 : ((i : Int) == (n : Int) / 2) = true := by simpa using hh
            have CP := Lib.hid (fun W (k : Below w6.heap.size w6 W) => copy_is a m L' W (T6.out.on k).tab)
            have RL := Lib.hid (fun W (k : Below w6.heap.size w6 W) => rlist_is b L' W (T6.out.on k).rt HSM'.out.2)
            clear hh
            go_wp2_with fail
            refine (CP.out _ (by first | exact Below.refl _ _ | exact ⟨rfl, rfl, rfl, Nat.le_refl _, fun _ _ => rfl⟩)).mono ?_
            rintro e w7 ⟨a2, m2, rfl, ha2, hm2, ht2, hb2⟩
            have B7 := Lib.hid (show Below w6.heap.size w6 w7 from by first | exact hb2 | exact bt (⟨rfl, rfl, rfl, Nat.le_refl _, fun _ _ => rfl⟩ : Below w6.heap.size w6 (w6.drewN _)) hb2)
            have T2 := Lib.hid ht2
            have A2 := Lib.hid (show w6.heap.size ≤ a2 ∧ w6.heap.size ≤ m2 from ⟨ha2, hm2⟩)
            clear ha2 hm2 ht2 hb2 CP
            go_wp2_with fail
            refine (RL.out _ B7.out).mono ?_
            rintro e w8 ⟨⟨adS, capS, BS, S, rfl, hz, hrow, hperm, hsort, hb8, hbase⟩⟩
            have PS := Lib.hid (show PlayS w1 w8 a m b L' (.pointer (some ⟨a2, 0, none⟩)) (.slice adS L'.length capS) from by
              have T8 := (T6.out.on B7.out).on hb8
              have hbl := T6.out.rt.lt
              have := A2.out
              have := B7.out.size
              exact ⟨T8.lay, T8.tab, T8.rt, T8.low, .some a2 m2 L' adS capS BS S rfl rfl (T2.out.on hb8) hrow hperm hsort HSM'.out.2 (by omega) (by omega) (hbase.imp id (fun h => by omega)), T8.ord.1, T8.ord.2.1, T8.ord.2.2.1⟩)
            clear hz hrow hperm hsort hb8 hbase RL
            go_wp2_with fail
            go_roundw
            case rel => exact ⟨i + 1, by omega, by go_num, by rw [HNX.out]; exact PS⟩
            case measure => simp [intOf]; omega
          · have hh : ((i : Int) == (n : Int) / 2) = false := by rw [beq_eq_false_iff_ne]; omega
            have PS := Lib.hid (fun W (k : Below w6.heap.size w6 W) => show PlayS w1 W a m b L' u7 u8 from by
              have T8 := T6.out.on k
              exact ⟨T8.lay, T8.tab, T8.rt, T8.low, T8.asd, T8.ord.1, T8.ord.2.1, T8.ord.2.2.1⟩)
            go_wp2_with fail
            go_roundw
            case rel => exact ⟨i + 1, by omega, by go_num, by rw [HNX.out]; exact Lib.hid (PS.out _ (by first | exact Below.refl _ _ | exact ⟨rfl, rfl, rfl, Nat.le_refl _, fun _ _ => rfl⟩))⟩
            case measure => simp [intOf]; omega
    · obtain rfl : i = n := by omega
      have hst := HS.out
      rw [List.take_of_length_le (by rw [HLN.out]; exact Nat.le_refl _)] at hst
      have hsm := made_small l
      obtain ⟨L, hLL⟩ : ∃ L, madeZ l = L := ⟨_, rfl⟩
      rw [hLL] at hst hsm
      have HSM := Lib.hid hsm
      have ST := Lib.hid hst
      clear HS hst hLL hsm
      go_wp2_with fail
      go_loopw [79] (fun v w2 => ∃ k : Nat, k ≤ 3 ∧ v = .int .i64 k ∧ Hid (Below wr.heap.size wr w2)) (fun v _ => 3 - (intOf v).toNat)
      case atStart => exact ⟨0, by omega, rfl, Lib.hid (Below.refl _ _)⟩
      case round =>
        obtain ⟨k, hk, rfl, HB⟩ := hrel
        by_cases hk3 : k < 3
        · obtain ⟨x, hx, HIX⟩ : ∃ s : ByteArray, s.size ≤ maxLen ∧ ∀ W, (Instr.index 33 (.agg #[.string nm, .string ⟨#[45]⟩, .string ⟨#[105, 115]⟩]) (.int .i64 (k : Int))).run Tryd.prog W = .ok (.string s) W := by
            have hc : k = 0 ∨ k = 1 ∨ k = 2 := by omega
            rcases hc with rfl | rfl | rfl
            · exact ⟨nm, hsn, fun W => by kernel_rfl⟩
            · exact ⟨⟨#[45]⟩, by decide, fun W => by kernel_rfl⟩
            · exact ⟨⟨#[105, 115]⟩, by decide, fun W => by kernel_rfl⟩
          have k0 : (0 : Int) ≤ (k : Int) := by omega
          have k1 : (k : Int) < 3 := by omega
          have S0 := fun W (q : Below wr.heap.size wr W) => bt HB.out q
          have P1 := Lib.hid (fun W (q : Below wr.heap.size wr W) => prefix_is a m L x W (ST.out.lay.on (S0 W q)) (ST.out.tab.on (S0 W q)) hx)
          have P2 := Lib.hid (fun W (q : Below wr.heap.size wr W) => rprefix_is b L x W (ST.out.rt.on (S0 W q)) (Nat.le_trans HSM.out.2 (by omega)))
          have P3 := Lib.hid (fun W (q : Below wr.heap.size wr W) => infix_is a m L x W (ST.out.lay.on (S0 W q)) (ST.out.tab.on (S0 W q)) hx)
          have P4 := Lib.hid (fun W (q : Below wr.heap.size wr W) => rinfix_is b L x W (ST.out.rt.on (S0 W q)) (Nat.le_trans HSM.out.2 (by omega)))
          have P5 := Lib.hid (fun W (q : Below wr.heap.size wr W) => postfix_is a m L x W (ST.out.lay.on (S0 W q)) (ST.out.tab.on (S0 W q)) hx)
          have P6 := Lib.hid (fun W (q : Below wr.heap.size wr W) => rpostfix_is b L x W (ST.out.rt.on (S0 W q)) (Nat.le_trans HSM.out.2 (by omega)))
          have P7 := Lib.hid (fun W (q : Below wr.heap.size wr W) => is_is a m L x W (ST.out.tab.on (S0 W q)) hx)
          have P8 := Lib.hid (fun W (q : Below wr.heap.size wr W) => ris_is b L x W (ST.out.rt.on (S0 W q)) (Nat.le_trans HSM.out.2 (by omega)))
          obtain ⟨s1, h1⟩ : ∃ s, (sidesZ L x 1).1 = s := ⟨_, rfl⟩
          obtain ⟨s2, h2⟩ : ∃ s, (sidesZ L x 1).2.2 = s := ⟨_, rfl⟩
          obtain ⟨s3, h3⟩ : ∃ s, (sidesZ L x 2).1 = s := ⟨_, rfl⟩
          obtain ⟨s4, h4⟩ : ∃ s, (sidesZ L x 2).2.1 = s := ⟨_, rfl⟩
          obtain ⟨s5, h5⟩ : ∃ s, (sidesZ L x 2).2.2 = s := ⟨_, rfl⟩
          obtain ⟨s6, h6⟩ : ∃ s, (sidesZ L x 3).1 = s := ⟨_, rfl⟩
          obtain ⟨s7, h7⟩ : ∃ s, (sidesZ L x 3).2.1 = s := ⟨_, rfl⟩
          obtain ⟨s8, h8⟩ : ∃ s, isZ L x = s := ⟨_, rfl⟩
          rw [h1, h2] at P1 P2
          rw [h3, h4, h5] at P3 P4
          rw [h6, h7] at P5 P6
          rw [h8] at P7 P8
          clear h1 h2 h3 h4 h5 h6 h7 h8 S0 hx
          have Q0 := Lib.hid (Below.refl wr.heap.size wr)
          go_wp2_with fail
          refine (P1.out _ Q0.out).mono ?_
          rintro e v1 ⟨rfl, q⟩
          have Q1 := Lib.hid (bt Q0.out q)
          clear q
          go_wp2_with fail
          refine (P2.out _ Q1.out).mono ?_
          rintro e v2 ⟨rfl, q⟩
          have Q2 := Lib.hid (bt Q1.out q)
          clear q
          go_wp2_with fail
          refine (P3.out _ Q2.out).mono ?_
          rintro e v3 ⟨rfl, q⟩
          have Q3 := Lib.hid (bt Q2.out q)
          clear q
          go_wp2_with fail
          refine (P4.out _ Q3.out).mono ?_
          rintro e v4 ⟨rfl, q⟩
          have Q4 := Lib.hid (bt Q3.out q)
          clear q
          go_wp2_with fail
          refine (P5.out _ Q4.out).mono ?_
          rintro e v5 ⟨rfl, q⟩
          have Q5 := Lib.hid (bt Q4.out q)
          clear q
          go_wp2_with fail
          refine (P6.out _ Q5.out).mono ?_
          rintro e v6 ⟨rfl, q⟩
          have Q6 := Lib.hid (bt Q5.out q)
          clear q
          go_wp2_with fail
          refine (P7.out _ Q6.out).mono ?_
          rintro e v7 ⟨rfl, q⟩
          have Q7 := Lib.hid (bt Q6.out q)
          clear q
          go_wp2_with fail
          refine (P8.out _ Q7.out).mono ?_
          rintro e v8 ⟨rfl, q⟩
          have Q8 := Lib.hid (bt HB.out (bt Q7.out q))
          clear q
          go_wp2_with fail
          go_roundw
          case rel => exact ⟨k + 1, by omega, by go_num, Q8⟩
          case measure => simp [intOf]; omega
        · obtain rfl : k = 3 := by omega
          have hlay := ST.out.lay.on HB.out
          have htab := ST.out.tab.on HB.out
          have LLC := Lib.hid (ll_is a m L wr htab HSM.out.2)
          have RLC := Lib.hid (fun W (q : Below wr.heap.size wr W) => rlist_is b L W (ST.out.rt.on (bt HB.out q)) HSM.out.2)
          have BB := Lib.hid (bt B1.out (bt ST.out.low HB.out))
          have asd := ST.out.asd.on HB.out
          obtain ⟨nn, hnn⟩ : ∃ nn, L.length = nn := ⟨_, rfl⟩
          have HNN := Lib.hid hnn
          clear hlay htab hnn
          cases asd with
          | none h7 h8 =>
            subst h7 h8
            go_wp2_with fail
            refine LLC.out.mono ?_
            rintro e w5 ⟨⟨ad1, cap1, B1', S1, rfl, hz1, ha1, hperm1, hsort1, hb1, hbase1⟩⟩
            rw [HNN.out] at ha1 ⊢
            have A1 := Lib.hid ha1
            have PP1 := Lib.hid (And.intro hperm1 (show Sorted S1 from hsort1))
            have Q1 := Lib.hid hb1
            clear hz1 ha1 hperm1 hsort1 hb1 hbase1 LLC
            go_wp2_with fail
            refine (RLC.out _ Q1.out).mono ?_
            rintro e w6 ⟨⟨ad2, cap2, B2', S2, rfl, hz2, ha2, hperm2, hsort2, hb2, hbase2⟩⟩
            rw [HNN.out] at ha2 ⊢
            obtain rfl := sorted_eq HSM.out.1 (List.Perm.refl L) PP1.out.1 PP1.out.2 hperm2 hsort2
            have SA := Lib.hid (same_is S1 ad1 ad2 nn cap1 cap2 B1' 0 B2' 0 w6 (A1.out.on hb2) ha2)
            have Q2 := Lib.hid (bt BB.out (bt Q1.out hb2))
            clear hz2 ha2 hperm2 hsort2 hb2 hbase2
            go_wp2_with fail
            refine SA.out.mono ?_
            rintro e w7 ⟨rfl, q, rfl⟩
            go_wp2_with fail
            go_ret
            exact ⟨rfl, bt Q2.out (show Below w6.heap.size w6 (w6.drewN q) from ⟨rfl, rfl, rfl, Nat.le_refl _, fun _ _ => rfl⟩)⟩
          | some a2 m2 Lc adc capc Bc Sc h7 h8 tb row perm sort len hac hmc hBc =>
            subst h7 h8
            have TB := Lib.hid tb
            have ROW := Lib.hid row
            have PC := Lib.hid (And.intro perm sort)
            have LC := Lib.hid len
            obtain ⟨nc, hnc⟩ : ∃ nc, Lc.length = nc := ⟨_, rfl⟩
            rw [hnc] at ROW ⊢
            have HNC := Lib.hid hnc
            clear tb row perm sort len hac hmc hBc hnc
            go_wp2_with fail
            refine LLC.out.mono ?_
            rintro e w5 ⟨⟨ad1, cap1, B1', S1, rfl, hz1, ha1, hperm1, hsort1, hb1, hbase1⟩⟩
            rw [HNN.out] at ha1 ⊢
            have A1 := Lib.hid ha1
            have PP1 := Lib.hid (And.intro hperm1 (show Sorted S1 from hsort1))
            have Q1 := Lib.hid hb1
            clear hz1 ha1 hperm1 hsort1 hb1 hbase1 LLC
            go_wp2_with fail
            refine (RLC.out _ Q1.out).mono ?_
            rintro e w6 ⟨⟨ad2, cap2, B2', S2, rfl, hz2, ha2, hperm2, hsort2, hb2, hbase2⟩⟩
            rw [HNN.out] at ha2 ⊢
            obtain rfl := sorted_eq HSM.out.1 (List.Perm.refl L) PP1.out.1 PP1.out.2 hperm2 hsort2
            have SA := Lib.hid (same_is S1 ad1 ad2 nn cap1 cap2 B1' 0 B2' 0 w6 (A1.out.on hb2) ha2)
            have Q2 := Lib.hid (bt Q1.out hb2)
            clear hz2 ha2 hperm2 hsort2 hb2 hbase2
            go_wp2_with fail
            refine SA.out.mono ?_
            rintro e w7 ⟨rfl, q, rfl⟩
            obtain ⟨w7, hw7⟩ : ∃ w7, w6.drewN q = w7 := ⟨_, rfl⟩
            have Q3 := Lib.hid (bt Q2.out (show Below w6.heap.size w6 (w6.drewN q) from ⟨rfl, rfl, rfl, Nat.le_refl _, fun _ _ => rfl⟩))
            rw [hw7] at Q3 ⊢
            have LL7 := Lib.hid (ll_is a2 m2 Lc w7 (TB.out.on Q3.out) LC.out)
            clear hw7 SA
            go_wp2_with fail
            refine LL7.out.mono ?_
            rintro e w8 ⟨⟨ad3, cap3, B3', S3', rfl, hz3, ha3, hperm3, hsort3, hb3, hbase3⟩⟩
            obtain rfl := sorted_eq TB.out.wf (List.Perm.refl Lc) PC.out.1 PC.out.2 hperm3 hsort3
            rw [HNC.out] at ha3 ⊢
            have SB := Lib.hid (same_is Sc ad3 adc nc cap3 capc B3' 0 Bc 0 w8 ha3 (ROW.out.on (bt Q3.out hb3)))
            have Q4 := Lib.hid (bt BB.out (bt Q3.out hb3))
            clear hz3 ha3 hperm3 hsort3 hb3 hbase3 LL7
            go_wp2_with fail
            refine SB.out.mono ?_
            rintro e w9 ⟨rfl, q', rfl⟩
            go_wp2_with fail
            go_ret
            exact ⟨rfl, bt Q4.out (show Below w8.heap.size w8 (w8.drewN q') from ⟨rfl, rfl, rfl, Nat.le_refl _, fun _ _ => rfl⟩)⟩

theorem play_walk (ad : Option Addr) (n cap B off : Nat) (l : List Df) (nm : ByteArray) (w : World) (hl : Lay w) (ha : ArgRow w ad n cap B off l) :
    Calls Tryd.prog 3 #[.slice ad n cap, .string nm] w fun e w' => e = .returned (.bool true) ∧ Below w.heap.size w w' := by
  by_cases h1 : 400 < n
  · exact play_out ad n cap nm w hl (.inl h1)
  · by_cases h2 : 2000 < nm.size
    · exact play_out ad n cap nm w hl (.inr h2)
    · exact play_in ad n cap B off l nm w hl ha h1 h2

end Go.Proofs.YtnnhpjpfmmlimaaDoor
