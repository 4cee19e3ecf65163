/- The law OpsBack returns true: its walk. Conditions: the listed variables read as the text lays them. -/
import Derived.Test.YtnnhpjpfmmlimaaDoorOpU
import Derived.Test.YtnnhpjpfmmlimaaDoorOpO
namespace Go.Proofs.YtnnhpjpfmmlimaaDoor
open Go Go.RowKit Go.Maps
open Go.WideMaps Go.WideElems

theorem op_bad {L : List Df} {d : Df} (h : ¬ (opZ L d).1 = 0) : (opZ L d).2 = L := by
  unfold opZ at h ⊢
  split
  · rfl
  · split
    · rfl
    · split
      · rename_i n1 n2 n3
        rw [if_neg n1, if_neg n2, if_pos n3] at h
        exact absurd rfl h
      · split
        · rfl
        · split
          · rfl
          · rename_i n1 n2 n3 n4 n5
            rw [if_neg n1, if_neg n2, if_neg n3, if_neg n4, if_neg n5] at h
            exact absurd rfl h
theorem op_un {L L' : List Df} {p k : Int} {n : ByteArray} (h : (opZ L ⟨p, k, n⟩).1 = 0) : opZ L' ⟨0, k, n⟩ = (0, rmv L' n (srt k)) := by
  have n1 : ¬ argB p k n = true := by
    intro hh
    unfold opZ at h
    rw [if_pos hh] at h
    cases h
  have n2 : ¬ fixedB n = true := by
    intro hh
    unfold opZ at h
    rw [if_neg n1, if_pos hh] at h
    cases h
  have n0 : ¬ argB 0 k n = true := by
    unfold argB at n1 ⊢
    simp at n1 ⊢
    exact ⟨⟨n1.1.1.2, n1.1.2⟩, n1.2⟩
  unfold opZ
  rw [if_neg n0, if_neg n2, if_pos rfl]
theorem rmv_none {L : List Df} {n : ByteArray} {s : Int} (h : fnd L n s = none) : rmv L n s = L := by
  unfold fnd at h
  rw [List.find?_eq_none] at h
  unfold rmv
  rw [List.filter_eq_self]
  intro d hd
  simpa using h d hd
theorem rmv_ins {L : List Df} {d : Df} (h : fnd L d.name (srt d.typ) = none) : rmv (ins L d) d.name (srt d.typ) = L := by
  unfold ins
  rw [rmv_none h]
  unfold rmv
  rw [List.filter_append, List.filter_cons]
  have hd : d.is d.name (srt d.typ) = true := is_iff.2 ⟨rfl, rfl⟩
  rw [hd]
  have := rmv_none h
  unfold rmv at this
  simp [this]

def eqD (d x : Df) : Bool := decide (x.pri = d.pri) && decide (x.typ = d.typ) && (x.name.toList == d.name.toList)
def cntD (d : Df) (l : List Df) : Nat := l.countP (eqD d)
theorem eqD_self (d : Df) : eqD d d = true := by simp [eqD]
theorem eqD_is {d x : Df} (h : eqD d x = true) : x.is d.name (srt d.typ) = true := by
  unfold eqD at h
  simp only [Bool.and_eq_true, decide_eq_true_eq, beq_iff_eq] at h
  exact is_iff.2 ⟨name_eq h.2, by rw [h.1.2]⟩
theorem cnt_ins (L : List Df) (d : Df) {S : List Df} (h : S.Perm (ins L d)) : cntD d S = 1 := by
  unfold cntD
  rw [h.countP_eq]
  unfold ins
  rw [List.countP_append, List.countP_cons, eqD_self]
  have h0 : (rmv L d.name (srt d.typ)).countP (eqD d) = 0 := by
    rw [List.countP_eq_zero]
    intro x hx hh
    have h1 := (List.mem_filter.1 hx).2
    rw [eqD_is hh] at h1
    cases h1
  rw [h0]
  simp
theorem cnt_next {d x : Df} {S : List Df} {k : Nat} (h : S[k]? = some x) : cntD d (S.take (k + 1)) = cntD d (S.take k) + (if eqD d x then 1 else 0) := by
  unfold cntD
  rw [List.take_add_one, h, List.countP_append]
  simp [List.countP_cons]
theorem any_next {n : ByteArray} {s : Int} {x : Df} {S : List Df} {k : Nat} (h : S[k]? = some x) : (S.take (k + 1)).any (Df.is n s) = ((S.take k).any (Df.is n s) || x.is n s) := by
  rw [List.take_add_one, h, List.any_append]
  simp
theorem any_none {n : ByteArray} {s : Int} {S L : List Df} (hp : S.Perm L) (h : S.any (Df.is n s) = false) : fnd L n s = none := by
  unfold fnd
  rw [List.find?_eq_none]
  intro d hd
  have := List.any_eq_false.1 h d (hp.mem_iff.2 hd)
  simpa using this
theorem ArgRow.grown {W w : World} {ad : Option Addr} {n cap B m : Nat} {l : List Df} (h : ArgRow W ad n cap B 0 l) (g : W.grownBy w (some m)) (hB : l = [] ∨ B ≠ m) : ArgRow w ad n cap B 0 l := by
  refine ⟨h.len, h.fits, h.max, h.at', fun i d hd => ?_⟩
  rcases hB with rfl | hB
  · simp at hd
  · obtain ⟨h1, h2, h3⟩ := h.mem i d hd
    have hl : B < W.heap.size := World.block_lt_of_cell? _ _ h1
    have hb : w.heap[B]? = W.heap[B]? := g.block B hl (by simpa using hB)
    have key : ∀ j v, W.cell? ⟨B, j, none⟩ = some v → w.cell? ⟨B, j, none⟩ = some v := fun j v hv => by
      unfold World.cell? at hv ⊢
      simp only at hv ⊢
      rw [hb]
      exact hv
    exact ⟨key _ _ h1, key _ _ h2, key _ _ h3⟩

set_option maxRecDepth 100000 in
set_option maxHeartbeats 1600000 in
theorem back_out (ad : Option Addr) (n cap P T : Nat) (nm : ByteArray) (w : World) (hl : Lay w) (h : 300 < n ∨ 2000 < nm.size) :
    Calls Tryd.prog 5 #[.agg #[.slice ad n cap, .int .u16 P, .int .u8 T, .string nm]] w fun e w' => e = .returned (.bool true) ∧ Below w.heap.size w w' := by
  have hW : Below w.heap.size w (w.alloc (.cells #[.slice ad n cap, .int .u16 P, .int .u8 T, .string nm] 49)) := (Below.refl _ _).alloc (Nat.le_refl _) _
  have hB : BackIn (w.alloc (.cells #[.slice ad n cap, .int .u16 P, .int .u8 T, .string nm] 49)) w.heap.size ad n cap P T nm := ⟨new_at _ _ rfl⟩
  have AL := Lib.hid (alive_is _ (hl.on hW))
  have HB := Lib.hid (fun w1 (b : Below (w.alloc (.cells #[.slice ad n cap, .int .u16 P, .int .u8 T, .string nm] 49)).heap.size (w.alloc (.cells #[.slice ad n cap, .int .u16 P, .int .u8 T, .string nm] 49)) w1) => (hB.on b).facts)
  have HW := Lib.hid hW
  have ch : (300 < n) ∨ (¬ 300 < n ∧ 2000 < nm.size) := by
    by_cases a1 : 300 < n
    · exact .inl a1
    · exact .inr ⟨a1, h.resolve_left a1⟩
  clear hW hB hl h
  rcases ch with h1 | ⟨h1, h2⟩
  · have e1 : decide ((300 : Int) < (n : Int)) = true := by simp; omega
    go_enter Tryd.func5, Tryd.ntmps5
    go_wp2_with fail
    refine AL.out.mono ?_
    rintro e w1 ⟨rfl, b1⟩
    obtain ⟨c0, c1, c2, c3⟩ := HB.out _ b1
    have B1 := Lib.hid (HW.out.trans (b1.mono HW.out.size))
    clear b1
    go_wp2_with fail
    go_quiet (fail)
    go_wp2_with fail
    go_ret
    exact ⟨rfl, bt B1.out ⟨rfl, rfl, rfl, Nat.le_refl _, fun _ _ => rfl⟩⟩
  · have e1 : decide ((300 : Int) < (n : Int)) = false := by simp; omega
    have e2 : decide ((2000 : Int) < (nm.size : Int)) = true := by simp; omega
    go_enter Tryd.func5, Tryd.ntmps5
    go_wp2_with fail
    refine AL.out.mono ?_
    rintro e w1 ⟨rfl, b1⟩
    obtain ⟨c0, c1, c2, c3⟩ := HB.out _ b1
    have B1 := Lib.hid (HW.out.trans (b1.mono HW.out.size))
    clear b1
    go_wp2_with fail
    go_quiet (fail)
    go_wp2_with fail
    go_ret
    exact ⟨rfl, bt B1.out ⟨rfl, rfl, rfl, Nat.le_refl _, fun _ _ => rfl⟩⟩

set_option maxRecDepth 100000 in
set_option maxHeartbeats 3200000 in
theorem back_in (ad : Option Addr) (n cap B off : Nat) (l : List Df) (P T : Nat) (nm : ByteArray) (w : World) (hl : Lay w) (ha : ArgRow w ad n cap B off l) (hP : P ≤ 65535) (hT : T ≤ 255) (h1 : ¬ 300 < n) (h2 : ¬ 2000 < nm.size) :
    Calls Tryd.prog 5 #[.agg #[.slice ad n cap, .int .u16 P, .int .u8 T, .string nm]] w fun e w' => e = .returned (.bool true) ∧ Below w.heap.size w w' := by
  have hW : Below w.heap.size w (w.alloc (.cells #[.slice ad n cap, .int .u16 P, .int .u8 T, .string nm] 49)) := (Below.refl _ _).alloc (Nat.le_refl _) _
  have hB : BackIn (w.alloc (.cells #[.slice ad n cap, .int .u16 P, .int .u8 T, .string nm] 49)) w.heap.size ad n cap P T nm := ⟨new_at _ _ rfl⟩
  have hL1 := hl.on hW
  have hA1 := ha.on hW
  have AL := Lib.hid (alive_is _ hL1)
  obtain ⟨W1, hW1⟩ : ∃ W1, w.alloc (.cells #[.slice ad n cap, .int .u16 P, .int .u8 T, .string nm] 49) = W1 := ⟨_, rfl⟩
  rw [hW1] at hW hB hL1 hA1 AL
  have HB := Lib.hid hB
  have HQ := Lib.hid (heap_lt hB.row)
  have HW := Lib.hid hW
  have HL := Lib.hid hL1
  have HA := Lib.hid hA1
  have HW1 := Lib.hid hW1
  have e1 : decide ((300 : Int) < (n : Int)) = false := by simp; omega
  have e2 : decide ((2000 : Int) < (nm.size : Int)) = false := by simp; omega
  have hsn := small (n := nm) (by omega)
  have p0 : (0 : Int) ≤ (P : Int) := by omega
  have p1 : (P : Int) ≤ 65535 := by omega
  have t0 : (0 : Int) ≤ (T : Int) := by omega
  have t1 : (T : Int) ≤ 255 := by omega
  obtain ⟨p, hp⟩ : ∃ p : Int, ((P : Int) % 1200 + 1) = p := ⟨_, rfl⟩
  obtain ⟨k, hk⟩ : ∃ k : Int, ((T : Int) % 7 + 1) = k := ⟨_, rfl⟩
  have hp1 : 1 ≤ p ∧ p ≤ 1200 := by omega
  have hk1 : 1 ≤ k ∧ k ≤ 7 := by omega
  have HPK := Lib.hid (And.intro hp hk)
  have HPK1 := Lib.hid (And.intro hp1 hk1)
  clear hl ha hW hB hL1 hA1 hW1 hp hk hp1 hk1
  go_enter Tryd.func5, Tryd.ntmps5
  go_wp2_with fail
  rw [HW1.out]
  refine AL.out.mono ?_
  rintro e w1 ⟨rfl, b1⟩
  obtain ⟨c0, c1, c2, c3⟩ := (HB.out.on b1).facts
  have B1 := Lib.hid b1
  clear b1
  go_wp2_with fail
  go_quiet (fail)
  have B2 := Lib.hid (bt B1.out (show Below w1.heap.size w1 (w1.drewN nq) from ⟨rfl, rfl, rfl, Nat.le_refl _, fun _ _ => rfl⟩))
  obtain ⟨w2, hw2⟩ : ∃ w2, w1.drewN nq = w2 := ⟨_, rfl⟩
  rw [hw2] at B2 ⊢
  have MD := Lib.hid (made_is ad n cap B off l w2 (HL.out.on B2.out) (HA.out.on B2.out))
  obtain ⟨a, hA⟩ : ∃ a, w2.heap.size = a := ⟨_, rfl⟩
  rw [hA] at MD
  have LA := Lib.hid (show W1.heap.size ≤ a by rw [← hA]; exact B2.out.size)
  have HA2 := Lib.hid hA
  clear c0 c1 c2 c3 hw2 hA AL HA B1
  go_wp2_with fail
  refine MD.out.mono ?_
  rintro e w3 ⟨rfl, m, hm, ht, hb⟩
  rw [← HA2.out] at hb
  have B3 := Lib.hid (bt B2.out hb)
  obtain ⟨L, hLL⟩ : ∃ L, madeZ l = L := ⟨_, rfl⟩
  have hsm := made_small l
  rw [hLL] at ht hsm
  have T3 := Lib.hid ht
  have HM := Lib.hid hm
  have LL := Lib.hid (ll_is a m L w3 ht hsm.2)
  have HSM := Lib.hid hsm
  clear MD hm ht hb hLL hsm
  go_wp2_with fail
  refine LL.out.mono ?_
  rintro e w4 ⟨⟨ad0, cap0, B0, S0, rfl, hz0, ha0, hperm0, hsort0, hb0, hbase0⟩⟩
  have B4 := Lib.hid (bt B3.out hb0)
  have T4 := T3.out.on hb0
  have L4 := HL.out.on B4.out
  have OP := Lib.hid (op_is a m L ⟨p, k, nm⟩ w4 L4 T4 HSM.out.2)
  have A0 := Lib.hid ha0
  have P0 := Lib.hid (And.intro hperm0 (show Sorted S0 from hsort0))
  have NB := Lib.hid (show S0 = [] ∨ B0 ≠ m from hbase0.imp id (fun h => by have := T3.out.lt.2; omega))
  have LB := Lib.hid (show S0 = [] ∨ a ≤ B0 from hbase0.imp id (fun h => by have := T3.out.lt.1; omega))
  obtain ⟨nn, hnn⟩ : ∃ nn, L.length = nn := ⟨_, rfl⟩
  rw [hnn] at A0 ⊢
  have HNN := Lib.hid hnn
  have hn256 : nn ≤ 256 := by rw [← hnn]; exact HSM.out.2
  clear LL hz0 ha0 hperm0 hsort0 hb0 hbase0 T4 L4 hnn
  go_wp2_with fail
  rw [HPK.out.1, HPK.out.2]
  refine OP.out.mono ?_
  rintro e w5 ⟨rfl, t5, g5⟩
  have B5 := Lib.hid (B4.out.grown g5 B4.out.size (fun j hj => by cases hj; have := HM.out; have := LA.out; omega))
  have L5 := Lib.hid (HL.out.on B5.out)
  have A5 := Lib.hid (A0.out.grown g5 NB.out)
  obtain ⟨z, hz⟩ : ∃ z, (opZ L ⟨p, k, nm⟩).1 = z := ⟨_, rfl⟩
  rw [hz]
  clear A0 OP
  by_cases h0 : z = 0
  · subst h0
    have hop := op_ok (L := L) (d := ⟨p, k, nm⟩) (by show ¬ p = 0; have := HPK1.out.1; omega) hz
    have HUN := Lib.hid (fun L' => op_un (L' := L') hz)
    rw [hop.1] at t5
    have hsm5 := op_small (d := ⟨p, k, nm⟩) HSM.out.1 HSM.out.2
    rw [hop.1] at hsm5
    have LL5 := Lib.hid (ll_is a m (ins L ⟨p, k, nm⟩) w5 t5 hsm5.2)
    have T5 := Lib.hid t5
    have HSM5 := Lib.hid hsm5
    clear hop t5 g5 hz hsm5
    go_wp2_with fail
    refine LL5.out.mono ?_
    rintro e w6 ⟨⟨ad1, cap1, B1', S1, rfl, hz1, ha1, hperm1, hsort1, hb1, hbase1⟩⟩
    have B6 := Lib.hid (bt B5.out hb1)
    have T6 := Lib.hid (T5.out.on hb1)
    have A6 := Lib.hid (A5.out.on hb1)
    have CN := Lib.hid (cnt_ins L ⟨p, k, nm⟩ hperm1)
    obtain ⟨n1, hn1⟩ : ∃ n1, (ins L ⟨p, k, nm⟩).length = n1 := ⟨_, rfl⟩
    have hl1 : S1.length = n1 := hperm1.length_eq.trans hn1
    rw [hn1] at ha1 ⊢
    have C1 := Lib.hid ha1
    have HN1 := Lib.hid hl1
    have hc1 := ha1.max
    have hf1 := ha1.fits
    have hn1' : n1 ≤ 256 := by rw [← hn1]; exact HSM5.out.2
    clear LL5 hz1 ha1 hperm1 hsort1 hb1 hbase1 hl1 hn1 T5 A5 L5
    go_wp2_with fail
    go_loopw [62, 12] (fun v c wr => ∃ i : Nat, i ≤ n1 ∧ v = .int .i64 i ∧ c = .int .i64 (cntD ⟨p, k, nm⟩ (S1.take i)) ∧ Hid (Below w6.heap.size w6 wr)) (fun v _ _ => n1 - (intOf v).toNat)
    case atStart => exact ⟨0, by omega, rfl, rfl, Lib.hid (Below.refl _ _)⟩
    case round =>
      obtain ⟨i, hi, rfl, rfl, HBR⟩ := hrel
      obtain ⟨c, hcc⟩ : ∃ c, cntD ⟨p, k, nm⟩ (S1.take i) = c := ⟨_, rfl⟩
      have hcl : c ≤ i := by
        rw [← hcc]
        exact Nat.le_trans List.countP_le_length (by rw [List.length_take]; omega)
      rw [hcc]
      by_cases hlt : i < n1
      · obtain ⟨d, hd⟩ : ∃ d, S1[i]? = some d := ⟨_, List.getElem?_eq_getElem (by rw [HN1.out]; exact hlt)⟩
        obtain rfl := C1.out.at' (by omega)
        obtain ⟨c0, c1, c2⟩ := (C1.out.on HBR.out).mem i d hd
        simp only [Nat.zero_add] at c0 c1 c2
        have hnx := cnt_next (d := ⟨p, k, nm⟩) hd
        rw [hcc] at hnx
        have HNX := Lib.hid hnx
        have i0 : (0 : Int) ≤ (i : Int) := by omega
        have i1 : (i : Int) < (n1 : Int) := by omega
        have kW : Below w6.heap.size w6 (wr.alloc (.cells #[.int .i64 d.pri, .int .i64 d.typ, .string d.name] 29)) := HBR.out.alloc HBR.out.size _
        have N4 : (wr.alloc (.cells #[.int .i64 d.pri, .int .i64 d.typ, .string d.name] 29)).heap[wr.heap.size]? = some (.cells #[.int .i64 d.pri, .int .i64 d.typ, .string d.name] 29 (0, 0)) := new_at _ _ rfl
        obtain ⟨d0, d1, d2, _, _, _⟩ := (Three.mk N4).facts
        have KW := Lib.hid kW
        obtain ⟨p', k', nm'⟩ := d
        simp only at c0 c1 c2 d0 d1 d2
        clear hd hnx kW N4 hcc
        go_wp2_with fail
        all_goals
          have hq : (eqD ⟨p, k, nm⟩ ⟨p', k', nm'⟩ = true ∧ p' = p ∧ k' = k ∧ nm'.toList = nm.toList) ∨ (eqD ⟨p, k, nm⟩ ⟨p', k', nm'⟩ = false ∧ ¬ (p' = p ∧ k' = k ∧ nm'.toList = nm.toList)) := by
            cases hqq : eqD ⟨p, k, nm⟩ ⟨p', k', nm'⟩
            · refine .inr ⟨rfl, fun hh => ?_⟩
              have : eqD ⟨p, k, nm⟩ ⟨p', k', nm'⟩ = true := by simp [eqD, hh.1, hh.2.1, hh.2.2]
              rw [this] at hqq
              cases hqq
            · unfold eqD at hqq
              simp only [Bool.and_eq_true, decide_eq_true_eq, beq_iff_eq] at hqq
              exact .inl ⟨rfl, hqq.1.1, hqq.1.2, hqq.2⟩
          refine ⟨⟨i + 1, by omega, by go_num, ?_, Lib.hid (HBR.out.alloc HBR.out.size _)⟩, by simp [intOf]; omega⟩
          rw [HNX.out]
          rcases hq with ⟨hq, q1, q2, q3⟩ | ⟨hq, hno⟩
          · first
            | (exfalso; contradiction)
            | (rw [hq]; go_num)
          · first
            | (exfalso; exact hno ⟨by assumption, by assumption, by assumption⟩)
            | (rw [hq]; go_num)
      · obtain rfl : i = n1 := by omega
        have hc1 : c = 1 := by
          rw [← hcc, List.take_of_length_le (by rw [HN1.out]; exact Nat.le_refl _)]
          exact CN.out
        have hc1' : (c : Int) = 1 := by omega
        rw [hc1']
        clear hc1 hc1' hcc hcl HN1 CN C1
        have B7 := Lib.hid (bt B6.out HBR.out)
        have A7 := Lib.hid (A6.out.on HBR.out)
        have T7 := Lib.hid (T6.out.on HBR.out)
        have hl0 := A7.out.len
        have HN0 := Lib.hid hl0
        have hm0 := A7.out.max
        have hf0 := A7.out.fits
        obtain ⟨w7, hw7⟩ : ∃ w7, wr = w7 := ⟨_, rfl⟩
        subst hw7
        rename World => w7
        clear B6 A6 T6 HBR hl0
        go_wp2_with fail
        go_loopw [77, 15] (fun v c wr => ∃ i : Nat, i ≤ nn ∧ v = .int .i64 i ∧ c = .bool ((S0.take i).any (Df.is nm (srt k))) ∧ Hid (Below w7.heap.size w7 wr)) (fun v _ _ => nn - (intOf v).toNat)
        case atStart => exact ⟨0, by omega, rfl, rfl, Lib.hid (Below.refl _ _)⟩
        case round =>
          obtain ⟨i, hi, rfl, rfl, HBR⟩ := hrel
          obtain ⟨c, hcc⟩ : ∃ c, (S0.take i).any (Df.is nm (srt k)) = c := ⟨_, rfl⟩
          rw [hcc]
          by_cases hlt : i < nn
          · obtain ⟨d, hd⟩ : ∃ d, S0[i]? = some d := ⟨_, List.getElem?_eq_getElem (by rw [HN0.out]; exact hlt)⟩
            obtain rfl := A7.out.at' (by omega)
            obtain ⟨c0, c1, c2⟩ := (A7.out.on HBR.out).mem i d hd
            simp only [Nat.zero_add] at c0 c1 c2
            have hnx := any_next (n := nm) (s := srt k) hd
            rw [hcc] at hnx
            have HNX := Lib.hid hnx
            have i0 : (0 : Int) ≤ (i : Int) := by omega
            have i1 : (i : Int) < (nn : Int) := by omega
            have N4 : (wr.alloc (.cells #[.int .i64 d.pri, .int .i64 d.typ, .string d.name] 29)).heap[wr.heap.size]? = some (.cells #[.int .i64 d.pri, .int .i64 d.typ, .string d.name] 29 (0, 0)) := new_at _ _ rfl
            obtain ⟨d0, d1, d2, _, _, _⟩ := (Three.mk N4).facts
            obtain ⟨p', k', nm'⟩ := d
            simp only at c0 c1 c2 d0 d1 d2
            clear hd hnx N4 hcc
            cases c
            · have X0 := Lib.hid (HBR.out.alloc HBR.out.size (.cells #[.int .i64 p', .int .i64 k', .string nm'] 29))
              cases hqe : (nm'.toList == nm.toList)
              · go_wp2_with fail
                go_roundw
                case rel => exact ⟨i + 1, by omega, by go_num, by rw [HNX.out]; simp [Df.is, hqe], X0⟩
                case measure => simp [intOf]; omega
              · go_wp2_with fail
                refine (srt_is k' _).mono ?_
                rintro e w8 ⟨rfl, hw⟩
                obtain rfl := hw.symm
                go_wp2_with fail
                refine (srt_is k _).mono ?_
                rintro e w8 ⟨rfl, hw⟩
                obtain rfl := hw.symm
                go_wp2_with fail
                go_roundw
                case rel => exact ⟨i + 1, by omega, by go_num, by rw [HNX.out]; simp [Df.is, hqe], X0⟩
                case measure => simp [intOf]; omega
            · go_wp2_with fail
              refine ⟨⟨i + 1, by omega, by go_num, ?_, Lib.hid (HBR.out.alloc HBR.out.size _)⟩, by simp [intOf]; omega⟩
              rw [HNX.out]
              rfl
          · obtain rfl : i = nn := by omega
            have hany : S0.any (Df.is nm (srt k)) = c := by
              rw [List.take_of_length_le (by rw [HN0.out]; exact Nat.le_refl _)] at hcc
              exact hcc
            have HANY := Lib.hid hany
            have L7 := HL.out.on (bt B7.out HBR.out)
            have T8 := T7.out.on HBR.out
            have OP2 := op_is a m (ins L ⟨p, k, nm⟩) ⟨0, k, nm⟩ wr L7 T8 HSM5.out.2
            have B8 := Lib.hid (bt B7.out HBR.out)
            have A8 := Lib.hid (A7.out.on HBR.out)
            have HOP2 := Lib.hid OP2
            clear hany hcc L7 T8 OP2 HBR A7 T7 B7
            go_wp2_with fail
            refine HOP2.out.mono ?_
            rintro e w9 ⟨rfl, t9, g9⟩
            rw [HUN.out] at t9 ⊢
            have B9 := Lib.hid (B8.out.grown g9 B8.out.size (fun j hj => by cases hj; have := HM.out; have := LA.out; omega))
            have A9 := Lib.hid (A8.out.grown g9 NB.out)
            cases c
            · have hfn := any_none P0.out.1 HANY.out
              have hri := rmv_ins (d := ⟨p, k, nm⟩) hfn
              simp only at hri t9
              rw [hri] at t9
              have LL9 := Lib.hid (ll_is a m L w9 t9 HSM.out.2)
              clear hfn hri t9 g9 A8 HOP2
              go_wp2_with fail
              refine LL9.out.mono ?_
              rintro e w10 ⟨⟨ad2, cap2, B2', S2, rfl, hz2, ha2, hperm2, hsort2, hb2, hbase2⟩⟩
              obtain rfl := sorted_eq HSM.out.1 (List.Perm.refl L) P0.out.1 P0.out.2 hperm2 hsort2
              rw [HNN.out] at ha2 ⊢
              have SA := Lib.hid (same_is S0 ad2 ad0 i cap2 cap0 B2' 0 B0 0 w10 ha2 (A9.out.on hb2))
              have B10 := Lib.hid (bt B9.out hb2)
              clear LL9 hz2 ha2 hperm2 hsort2 hb2 hbase2
              go_wp2_with fail
              refine SA.out.mono ?_
              rintro e w11 ⟨rfl, q, rfl⟩
              go_wp2_with fail
              go_ret
              exact ⟨rfl, HW.out.trans ((bt B10.out (show Below w10.heap.size w10 (w10.drewN q) from ⟨rfl, rfl, rfl, Nat.le_refl _, fun _ _ => rfl⟩)).mono HW.out.size)⟩
            · clear t9 g9 A8 HOP2
              go_wp2_with fail
              go_ret
              exact ⟨rfl, HW.out.trans (B9.out.mono HW.out.size)⟩
  · have hbad : (opZ L ⟨p, k, nm⟩).2 = L := op_bad (by rw [hz]; exact h0)
    rw [hbad] at t5
    have hzb : ((z : Int) != 0) = true := by rw [bne_iff_ne]; exact h0
    have LL5 := Lib.hid (ll_is a m L w5 t5 HSM.out.2)
    clear h0 hz t5 g5 hbad
    go_wp2_with fail
    refine LL5.out.mono ?_
    rintro e w6 ⟨⟨ad1, cap1, B1', S1, rfl, hz1, ha1, hperm1, hsort1, hb1, hbase1⟩⟩
    obtain rfl := sorted_eq HSM.out.1 (List.Perm.refl L) P0.out.1 P0.out.2 hperm1 hsort1
    rw [HNN.out] at ha1 ⊢
    have SA := Lib.hid (same_is S0 ad1 ad0 nn cap1 cap0 B1' 0 B0 0 w6 ha1 (A5.out.on hb1))
    have B6 := Lib.hid (bt B5.out hb1)
    clear LL5 hz1 ha1 hperm1 hsort1 hb1 hbase1
    go_wp2_with fail
    refine SA.out.mono ?_
    rintro e w7 ⟨rfl, q, rfl⟩
    go_wp2_with fail
    go_ret
    exact ⟨rfl, HW.out.trans ((bt B6.out (show Below w6.heap.size w6 (w6.drewN q) from ⟨rfl, rfl, rfl, Nat.le_refl _, fun _ _ => rfl⟩)).mono HW.out.size)⟩

theorem back_walk (ad : Option Addr) (n cap B off : Nat) (l : List Df) (P T : Nat) (nm : ByteArray) (w : World) (hl : Lay w) (ha : ArgRow w ad n cap B off l) (hP : P ≤ 65535) (hT : T ≤ 255) :
    Calls Tryd.prog 5 #[.agg #[.slice ad n cap, .int .u16 P, .int .u8 T, .string nm]] w fun e w' => e = .returned (.bool true) ∧ Below w.heap.size w w' := by
  by_cases h1 : 300 < n
  · exact back_out ad n cap P T nm w hl (.inl h1)
  · by_cases h2 : 2000 < nm.size
    · exact back_out ad n cap P T nm w hl (.inr h2)
    · exact back_in ad n cap B off l P T nm w hl ha hP hT h1 h2

end Go.Proofs.YtnnhpjpfmmlimaaDoor
