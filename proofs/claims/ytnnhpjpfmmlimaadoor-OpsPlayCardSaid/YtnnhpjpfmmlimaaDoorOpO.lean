/- The law OpsLast returns true: its walk. Conditions: the listed variables read as the text lays them. -/
import Derived.Test.YtnnhpjpfmmlimaaDoorOpN
namespace Go.Proofs.YtnnhpjpfmmlimaaDoor
open Go Go.RowKit Go.Maps
open Go.WideMaps Go.WideElems

/-- what a struct argument of the laws holds -/
structure BackIn (w : World) (b : Nat) (ad : Option Addr) (n cap P T : Nat) (nm : ByteArray) : Prop where
  row : w.heap[b]? = some (.cells #[.slice ad n cap, .int .u16 P, .int .u8 T, .string nm] 49 (0, 0))
theorem BackIn.on {w w' : World} {b : Nat} {ad : Option Addr} {n cap P T : Nat} {nm : ByteArray} (h : BackIn w b ad n cap P T nm) (k : Below w.heap.size w w') : BackIn w' b ad n cap P T nm := ⟨(k.block _ (heap_lt h.row)).trans h.row⟩
theorem BackIn.facts {w : World} {b : Nat} {ad : Option Addr} {n cap P T : Nat} {nm : ByteArray} (h : BackIn w b ad n cap P T nm) :
    w.cell? ⟨b, 0, none⟩ = some (.slice ad n cap) ∧ w.cell? ⟨b, 1, none⟩ = some (.int .u16 P) ∧ w.cell? ⟨b, 2, none⟩ = some (.int .u8 T) ∧ w.cell? ⟨b, 3, none⟩ = some (.string nm) :=
  ⟨cell_of_heap h.row rfl, cell_of_heap h.row rfl, cell_of_heap h.row rfl, cell_of_heap h.row rfl⟩

theorem op_ok {L : List Df} {d : Df} (hp : ¬ d.pri = 0) (h : (opZ L d).1 = 0) : opZ L d = (0, ins L d) ∧ fnd L d.name (rivZ (srt d.typ)) = none := by
  unfold opZ at h ⊢
  split at h
  · cases h
  · rename_i n1
    split at h
    · cases h
    · rename_i n2
      split at h
      · cases h
      · rename_i n3
        split at h
        · cases h
        · rename_i n4
          rw [if_neg n1, if_neg n2, if_neg hp, if_neg n3, if_neg n4]
          exact ⟨rfl, by simpa using n3⟩

set_option maxRecDepth 100000 in
set_option maxHeartbeats 1600000 in
theorem last_out (ad : Option Addr) (n cap P T : Nat) (nm other : ByteArray) (w : World) (hl : Lay w) (h : 300 < n ∨ 2000 < nm.size ∨ 2000 < other.size ∨ other = nm) :
    Calls Tryd.prog 6 #[.agg #[.slice ad n cap, .int .u16 P, .int .u8 T, .string nm], .string other] w fun e w' => e = .returned (.bool true) ∧ Below w.heap.size w w' := by
  have hW : Below w.heap.size w (w.alloc (.cells #[.slice ad n cap, .int .u16 P, .int .u8 T, .string nm] 49)) := (Below.refl _ _).alloc (Nat.le_refl _) _
  have hB : BackIn (w.alloc (.cells #[.slice ad n cap, .int .u16 P, .int .u8 T, .string nm] 49)) w.heap.size ad n cap P T nm := ⟨new_at _ _ rfl⟩
  have AL := Lib.hid (alive_is _ (hl.on hW))
  have HB := Lib.hid (fun w1 (b : Below (w.alloc (.cells #[.slice ad n cap, .int .u16 P, .int .u8 T, .string nm] 49)).heap.size (w.alloc (.cells #[.slice ad n cap, .int .u16 P, .int .u8 T, .string nm] 49)) w1) => (hB.on b).facts)
  have HW := Lib.hid hW
  have ch : (300 < n) ∨ (¬ 300 < n ∧ 2000 < nm.size) ∨ (¬ 300 < n ∧ ¬ 2000 < nm.size ∧ 2000 < other.size) ∨ (¬ 300 < n ∧ ¬ 2000 < nm.size ∧ ¬ 2000 < other.size ∧ other = nm) := by
    by_cases a1 : 300 < n
    · exact .inl a1
    · by_cases a2 : 2000 < nm.size
      · exact .inr (.inl ⟨a1, a2⟩)
      · by_cases a3 : 2000 < other.size
        · exact .inr (.inr (.inl ⟨a1, a2, a3⟩))
        · exact .inr (.inr (.inr ⟨a1, a2, a3, ((h.resolve_left a1).resolve_left a2).resolve_left a3⟩))
  clear hW hB hl h
  rcases ch with h1 | ⟨h1, h2⟩ | ⟨h1, h2, h3⟩ | ⟨h1, h2, h3, h4⟩
  · have e1 : decide ((300 : Int) < (n : Int)) = true := by simp; omega
    go_enter Tryd.func6, Tryd.ntmps6
    go_wp2_with fail
    refine AL.out.mono ?_
    rintro e w1 ⟨rfl, b1⟩
    obtain ⟨c0, c1, c2, c3⟩ := HB.out _ b1
    have B1 := Lib.hid (HW.out.trans (b1.mono HW.out.size))
    clear b1
    go_wp2_with fail
    go_ret
    exact ⟨rfl, B1.out⟩
  · have e1 : decide ((300 : Int) < (n : Int)) = false := by simp; omega
    have e2 : decide ((2000 : Int) < (nm.size : Int)) = true := by simp; omega
    go_enter Tryd.func6, Tryd.ntmps6
    go_wp2_with fail
    refine AL.out.mono ?_
    rintro e w1 ⟨rfl, b1⟩
    obtain ⟨c0, c1, c2, c3⟩ := HB.out _ b1
    have B1 := Lib.hid (HW.out.trans (b1.mono HW.out.size))
    clear b1
    go_wp2_with fail
    go_ret
    exact ⟨rfl, B1.out⟩
  · have e1 : decide ((300 : Int) < (n : Int)) = false := by simp; omega
    have e2 : decide ((2000 : Int) < (nm.size : Int)) = false := by simp; omega
    have e3 : decide ((2000 : Int) < (other.size : Int)) = true := by simp; omega
    go_enter Tryd.func6, Tryd.ntmps6
    go_wp2_with fail
    refine AL.out.mono ?_
    rintro e w1 ⟨rfl, b1⟩
    obtain ⟨c0, c1, c2, c3⟩ := HB.out _ b1
    have B1 := Lib.hid (HW.out.trans (b1.mono HW.out.size))
    clear b1
    go_wp2_with fail
    go_ret
    exact ⟨rfl, B1.out⟩
  · subst h4
    have e1 : decide ((300 : Int) < (n : Int)) = false := by simp; omega
    have e2 : decide ((2000 : Int) < (other.size : Int)) = false := by simp; omega
    go_enter Tryd.func6, Tryd.ntmps6
    go_wp2_with fail
    refine AL.out.mono ?_
    rintro e w1 ⟨rfl, b1⟩
    obtain ⟨c0, c1, c2, c3⟩ := HB.out _ b1
    have B1 := Lib.hid (HW.out.trans (b1.mono HW.out.size))
    clear b1
    go_wp2_with fail
    go_ret
    exact ⟨rfl, B1.out⟩

set_option maxRecDepth 100000 in
set_option maxHeartbeats 3200000 in
theorem last_in (ad : Option Addr) (n cap B off : Nat) (l : List Df) (P T : Nat) (nm other : ByteArray) (w : World) (hl : Lay w) (ha : ArgRow w ad n cap B off l) (hP : P ≤ 65535) (hT : T ≤ 255) (h1 : ¬ 300 < n) (h2 : ¬ 2000 < nm.size) (h3 : ¬ 2000 < other.size) (h4 : ¬ other = nm) :
    Calls Tryd.prog 6 #[.agg #[.slice ad n cap, .int .u16 P, .int .u8 T, .string nm], .string other] w fun e w' => e = .returned (.bool true) ∧ Below w.heap.size w w' := by
  have hW : Below w.heap.size w (w.alloc (.cells #[.slice ad n cap, .int .u16 P, .int .u8 T, .string nm] 49)) := (Below.refl _ _).alloc (Nat.le_refl _) _
  have hB : BackIn (w.alloc (.cells #[.slice ad n cap, .int .u16 P, .int .u8 T, .string nm] 49)) w.heap.size ad n cap P T nm := ⟨new_at _ _ rfl⟩
  have hL1 := hl.on hW
  have hA1 := ha.on hW
  have AL := Lib.hid (alive_is _ hL1)
  obtain ⟨W1, hW1⟩ : ∃ W1, w.alloc (.cells #[.slice ad n cap, .int .u16 P, .int .u8 T, .string nm] 49) = W1 := ⟨_, rfl⟩
  rw [hW1] at hW hB hL1 hA1 AL
  have HB := Lib.hid hB
  have HQ := Lib.hid (heap_lt hB.row)
  have HW := Lib.hid hW
  have HL := Lib.hid hL1
  have HA := Lib.hid hA1
  have HW1 := Lib.hid hW1
  have e1 : decide ((300 : Int) < (n : Int)) = false := by simp; omega
  have e2 : decide ((2000 : Int) < (nm.size : Int)) = false := by simp; omega
  have e3 : decide ((2000 : Int) < (other.size : Int)) = false := by simp; omega
  have e4 : (other.toList == nm.toList) = false := by rw [beq_eq_false_iff_ne]; exact fun h => h4 (name_eq h)
  have H4 := Lib.hid h4
  have hsn := small (n := nm) (by omega)
  have hso := small (n := other) (by omega)
  have p0 : (0 : Int) ≤ (P : Int) := by omega
  have p1 : (P : Int) ≤ 65535 := by omega
  have t0 : (0 : Int) ≤ (T : Int) := by omega
  have t1 : (T : Int) ≤ 255 := by omega
  clear hl ha hW hB hL1 hA1 hW1 h4
  go_enter Tryd.func6, Tryd.ntmps6
  go_wp2_with fail
  rw [HW1.out]
  refine AL.out.mono ?_
  rintro e w1 ⟨rfl, b1⟩
  obtain ⟨c0, c1, c2, c3⟩ := (HB.out.on b1).facts
  have MD := Lib.hid (made_is ad n cap B off l w1 (HL.out.on b1) (HA.out.on b1))
  have B1 := Lib.hid b1
  clear b1
  go_wp2_with fail
  refine MD.out.mono ?_
  rintro e w2 ⟨rfl, m, hm, ht, hb⟩
  clear c0 c1 c2 c3
  have B2 := Lib.hid (bt B1.out hb)
  obtain ⟨c0, c1, c2, c3⟩ := (HB.out.on B2.out).facts
  have L2 := Lib.hid (HL.out.on B2.out)
  have T2 := Lib.hid ht
  have HM := Lib.hid hm
  have LA := Lib.hid B1.out.size
  clear ht hb MD hm
  obtain ⟨a, hA⟩ : ∃ a, w1.heap.size = a := ⟨_, rfl⟩
  rw [hA] at T2 HM LA
  have HA2 := Lib.hid hA
  clear hA
  go_wp2_with fail
  rw [HA2.out]
  go_quiet (fail)
  obtain ⟨p, hp⟩ : ∃ p : Int, ((P : Int) % 1200 + 1) = p := ⟨_, rfl⟩
  obtain ⟨k, hk⟩ : ∃ k : Int, ((T : Int) % 7 + 1) = k := ⟨_, rfl⟩
  have hp1 : 1 ≤ p ∧ p ≤ 1200 := by omega
  have hk1 : 1 ≤ k ∧ k ≤ 7 := by omega
  rw [hp, hk]
  have bq : Below w2.heap.size w2 (w2.drewN nq) := ⟨rfl, rfl, rfl, Nat.le_refl _, fun _ _ => rfl⟩
  have L3 := L2.out.on bq
  have T3 := T2.out.on bq
  have D3 := (HB.out.on B2.out).on bq
  have BB3 := bt B2.out bq
  obtain ⟨w3, hw3⟩ : ∃ w3, w2.drewN nq = w3 := ⟨_, rfl⟩
  rw [hw3] at L3 T3 D3 BB3 ⊢
  obtain ⟨L, hLL⟩ : ∃ L, madeZ l = L := ⟨_, rfl⟩
  have hsm := made_small l
  rw [hLL] at T3 hsm
  clear hp hk bq hw3 c0 c1 c2 c3 L2 T2 B2 AL hLL p0 p1 t0 t1
  have PRO := Lib.hid (fun w' (b : Below w3.heap.size w3 w') => prefix_is a m L other w' (L3.on b) (T3.on b) hso)
  have INO := Lib.hid (fun w' (b : Below w3.heap.size w3 w') => infix_is a m L other w' (L3.on b) (T3.on b) hso)
  have POO := Lib.hid (fun w' (b : Below w3.heap.size w3 w') => postfix_is a m L other w' (L3.on b) (T3.on b) hso)
  have PRN := Lib.hid (fun w' (b : Below w3.heap.size w3 w') => prefix_is a m L nm w' (L3.on b) (T3.on b) hsn)
  have INN := Lib.hid (fun w' (b : Below w3.heap.size w3 w') => infix_is a m L nm w' (L3.on b) (T3.on b) hsn)
  have OP := Lib.hid (fun w' (b : Below w3.heap.size w3 w') => op_is a m L ⟨p, k, nm⟩ w' (L3.on b) (T3.on b) hsm.2)
  have NM := Lib.hid (fun w' (b : Below w3.heap.size w3 w') => (D3.on b).facts.2.2.2)
  have DD := Lib.hid D3
  have HL3 := Lib.hid L3
  have HB3 := Lib.hid BB3
  have B3 := Lib.hid (Below.refl w3.heap.size w3)
  have TLT := Lib.hid T3.lt
  have HPK := Lib.hid (And.intro hp1 hk1)
  clear T3 D3 L3 BB3 hsm hp1 hk1 HB HA
  go_wp2_with fail
  refine (PRO.out _ B3.out).mono ?_
  rintro e w4 ⟨rfl, b⟩
  have B4 := Lib.hid (bt B3.out b)
  clear b
  go_wp2_with fail
  refine (INO.out _ B4.out).mono ?_
  rintro e w5 ⟨rfl, b⟩
  have B5 := Lib.hid (bt B4.out b)
  clear b
  go_wp2_with fail
  refine (POO.out _ B5.out).mono ?_
  rintro e w6 ⟨rfl, b⟩
  have B6 := Lib.hid (bt B5.out b)
  have x6 := NM.out _ B6.out
  clear b
  go_wp2_with fail
  refine (PRN.out _ B6.out).mono ?_
  rintro e w7 ⟨rfl, b⟩
  have B7 := Lib.hid (bt B6.out b)
  clear x6
  have x7 := NM.out _ B7.out
  clear b
  go_wp2_with fail
  refine (INN.out _ B7.out).mono ?_
  rintro e w8 ⟨rfl, b⟩
  have B8 := Lib.hid (bt B7.out b)
  clear x7
  have x8 := NM.out _ B8.out
  clear b
  go_wp2_with fail
  refine (OP.out _ B8.out).mono ?_
  rintro e w9 ⟨rfl, t9, g9⟩
  clear x8
  have B9 := Lib.hid ((HB3.out.trans (B8.out.mono HB3.out.size)).grown g9 (Nat.le_trans HB3.out.size B8.out.size) (fun j hj => by cases hj; have := HM.out; have := LA.out; omega))
  obtain ⟨z, hz⟩ : ∃ z, (opZ L ⟨p, k, nm⟩).1 = z := ⟨_, rfl⟩
  rw [hz]
  by_cases h0 : z = 0
  · have hop := op_ok (L := L) (d := ⟨p, k, nm⟩) (by show ¬ p = 0; have := HPK.out.1; omega) (by rw [hz]; exact h0)
    rw [hop.1] at t9
    have hzb : ((z : Int) != 0) = false := by simpa using h0
    have riv : fnd L nm (rivZ (srt k)) = none := hop.2
    have so : ∀ s, sidesZ (ins L ⟨p, k, nm⟩) other s = sidesZ L other s := fun s => sides_ins_ne fun h => H4.out h.1
    have sn : ∀ s, ¬ s = srt k → sidesZ (ins L ⟨p, k, nm⟩) nm s = sidesZ L nm s := fun s hs => sides_ins_ne fun h => hs h.2
    have s0 : sidesZ (ins L ⟨p, k, nm⟩) nm (srt k) = (p, p - lft k, p - rgt k) := sides_ins (d := ⟨p, k, nm⟩)
    have L9' : Lay w9 := by
      have k9 : Below W1.heap.size W1 w9 := B9.out
      exact HL.out.from k9 HL.out.low
    have D9 := DD.out.on B8.out
    have D9' : BackIn w9 w.heap.size ad n cap P T nm := ⟨(g9.block _ (heap_lt D9.row) (by have := HM.out; have := LA.out; have h5 := HQ.out; simp; omega)).trans D9.row⟩
    have PR2 := Lib.hid (fun w' (b : Below w9.heap.size w9 w') => by have := prefix_is a m (ins L ⟨p, k, nm⟩) other w' (L9'.on b) (t9.on b) hso; rwa [so] at this)
    have IN2 := Lib.hid (fun w' (b : Below w9.heap.size w9 w') => by have := infix_is a m (ins L ⟨p, k, nm⟩) other w' (L9'.on b) (t9.on b) hso; rwa [so] at this)
    have PO2 := Lib.hid (fun w' (b : Below w9.heap.size w9 w') => by have := postfix_is a m (ins L ⟨p, k, nm⟩) other w' (L9'.on b) (t9.on b) hso; rwa [so] at this)
    have PR3 := Lib.hid (fun w' (b : Below w9.heap.size w9 w') => prefix_is a m (ins L ⟨p, k, nm⟩) nm w' (L9'.on b) (t9.on b) hsn)
    have IN3 := Lib.hid (fun w' (b : Below w9.heap.size w9 w') => infix_is a m (ins L ⟨p, k, nm⟩) nm w' (L9'.on b) (t9.on b) hsn)
    have PO3 := Lib.hid (fun w' (b : Below w9.heap.size w9 w') => postfix_is a m (ins L ⟨p, k, nm⟩) nm w' (L9'.on b) (t9.on b) hsn)
    have NM9 := Lib.hid (fun w' (b : Below w9.heap.size w9 w') => (D9'.on b).facts.2.2.2)
    have BR := Lib.hid (Below.refl w9.heap.size w9)
    clear hop t9 g9 so L9' D9 D9' h0 hz hso hsn
    go_wp2_with fail
    refine (PR2.out _ BR.out).mono ?_
    rintro e w10 ⟨rfl, b⟩
    have B10 := Lib.hid (bt BR.out b)
    clear b
    go_wp2_with fail
    refine (IN2.out _ B10.out).mono ?_
    rintro e w11 ⟨rfl, b⟩
    have B11 := Lib.hid (bt B10.out b)
    clear b
    go_wp2_with fail
    refine (PO2.out _ B11.out).mono ?_
    rintro e w12 ⟨rfl, b⟩
    have B12 := Lib.hid (bt B11.out b)
    have x12 := NM9.out _ B12.out
    clear b
    go_wp2_with fail
    refine (PR3.out _ B12.out).mono ?_
    rintro e w13 ⟨rfl, b⟩
    have B13 := Lib.hid (bt B12.out b)
    clear x12
    have x13 := NM9.out _ B13.out
    clear b
    go_wp2_with fail
    refine (IN3.out _ B13.out).mono ?_
    rintro e w14 ⟨rfl, b⟩
    have B14 := Lib.hid (bt B13.out b)
    clear x13
    have x14 := NM9.out _ B14.out
    clear b
    go_wp2_with fail
    refine (PO3.out _ B14.out).mono ?_
    rintro e w15 ⟨rfl, b⟩
    have B15 := Lib.hid (bt B14.out b)
    clear x14
    clear b
    go_wp2_with fail
    refine (srt_is k _).mono ?_
    rintro e w' ⟨rfl, hw⟩
    obtain rfl := hw.symm
    have BF := Lib.hid (HW.out.trans ((B9.out.trans (B15.out.mono B9.out.size)).mono HW.out.size))
    rcases srt_in k with hs | hs | hs
    · rw [hs] at riv s0 sn ⊢
      rw [s0, sn 2 (by decide), sn 3 (by decide)]
      clear riv s0 sn hs
      go_wp2_with fail
      go_ret
      exact ⟨rfl, BF.out⟩
    · rw [hs] at riv s0 sn ⊢
      have r3 : sidesZ L nm 3 = (0, 0, 0) := by unfold sidesZ; rw [show (3 : Int) = rivZ 2 from rfl, riv]
      rw [s0, sn 1 (by decide), sn 3 (by decide), r3]
      clear riv s0 sn hs r3
      go_wp2_with fail
      go_ret
      exact ⟨rfl, BF.out⟩
    · rw [hs] at riv s0 sn ⊢
      have r2 : sidesZ L nm 2 = (0, 0, 0) := by unfold sidesZ; rw [show (2 : Int) = rivZ 3 from rfl, riv]
      rw [s0, sn 1 (by decide), sn 2 (by decide), r2]
      clear riv s0 sn hs r2
      go_wp2_with fail
      go_ret
      exact ⟨rfl, BF.out⟩
  · have hzb : ((z : Int) != 0) = true := by rw [bne_iff_ne]; exact h0
    clear h0 hz t9 g9
    go_wp2_with fail
    go_ret
    exact ⟨rfl, HW.out.trans (B9.out.mono HW.out.size)⟩

theorem last_walk (ad : Option Addr) (n cap B off : Nat) (l : List Df) (P T : Nat) (nm other : ByteArray) (w : World) (hl : Lay w) (ha : ArgRow w ad n cap B off l) (hP : P ≤ 65535) (hT : T ≤ 255) :
    Calls Tryd.prog 6 #[.agg #[.slice ad n cap, .int .u16 P, .int .u8 T, .string nm], .string other] w fun e w' => e = .returned (.bool true) ∧ Below w.heap.size w w' := by
  by_cases h1 : 300 < n
  · exact last_out ad n cap P T nm other w hl (.inl h1)
  · by_cases h2 : 2000 < nm.size
    · exact last_out ad n cap P T nm other w hl (.inr (.inl h2))
    · by_cases h3 : 2000 < other.size
      · exact last_out ad n cap P T nm other w hl (.inr (.inr (.inl h3)))
      · by_cases h4 : other = nm
        · exact last_out ad n cap P T nm other w hl (.inr (.inr (.inr h4)))
        · exact last_in ad n cap B off l P T nm other w hl ha hP hT h1 h2 h3 h4

end Go.Proofs.YtnnhpjpfmmlimaaDoor
