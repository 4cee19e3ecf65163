/- Joined texts: OpL OpM. Conditions: as each states. -/
import Derived.Test.YtkplokfcjjcpcaaGreatDoorRk16
section
namespace Go.Proofs.YtkplokfcjjcpcaaGreatDoor.Ops
open Go Go.RowKit Go.Maps
open Go.WideMaps Go.WideElems
variable {RV : List Value}
structure NewSt (w0 w : World) (L : List Df) : Prop where
  low : Below w0.heap.size w0 w
  tab : (L = [] ∧ w.heap[w0.heap.size]? = some (.cells #[.map none] 121 (0, 0))) ∨ ∃ m, w0.heap.size < m ∧ Tb w w0.heap.size m L
def KeepC (A : Nat) (w w' : World) : Prop := ∀ b cs T fr, b ≠ A → w.heap[b]? = some (.cells cs T fr) → w'.heap[b]? = some (.cells cs T fr)
theorem KeepC.refl (A : Nat) (w : World) : KeepC A w w := fun _ _ _ _ _ h => h
theorem KeepC.trans {A : Nat} {a b c : World} (h : KeepC A a b) (k : KeepC A b c) : KeepC A a c := fun i cs T fr hi hh => k i cs T fr hi (h i cs T fr hi hh)
theorem KeepC.of {A : Nat} {w w' : World} (h : Below w.heap.size w w') : KeepC A w w' := fun i _ _ _ _ hh => (h.block i (heap_lt hh)).trans hh
theorem NewSt.on {w0 w w' : World} {L : List Df} (h : NewSt w0 w L) (b : Below w.heap.size w w') : NewSt w0 w' L := by
  refine ⟨h.low.trans (b.mono h.low.size), ?_⟩
  rcases h.tab with ⟨h1, h2⟩ | ⟨m, h1, h2⟩
  · exact .inl ⟨h1, (b.block _ (heap_lt h2)).trans h2⟩
  · exact .inr ⟨m, h1, h2.on b⟩
theorem put_st {w0 w : World} {L : List Df} {d : Df} (hl : Lay RV w0) (h : NewSt w0 w L) (hd : FitD d) (hL : L.length ≤ 300) :
    Calls Tryz.prog 59 #[.pointer (some ⟨w0.heap.size, 0, none⟩), .agg #[.int .i64 d.pri, .int .i64 d.typ, .string d.name]] w fun e w' => e = .returned (.tuple #[]) ∧ NewSt w0 w' (ins L d) ∧ KeepC w0.heap.size w w' := by
  have hl' := hl.from h.low hl.low
  rcases h.tab with ⟨rfl, h2⟩ | ⟨m, h1, h2⟩
  · refine (put_nil w0.heap.size d w hl' hl.low h2 hd).mono ?_
    rintro e w' ⟨rfl, m, ht, hm, hg⟩
    have hlt := heap_lt h2
    refine ⟨rfl, ⟨h.low.grown hg h.low.size (fun k hk => by cases hk; omega), .inr ⟨m, by omega, ht⟩⟩, fun i cs T fr hi hh => ?_⟩
    exact (hg.block i (heap_lt hh) (by simpa using hi)).trans hh
  · refine (put_is w0.heap.size m L d w hl' h2 hd hL).mono ?_
    rintro e w' ⟨rfl, ht, hg⟩
    refine ⟨rfl, ⟨h.low.grown hg h.low.size (fun k hk => by cases hk; omega), .inr ⟨m, h1, ht⟩⟩, fun i cs T fr hi hh => ?_⟩
    refine (hg.block i (heap_lt hh) ?_).trans hh
    intro he
    cases he
    obtain ⟨D, ⟨es, cl, hb, _⟩, _⟩ := h2.own
    rw [hb] at hh
    cases hh
theorem row_at {w : World} {B i : Nat} {r : Int × Int × List (List UInt8)} {t : List UInt8} (h : w.heap[B]? = some (.cells rowsV.toArray 125 (0, 0))) (hi : i < 13) (hr : firstN[i]? = some r) (ht : textsN[i]? = some t) :
    w.cell? ⟨B, i * 3, none⟩ = some (.int .i64 r.1) ∧ w.cell? ⟨B, i * 3 + 1, none⟩ = some (.int .i64 r.2.1) ∧ w.cell? ⟨B, i * 3 + 2, none⟩ = some (.string ⟨t.toArray⟩) := by
  have h0 : ∀ i, i < 13 → ∀ r t, firstN[i]? = some r → textsN[i]? = some t → rowsV[i * 3]? = some (.int .i64 r.1) ∧ rowsV[i * 3 + 1]? = some (.int .i64 r.2.1) ∧ rowsV[i * 3 + 2]? = some (.string ⟨t.toArray⟩) := by
    intro i hi r t hr ht
    obtain rfl | rfl | rfl | rfl | rfl | rfl | rfl | rfl | rfl | rfl | rfl | rfl | rfl : i = 0 ∨ i = 1 ∨ i = 2 ∨ i = 3 ∨ i = 4 ∨ i = 5 ∨ i = 6 ∨ i = 7 ∨ i = 8 ∨ i = 9 ∨ i = 10 ∨ i = 11 ∨ i = 12 := by omega
    all_goals
      cases hr
      cases ht
      exact ⟨rfl, rfl, rfl⟩
  obtain ⟨h1, h2, h3⟩ := h0 i hi r t hr ht
  exact ⟨cell_of_heap h (by simpa using h1), cell_of_heap h (by simpa using h2), cell_of_heap h (by simpa using h3)⟩
set_option maxRecDepth 100000 in
set_option maxHeartbeats 3200000 in
theorem new_is (w : World) (hl : Lay RV w) :
    Calls Tryz.prog 22 #[] w fun e w' => e = .returned (.pointer (some ⟨w.heap.size, 0, none⟩)) ∧ ∃ m, w.heap.size < m ∧ Tb w' w.heap.size m firstL ∧ Below w.heap.size w w' := by
  have HL := Lib.hid hl
  have hS0 : NewSt w (w.alloc (.cells #[.map none] 121)) [] := ⟨(Below.refl _ _).alloc (Nat.le_refl _) _, .inl ⟨rfl, new_at _ _ rfl⟩⟩
  have hz : (w.alloc (.cells #[.map none] 121)).heap.size = w.heap.size + 1 := by simp
  have hS := hS0.on ((Below.refl _ _).alloc (Nat.le_refl _) (.cells rowsV.toArray 125))
  have hR : ((w.alloc (.cells #[.map none] 121)).alloc (.cells rowsV.toArray 125)).heap[w.heap.size + 1]? = some (.cells rowsV.toArray 125 (0, 0)) := new_at _ _ hz
  obtain ⟨W1, hW1⟩ : ∃ W1, (w.alloc (.cells #[.map none] 121)).alloc (.cells rowsV.toArray 125) = W1 := ⟨_, rfl⟩
  rw [hW1] at hS hR
  have HS := Lib.hid hS
  have HR := Lib.hid hR
  have HW1 := Lib.hid hW1
  clear hl hS0 hz hS hR hW1
  go_enter Tryz.func22, Tryz.ntmps22
  go_wp2_with fail
  refine (first_is _).mono ?_
  rintro e w' ⟨rfl, rfl⟩
  go_wp2_with fail
  rw [HW1.out]
  go_loopw [10] (fun v wr => ∃ k : Nat, k ≤ 13 ∧ v = .int .i64 k ∧ Hid (NewSt w wr (upTo k 0)) ∧ Hid (wr.heap[w.heap.size + 1]? = some (.cells rowsV.toArray 125 (0, 0)))) (fun v _ => 13 - (intOf v).toNat)
  case atStart => exact ⟨0, by omega, rfl, HS, HR⟩
  case round =>
    obtain ⟨k, hk, rfl, HSk, HRk⟩ := hrel
    rename World => V
    by_cases hlt : k < 13
    · obtain ⟨r, hr⟩ : ∃ r, firstN[k]? = some r := ⟨_, List.getElem?_eq_getElem (by exact hlt)⟩
      obtain ⟨t, ht⟩ : ∃ t, textsN[k]? = some t := ⟨_, List.getElem?_eq_getElem (by exact hlt)⟩
      obtain ⟨c0, c1, c2⟩ := row_at HRk.out hlt hr ht
      have hin : r ∈ firstN := List.mem_of_getElem? hr
      have hta := texts_ascii t (List.mem_of_getElem? ht)
      have hF := fields_row k r t hr ht
      have hUp := fun j n (hn : r.2.2[j]? = some n) => upTo_next hr hn
      have hRow := upTo_row hr
      have hfit := fun n (hn : n ∈ r.2.2) => fit_mk hin hn
      obtain ⟨p, q, ns⟩ := r
      simp only at c0 c1 hF hRow hfit hUp
      obtain ⟨S, hS⟩ : ∃ S : ByteArray, (⟨t.toArray⟩ : ByteArray) = S := ⟨_, rfl⟩
      have hSl : S.data.toList = t := by rw [← hS]
      rw [hS] at c2
      have FLD : ∀ W, Lay RV W → Calls Tryz.prog 58 #[.string S] W fun e w' => e = .returned (.slice (some ⟨W.heap.size, 0, none⟩) ns.length ns.length) ∧ w' = W.alloc (.cells (ns.map fun l => Value.string ⟨l.toArray⟩).toArray 9) := fun W hW => by
        have h := Any.strings_Fields_core Tryz.lays157 (by kernel_rfl) S W (by rw [Lib.size_eq, hSl]; omega) (by intro j b hb; rw [hSl] at hb; exact hta.2 b (List.mem_of_getElem? hb)) hW.sp
        rw [hSl, hF] at h
        exact h
      have HFLD := Lib.hid FLD
      have hz := HSk.out.low.size
      have LW := Lib.hid (HL.out.from HSk.out.low HL.out.low)
      have k1 : Below V.heap.size V (V.alloc (.cells #[.int .i64 p, .int .i64 q, .string S] 125)) := (Below.refl _ _).alloc (Nat.le_refl _) _
      have L1 := Lib.hid (LW.out.on k1)
      have N1 : (V.alloc (.cells #[.int .i64 p, .int .i64 q, .string S] 125)).heap[V.heap.size]? = some (.cells #[.int .i64 p, .int .i64 q, .string S] 125 (0, 0)) := new_at _ _ rfl
      have S1 := HSk.out.on k1
      have R1 := (k1.block _ (heap_lt HRk.out)).trans HRk.out
      obtain ⟨X, hX⟩ : ∃ X, V.alloc (.cells #[.int .i64 p, .int .i64 q, .string S] 125) = X := ⟨_, rfl⟩
      rw [hX] at k1 N1 S1 R1 L1
      have HX := Lib.hid hX
      have k2 : Below X.heap.size X (X.alloc (.cells (ns.map fun l => Value.string ⟨l.toArray⟩).toArray 9)) := (Below.refl _ _).alloc (Nat.le_refl _) _
      have F2 : (X.alloc (.cells (ns.map fun l => Value.string ⟨l.toArray⟩).toArray 9)).heap[X.heap.size]? = some (.cells (ns.map fun l => Value.string ⟨l.toArray⟩).toArray 9 (0, 0)) := new_at _ _ rfl
      have S2 := Lib.hid (S1.on k2)
      have N2 := Lib.hid ((k2.block _ (heap_lt N1)).trans N1)
      have R2 := Lib.hid ((k2.block _ (heap_lt R1)).trans R1)
      have F2' := Lib.hid F2
      have hXA : w.heap.size + 1 < V.heap.size := heap_lt HRk.out
      have hXX : V.heap.size < X.heap.size := heap_lt N1
      obtain ⟨Y, hY⟩ : ∃ Y, X.alloc (.cells (ns.map fun l => Value.string ⟨l.toArray⟩).toArray 9) = Y := ⟨_, rfl⟩
      rw [hY] at S2 N2 R2 F2'
      have HY := Lib.hid hY
      have HUP := Lib.hid hUp
      have HROW := Lib.hid hRow
      have HFIT := Lib.hid hfit
      have i0 : (0 : Int) ≤ (k : Int) := by omega
      have i1 : (k : Int) < 13 := by omega
      have hns : ns.length ≤ 16 := by
        have : ∀ r ∈ firstN, r.2.2.length ≤ 16 := by decide +kernel
        exact this (p, q, ns) hin
      obtain ⟨nl, hnl⟩ : ∃ nl, ns.length = nl := ⟨_, rfl⟩
      rw [hnl] at HFLD hns HROW
      have HNL := Lib.hid hnl
      clear hr ht hin hta hF hUp hRow hfit hS hSl FLD k1 N1 S1 R1 hX k2 F2 hY hnl hz
      go_wp2_with fail
      rw [HX.out]
      refine (HFLD.out _ L1.out).mono ?_
      rintro e w' ⟨rfl, rfl⟩
      go_wp2_with fail
      rw [HY.out]
      go_loopw [18] (fun v wr => ∃ j : Nat, j ≤ nl ∧ v = .int .i64 j ∧ Hid (NewSt w wr (upTo k j)) ∧ Hid (wr.heap[w.heap.size + 1]? = some (.cells rowsV.toArray 125 (0, 0))) ∧ Hid (wr.heap[V.heap.size]? = some (.cells #[.int .i64 p, .int .i64 q, .string S] 125 (0, 0))) ∧ Hid (wr.heap[X.heap.size]? = some (.cells (ns.map fun l => Value.string ⟨l.toArray⟩).toArray 9 (0, 0)))) (fun v _ => nl - (intOf v).toNat)
      case atStart => exact ⟨0, by omega, rfl, S2, R2, N2, F2'⟩
      case round =>
        obtain ⟨j, hj, rfl, HSj, HRj, HNj, HFj⟩ := hrel
        by_cases hjl : j < nl
        · obtain ⟨n, hn⟩ : ∃ n, ns[j]? = some n := ⟨_, List.getElem?_eq_getElem (by rw [HNL.out]; exact hjl)⟩
          obtain ⟨c0, c1, _, _, _, _⟩ := (Three.mk HNj.out).facts
          obtain ⟨sn, hsn⟩ : ∃ s : ByteArray, (⟨n.toArray⟩ : ByteArray) = s := ⟨_, rfl⟩
          have f0 : wr.cell? ⟨X.heap.size, j, none⟩ = some (.string sn) := by
            refine cell_of_heap HFj.out ?_
            simp [hn, hsn]
          have HP := Lib.hid (put_st (d := ⟨p, q, sn⟩) HL.out HSj.out (by have := HFIT.out n (List.mem_of_getElem? hn); unfold mkD at this; rw [hsn] at this; exact this) (Nat.le_trans (upTo_len k j) (by decide)))
          have hnext := HUP.out j n hn
          unfold mkD at hnext
          simp only at hnext
          rw [hsn] at hnext
          rw [hnext] at HP
          have j0 : (0 : Int) ≤ (j : Int) := by omega
          have j1 : (j : Int) < (nl : Int) := by omega
          have HNE := Lib.hid (show w.heap.size + 1 ≠ w.heap.size ∧ V.heap.size ≠ w.heap.size ∧ X.heap.size ≠ w.heap.size by omega)
          clear hn hsn hnext
          go_wp2_with fail
          refine HP.out.mono ?_
          rintro e w' ⟨rfl, st, kc⟩
          have ST := Lib.hid st
          have K1 := Lib.hid (kc _ _ _ _ HNE.out.1 HRj.out)
          have K2 := Lib.hid (kc _ _ _ _ HNE.out.2.1 HNj.out)
          have K3 := Lib.hid (kc _ _ _ _ HNE.out.2.2 HFj.out)
          clear st kc HP
          go_wp2_with fail
          go_roundw
          case rel => exact ⟨j + 1, by omega, by go_num, ST, K1, K2, K3⟩
          case measure => simp [intOf]; omega
        · have hjn : j = nl := by omega
          subst hjn
          go_wp2_with fail
          go_roundw
          case rel => exact ⟨k + 1, by omega, by go_num, by rw [← HROW.out]; exact HSj, HRj⟩
          case measure => simp [intOf]; omega
    · have hk13 : k = 13 := by omega
      subst hk13
      have HT := Lib.hid HSk.out.tab
      have HB := Lib.hid HSk.out.low
      go_wp2_with fail
      go_ret
      rcases HT.out with ⟨h0, _⟩ | ⟨m, h1, h2⟩
      · exact absurd h0 (by rw [upTo_end]; decide)
      · exact ⟨rfl, m, h1, by rw [← upTo_end]; exact h2, HB.out⟩
end Go.Proofs.YtkplokfcjjcpcaaGreatDoor.Ops
end
section
namespace Go.Proofs.YtkplokfcjjcpcaaGreatDoor.Ops
open Go Go.RowKit Go.Maps
open Go.WideMaps Go.WideElems
def madeZ (l : List Df) : List Df := l.foldl (fun L d => (opZ L d).2) firstL
theorem fold_small : ∀ (l L : List Df), Wf L → L.length ≤ 256 → Wf (l.foldl (fun L d => (opZ L d).2) L) ∧ (l.foldl (fun L d => (opZ L d).2) L).length ≤ 256
  | [], _, h, k => ⟨h, k⟩
  | _ :: l, _, h, k => fold_small l _ (op_small h k).1 (op_small h k).2
theorem made_small (l : List Df) : Wf (madeZ l) ∧ (madeZ l).length ≤ 256 := fold_small l _ first_wf (by rw [first_len]; omega)
theorem made_next {l : List Df} {k : Nat} {d : Df} (h : l[k]? = some d) : madeZ (l.take (k + 1)) = (opZ (madeZ (l.take k)) d).2 := by
  unfold madeZ
  rw [List.take_add_one, h, List.foldl_append]
  rfl
structure ArgRow (W : World) (ad : Option Addr) (n cap B off : Nat) (l : List Df) : Prop where
  len : l.length = n
  fits : n ≤ cap
  max : cap ≤ 9223372036854775807
  at' : 0 < n → ad = some ⟨B, off, none⟩
  mem : ∀ i d, l[i]? = some d → W.cell? ⟨B, off + i * 3, none⟩ = some (.int .i64 d.pri) ∧ W.cell? ⟨B, off + i * 3 + 1, none⟩ = some (.int .i64 d.typ) ∧ W.cell? ⟨B, off + i * 3 + 2, none⟩ = some (.string d.name)
theorem ArgRow.on {W w : World} {ad : Option Addr} {n cap B off : Nat} {l : List Df} (h : ArgRow W ad n cap B off l) (b : Below W.heap.size W w) : ArgRow w ad n cap B off l :=
  ⟨h.len, h.fits, h.max, h.at', fun i d hd => by
    obtain ⟨h1, h2, h3⟩ := h.mem i d hd
    have hl := World.block_lt_of_cell? _ _ h1
    exact ⟨(b.cell (p := ⟨B, off + i * 3, none⟩) hl).trans h1, (b.cell (p := ⟨B, off + i * 3 + 1, none⟩) hl).trans h2, (b.cell (p := ⟨B, off + i * 3 + 2, none⟩) hl).trans h3⟩⟩
set_option maxRecDepth 100000 in
set_option maxHeartbeats 1600000 in
theorem made_is (ad : Option Addr) (n cap B off : Nat) (l : List Df) (w : World) (hl : Lay rivalsL w) (h : ArgRow w ad n cap B off l) :
    Calls Tryz.prog 15 #[.slice ad n cap] w fun e w' => e = .returned (.pointer (some ⟨w.heap.size, 0, none⟩)) ∧ ∃ m, w.heap.size < m ∧ Tb w' w.heap.size m (madeZ l) ∧ Below w.heap.size w w' := by
  have HL := Lib.hid hl
  have NEW := Lib.hid (new_is w hl)
  have HA := Lib.hid h
  have hcap := h.max
  have hfit := h.fits
  have HLEN := Lib.hid h.len
  clear h hl
  go_enter Tryz.func15, Tryz.ntmps15
  go_wp2_with fail
  refine NEW.out.mono ?_
  rintro e w1 ⟨rfl, m, hm, ht, hb⟩
  have HT := Lib.hid ht
  have HB := Lib.hid hb
  have HM := Lib.hid hm
  clear ht hb NEW hm
  go_wp2_with fail
  go_loopw [9] (fun v wr => ∃ k : Nat, k ≤ n ∧ v = .int .i64 k ∧ Hid (Tb wr w.heap.size m (madeZ (l.take k))) ∧ Hid (Below w.heap.size w wr)) (fun v _ => n - (intOf v).toNat)
  case atStart => exact ⟨0, by omega, rfl, HT, HB⟩
  case round =>
    obtain ⟨k, hk, rfl, HTk, HBk⟩ := hrel
    by_cases hlt : k < n
    · obtain rfl := HA.out.at' (by omega)
      obtain ⟨d, hd⟩ : ∃ d, l[k]? = some d := ⟨_, List.getElem?_eq_getElem (by rw [HLEN.out]; exact hlt)⟩
      obtain ⟨c0, c1, c2⟩ := (HA.out.on HBk.out).mem k d hd
      have i0 : (0 : Int) ≤ (k : Int) := by omega
      have i1 : (k : Int) < (n : Int) := by omega
      have hW : Below wr.heap.size wr (wr.alloc (.cells #[.int .i64 d.pri, .int .i64 d.typ, .string d.name] 89)) := (Below.refl _ _).alloc (Nat.le_refl _) _
      have OP := Lib.hid (op_is w.heap.size m (madeZ (l.take k)) d _ ((HL.out.on HBk.out).on hW) (HTk.out.on hW) (made_small _).2)
      have HW := Lib.hid hW
      have HN := Lib.hid (made_next hd)
      clear hd hW
      obtain ⟨p, t, x⟩ := d
      simp only at c0 c1 c2
      go_wp2_with fail
      refine OP.out.mono ?_
      rintro e w2 ⟨rfl, t2, g2⟩
      rw [← HN.out] at t2
      have T2 := Lib.hid t2
      have B2 := Lib.hid ((HBk.out.trans (HW.out.mono HBk.out.size)).grown g2 (Nat.le_trans HBk.out.size HW.out.size) (fun j hj => by cases hj; exact Nat.le_of_lt HM.out))
      clear t2 g2
      go_wp2_with fail
      go_roundw
      case rel => exact ⟨k + 1, by omega, by go_num, T2, B2⟩
      case measure => simp [intOf]; omega
    · have hkn : k = n := by omega
      subst hkn
      go_wp2_with fail
      go_ret
      refine ⟨rfl, m, HM.out, ?_, HBk.out⟩
      have := HTk.out
      rwa [List.take_of_length_le (by rw [HLEN.out]; exact Nat.le_refl _)] at this
end Go.Proofs.YtkplokfcjjcpcaaGreatDoor.Ops
end
