/- Joined texts: TokK TokL. Conditions: as each states. -/
import Derived.Test.YtkplokfcjjcpcaaGreatDoorPk07
import Derived.Laws.EntriesVeiled
import Derived.Deep.AppendLies
section
namespace Go.Proofs.YtkplokfcjjcpcaaGreatDoor
open Go Go.RowKit Go.Maps
abbrev att9 (p : Nat) : Array Value := #[.func (.func 79) #[.pointer (some ⟨p, 0, none⟩)] #[], .func (.func 80) #[.pointer (some ⟨p, 0, none⟩)] #[], .func (.func 81) #[.pointer (some ⟨p, 0, none⟩)] #[],
  .func (.func 82) #[.pointer (some ⟨p, 0, none⟩)] #[], .func (.func 83) #[.pointer (some ⟨p, 0, none⟩)] #[], .func (.func 84) #[.pointer (some ⟨p, 0, none⟩)] #[],
  .func (.func 85) #[.pointer (some ⟨p, 0, none⟩)] #[], .func (.func 86) #[.pointer (some ⟨p, 0, none⟩)] #[], .func (.func 87) #[.pointer (some ⟨p, 0, none⟩)] #[]]
set_option maxRecDepth 100000 in
set_option maxHeartbeats 1600000 in
theorem row_is (p : Nat) (w : World) :
    Calls Tryz.prog 45 #[.pointer (some ⟨p, 0, none⟩)] w fun e w' => e = .returned (.agg (att9 p)) ∧ Below w.heap.size w w' := by
  have hf : ∀ a0 a1 a2 a3 a4 a5 a6 a7 a8 : Value, ∀ j, (w.alloc (.cells #[a0, a1, a2, a3, a4, a5, a6, a7, a8] 96)).frozen? ⟨w.heap.size, j, none⟩ = false := fun _ _ _ _ _ _ _ _ _ j => free_of_heap (new_at _ _ rfl)
  go_enter Tryz.func45, Tryz.ntmps45
  go_wp2_with fail
  refine bodyPost_ret (v := .agg (att9 p)) (by simp [results, Tryz.results45, go_sem]) rfl ?_
  exact ⟨rfl, (Below.refl _ _).alloc (Nat.le_refl _) _⟩
def attL : List (List UInt8 → Option (Tk × Nat)) := [stopT, lettersT 2 1, signsT, aloneT 6 1, lettersT 3 4, numberT, withinT 39 2, withinT 34 5, aloneT 7 6]
def restT (i : Nat) (l : List UInt8) : Option (Tk × Nat) := (attL.drop i).foldr (fun f r => (f l).or r) none
theorem rest_0 (l : List UInt8) : restT 0 l = tokT l := by
  unfold tokT
  simp [restT, attL]
theorem rest_on {i : Nat} {f : List UInt8 → Option (Tk × Nat)} (h : attL[i]? = some f) (l : List UInt8) : restT i l = (f l).or (restT (i + 1) l) := by
  obtain ⟨hi, hf⟩ := List.getElem?_eq_some_iff.1 h
  unfold restT
  rw [List.drop_eq_getElem_cons hi, hf]
  rfl
structure FiSt (p : Nat) (s : ByteArray) (W0 wr : World) (b i : Nat) : Prop where
  below : Below (b + 2) W0 wr
  rest : tokT s.data.toList = restT i s.data.toList
theorem below6q {w w' : World} {H q : Nat} (h : Below H w w') (hq : H ≤ q) (y0 y1 y2 y3 y4 y5 : Value) : Below H w ((((((w'.setCell ⟨q, 0, none⟩ y0).setCell ⟨q, 1, none⟩ y1).setCell ⟨q, 2, none⟩ y2).setCell ⟨q, 3, none⟩ y3).setCell ⟨q, 4, none⟩ y4).setCell ⟨q, 5, none⟩ y5) := by
  have a0 := h.setCell (p := ⟨q, 0, none⟩) hq y0
  have a1 := a0.setCell (p := ⟨q, 1, none⟩) hq y1
  have a2 := a1.setCell (p := ⟨q, 2, none⟩) hq y2
  have a3 := a2.setCell (p := ⟨q, 3, none⟩) hq y3
  have a4 := a3.setCell (p := ⟨q, 4, none⟩) hq y4
  exact a4.setCell (p := ⟨q, 5, none⟩) hq y5
theorem six_at {w5 : World} {b : Nat} (h : Six w5 b) (x : Obj) : Six (w5.alloc x) b := ⟨by rw [Below.heap_alloc _ _ _ (heap_lt h.h)]; exact h.h⟩
set_option maxRecDepth 100000 in
set_option maxHeartbeats 6400000 in
theorem first_is (p : Nat) (s : ByteArray) (n : Int) (w : World) (h : PL w p s n) (hs : s.size ≤ 5000) (hp : 0 < s.size) (ht : Tab w) :
    Calls Tryz.prog 47 #[.agg (att9 p)] w (AttPost w (tokT s.data.toList)) := by
  have cells9 : ∀ j, ((w.alloc (.cells (att9 p) 96)).alloc (.cells zero6 48)).cell? ⟨w.heap.size, j, none⟩ = (att9 p)[j]? := fun j => by
    have e : ((w.alloc (.cells (att9 p) 96)).alloc (.cells zero6 48)).heap[w.heap.size]? = some (.cells (att9 p) 96 (0, 0)) := by
      rw [Below.heap_alloc _ _ _ (by simp)]
      exact new_at _ _ rfl
    unfold World.cell?
    simp only [e]
    rfl
  obtain ⟨a0, a1, a2, a3, a4, a5, a6, a7, a8⟩ := And.intro (cells9 0) (And.intro (cells9 1) (And.intro (cells9 2) (And.intro (cells9 3) (And.intro (cells9 4) (And.intro (cells9 5) (And.intro (cells9 6) (And.intro (cells9 7) (cells9 8))))))))
  simp only [att9, List.getElem?_toArray, List.getElem?_cons_zero, List.getElem?_cons_succ] at a0 a1 a2 a3 a4 a5 a6 a7 a8
  have hb0 : Below w.heap.size w ((w.alloc (.cells (att9 p) 96)).alloc (.cells zero6 48)) := ((Below.refl _ _).alloc (Nat.le_refl _) _).alloc (by simp) _
  have six0 : Six ((w.alloc (.cells (att9 p) 96)).alloc (.cells zero6 48)) (w.heap.size + 1) := ⟨new_at _ _ (by simp)⟩
  have sz0 : ((w.alloc (.cells (att9 p) 96)).alloc (.cells zero6 48)).heap.size = w.heap.size + 2 := by simp
  obtain ⟨W0, hW0⟩ : ∃ W0, ((w.alloc (.cells (att9 p) 96)).alloc (.cells zero6 48)) = W0 := ⟨_, rfl⟩
  rw [hW0] at hb0 six0 sz0
  have HPL := Lib.hid (h.on hb0)
  have HT := Lib.hid (ht.on hb0)
  have HB0 := Lib.hid hb0
  have SIX := Lib.hid six0
  have HZ0 := Lib.hid sz0
  have HW0 := Lib.hid hW0
  clear h ht cells9 hb0 six0 sz0 hW0
  unfold zero6 att9 at *
  go_enter Tryz.func47, Tryz.ntmps47
  go_wp2_with fail
  rw [HW0.out]
  clear a0 a1 a2 a3 a4 a5 a6 a7 a8 HW0
  go_loopw [9] (fun v wr => ∃ i : Nat, v = .int .i64 i ∧ i ≤ 9 ∧ Hid (FiSt p s W0 wr w.heap.size i)) (fun v _ => 9 - (intOf v).toNat)
  case atStart => exact ⟨0, rfl, Nat.zero_le _, ⟨Below.refl _ _, (rest_0 _).symm⟩⟩
  case round =>
    obtain ⟨i, rfl, hi, HS⟩ := hrel
    have hbw : Below W0.heap.size W0 wr := by rw [HZ0.out]; exact HS.out.below
    have hpl := HPL.out.on hbw
    have htb := HT.out.on hbw
    have HB := Lib.hid (show Below w.heap.size w wr from HB0.out.trans (HS.out.below.mono (by omega)))
    have SW := Lib.hid (SIX.out.on hbw)
    have HL := Lib.hid (show w.heap.size + 2 ≤ wr.heap.size by rw [← HZ0.out]; exact hbw.size)
    clear hbw
    obtain rfl | rfl | rfl | rfl | rfl | rfl | rfl | rfl | rfl | rfl : i = 0 ∨ i = 1 ∨ i = 2 ∨ i = 3 ∨ i = 4 ∨ i = 5 ∨ i = 6 ∨ i = 7 ∨ i = 8 ∨ i = 9 := by omega
    · have C := Lib.hid (stop_is p s n wr hpl hs hp)
      have ix : ∀ w, (Instr.index 96 (.agg (att9 p)) (.int .i64 0)).run Tryz.prog w = .ok (.func (.func 79) #[.pointer (some ⟨p, 0, none⟩)] #[]) w := fun _ => by kernel_rfl
      unfold att9 at ix
      have R := Lib.hid (HS.out.rest.trans (rest_on (i := 0) rfl _))
      clear hpl htb
      go_wp2_with fail
      refine C.out.mono ?_
      rintro e w5 ⟨⟨t, m, rfl, ho⟩, b5⟩
      have HO := Lib.hid ho
      have S5 := SW.out.on b5
      have S6 : Six (w5.alloc (.cells zero6 48)) w5.heap.size := ⟨new_at _ _ rfl⟩
      obtain ⟨d0, d1, d2, d3, d4, d5, z0, z1, z2, z3, z4, z5⟩ := S6.facts
      have hl5 : w.heap.size + 2 ≤ w5.heap.size := Nat.le_trans HL.out b5.size
      have S7 := six_at S5 (.cells #[.int .i64 t.k, .int .i64 0, .int .i64 t.n, .string ⟨t.s.toArray⟩, .bool false, .bool false] 48)
      have HS7 := Lib.hid S7
      obtain ⟨y0, y1, y2, y3, y4, y5, x0, x1, x2, x3, x4, x5⟩ := S7.facts
      have B5 := Lib.hid b5
      have HL5 := Lib.hid hl5
      clear ho S5 S6 S7 b5 C hl5
      unfold zero6 at *
      by_cases hm : m = 0
      · subst hm
        have RN := Lib.hid (R.out.trans (by rw [show _ = none from HO.out.elim (fun h => h.1) (fun h => absurd h.2 (Nat.lt_irrefl 0))]; rfl : _ = restT 1 s.data.toList))
        have BN := Lib.hid (show Below (w.heap.size + 2) W0 (w5.alloc (.cells #[.int .i64 t.k, .int .i64 0, .int .i64 t.n, .string ⟨t.s.toArray⟩, .bool false, .bool false] 48)) from (HS.out.below.trans (B5.out.mono HL.out)).alloc HL5.out _)
        clear R HO HS HL B5
        go_wp2_with fail
        go_roundw
        case rel => exact ⟨1, by go_num, by omega, ⟨BN.out, RN.out⟩⟩
        case measure => simp [intOf]
      · have hm1 : 0 < (m : Int) := by omega
        have HF := Lib.hid (show tokT s.data.toList = some (t, m) by rw [R.out]; rw [show _ = some (t, m) from HO.out.elim (fun h => absurd h.2 hm) (fun h => h.1)]; rfl)
        have BN := Lib.hid (show Below w.heap.size w (w5.alloc (.cells #[.int .i64 t.k, .int .i64 0, .int .i64 t.n, .string ⟨t.s.toArray⟩, .bool false, .bool false] 48)) from (HB.out.trans (B5.out.mono HB.out.size)).alloc (by have := HL5.out; omega) _)
        clear R HO HS HL B5
        go_wp2_with fail
        obtain ⟨q0, q1, q2, q3, q4, q5⟩ := six_cells HS7.out.h (.int .i64 t.k) (.int .i64 0) (.int .i64 t.n) (.string ⟨t.s.toArray⟩) (.bool false) (.bool false)
        refine bodyPost_ret (v := .tuple #[.agg #[.int .i64 t.k, .int .i64 0, .int .i64 t.n, .string ⟨t.s.toArray⟩, .bool false, .bool false], .int .i64 m]) (by simp [results, Tryz.results47, go_sem, q0, q1, q2, q3, q4, q5]) rfl ?_
        exact ⟨⟨t, m, rfl, .inr ⟨HF.out, by omega⟩⟩, below6q BN.out (Nat.le_succ _) _ _ _ _ _ _⟩
    · have C := Lib.hid (word_is p s n wr hpl hs hp)
      have ix : ∀ w, (Instr.index 96 (.agg (att9 p)) (.int .i64 1)).run Tryz.prog w = .ok (.func (.func 80) #[.pointer (some ⟨p, 0, none⟩)] #[]) w := fun _ => by kernel_rfl
      unfold att9 at ix
      have R := Lib.hid (HS.out.rest.trans (rest_on (i := 1) rfl _))
      clear hpl htb
      go_wp2_with fail
      refine C.out.mono ?_
      rintro e w5 ⟨⟨t, m, rfl, ho⟩, b5⟩
      have HO := Lib.hid ho
      have S5 := SW.out.on b5
      have S6 : Six (w5.alloc (.cells zero6 48)) w5.heap.size := ⟨new_at _ _ rfl⟩
      obtain ⟨d0, d1, d2, d3, d4, d5, z0, z1, z2, z3, z4, z5⟩ := S6.facts
      have hl5 : w.heap.size + 2 ≤ w5.heap.size := Nat.le_trans HL.out b5.size
      have S7 := six_at S5 (.cells #[.int .i64 t.k, .int .i64 0, .int .i64 t.n, .string ⟨t.s.toArray⟩, .bool false, .bool false] 48)
      have HS7 := Lib.hid S7
      obtain ⟨y0, y1, y2, y3, y4, y5, x0, x1, x2, x3, x4, x5⟩ := S7.facts
      have B5 := Lib.hid b5
      have HL5 := Lib.hid hl5
      clear ho S5 S6 S7 b5 C hl5
      unfold zero6 at *
      by_cases hm : m = 0
      · subst hm
        have RN := Lib.hid (R.out.trans (by rw [show _ = none from HO.out.elim (fun h => h.1) (fun h => absurd h.2 (Nat.lt_irrefl 0))]; rfl : _ = restT 2 s.data.toList))
        have BN := Lib.hid (show Below (w.heap.size + 2) W0 (w5.alloc (.cells #[.int .i64 t.k, .int .i64 0, .int .i64 t.n, .string ⟨t.s.toArray⟩, .bool false, .bool false] 48)) from (HS.out.below.trans (B5.out.mono HL.out)).alloc HL5.out _)
        clear R HO HS HL B5
        go_wp2_with fail
        go_roundw
        case rel => exact ⟨2, by go_num, by omega, ⟨BN.out, RN.out⟩⟩
        case measure => simp [intOf]
      · have hm1 : 0 < (m : Int) := by omega
        have HF := Lib.hid (show tokT s.data.toList = some (t, m) by rw [R.out]; rw [show _ = some (t, m) from HO.out.elim (fun h => absurd h.2 hm) (fun h => h.1)]; rfl)
        have BN := Lib.hid (show Below w.heap.size w (w5.alloc (.cells #[.int .i64 t.k, .int .i64 0, .int .i64 t.n, .string ⟨t.s.toArray⟩, .bool false, .bool false] 48)) from (HB.out.trans (B5.out.mono HB.out.size)).alloc (by have := HL5.out; omega) _)
        clear R HO HS HL B5
        go_wp2_with fail
        obtain ⟨q0, q1, q2, q3, q4, q5⟩ := six_cells HS7.out.h (.int .i64 t.k) (.int .i64 0) (.int .i64 t.n) (.string ⟨t.s.toArray⟩) (.bool false) (.bool false)
        refine bodyPost_ret (v := .tuple #[.agg #[.int .i64 t.k, .int .i64 0, .int .i64 t.n, .string ⟨t.s.toArray⟩, .bool false, .bool false], .int .i64 m]) (by simp [results, Tryz.results47, go_sem, q0, q1, q2, q3, q4, q5]) rfl ?_
        exact ⟨⟨t, m, rfl, .inr ⟨HF.out, by omega⟩⟩, below6q BN.out (Nat.le_succ _) _ _ _ _ _ _⟩
    · have C := Lib.hid (signs_is p s n wr hpl hs)
      have ix : ∀ w, (Instr.index 96 (.agg (att9 p)) (.int .i64 2)).run Tryz.prog w = .ok (.func (.func 81) #[.pointer (some ⟨p, 0, none⟩)] #[]) w := fun _ => by kernel_rfl
      unfold att9 at ix
      have R := Lib.hid (HS.out.rest.trans (rest_on (i := 2) rfl _))
      clear hpl htb
      go_wp2_with fail
      refine C.out.mono ?_
      rintro e w5 ⟨⟨t, m, rfl, ho⟩, b5⟩
      have HO := Lib.hid ho
      have S5 := SW.out.on b5
      have S6 : Six (w5.alloc (.cells zero6 48)) w5.heap.size := ⟨new_at _ _ rfl⟩
      obtain ⟨d0, d1, d2, d3, d4, d5, z0, z1, z2, z3, z4, z5⟩ := S6.facts
      have hl5 : w.heap.size + 2 ≤ w5.heap.size := Nat.le_trans HL.out b5.size
      have S7 := six_at S5 (.cells #[.int .i64 t.k, .int .i64 0, .int .i64 t.n, .string ⟨t.s.toArray⟩, .bool false, .bool false] 48)
      have HS7 := Lib.hid S7
      obtain ⟨y0, y1, y2, y3, y4, y5, x0, x1, x2, x3, x4, x5⟩ := S7.facts
      have B5 := Lib.hid b5
      have HL5 := Lib.hid hl5
      clear ho S5 S6 S7 b5 C hl5
      unfold zero6 at *
      by_cases hm : m = 0
      · subst hm
        have RN := Lib.hid (R.out.trans (by rw [show _ = none from HO.out.elim (fun h => h.1) (fun h => absurd h.2 (Nat.lt_irrefl 0))]; rfl : _ = restT 3 s.data.toList))
        have BN := Lib.hid (show Below (w.heap.size + 2) W0 (w5.alloc (.cells #[.int .i64 t.k, .int .i64 0, .int .i64 t.n, .string ⟨t.s.toArray⟩, .bool false, .bool false] 48)) from (HS.out.below.trans (B5.out.mono HL.out)).alloc HL5.out _)
        clear R HO HS HL B5
        go_wp2_with fail
        go_roundw
        case rel => exact ⟨3, by go_num, by omega, ⟨BN.out, RN.out⟩⟩
        case measure => simp [intOf]
      · have hm1 : 0 < (m : Int) := by omega
        have HF := Lib.hid (show tokT s.data.toList = some (t, m) by rw [R.out]; rw [show _ = some (t, m) from HO.out.elim (fun h => absurd h.2 hm) (fun h => h.1)]; rfl)
        have BN := Lib.hid (show Below w.heap.size w (w5.alloc (.cells #[.int .i64 t.k, .int .i64 0, .int .i64 t.n, .string ⟨t.s.toArray⟩, .bool false, .bool false] 48)) from (HB.out.trans (B5.out.mono HB.out.size)).alloc (by have := HL5.out; omega) _)
        clear R HO HS HL B5
        go_wp2_with fail
        obtain ⟨q0, q1, q2, q3, q4, q5⟩ := six_cells HS7.out.h (.int .i64 t.k) (.int .i64 0) (.int .i64 t.n) (.string ⟨t.s.toArray⟩) (.bool false) (.bool false)
        refine bodyPost_ret (v := .tuple #[.agg #[.int .i64 t.k, .int .i64 0, .int .i64 t.n, .string ⟨t.s.toArray⟩, .bool false, .bool false], .int .i64 m]) (by simp [results, Tryz.results47, go_sem, q0, q1, q2, q3, q4, q5]) rfl ?_
        exact ⟨⟨t, m, rfl, .inr ⟨HF.out, by omega⟩⟩, below6q BN.out (Nat.le_succ _) _ _ _ _ _ _⟩
    · have C := Lib.hid (solo_is p s n wr hpl hs hp)
      have ix : ∀ w, (Instr.index 96 (.agg (att9 p)) (.int .i64 3)).run Tryz.prog w = .ok (.func (.func 82) #[.pointer (some ⟨p, 0, none⟩)] #[]) w := fun _ => by kernel_rfl
      unfold att9 at ix
      have R := Lib.hid (HS.out.rest.trans (rest_on (i := 3) rfl _))
      clear hpl htb
      go_wp2_with fail
      refine C.out.mono ?_
      rintro e w5 ⟨⟨t, m, rfl, ho⟩, b5⟩
      have HO := Lib.hid ho
      have S5 := SW.out.on b5
      have S6 : Six (w5.alloc (.cells zero6 48)) w5.heap.size := ⟨new_at _ _ rfl⟩
      obtain ⟨d0, d1, d2, d3, d4, d5, z0, z1, z2, z3, z4, z5⟩ := S6.facts
      have hl5 : w.heap.size + 2 ≤ w5.heap.size := Nat.le_trans HL.out b5.size
      have S7 := six_at S5 (.cells #[.int .i64 t.k, .int .i64 0, .int .i64 t.n, .string ⟨t.s.toArray⟩, .bool false, .bool false] 48)
      have HS7 := Lib.hid S7
      obtain ⟨y0, y1, y2, y3, y4, y5, x0, x1, x2, x3, x4, x5⟩ := S7.facts
      have B5 := Lib.hid b5
      have HL5 := Lib.hid hl5
      clear ho S5 S6 S7 b5 C hl5
      unfold zero6 at *
      by_cases hm : m = 0
      · subst hm
        have RN := Lib.hid (R.out.trans (by rw [show _ = none from HO.out.elim (fun h => h.1) (fun h => absurd h.2 (Nat.lt_irrefl 0))]; rfl : _ = restT 4 s.data.toList))
        have BN := Lib.hid (show Below (w.heap.size + 2) W0 (w5.alloc (.cells #[.int .i64 t.k, .int .i64 0, .int .i64 t.n, .string ⟨t.s.toArray⟩, .bool false, .bool false] 48)) from (HS.out.below.trans (B5.out.mono HL.out)).alloc HL5.out _)
        clear R HO HS HL B5
        go_wp2_with fail
        go_roundw
        case rel => exact ⟨4, by go_num, by omega, ⟨BN.out, RN.out⟩⟩
        case measure => simp [intOf]
      · have hm1 : 0 < (m : Int) := by omega
        have HF := Lib.hid (show tokT s.data.toList = some (t, m) by rw [R.out]; rw [show _ = some (t, m) from HO.out.elim (fun h => absurd h.2 hm) (fun h => h.1)]; rfl)
        have BN := Lib.hid (show Below w.heap.size w (w5.alloc (.cells #[.int .i64 t.k, .int .i64 0, .int .i64 t.n, .string ⟨t.s.toArray⟩, .bool false, .bool false] 48)) from (HB.out.trans (B5.out.mono HB.out.size)).alloc (by have := HL5.out; omega) _)
        clear R HO HS HL B5
        go_wp2_with fail
        obtain ⟨q0, q1, q2, q3, q4, q5⟩ := six_cells HS7.out.h (.int .i64 t.k) (.int .i64 0) (.int .i64 t.n) (.string ⟨t.s.toArray⟩) (.bool false) (.bool false)
        refine bodyPost_ret (v := .tuple #[.agg #[.int .i64 t.k, .int .i64 0, .int .i64 t.n, .string ⟨t.s.toArray⟩, .bool false, .bool false], .int .i64 m]) (by simp [results, Tryz.results47, go_sem, q0, q1, q2, q3, q4, q5]) rfl ?_
        exact ⟨⟨t, m, rfl, .inr ⟨HF.out, by omega⟩⟩, below6q BN.out (Nat.le_succ _) _ _ _ _ _ _⟩
    · have C := Lib.hid (named_is p s n wr hpl hs hp)
      have ix : ∀ w, (Instr.index 96 (.agg (att9 p)) (.int .i64 4)).run Tryz.prog w = .ok (.func (.func 83) #[.pointer (some ⟨p, 0, none⟩)] #[]) w := fun _ => by kernel_rfl
      unfold att9 at ix
      have R := Lib.hid (HS.out.rest.trans (rest_on (i := 4) rfl _))
      clear hpl htb
      go_wp2_with fail
      refine C.out.mono ?_
      rintro e w5 ⟨⟨t, m, rfl, ho⟩, b5⟩
      have HO := Lib.hid ho
      have S5 := SW.out.on b5
      have S6 : Six (w5.alloc (.cells zero6 48)) w5.heap.size := ⟨new_at _ _ rfl⟩
      obtain ⟨d0, d1, d2, d3, d4, d5, z0, z1, z2, z3, z4, z5⟩ := S6.facts
      have hl5 : w.heap.size + 2 ≤ w5.heap.size := Nat.le_trans HL.out b5.size
      have S7 := six_at S5 (.cells #[.int .i64 t.k, .int .i64 0, .int .i64 t.n, .string ⟨t.s.toArray⟩, .bool false, .bool false] 48)
      have HS7 := Lib.hid S7
      obtain ⟨y0, y1, y2, y3, y4, y5, x0, x1, x2, x3, x4, x5⟩ := S7.facts
      have B5 := Lib.hid b5
      have HL5 := Lib.hid hl5
      clear ho S5 S6 S7 b5 C hl5
      unfold zero6 at *
      by_cases hm : m = 0
      · subst hm
        have RN := Lib.hid (R.out.trans (by rw [show _ = none from HO.out.elim (fun h => h.1) (fun h => absurd h.2 (Nat.lt_irrefl 0))]; rfl : _ = restT 5 s.data.toList))
        have BN := Lib.hid (show Below (w.heap.size + 2) W0 (w5.alloc (.cells #[.int .i64 t.k, .int .i64 0, .int .i64 t.n, .string ⟨t.s.toArray⟩, .bool false, .bool false] 48)) from (HS.out.below.trans (B5.out.mono HL.out)).alloc HL5.out _)
        clear R HO HS HL B5
        go_wp2_with fail
        go_roundw
        case rel => exact ⟨5, by go_num, by omega, ⟨BN.out, RN.out⟩⟩
        case measure => simp [intOf]
      · have hm1 : 0 < (m : Int) := by omega
        have HF := Lib.hid (show tokT s.data.toList = some (t, m) by rw [R.out]; rw [show _ = some (t, m) from HO.out.elim (fun h => absurd h.2 hm) (fun h => h.1)]; rfl)
        have BN := Lib.hid (show Below w.heap.size w (w5.alloc (.cells #[.int .i64 t.k, .int .i64 0, .int .i64 t.n, .string ⟨t.s.toArray⟩, .bool false, .bool false] 48)) from (HB.out.trans (B5.out.mono HB.out.size)).alloc (by have := HL5.out; omega) _)
        clear R HO HS HL B5
        go_wp2_with fail
        obtain ⟨q0, q1, q2, q3, q4, q5⟩ := six_cells HS7.out.h (.int .i64 t.k) (.int .i64 0) (.int .i64 t.n) (.string ⟨t.s.toArray⟩) (.bool false) (.bool false)
        refine bodyPost_ret (v := .tuple #[.agg #[.int .i64 t.k, .int .i64 0, .int .i64 t.n, .string ⟨t.s.toArray⟩, .bool false, .bool false], .int .i64 m]) (by simp [results, Tryz.results47, go_sem, q0, q1, q2, q3, q4, q5]) rfl ?_
        exact ⟨⟨t, m, rfl, .inr ⟨HF.out, by omega⟩⟩, below6q BN.out (Nat.le_succ _) _ _ _ _ _ _⟩
    · have C := Lib.hid (numT_is p s n wr hpl hs htb)
      have ix : ∀ w, (Instr.index 96 (.agg (att9 p)) (.int .i64 5)).run Tryz.prog w = .ok (.func (.func 84) #[.pointer (some ⟨p, 0, none⟩)] #[]) w := fun _ => by kernel_rfl
      unfold att9 at ix
      have R := Lib.hid (HS.out.rest.trans (rest_on (i := 5) rfl _))
      clear hpl htb
      go_wp2_with fail
      refine C.out.mono ?_
      rintro e w5 ⟨⟨t, m, rfl, ho⟩, b5⟩
      have HO := Lib.hid ho
      have S5 := SW.out.on b5
      have S6 : Six (w5.alloc (.cells zero6 48)) w5.heap.size := ⟨new_at _ _ rfl⟩
      obtain ⟨d0, d1, d2, d3, d4, d5, z0, z1, z2, z3, z4, z5⟩ := S6.facts
      have hl5 : w.heap.size + 2 ≤ w5.heap.size := Nat.le_trans HL.out b5.size
      have S7 := six_at S5 (.cells #[.int .i64 t.k, .int .i64 0, .int .i64 t.n, .string ⟨t.s.toArray⟩, .bool false, .bool false] 48)
      have HS7 := Lib.hid S7
      obtain ⟨y0, y1, y2, y3, y4, y5, x0, x1, x2, x3, x4, x5⟩ := S7.facts
      have B5 := Lib.hid b5
      have HL5 := Lib.hid hl5
      clear ho S5 S6 S7 b5 C hl5
      unfold zero6 at *
      by_cases hm : m = 0
      · subst hm
        have RN := Lib.hid (R.out.trans (by rw [show _ = none from HO.out.elim (fun h => h.1) (fun h => absurd h.2 (Nat.lt_irrefl 0))]; rfl : _ = restT 6 s.data.toList))
        have BN := Lib.hid (show Below (w.heap.size + 2) W0 (w5.alloc (.cells #[.int .i64 t.k, .int .i64 0, .int .i64 t.n, .string ⟨t.s.toArray⟩, .bool false, .bool false] 48)) from (HS.out.below.trans (B5.out.mono HL.out)).alloc HL5.out _)
        clear R HO HS HL B5
        go_wp2_with fail
        go_roundw
        case rel => exact ⟨6, by go_num, by omega, ⟨BN.out, RN.out⟩⟩
        case measure => simp [intOf]
      · have hm1 : 0 < (m : Int) := by omega
        have HF := Lib.hid (show tokT s.data.toList = some (t, m) by rw [R.out]; rw [show _ = some (t, m) from HO.out.elim (fun h => absurd h.2 hm) (fun h => h.1)]; rfl)
        have BN := Lib.hid (show Below w.heap.size w (w5.alloc (.cells #[.int .i64 t.k, .int .i64 0, .int .i64 t.n, .string ⟨t.s.toArray⟩, .bool false, .bool false] 48)) from (HB.out.trans (B5.out.mono HB.out.size)).alloc (by have := HL5.out; omega) _)
        clear R HO HS HL B5
        go_wp2_with fail
        obtain ⟨q0, q1, q2, q3, q4, q5⟩ := six_cells HS7.out.h (.int .i64 t.k) (.int .i64 0) (.int .i64 t.n) (.string ⟨t.s.toArray⟩) (.bool false) (.bool false)
        refine bodyPost_ret (v := .tuple #[.agg #[.int .i64 t.k, .int .i64 0, .int .i64 t.n, .string ⟨t.s.toArray⟩, .bool false, .bool false], .int .i64 m]) (by simp [results, Tryz.results47, go_sem, q0, q1, q2, q3, q4, q5]) rfl ?_
        exact ⟨⟨t, m, rfl, .inr ⟨HF.out, by omega⟩⟩, below6q BN.out (Nat.le_succ _) _ _ _ _ _ _⟩
    · have C := Lib.hid (quoted_is p s n wr hpl hs hp htb)
      have ix : ∀ w, (Instr.index 96 (.agg (att9 p)) (.int .i64 6)).run Tryz.prog w = .ok (.func (.func 85) #[.pointer (some ⟨p, 0, none⟩)] #[]) w := fun _ => by kernel_rfl
      unfold att9 at ix
      have R := Lib.hid (HS.out.rest.trans (rest_on (i := 6) rfl _))
      clear hpl htb
      go_wp2_with fail
      refine C.out.mono ?_
      rintro e w5 ⟨⟨t, m, rfl, ho⟩, b5⟩
      have HO := Lib.hid ho
      have S5 := SW.out.on b5
      have S6 : Six (w5.alloc (.cells zero6 48)) w5.heap.size := ⟨new_at _ _ rfl⟩
      obtain ⟨d0, d1, d2, d3, d4, d5, z0, z1, z2, z3, z4, z5⟩ := S6.facts
      have hl5 : w.heap.size + 2 ≤ w5.heap.size := Nat.le_trans HL.out b5.size
      have S7 := six_at S5 (.cells #[.int .i64 t.k, .int .i64 0, .int .i64 t.n, .string ⟨t.s.toArray⟩, .bool false, .bool false] 48)
      have HS7 := Lib.hid S7
      obtain ⟨y0, y1, y2, y3, y4, y5, x0, x1, x2, x3, x4, x5⟩ := S7.facts
      have B5 := Lib.hid b5
      have HL5 := Lib.hid hl5
      clear ho S5 S6 S7 b5 C hl5
      unfold zero6 at *
      by_cases hm : m = 0
      · subst hm
        have RN := Lib.hid (R.out.trans (by rw [show _ = none from HO.out.elim (fun h => h.1) (fun h => absurd h.2 (Nat.lt_irrefl 0))]; rfl : _ = restT 7 s.data.toList))
        have BN := Lib.hid (show Below (w.heap.size + 2) W0 (w5.alloc (.cells #[.int .i64 t.k, .int .i64 0, .int .i64 t.n, .string ⟨t.s.toArray⟩, .bool false, .bool false] 48)) from (HS.out.below.trans (B5.out.mono HL.out)).alloc HL5.out _)
        clear R HO HS HL B5
        go_wp2_with fail
        go_roundw
        case rel => exact ⟨7, by go_num, by omega, ⟨BN.out, RN.out⟩⟩
        case measure => simp [intOf]
      · have hm1 : 0 < (m : Int) := by omega
        have HF := Lib.hid (show tokT s.data.toList = some (t, m) by rw [R.out]; rw [show _ = some (t, m) from HO.out.elim (fun h => absurd h.2 hm) (fun h => h.1)]; rfl)
        have BN := Lib.hid (show Below w.heap.size w (w5.alloc (.cells #[.int .i64 t.k, .int .i64 0, .int .i64 t.n, .string ⟨t.s.toArray⟩, .bool false, .bool false] 48)) from (HB.out.trans (B5.out.mono HB.out.size)).alloc (by have := HL5.out; omega) _)
        clear R HO HS HL B5
        go_wp2_with fail
        obtain ⟨q0, q1, q2, q3, q4, q5⟩ := six_cells HS7.out.h (.int .i64 t.k) (.int .i64 0) (.int .i64 t.n) (.string ⟨t.s.toArray⟩) (.bool false) (.bool false)
        refine bodyPost_ret (v := .tuple #[.agg #[.int .i64 t.k, .int .i64 0, .int .i64 t.n, .string ⟨t.s.toArray⟩, .bool false, .bool false], .int .i64 m]) (by simp [results, Tryz.results47, go_sem, q0, q1, q2, q3, q4, q5]) rfl ?_
        exact ⟨⟨t, m, rfl, .inr ⟨HF.out, by omega⟩⟩, below6q BN.out (Nat.le_succ _) _ _ _ _ _ _⟩
    · have C := Lib.hid (codes_is p s n wr hpl hs hp htb)
      have ix : ∀ w, (Instr.index 96 (.agg (att9 p)) (.int .i64 7)).run Tryz.prog w = .ok (.func (.func 86) #[.pointer (some ⟨p, 0, none⟩)] #[]) w := fun _ => by kernel_rfl
      unfold att9 at ix
      have R := Lib.hid (HS.out.rest.trans (rest_on (i := 7) rfl _))
      clear hpl htb
      go_wp2_with fail
      refine C.out.mono ?_
      rintro e w5 ⟨⟨t, m, rfl, ho⟩, b5⟩
      have HO := Lib.hid ho
      have S5 := SW.out.on b5
      have S6 : Six (w5.alloc (.cells zero6 48)) w5.heap.size := ⟨new_at _ _ rfl⟩
      obtain ⟨d0, d1, d2, d3, d4, d5, z0, z1, z2, z3, z4, z5⟩ := S6.facts
      have hl5 : w.heap.size + 2 ≤ w5.heap.size := Nat.le_trans HL.out b5.size
      have S7 := six_at S5 (.cells #[.int .i64 t.k, .int .i64 0, .int .i64 t.n, .string ⟨t.s.toArray⟩, .bool false, .bool false] 48)
      have HS7 := Lib.hid S7
      obtain ⟨y0, y1, y2, y3, y4, y5, x0, x1, x2, x3, x4, x5⟩ := S7.facts
      have B5 := Lib.hid b5
      have HL5 := Lib.hid hl5
      clear ho S5 S6 S7 b5 C hl5
      unfold zero6 at *
      by_cases hm : m = 0
      · subst hm
        have RN := Lib.hid (R.out.trans (by rw [show _ = none from HO.out.elim (fun h => h.1) (fun h => absurd h.2 (Nat.lt_irrefl 0))]; rfl : _ = restT 8 s.data.toList))
        have BN := Lib.hid (show Below (w.heap.size + 2) W0 (w5.alloc (.cells #[.int .i64 t.k, .int .i64 0, .int .i64 t.n, .string ⟨t.s.toArray⟩, .bool false, .bool false] 48)) from (HS.out.below.trans (B5.out.mono HL.out)).alloc HL5.out _)
        clear R HO HS HL B5
        go_wp2_with fail
        go_roundw
        case rel => exact ⟨8, by go_num, by omega, ⟨BN.out, RN.out⟩⟩
        case measure => simp [intOf]
      · have hm1 : 0 < (m : Int) := by omega
        have HF := Lib.hid (show tokT s.data.toList = some (t, m) by rw [R.out]; rw [show _ = some (t, m) from HO.out.elim (fun h => absurd h.2 hm) (fun h => h.1)]; rfl)
        have BN := Lib.hid (show Below w.heap.size w (w5.alloc (.cells #[.int .i64 t.k, .int .i64 0, .int .i64 t.n, .string ⟨t.s.toArray⟩, .bool false, .bool false] 48)) from (HB.out.trans (B5.out.mono HB.out.size)).alloc (by have := HL5.out; omega) _)
        clear R HO HS HL B5
        go_wp2_with fail
        obtain ⟨q0, q1, q2, q3, q4, q5⟩ := six_cells HS7.out.h (.int .i64 t.k) (.int .i64 0) (.int .i64 t.n) (.string ⟨t.s.toArray⟩) (.bool false) (.bool false)
        refine bodyPost_ret (v := .tuple #[.agg #[.int .i64 t.k, .int .i64 0, .int .i64 t.n, .string ⟨t.s.toArray⟩, .bool false, .bool false], .int .i64 m]) (by simp [results, Tryz.results47, go_sem, q0, q1, q2, q3, q4, q5]) rfl ?_
        exact ⟨⟨t, m, rfl, .inr ⟨HF.out, by omega⟩⟩, below6q BN.out (Nat.le_succ _) _ _ _ _ _ _⟩
    · have C := Lib.hid (punct_is p s n wr hpl hs hp)
      have ix : ∀ w, (Instr.index 96 (.agg (att9 p)) (.int .i64 8)).run Tryz.prog w = .ok (.func (.func 87) #[.pointer (some ⟨p, 0, none⟩)] #[]) w := fun _ => by kernel_rfl
      unfold att9 at ix
      have R := Lib.hid (HS.out.rest.trans (rest_on (i := 8) rfl _))
      clear hpl htb
      go_wp2_with fail
      refine C.out.mono ?_
      rintro e w5 ⟨⟨t, m, rfl, ho⟩, b5⟩
      have HO := Lib.hid ho
      have S5 := SW.out.on b5
      have S6 : Six (w5.alloc (.cells zero6 48)) w5.heap.size := ⟨new_at _ _ rfl⟩
      obtain ⟨d0, d1, d2, d3, d4, d5, z0, z1, z2, z3, z4, z5⟩ := S6.facts
      have hl5 : w.heap.size + 2 ≤ w5.heap.size := Nat.le_trans HL.out b5.size
      have S7 := six_at S5 (.cells #[.int .i64 t.k, .int .i64 0, .int .i64 t.n, .string ⟨t.s.toArray⟩, .bool false, .bool false] 48)
      have HS7 := Lib.hid S7
      obtain ⟨y0, y1, y2, y3, y4, y5, x0, x1, x2, x3, x4, x5⟩ := S7.facts
      have B5 := Lib.hid b5
      have HL5 := Lib.hid hl5
      clear ho S5 S6 S7 b5 C hl5
      unfold zero6 at *
      by_cases hm : m = 0
      · subst hm
        have RN := Lib.hid (R.out.trans (by rw [show _ = none from HO.out.elim (fun h => h.1) (fun h => absurd h.2 (Nat.lt_irrefl 0))]; rfl : _ = restT 9 s.data.toList))
        have BN := Lib.hid (show Below (w.heap.size + 2) W0 (w5.alloc (.cells #[.int .i64 t.k, .int .i64 0, .int .i64 t.n, .string ⟨t.s.toArray⟩, .bool false, .bool false] 48)) from (HS.out.below.trans (B5.out.mono HL.out)).alloc HL5.out _)
        clear R HO HS HL B5
        go_wp2_with fail
        go_roundw
        case rel => exact ⟨9, by go_num, by omega, ⟨BN.out, RN.out⟩⟩
        case measure => simp [intOf]
      · have hm1 : 0 < (m : Int) := by omega
        have HF := Lib.hid (show tokT s.data.toList = some (t, m) by rw [R.out]; rw [show _ = some (t, m) from HO.out.elim (fun h => absurd h.2 hm) (fun h => h.1)]; rfl)
        have BN := Lib.hid (show Below w.heap.size w (w5.alloc (.cells #[.int .i64 t.k, .int .i64 0, .int .i64 t.n, .string ⟨t.s.toArray⟩, .bool false, .bool false] 48)) from (HB.out.trans (B5.out.mono HB.out.size)).alloc (by have := HL5.out; omega) _)
        clear R HO HS HL B5
        go_wp2_with fail
        obtain ⟨q0, q1, q2, q3, q4, q5⟩ := six_cells HS7.out.h (.int .i64 t.k) (.int .i64 0) (.int .i64 t.n) (.string ⟨t.s.toArray⟩) (.bool false) (.bool false)
        refine bodyPost_ret (v := .tuple #[.agg #[.int .i64 t.k, .int .i64 0, .int .i64 t.n, .string ⟨t.s.toArray⟩, .bool false, .bool false], .int .i64 m]) (by simp [results, Tryz.results47, go_sem, q0, q1, q2, q3, q4, q5]) rfl ?_
        exact ⟨⟨t, m, rfl, .inr ⟨HF.out, by omega⟩⟩, below6q BN.out (Nat.le_succ _) _ _ _ _ _ _⟩
    · have HN := Lib.hid (show tokT s.data.toList = none from HS.out.rest)
      obtain ⟨d0, d1, d2, d3, d4, d5, z0, z1, z2, z3, z4, z5⟩ := SW.out.facts
      clear hpl htb HS HL
      go_wp2_with fail
      obtain ⟨q0, q1, q2, q3, q4, q5⟩ := six_cells SW.out.h (.int .i64 0) (.int .i64 0) (.int .i64 0) (.string ⟨#[]⟩) (.bool false) (.bool false)
      refine bodyPost_ret (v := no6) (by simp [results, Tryz.results47, go_sem, q0, q1, q2, q3, q4, q5]) rfl ?_
      exact .no HN.out (below6q HB.out (Nat.le_succ _) _ _ _ _ _ _)
end Go.Proofs.YtkplokfcjjcpcaaGreatDoor
end
section
namespace Go.Proofs.YtkplokfcjjcpcaaGreatDoor
open Go Go.RowKit Go.Maps
theorem letters_len {a b : Int} {l : List UInt8} {t : Tk} {z : Nat} (h : lettersT a b l = some (t, z)) : 1 ≤ z ∧ z ≤ l.length := by
  rcases l with _ | ⟨c, r⟩
  · cases h
  · simp only [lettersT] at h
    split at h
    · split at h
      · cases h
      · simp only [Option.some.injEq, Prod.mk.injEq] at h
        obtain ⟨_, rfl⟩ := h
        exact ⟨by omega, runB_le _ _⟩
    · cases h
theorem alone_len {a b : Int} {l : List UInt8} {t : Tk} {z : Nat} (h : aloneT a b l = some (t, z)) : 1 ≤ z ∧ z ≤ l.length := by
  rcases l with _ | ⟨c, r⟩
  · cases h
  · simp only [aloneT] at h
    split at h
    · simp only [Option.some.injEq, Prod.mk.injEq] at h
      obtain ⟨_, rfl⟩ := h
      simp
    · cases h
theorem stop_len {l : List UInt8} {t : Tk} {z : Nat} (h : stopT l = some (t, z)) : 1 ≤ z ∧ z ≤ l.length := by
  rcases l with _ | ⟨c, _ | ⟨d, r⟩⟩
  · cases h
  all_goals
    simp only [stopT] at h
    repeat' split at h
    all_goals first
      | cases h; done
      | (simp only [Option.some.injEq, Prod.mk.injEq] at h
         obtain ⟨_, rfl⟩ := h
         simp)
theorem signs_len {l : List UInt8} {t : Tk} {z : Nat} (h : signsT l = some (t, z)) : 1 ≤ z ∧ z ≤ l.length := by
  unfold signsT at h
  split at h
  · cases h
  · split at h
    · cases h
    · simp only [Option.some.injEq, Prod.mk.injEq] at h
      obtain ⟨_, rfl⟩ := h
      exact ⟨by omega, runB_le _ _⟩
theorem digits_len {f : Nat} {b : Int} {l : List UInt8} {t : Tk} {z : Nat} (hf : f ≤ l.length) (h : digitsT f b l = some (t, z)) : 1 ≤ z ∧ z ≤ l.length := by
  unfold digitsT at h
  split at h
  · split at h
    · cases h
    · simp only [Option.some.injEq, Prod.mk.injEq] at h
      obtain ⟨_, rfl⟩ := h
      have := runB_le (digZ b) (l.drop f)
      rw [List.length_drop] at this
      omega
  · cases h
theorem char_len {l : List UInt8} {t : Tk} {z : Nat} (h2 : 2 ≤ l.length) (h : charT l = some (t, z)) : 1 ≤ z ∧ z ≤ l.length := by
  rw [charT_o] at h
  split at h
  · cases h
  · rename_i hlt
    rw [List.length_drop] at hlt
    unfold charO at h
    split at h
    · simp only [Option.some.injEq, Prod.mk.injEq] at h
      obtain ⟨_, rfl⟩ := h
      omega
    · cases h
theorem numT_len {l : List UInt8} {t : Tk} {z : Nat} (h : numberT l = some (t, z)) : 1 ≤ z ∧ z ≤ l.length := by
  unfold numberT at h
  split at h
  · rename_i hp; exact digits_len (prefix_two hp) h
  · split at h
    · rename_i hp; exact digits_len (prefix_two hp) h
    · split at h
      · rename_i hp; exact digits_len (prefix_two hp) h
      · split at h
        · rename_i hp; exact char_len (prefix_two hp) h
        · exact digits_len (Nat.zero_le _) h
theorem within_len {q k : Int} {l : List UInt8} {t : Tk} {z : Nat} (h : withinT q k l = some (t, z)) : 1 ≤ z ∧ z ≤ l.length := by
  rcases l with _ | ⟨c, r⟩
  · cases h
  · simp only [withinT] at h
    split at h
    · split at h
      · rename_i hg
        have := getL_len hg
        simp only [Option.some.injEq, Prod.mk.injEq] at h
        obtain ⟨_, rfl⟩ := h
        simp
        omega
      · cases h
    · cases h
theorem or_len {a b : Option (Tk × Nat)} {l : List UInt8} (ha : ∀ t z, a = some (t, z) → 1 ≤ z ∧ z ≤ l.length) (hb : ∀ t z, b = some (t, z) → 1 ≤ z ∧ z ≤ l.length) : ∀ t z, a.or b = some (t, z) → 1 ≤ z ∧ z ≤ l.length := by
  intro t z h
  rcases a with _ | x
  · exact hb t z h
  · exact ha t z h
theorem tok_len {l : List UInt8} : ∀ t z, tokT l = some (t, z) → 1 ≤ z ∧ z ≤ l.length :=
  or_len (fun _ _ => stop_len) <| or_len (fun _ _ => letters_len) <| or_len (fun _ _ => signs_len) <| or_len (fun _ _ => alone_len) <| or_len (fun _ _ => letters_len) <| or_len (fun _ _ => numT_len) <| or_len (fun _ _ => within_len) <| or_len (fun _ _ => within_len) fun _ _ => alone_len
theorem lexF_fuel : ∀ (f f' : Nat) (l : List UInt8) (n : Int) (k : Nat), l.length < f → l.length < f' → lexF f l n k = lexF f' l n k
  | 0, _, _, _, _, h, _ => by omega
  | _, 0, _, _, _, _, h => by omega
  | f + 1, f' + 1, l, n, k, h, h' => by
    simp only [lexF]
    split
    · rfl
    · split
      · rfl
      · rename_i t z ht
        have h1 := tok_len _ _ ht
        have h2 := skipN_le l
        rw [List.length_drop] at h1
        rw [lexF_fuel f f' _ _ _ (by rw [List.length_drop, List.length_drop]; omega) (by rw [List.length_drop, List.length_drop]; omega)]
def lexN (l : List UInt8) (n : Int) (k : Nat) : LexR := lexF (l.length + 1) l n k
theorem lexN_end {l : List UInt8} {n : Int} {k : Nat} (h : l.drop (skipN l) = []) : lexN l n k = ⟨[⟨0, n + nlC (l.take (skipN l)), 0, [], false, false⟩], 0, 0⟩ := by
  unfold lexN
  simp only [lexF]
  rw [if_pos h]
theorem lexN_bad {l : List UInt8} {n : Int} {k : Nat} (h : l.drop (skipN l) ≠ []) (ht : tokT (l.drop (skipN l)) = none) : lexN l n k = ⟨[], n + nlC (l.take (skipN l)), 5⟩ := by
  unfold lexN
  simp only [lexF]
  rw [if_neg h, ht]
theorem lexN_on {l : List UInt8} {n : Int} {k z : Nat} {t : Tk} (h : l.drop (skipN l) ≠ []) (ht : tokT (l.drop (skipN l)) = some (t, z)) (hk : k < 16384) :
    lexN l n k = (lexN ((l.drop (skipN l)).drop z) (n + nlC (l.take (skipN l)) + nlC ((l.drop (skipN l)).take z)) (k + 1)).cons ⟨t.k, n + nlC (l.take (skipN l)), t.n, t.s, Lib.hasPrefix ((l.drop (skipN l)).drop z) [40], decide (skipN l = 0) && decide (0 < k)⟩ := by
  have h1 := tok_len _ _ ht
  rw [List.length_drop] at h1
  rw [show lexN l n k = lexF (l.length + 1) l n k from rfl]
  simp only [lexF]
  rw [if_neg h, ht]
  show (if k = 16384 then _ else _) = _
  rw [if_neg (by omega)]
  unfold lexN
  rw [lexF_fuel l.length (((l.drop (skipN l)).drop z).length + 1) _ _ _ (by rw [List.length_drop, List.length_drop]; omega) (by omega)]
def LexR.after (r : LexR) (ts : List Tok) : LexR := ⟨ts ++ r.toks, r.line, r.e⟩
theorem after_cons (r : LexR) (ts : List Tok) (t : Tok) : (r.cons t).after ts = r.after (ts ++ [t]) := by simp [LexR.after, LexR.cons]
theorem tokCells_app (a b : List Tok) : tokCells (a ++ b) = tokCells a ++ tokCells b := by simp [tokCells]
theorem owns_same {w w' : World} {b n : Nat} {e : TypeId} {size : Nat} {v : Value} {xs : List Value} (h : w.ownsRow b e size v n xs) (hh : ∀ g, v.ownBlock = some g → w'.heap[g]? = w.heap[g]?) : w'.ownsRow b e size v n xs := by
  obtain ⟨h1, h2 | ⟨g, cap, cur, hv, h3, h4, r⟩⟩ := h
  · exact ⟨h1, .inl h2⟩
  · exact ⟨h1, .inr ⟨g, cap, cur, hv, h3, by rw [hh g (by rw [hv]; rfl)]; exact h4, r⟩⟩
theorem owns_down {w : World} {b b' n : Nat} {e : TypeId} {size : Nat} {v : Value} {xs : List Value} (h : w.ownsRow b e size v n xs) (hb : b' ≤ b) : w.ownsRow b' e size v n xs := by
  obtain ⟨h1, h2 | ⟨g, cap, cur, hv, h3, r⟩⟩ := h
  · exact ⟨h1, .inl h2⟩
  · exact ⟨h1, .inr ⟨g, cap, cur, hv, Nat.le_trans hb h3, r⟩⟩
theorem owns_slice {w : World} {b n : Nat} {e : TypeId} {size : Nat} {v : Value} {xs : List Value} (h : w.ownsRow b e size v n xs) : ∃ ad cap, v = .slice ad n cap := by
  obtain ⟨_, ⟨rfl, rfl⟩ | ⟨g, cap, _, rfl, _⟩⟩ := h
  · exact ⟨none, 0, rfl⟩
  · exact ⟨_, _, rfl⟩
structure LexSt (s : ByteArray) (w wr : World) (Q : Nat) (v : Value) (ts : List Tok) (l : List UInt8) (n : Int) : Prop where
  pl : PL wr w.heap.size ⟨l.toArray⟩ n
  above : w.heap.size < Q
  row : wr.heap[Q]? = some (.cells (att9 w.heap.size) 96 (0, 0))
  own : wr.ownsRow (Q + 1) 48 6 v ts.length (tokCells ts)
  below : Below w.heap.size w wr
  low : 1 ≤ n
  high : n + l.length ≤ 5001
  many : ts.length + l.length ≤ 5000
  run : lexN s.data.toList 1 0 = (lexN l n ts.length).after ts
structure LexPost (w : World) (r : LexR) (e : Ending) (w' : World) : Prop where
  ex : ∃ v, e = .returned (.tuple #[v, .int .i64 r.line, .int .i64 r.e]) ∧ w'.ownsRow w.heap.size 48 6 v r.toks.length (tokCells r.toks)
  below : Below w.heap.size w w'
end Go.Proofs.YtkplokfcjjcpcaaGreatDoor
end
