/- Package token's row and first: contracts. Conditions: the place stands in memory; its text has one to 5000 bytes; the library's variables hold what their text lays. -/
import Derived.Test.YtkbeaddbnnboaaaDoorTokJ
import Derived.Laws.EntriesVeiled
namespace Go.Proofs.YtkbeaddbnnboaaaDoor
open Go Go.RowKit Go.Maps

abbrev att9 (p : Nat) : Array Value := #[.func (.func 29) #[.pointer (some ⟨p, 0, none⟩)] #[], .func (.func 30) #[.pointer (some ⟨p, 0, none⟩)] #[], .func (.func 31) #[.pointer (some ⟨p, 0, none⟩)] #[],
  .func (.func 32) #[.pointer (some ⟨p, 0, none⟩)] #[], .func (.func 33) #[.pointer (some ⟨p, 0, none⟩)] #[], .func (.func 34) #[.pointer (some ⟨p, 0, none⟩)] #[],
  .func (.func 35) #[.pointer (some ⟨p, 0, none⟩)] #[], .func (.func 36) #[.pointer (some ⟨p, 0, none⟩)] #[], .func (.func 37) #[.pointer (some ⟨p, 0, none⟩)] #[]]

set_option maxRecDepth 100000 in
set_option maxHeartbeats 1600000 in
theorem row_is (p : Nat) (w : World) :
    Calls Tryd.prog 15 #[.pointer (some ⟨p, 0, none⟩)] w fun e w' => e = .returned (.agg (att9 p)) ∧ Below w.heap.size w w' := by
  have hf : ∀ a0 a1 a2 a3 a4 a5 a6 a7 a8 : Value, ∀ j, (w.alloc (.cells #[a0, a1, a2, a3, a4, a5, a6, a7, a8] 45)).frozen? ⟨w.heap.size, j, none⟩ = false := fun _ _ _ _ _ _ _ _ _ j => free_of_heap (new_at _ _ rfl)
  go_enter Tryd.func15, Tryd.ntmps15
  go_wp2_with fail
  refine bodyPost_ret (v := .agg (att9 p)) (by simp [results, Tryd.results15, go_sem]) rfl ?_
  exact ⟨rfl, (Below.refl _ _).alloc (Nat.le_refl _) _⟩

def attL : List (List UInt8 → Option (Tk × Nat)) := [stopT, lettersT 2 1, signsT, aloneT 6 1, lettersT 3 4, numberT, withinT 39 2, withinT 34 5, aloneT 7 6]
def restT (i : Nat) (l : List UInt8) : Option (Tk × Nat) := (attL.drop i).foldr (fun f r => (f l).or r) none
theorem rest_0 (l : List UInt8) : restT 0 l = tokT l := by
  unfold tokT
  simp [restT, attL]
theorem rest_on {i : Nat} {f : List UInt8 → Option (Tk × Nat)} (h : attL[i]? = some f) (l : List UInt8) : restT i l = (f l).or (restT (i + 1) l) := by
  obtain ⟨hi, hf⟩ := List.getElem?_eq_some_iff.1 h
  unfold restT
  rw [List.drop_eq_getElem_cons hi, hf]
  rfl

/-- ahead of attempt i -/
structure FiSt (p : Nat) (s : ByteArray) (W0 wr : World) (b i : Nat) : Prop where
  below : Below (b + 2) W0 wr
  rest : tokT s.data.toList = restT i s.data.toList
theorem below6q {w w' : World} {H q : Nat} (h : Below H w w') (hq : H ≤ q) (y0 y1 y2 y3 y4 y5 : Value) : Below H w ((((((w'.setCell ⟨q, 0, none⟩ y0).setCell ⟨q, 1, none⟩ y1).setCell ⟨q, 2, none⟩ y2).setCell ⟨q, 3, none⟩ y3).setCell ⟨q, 4, none⟩ y4).setCell ⟨q, 5, none⟩ y5) := by
  have a0 := h.setCell (p := ⟨q, 0, none⟩) hq y0
  have a1 := a0.setCell (p := ⟨q, 1, none⟩) hq y1
  have a2 := a1.setCell (p := ⟨q, 2, none⟩) hq y2
  have a3 := a2.setCell (p := ⟨q, 3, none⟩) hq y3
  have a4 := a3.setCell (p := ⟨q, 4, none⟩) hq y4
  exact a4.setCell (p := ⟨q, 5, none⟩) hq y5
theorem six_at {w5 : World} {b : Nat} (h : Six w5 b) (x : Obj) : Six (w5.alloc x) b := ⟨by rw [Below.heap_alloc _ _ _ (heap_lt h.h)]; exact h.h⟩

set_option maxRecDepth 100000 in
set_option maxHeartbeats 6400000 in
theorem first_is (p : Nat) (s : ByteArray) (n : Int) (w : World) (h : PL w p s n) (hs : s.size ≤ 5000) (hp : 0 < s.size) (ht : Tab w) :
    Calls Tryd.prog 17 #[.agg (att9 p)] w (AttPost w (tokT s.data.toList)) := by
  have cells9 : ∀ j, ((w.alloc (.cells (att9 p) 45)).alloc (.cells zero6 30)).cell? ⟨w.heap.size, j, none⟩ = (att9 p)[j]? := fun j => by
    have e : ((w.alloc (.cells (att9 p) 45)).alloc (.cells zero6 30)).heap[w.heap.size]? = some (.cells (att9 p) 45 (0, 0)) := by
      rw [Below.heap_alloc _ _ _ (by simp)]
      exact new_at _ _ rfl
    unfold World.cell?
    simp only [e]
    rfl
  obtain ⟨a0, a1, a2, a3, a4, a5, a6, a7, a8⟩ := And.intro (cells9 0) (And.intro (cells9 1) (And.intro (cells9 2) (And.intro (cells9 3) (And.intro (cells9 4) (And.intro (cells9 5) (And.intro (cells9 6) (And.intro (cells9 7) (cells9 8))))))))
  simp only [att9, List.getElem?_toArray, List.getElem?_cons_zero, List.getElem?_cons_succ] at a0 a1 a2 a3 a4 a5 a6 a7 a8
  have hb0 : Below w.heap.size w ((w.alloc (.cells (att9 p) 45)).alloc (.cells zero6 30)) := ((Below.refl _ _).alloc (Nat.le_refl _) _).alloc (by simp) _
  have six0 : Six ((w.alloc (.cells (att9 p) 45)).alloc (.cells zero6 30)) (w.heap.size + 1) := ⟨new_at _ _ (by simp)⟩
  have sz0 : ((w.alloc (.cells (att9 p) 45)).alloc (.cells zero6 30)).heap.size = w.heap.size + 2 := by simp
  obtain ⟨W0, hW0⟩ : ∃ W0, ((w.alloc (.cells (att9 p) 45)).alloc (.cells zero6 30)) = W0 := ⟨_, rfl⟩
  rw [hW0] at hb0 six0 sz0
  have HPL := Lib.hid (h.on hb0)
  have HT := Lib.hid (ht.on hb0)
  have HB0 := Lib.hid hb0
  have SIX := Lib.hid six0
  have HZ0 := Lib.hid sz0
  have HW0 := Lib.hid hW0
  clear h ht cells9 hb0 six0 sz0 hW0
  unfold zero6 att9 at *
  go_enter Tryd.func17, Tryd.ntmps17
  go_wp2_with fail
  rw [HW0.out]
  clear a0 a1 a2 a3 a4 a5 a6 a7 a8 HW0
  go_loopw [9] (fun v wr => ∃ i : Nat, v = .int .i64 i ∧ i ≤ 9 ∧ Hid (FiSt p s W0 wr w.heap.size i)) (fun v _ => 9 - (intOf v).toNat)
  case atStart => exact ⟨0, rfl, Nat.zero_le _, ⟨Below.refl _ _, (rest_0 _).symm⟩⟩
  case round =>
    obtain ⟨i, rfl, hi, HS⟩ := hrel
    have hbw : Below W0.heap.size W0 wr := by rw [HZ0.out]; exact HS.out.below
    have hpl := HPL.out.on hbw
    have htb := HT.out.on hbw
    have HB := Lib.hid (show Below w.heap.size w wr from HB0.out.trans (HS.out.below.mono (by omega)))
    have SW := Lib.hid (SIX.out.on hbw)
    have HL := Lib.hid (show w.heap.size + 2 ≤ wr.heap.size by rw [← HZ0.out]; exact hbw.size)
    clear hbw
    obtain rfl | rfl | rfl | rfl | rfl | rfl | rfl | rfl | rfl | rfl : i = 0 ∨ i = 1 ∨ i = 2 ∨ i = 3 ∨ i = 4 ∨ i = 5 ∨ i = 6 ∨ i = 7 ∨ i = 8 ∨ i = 9 := by omega
    · have C := Lib.hid (stop_is p s n wr hpl hs hp)
      have ix : ∀ w, (Instr.index 45 (.agg (att9 p)) (.int .i64 0)).run Tryd.prog w = .ok (.func (.func 29) #[.pointer (some ⟨p, 0, none⟩)] #[]) w := fun _ => by kernel_rfl
      unfold att9 at ix
      have R := Lib.hid (HS.out.rest.trans (rest_on (i := 0) rfl _))
      clear hpl htb
      go_wp2_with fail
      refine C.out.mono ?_
      rintro e w5 ⟨⟨t, m, rfl, ho⟩, b5⟩
      have HO := Lib.hid ho
      have S5 := SW.out.on b5
      have S6 : Six (w5.alloc (.cells zero6 30)) w5.heap.size := ⟨new_at _ _ rfl⟩
      obtain ⟨d0, d1, d2, d3, d4, d5, z0, z1, z2, z3, z4, z5⟩ := S6.facts
      have hl5 : w.heap.size + 2 ≤ w5.heap.size := Nat.le_trans HL.out b5.size
      have S7 := six_at S5 (.cells #[.int .i64 t.k, .int .i64 0, .int .i64 t.n, .string ⟨t.s.toArray⟩, .bool false, .bool false] 30)
      have HS7 := Lib.hid S7
      obtain ⟨y0, y1, y2, y3, y4, y5, x0, x1, x2, x3, x4, x5⟩ := S7.facts
      have B5 := Lib.hid b5
      have HL5 := Lib.hid hl5
      clear ho S5 S6 S7 b5 C hl5
      unfold zero6 at *
      by_cases hm : m = 0
      · subst hm
        have RN := Lib.hid (R.out.trans (by rw [show _ = none from HO.out.elim (fun h => h.1) (fun h => absurd h.2 (Nat.lt_irrefl 0))]; rfl : _ = restT 1 s.data.toList))
        have BN := Lib.hid (show Below (w.heap.size + 2) W0 (w5.alloc (.cells #[.int .i64 t.k, .int .i64 0, .int .i64 t.n, .string ⟨t.s.toArray⟩, .bool false, .bool false] 30)) from (HS.out.below.trans (B5.out.mono HL.out)).alloc HL5.out _)
        clear R HO HS HL B5
        go_wp2_with fail
        go_roundw
        case rel => exact ⟨1, by go_num, by omega, ⟨BN.out, RN.out⟩⟩
        case measure => simp [intOf]
      · have hm1 : 0 < (m : Int) := by omega
        have HF := Lib.hid (show tokT s.data.toList = some (t, m) by rw [R.out]; rw [show _ = some (t, m) from HO.out.elim (fun h => absurd h.2 hm) (fun h => h.1)]; rfl)
        have BN := Lib.hid (show Below w.heap.size w (w5.alloc (.cells #[.int .i64 t.k, .int .i64 0, .int .i64 t.n, .string ⟨t.s.toArray⟩, .bool false, .bool false] 30)) from (HB.out.trans (B5.out.mono HB.out.size)).alloc (by have := HL5.out; omega) _)
        clear R HO HS HL B5
        go_wp2_with fail
        obtain ⟨q0, q1, q2, q3, q4, q5⟩ := six_cells HS7.out.h (.int .i64 t.k) (.int .i64 0) (.int .i64 t.n) (.string ⟨t.s.toArray⟩) (.bool false) (.bool false)
        refine bodyPost_ret (v := .tuple #[.agg #[.int .i64 t.k, .int .i64 0, .int .i64 t.n, .string ⟨t.s.toArray⟩, .bool false, .bool false], .int .i64 m]) (by simp [results, Tryd.results17, go_sem, q0, q1, q2, q3, q4, q5]) rfl ?_
        exact ⟨⟨t, m, rfl, .inr ⟨HF.out, by omega⟩⟩, below6q BN.out (Nat.le_succ _) _ _ _ _ _ _⟩
    · have C := Lib.hid (word_is p s n wr hpl hs hp)
      have ix : ∀ w, (Instr.index 45 (.agg (att9 p)) (.int .i64 1)).run Tryd.prog w = .ok (.func (.func 30) #[.pointer (some ⟨p, 0, none⟩)] #[]) w := fun _ => by kernel_rfl
      unfold att9 at ix
      have R := Lib.hid (HS.out.rest.trans (rest_on (i := 1) rfl _))
      clear hpl htb
      go_wp2_with fail
      refine C.out.mono ?_
      rintro e w5 ⟨⟨t, m, rfl, ho⟩, b5⟩
      have HO := Lib.hid ho
      have S5 := SW.out.on b5
      have S6 : Six (w5.alloc (.cells zero6 30)) w5.heap.size := ⟨new_at _ _ rfl⟩
      obtain ⟨d0, d1, d2, d3, d4, d5, z0, z1, z2, z3, z4, z5⟩ := S6.facts
      have hl5 : w.heap.size + 2 ≤ w5.heap.size := Nat.le_trans HL.out b5.size
      have S7 := six_at S5 (.cells #[.int .i64 t.k, .int .i64 0, .int .i64 t.n, .string ⟨t.s.toArray⟩, .bool false, .bool false] 30)
      have HS7 := Lib.hid S7
      obtain ⟨y0, y1, y2, y3, y4, y5, x0, x1, x2, x3, x4, x5⟩ := S7.facts
      have B5 := Lib.hid b5
      have HL5 := Lib.hid hl5
      clear ho S5 S6 S7 b5 C hl5
      unfold zero6 at *
      by_cases hm : m = 0
      · subst hm
        have RN := Lib.hid (R.out.trans (by rw [show _ = none from HO.out.elim (fun h => h.1) (fun h => absurd h.2 (Nat.lt_irrefl 0))]; rfl : _ = restT 2 s.data.toList))
        have BN := Lib.hid (show Below (w.heap.size + 2) W0 (w5.alloc (.cells #[.int .i64 t.k, .int .i64 0, .int .i64 t.n, .string ⟨t.s.toArray⟩, .bool false, .bool false] 30)) from (HS.out.below.trans (B5.out.mono HL.out)).alloc HL5.out _)
        clear R HO HS HL B5
        go_wp2_with fail
        go_roundw
        case rel => exact ⟨2, by go_num, by omega, ⟨BN.out, RN.out⟩⟩
        case measure => simp [intOf]
      · have hm1 : 0 < (m : Int) := by omega
        have HF := Lib.hid (show tokT s.data.toList = some (t, m) by rw [R.out]; rw [show _ = some (t, m) from HO.out.elim (fun h => absurd h.2 hm) (fun h => h.1)]; rfl)
        have BN := Lib.hid (show Below w.heap.size w (w5.alloc (.cells #[.int .i64 t.k, .int .i64 0, .int .i64 t.n, .string ⟨t.s.toArray⟩, .bool false, .bool false] 30)) from (HB.out.trans (B5.out.mono HB.out.size)).alloc (by have := HL5.out; omega) _)
        clear R HO HS HL B5
        go_wp2_with fail
        obtain ⟨q0, q1, q2, q3, q4, q5⟩ := six_cells HS7.out.h (.int .i64 t.k) (.int .i64 0) (.int .i64 t.n) (.string ⟨t.s.toArray⟩) (.bool false) (.bool false)
        refine bodyPost_ret (v := .tuple #[.agg #[.int .i64 t.k, .int .i64 0, .int .i64 t.n, .string ⟨t.s.toArray⟩, .bool false, .bool false], .int .i64 m]) (by simp [results, Tryd.results17, go_sem, q0, q1, q2, q3, q4, q5]) rfl ?_
        exact ⟨⟨t, m, rfl, .inr ⟨HF.out, by omega⟩⟩, below6q BN.out (Nat.le_succ _) _ _ _ _ _ _⟩
    · have C := Lib.hid (signs_is p s n wr hpl hs)
      have ix : ∀ w, (Instr.index 45 (.agg (att9 p)) (.int .i64 2)).run Tryd.prog w = .ok (.func (.func 31) #[.pointer (some ⟨p, 0, none⟩)] #[]) w := fun _ => by kernel_rfl
      unfold att9 at ix
      have R := Lib.hid (HS.out.rest.trans (rest_on (i := 2) rfl _))
      clear hpl htb
      go_wp2_with fail
      refine C.out.mono ?_
      rintro e w5 ⟨⟨t, m, rfl, ho⟩, b5⟩
      have HO := Lib.hid ho
      have S5 := SW.out.on b5
      have S6 : Six (w5.alloc (.cells zero6 30)) w5.heap.size := ⟨new_at _ _ rfl⟩
      obtain ⟨d0, d1, d2, d3, d4, d5, z0, z1, z2, z3, z4, z5⟩ := S6.facts
      have hl5 : w.heap.size + 2 ≤ w5.heap.size := Nat.le_trans HL.out b5.size
      have S7 := six_at S5 (.cells #[.int .i64 t.k, .int .i64 0, .int .i64 t.n, .string ⟨t.s.toArray⟩, .bool false, .bool false] 30)
      have HS7 := Lib.hid S7
      obtain ⟨y0, y1, y2, y3, y4, y5, x0, x1, x2, x3, x4, x5⟩ := S7.facts
      have B5 := Lib.hid b5
      have HL5 := Lib.hid hl5
      clear ho S5 S6 S7 b5 C hl5
      unfold zero6 at *
      by_cases hm : m = 0
      · subst hm
        have RN := Lib.hid (R.out.trans (by rw [show _ = none from HO.out.elim (fun h => h.1) (fun h => absurd h.2 (Nat.lt_irrefl 0))]; rfl : _ = restT 3 s.data.toList))
        have BN := Lib.hid (show Below (w.heap.size + 2) W0 (w5.alloc (.cells #[.int .i64 t.k, .int .i64 0, .int .i64 t.n, .string ⟨t.s.toArray⟩, .bool false, .bool false] 30)) from (HS.out.below.trans (B5.out.mono HL.out)).alloc HL5.out _)
        clear R HO HS HL B5
        go_wp2_with fail
        go_roundw
        case rel => exact ⟨3, by go_num, by omega, ⟨BN.out, RN.out⟩⟩
        case measure => simp [intOf]
      · have hm1 : 0 < (m : Int) := by omega
        have HF := Lib.hid (show tokT s.data.toList = some (t, m) by rw [R.out]; rw [show _ = some (t, m) from HO.out.elim (fun h => absurd h.2 hm) (fun h => h.1)]; rfl)
        have BN := Lib.hid (show Below w.heap.size w (w5.alloc (.cells #[.int .i64 t.k, .int .i64 0, .int .i64 t.n, .string ⟨t.s.toArray⟩, .bool false, .bool false] 30)) from (HB.out.trans (B5.out.mono HB.out.size)).alloc (by have := HL5.out; omega) _)
        clear R HO HS HL B5
        go_wp2_with fail
        obtain ⟨q0, q1, q2, q3, q4, q5⟩ := six_cells HS7.out.h (.int .i64 t.k) (.int .i64 0) (.int .i64 t.n) (.string ⟨t.s.toArray⟩) (.bool false) (.bool false)
        refine bodyPost_ret (v := .tuple #[.agg #[.int .i64 t.k, .int .i64 0, .int .i64 t.n, .string ⟨t.s.toArray⟩, .bool false, .bool false], .int .i64 m]) (by simp [results, Tryd.results17, go_sem, q0, q1, q2, q3, q4, q5]) rfl ?_
        exact ⟨⟨t, m, rfl, .inr ⟨HF.out, by omega⟩⟩, below6q BN.out (Nat.le_succ _) _ _ _ _ _ _⟩
    · have C := Lib.hid (solo_is p s n wr hpl hs hp)
      have ix : ∀ w, (Instr.index 45 (.agg (att9 p)) (.int .i64 3)).run Tryd.prog w = .ok (.func (.func 32) #[.pointer (some ⟨p, 0, none⟩)] #[]) w := fun _ => by kernel_rfl
      unfold att9 at ix
      have R := Lib.hid (HS.out.rest.trans (rest_on (i := 3) rfl _))
      clear hpl htb
      go_wp2_with fail
      refine C.out.mono ?_
      rintro e w5 ⟨⟨t, m, rfl, ho⟩, b5⟩
      have HO := Lib.hid ho
      have S5 := SW.out.on b5
      have S6 : Six (w5.alloc (.cells zero6 30)) w5.heap.size := ⟨new_at _ _ rfl⟩
      obtain ⟨d0, d1, d2, d3, d4, d5, z0, z1, z2, z3, z4, z5⟩ := S6.facts
      have hl5 : w.heap.size + 2 ≤ w5.heap.size := Nat.le_trans HL.out b5.size
      have S7 := six_at S5 (.cells #[.int .i64 t.k, .int .i64 0, .int .i64 t.n, .string ⟨t.s.toArray⟩, .bool false, .bool false] 30)
      have HS7 := Lib.hid S7
      obtain ⟨y0, y1, y2, y3, y4, y5, x0, x1, x2, x3, x4, x5⟩ := S7.facts
      have B5 := Lib.hid b5
      have HL5 := Lib.hid hl5
      clear ho S5 S6 S7 b5 C hl5
      unfold zero6 at *
      by_cases hm : m = 0
      · subst hm
        have RN := Lib.hid (R.out.trans (by rw [show _ = none from HO.out.elim (fun h => h.1) (fun h => absurd h.2 (Nat.lt_irrefl 0))]; rfl : _ = restT 4 s.data.toList))
        have BN := Lib.hid (show Below (w.heap.size + 2) W0 (w5.alloc (.cells #[.int .i64 t.k, .int .i64 0, .int .i64 t.n, .string ⟨t.s.toArray⟩, .bool false, .bool false] 30)) from (HS.out.below.trans (B5.out.mono HL.out)).alloc HL5.out _)
        clear R HO HS HL B5
        go_wp2_with fail
        go_roundw
        case rel => exact ⟨4, by go_num, by omega, ⟨BN.out, RN.out⟩⟩
        case measure => simp [intOf]
      · have hm1 : 0 < (m : Int) := by omega
        have HF := Lib.hid (show tokT s.data.toList = some (t, m) by rw [R.out]; rw [show _ = some (t, m) from HO.out.elim (fun h => absurd h.2 hm) (fun h => h.1)]; rfl)
        have BN := Lib.hid (show Below w.heap.size w (w5.alloc (.cells #[.int .i64 t.k, .int .i64 0, .int .i64 t.n, .string ⟨t.s.toArray⟩, .bool false, .bool false] 30)) from (HB.out.trans (B5.out.mono HB.out.size)).alloc (by have := HL5.out; omega) _)
        clear R HO HS HL B5
        go_wp2_with fail
        obtain ⟨q0, q1, q2, q3, q4, q5⟩ := six_cells HS7.out.h (.int .i64 t.k) (.int .i64 0) (.int .i64 t.n) (.string ⟨t.s.toArray⟩) (.bool false) (.bool false)
        refine bodyPost_ret (v := .tuple #[.agg #[.int .i64 t.k, .int .i64 0, .int .i64 t.n, .string ⟨t.s.toArray⟩, .bool false, .bool false], .int .i64 m]) (by simp [results, Tryd.results17, go_sem, q0, q1, q2, q3, q4, q5]) rfl ?_
        exact ⟨⟨t, m, rfl, .inr ⟨HF.out, by omega⟩⟩, below6q BN.out (Nat.le_succ _) _ _ _ _ _ _⟩
    · have C := Lib.hid (named_is p s n wr hpl hs hp)
      have ix : ∀ w, (Instr.index 45 (.agg (att9 p)) (.int .i64 4)).run Tryd.prog w = .ok (.func (.func 33) #[.pointer (some ⟨p, 0, none⟩)] #[]) w := fun _ => by kernel_rfl
      unfold att9 at ix
      have R := Lib.hid (HS.out.rest.trans (rest_on (i := 4) rfl _))
      clear hpl htb
      go_wp2_with fail
      refine C.out.mono ?_
      rintro e w5 ⟨⟨t, m, rfl, ho⟩, b5⟩
      have HO := Lib.hid ho
      have S5 := SW.out.on b5
      have S6 : Six (w5.alloc (.cells zero6 30)) w5.heap.size := ⟨new_at _ _ rfl⟩
      obtain ⟨d0, d1, d2, d3, d4, d5, z0, z1, z2, z3, z4, z5⟩ := S6.facts
      have hl5 : w.heap.size + 2 ≤ w5.heap.size := Nat.le_trans HL.out b5.size
      have S7 := six_at S5 (.cells #[.int .i64 t.k, .int .i64 0, .int .i64 t.n, .string ⟨t.s.toArray⟩, .bool false, .bool false] 30)
      have HS7 := Lib.hid S7
      obtain ⟨y0, y1, y2, y3, y4, y5, x0, x1, x2, x3, x4, x5⟩ := S7.facts
      have B5 := Lib.hid b5
      have HL5 := Lib.hid hl5
      clear ho S5 S6 S7 b5 C hl5
      unfold zero6 at *
      by_cases hm : m = 0
      · subst hm
        have RN := Lib.hid (R.out.trans (by rw [show _ = none from HO.out.elim (fun h => h.1) (fun h => absurd h.2 (Nat.lt_irrefl 0))]; rfl : _ = restT 5 s.data.toList))
        have BN := Lib.hid (show Below (w.heap.size + 2) W0 (w5.alloc (.cells #[.int .i64 t.k, .int .i64 0, .int .i64 t.n, .string ⟨t.s.toArray⟩, .bool false, .bool false] 30)) from (HS.out.below.trans (B5.out.mono HL.out)).alloc HL5.out _)
        clear R HO HS HL B5
        go_wp2_with fail
        go_roundw
        case rel => exact ⟨5, by go_num, by omega, ⟨BN.out, RN.out⟩⟩
        case measure => simp [intOf]
      · have hm1 : 0 < (m : Int) := by omega
        have HF := Lib.hid (show tokT s.data.toList = some (t, m) by rw [R.out]; rw [show _ = some (t, m) from HO.out.elim (fun h => absurd h.2 hm) (fun h => h.1)]; rfl)
        have BN := Lib.hid (show Below w.heap.size w (w5.alloc (.cells #[.int .i64 t.k, .int .i64 0, .int .i64 t.n, .string ⟨t.s.toArray⟩, .bool false, .bool false] 30)) from (HB.out.trans (B5.out.mono HB.out.size)).alloc (by have := HL5.out; omega) _)
        clear R HO HS HL B5
        go_wp2_with fail
        obtain ⟨q0, q1, q2, q3, q4, q5⟩ := six_cells HS7.out.h (.int .i64 t.k) (.int .i64 0) (.int .i64 t.n) (.string ⟨t.s.toArray⟩) (.bool false) (.bool false)
        refine bodyPost_ret (v := .tuple #[.agg #[.int .i64 t.k, .int .i64 0, .int .i64 t.n, .string ⟨t.s.toArray⟩, .bool false, .bool false], .int .i64 m]) (by simp [results, Tryd.results17, go_sem, q0, q1, q2, q3, q4, q5]) rfl ?_
        exact ⟨⟨t, m, rfl, .inr ⟨HF.out, by omega⟩⟩, below6q BN.out (Nat.le_succ _) _ _ _ _ _ _⟩
    · have C := Lib.hid (numT_is p s n wr hpl hs htb)
      have ix : ∀ w, (Instr.index 45 (.agg (att9 p)) (.int .i64 5)).run Tryd.prog w = .ok (.func (.func 34) #[.pointer (some ⟨p, 0, none⟩)] #[]) w := fun _ => by kernel_rfl
      unfold att9 at ix
      have R := Lib.hid (HS.out.rest.trans (rest_on (i := 5) rfl _))
      clear hpl htb
      go_wp2_with fail
      refine C.out.mono ?_
      rintro e w5 ⟨⟨t, m, rfl, ho⟩, b5⟩
      have HO := Lib.hid ho
      have S5 := SW.out.on b5
      have S6 : Six (w5.alloc (.cells zero6 30)) w5.heap.size := ⟨new_at _ _ rfl⟩
      obtain ⟨d0, d1, d2, d3, d4, d5, z0, z1, z2, z3, z4, z5⟩ := S6.facts
      have hl5 : w.heap.size + 2 ≤ w5.heap.size := Nat.le_trans HL.out b5.size
      have S7 := six_at S5 (.cells #[.int .i64 t.k, .int .i64 0, .int .i64 t.n, .string ⟨t.s.toArray⟩, .bool false, .bool false] 30)
      have HS7 := Lib.hid S7
      obtain ⟨y0, y1, y2, y3, y4, y5, x0, x1, x2, x3, x4, x5⟩ := S7.facts
      have B5 := Lib.hid b5
      have HL5 := Lib.hid hl5
      clear ho S5 S6 S7 b5 C hl5
      unfold zero6 at *
      by_cases hm : m = 0
      · subst hm
        have RN := Lib.hid (R.out.trans (by rw [show _ = none from HO.out.elim (fun h => h.1) (fun h => absurd h.2 (Nat.lt_irrefl 0))]; rfl : _ = restT 6 s.data.toList))
        have BN := Lib.hid (show Below (w.heap.size + 2) W0 (w5.alloc (.cells #[.int .i64 t.k, .int .i64 0, .int .i64 t.n, .string ⟨t.s.toArray⟩, .bool false, .bool false] 30)) from (HS.out.below.trans (B5.out.mono HL.out)).alloc HL5.out _)
        clear R HO HS HL B5
        go_wp2_with fail
        go_roundw
        case rel => exact ⟨6, by go_num, by omega, ⟨BN.out, RN.out⟩⟩
        case measure => simp [intOf]
      · have hm1 : 0 < (m : Int) := by omega
        have HF := Lib.hid (show tokT s.data.toList = some (t, m) by rw [R.out]; rw [show _ = some (t, m) from HO.out.elim (fun h => absurd h.2 hm) (fun h => h.1)]; rfl)
        have BN := Lib.hid (show Below w.heap.size w (w5.alloc (.cells #[.int .i64 t.k, .int .i64 0, .int .i64 t.n, .string ⟨t.s.toArray⟩, .bool false, .bool false] 30)) from (HB.out.trans (B5.out.mono HB.out.size)).alloc (by have := HL5.out; omega) _)
        clear R HO HS HL B5
        go_wp2_with fail
        obtain ⟨q0, q1, q2, q3, q4, q5⟩ := six_cells HS7.out.h (.int .i64 t.k) (.int .i64 0) (.int .i64 t.n) (.string ⟨t.s.toArray⟩) (.bool false) (.bool false)
        refine bodyPost_ret (v := .tuple #[.agg #[.int .i64 t.k, .int .i64 0, .int .i64 t.n, .string ⟨t.s.toArray⟩, .bool false, .bool false], .int .i64 m]) (by simp [results, Tryd.results17, go_sem, q0, q1, q2, q3, q4, q5]) rfl ?_
        exact ⟨⟨t, m, rfl, .inr ⟨HF.out, by omega⟩⟩, below6q BN.out (Nat.le_succ _) _ _ _ _ _ _⟩
    · have C := Lib.hid (quoted_is p s n wr hpl hs hp htb)
      have ix : ∀ w, (Instr.index 45 (.agg (att9 p)) (.int .i64 6)).run Tryd.prog w = .ok (.func (.func 35) #[.pointer (some ⟨p, 0, none⟩)] #[]) w := fun _ => by kernel_rfl
      unfold att9 at ix
      have R := Lib.hid (HS.out.rest.trans (rest_on (i := 6) rfl _))
      clear hpl htb
      go_wp2_with fail
      refine C.out.mono ?_
      rintro e w5 ⟨⟨t, m, rfl, ho⟩, b5⟩
      have HO := Lib.hid ho
      have S5 := SW.out.on b5
      have S6 : Six (w5.alloc (.cells zero6 30)) w5.heap.size := ⟨new_at _ _ rfl⟩
      obtain ⟨d0, d1, d2, d3, d4, d5, z0, z1, z2, z3, z4, z5⟩ := S6.facts
      have hl5 : w.heap.size + 2 ≤ w5.heap.size := Nat.le_trans HL.out b5.size
      have S7 := six_at S5 (.cells #[.int .i64 t.k, .int .i64 0, .int .i64 t.n, .string ⟨t.s.toArray⟩, .bool false, .bool false] 30)
      have HS7 := Lib.hid S7
      obtain ⟨y0, y1, y2, y3, y4, y5, x0, x1, x2, x3, x4, x5⟩ := S7.facts
      have B5 := Lib.hid b5
      have HL5 := Lib.hid hl5
      clear ho S5 S6 S7 b5 C hl5
      unfold zero6 at *
      by_cases hm : m = 0
      · subst hm
        have RN := Lib.hid (R.out.trans (by rw [show _ = none from HO.out.elim (fun h => h.1) (fun h => absurd h.2 (Nat.lt_irrefl 0))]; rfl : _ = restT 7 s.data.toList))
        have BN := Lib.hid (show Below (w.heap.size + 2) W0 (w5.alloc (.cells #[.int .i64 t.k, .int .i64 0, .int .i64 t.n, .string ⟨t.s.toArray⟩, .bool false, .bool false] 30)) from (HS.out.below.trans (B5.out.mono HL.out)).alloc HL5.out _)
        clear R HO HS HL B5
        go_wp2_with fail
        go_roundw
        case rel => exact ⟨7, by go_num, by omega, ⟨BN.out, RN.out⟩⟩
        case measure => simp [intOf]
      · have hm1 : 0 < (m : Int) := by omega
        have HF := Lib.hid (show tokT s.data.toList = some (t, m) by rw [R.out]; rw [show _ = some (t, m) from HO.out.elim (fun h => absurd h.2 hm) (fun h => h.1)]; rfl)
        have BN := Lib.hid (show Below w.heap.size w (w5.alloc (.cells #[.int .i64 t.k, .int .i64 0, .int .i64 t.n, .string ⟨t.s.toArray⟩, .bool false, .bool false] 30)) from (HB.out.trans (B5.out.mono HB.out.size)).alloc (by have := HL5.out; omega) _)
        clear R HO HS HL B5
        go_wp2_with fail
        obtain ⟨q0, q1, q2, q3, q4, q5⟩ := six_cells HS7.out.h (.int .i64 t.k) (.int .i64 0) (.int .i64 t.n) (.string ⟨t.s.toArray⟩) (.bool false) (.bool false)
        refine bodyPost_ret (v := .tuple #[.agg #[.int .i64 t.k, .int .i64 0, .int .i64 t.n, .string ⟨t.s.toArray⟩, .bool false, .bool false], .int .i64 m]) (by simp [results, Tryd.results17, go_sem, q0, q1, q2, q3, q4, q5]) rfl ?_
        exact ⟨⟨t, m, rfl, .inr ⟨HF.out, by omega⟩⟩, below6q BN.out (Nat.le_succ _) _ _ _ _ _ _⟩
    · have C := Lib.hid (codes_is p s n wr hpl hs hp htb)
      have ix : ∀ w, (Instr.index 45 (.agg (att9 p)) (.int .i64 7)).run Tryd.prog w = .ok (.func (.func 36) #[.pointer (some ⟨p, 0, none⟩)] #[]) w := fun _ => by kernel_rfl
      unfold att9 at ix
      have R := Lib.hid (HS.out.rest.trans (rest_on (i := 7) rfl _))
      clear hpl htb
      go_wp2_with fail
      refine C.out.mono ?_
      rintro e w5 ⟨⟨t, m, rfl, ho⟩, b5⟩
      have HO := Lib.hid ho
      have S5 := SW.out.on b5
      have S6 : Six (w5.alloc (.cells zero6 30)) w5.heap.size := ⟨new_at _ _ rfl⟩
      obtain ⟨d0, d1, d2, d3, d4, d5, z0, z1, z2, z3, z4, z5⟩ := S6.facts
      have hl5 : w.heap.size + 2 ≤ w5.heap.size := Nat.le_trans HL.out b5.size
      have S7 := six_at S5 (.cells #[.int .i64 t.k, .int .i64 0, .int .i64 t.n, .string ⟨t.s.toArray⟩, .bool false, .bool false] 30)
      have HS7 := Lib.hid S7
      obtain ⟨y0, y1, y2, y3, y4, y5, x0, x1, x2, x3, x4, x5⟩ := S7.facts
      have B5 := Lib.hid b5
      have HL5 := Lib.hid hl5
      clear ho S5 S6 S7 b5 C hl5
      unfold zero6 at *
      by_cases hm : m = 0
      · subst hm
        have RN := Lib.hid (R.out.trans (by rw [show _ = none from HO.out.elim (fun h => h.1) (fun h => absurd h.2 (Nat.lt_irrefl 0))]; rfl : _ = restT 8 s.data.toList))
        have BN := Lib.hid (show Below (w.heap.size + 2) W0 (w5.alloc (.cells #[.int .i64 t.k, .int .i64 0, .int .i64 t.n, .string ⟨t.s.toArray⟩, .bool false, .bool false] 30)) from (HS.out.below.trans (B5.out.mono HL.out)).alloc HL5.out _)
        clear R HO HS HL B5
        go_wp2_with fail
        go_roundw
        case rel => exact ⟨8, by go_num, by omega, ⟨BN.out, RN.out⟩⟩
        case measure => simp [intOf]
      · have hm1 : 0 < (m : Int) := by omega
        have HF := Lib.hid (show tokT s.data.toList = some (t, m) by rw [R.out]; rw [show _ = some (t, m) from HO.out.elim (fun h => absurd h.2 hm) (fun h => h.1)]; rfl)
        have BN := Lib.hid (show Below w.heap.size w (w5.alloc (.cells #[.int .i64 t.k, .int .i64 0, .int .i64 t.n, .string ⟨t.s.toArray⟩, .bool false, .bool false] 30)) from (HB.out.trans (B5.out.mono HB.out.size)).alloc (by have := HL5.out; omega) _)
        clear R HO HS HL B5
        go_wp2_with fail
        obtain ⟨q0, q1, q2, q3, q4, q5⟩ := six_cells HS7.out.h (.int .i64 t.k) (.int .i64 0) (.int .i64 t.n) (.string ⟨t.s.toArray⟩) (.bool false) (.bool false)
        refine bodyPost_ret (v := .tuple #[.agg #[.int .i64 t.k, .int .i64 0, .int .i64 t.n, .string ⟨t.s.toArray⟩, .bool false, .bool false], .int .i64 m]) (by simp [results, Tryd.results17, go_sem, q0, q1, q2, q3, q4, q5]) rfl ?_
        exact ⟨⟨t, m, rfl, .inr ⟨HF.out, by omega⟩⟩, below6q BN.out (Nat.le_succ _) _ _ _ _ _ _⟩
    · have C := Lib.hid (punct_is p s n wr hpl hs hp)
      have ix : ∀ w, (Instr.index 45 (.agg (att9 p)) (.int .i64 8)).run Tryd.prog w = .ok (.func (.func 37) #[.pointer (some ⟨p, 0, none⟩)] #[]) w := fun _ => by kernel_rfl
      unfold att9 at ix
      have R := Lib.hid (HS.out.rest.trans (rest_on (i := 8) rfl _))
      clear hpl htb
      go_wp2_with fail
      refine C.out.mono ?_
      rintro e w5 ⟨⟨t, m, rfl, ho⟩, b5⟩
      have HO := Lib.hid ho
      have S5 := SW.out.on b5
      have S6 : Six (w5.alloc (.cells zero6 30)) w5.heap.size := ⟨new_at _ _ rfl⟩
      obtain ⟨d0, d1, d2, d3, d4, d5, z0, z1, z2, z3, z4, z5⟩ := S6.facts
      have hl5 : w.heap.size + 2 ≤ w5.heap.size := Nat.le_trans HL.out b5.size
      have S7 := six_at S5 (.cells #[.int .i64 t.k, .int .i64 0, .int .i64 t.n, .string ⟨t.s.toArray⟩, .bool false, .bool false] 30)
      have HS7 := Lib.hid S7
      obtain ⟨y0, y1, y2, y3, y4, y5, x0, x1, x2, x3, x4, x5⟩ := S7.facts
      have B5 := Lib.hid b5
      have HL5 := Lib.hid hl5
      clear ho S5 S6 S7 b5 C hl5
      unfold zero6 at *
      by_cases hm : m = 0
      · subst hm
        have RN := Lib.hid (R.out.trans (by rw [show _ = none from HO.out.elim (fun h => h.1) (fun h => absurd h.2 (Nat.lt_irrefl 0))]; rfl : _ = restT 9 s.data.toList))
        have BN := Lib.hid (show Below (w.heap.size + 2) W0 (w5.alloc (.cells #[.int .i64 t.k, .int .i64 0, .int .i64 t.n, .string ⟨t.s.toArray⟩, .bool false, .bool false] 30)) from (HS.out.below.trans (B5.out.mono HL.out)).alloc HL5.out _)
        clear R HO HS HL B5
        go_wp2_with fail
        go_roundw
        case rel => exact ⟨9, by go_num, by omega, ⟨BN.out, RN.out⟩⟩
        case measure => simp [intOf]
      · have hm1 : 0 < (m : Int) := by omega
        have HF := Lib.hid (show tokT s.data.toList = some (t, m) by rw [R.out]; rw [show _ = some (t, m) from HO.out.elim (fun h => absurd h.2 hm) (fun h => h.1)]; rfl)
        have BN := Lib.hid (show Below w.heap.size w (w5.alloc (.cells #[.int .i64 t.k, .int .i64 0, .int .i64 t.n, .string ⟨t.s.toArray⟩, .bool false, .bool false] 30)) from (HB.out.trans (B5.out.mono HB.out.size)).alloc (by have := HL5.out; omega) _)
        clear R HO HS HL B5
        go_wp2_with fail
        obtain ⟨q0, q1, q2, q3, q4, q5⟩ := six_cells HS7.out.h (.int .i64 t.k) (.int .i64 0) (.int .i64 t.n) (.string ⟨t.s.toArray⟩) (.bool false) (.bool false)
        refine bodyPost_ret (v := .tuple #[.agg #[.int .i64 t.k, .int .i64 0, .int .i64 t.n, .string ⟨t.s.toArray⟩, .bool false, .bool false], .int .i64 m]) (by simp [results, Tryd.results17, go_sem, q0, q1, q2, q3, q4, q5]) rfl ?_
        exact ⟨⟨t, m, rfl, .inr ⟨HF.out, by omega⟩⟩, below6q BN.out (Nat.le_succ _) _ _ _ _ _ _⟩
    · have HN := Lib.hid (show tokT s.data.toList = none from HS.out.rest)
      obtain ⟨d0, d1, d2, d3, d4, d5, z0, z1, z2, z3, z4, z5⟩ := SW.out.facts
      clear hpl htb HS HL
      go_wp2_with fail
      obtain ⟨q0, q1, q2, q3, q4, q5⟩ := six_cells SW.out.h (.int .i64 0) (.int .i64 0) (.int .i64 0) (.string ⟨#[]⟩) (.bool false) (.bool false)
      refine bodyPost_ret (v := no6) (by simp [results, Tryd.results17, go_sem, q0, q1, q2, q3, q4, q5]) rfl ?_
      exact .no HN.out (below6q HB.out (Nat.le_succ _) _ _ _ _ _ _)
end Go.Proofs.YtkbeaddbnnboaaaDoor
