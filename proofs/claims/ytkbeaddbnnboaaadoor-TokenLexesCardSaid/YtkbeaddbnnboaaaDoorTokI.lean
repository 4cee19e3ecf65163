/- Package token's gap and pass: contracts. Conditions: the place stands in memory; its text has at most 5000 bytes; the library's variables hold what their text lays. -/
import Derived.Test.YtkbeaddbnnboaaaDoorTokH
import Derived.StillTailTactics
import Derived.Deep.QuietTactic
namespace Go.Proofs.YtkbeaddbnnboaaaDoor
open Go Go.RowKit Go.Maps

def Lay (w : World) : Prop := Tab w ∧ ∃ m, w.cell? ⟨0, 0, none⟩ = some (.int .i64 m)
theorem Lay.on {w w' : World} (h : Lay w) (hb : Below w.heap.size w w') : Lay w' := ⟨h.1.on hb, h.2.elim fun m hm => ⟨m, cell_later hb hm⟩⟩

/-- only the place's cells are other -/
structure OnlyAt (p : Nat) (w w' : World) : Prop where
  below : ∀ H, H ≤ p → Below H w w'
  other : ∀ b, b ≠ p → b < w.heap.size → w'.heap[b]? = w.heap[b]?

set_option maxRecDepth 100000 in
set_option maxHeartbeats 1600000 in
theorem pass_is (p : Nat) (s : ByteArray) (n : Int) (z : Nat) (w : World) (h : PL w p s n) (hs : s.size ≤ 5000) (hz : z ≤ s.size) (hn : 0 ≤ n) (hn2 : n ≤ 20000) :
    Calls Tryd.prog 18 #[.pointer (some ⟨p, 0, none⟩), .int .i64 z] w fun e w' => e = .returned (.tuple #[]) ∧ PL w' p (s.extract z s.size) (n + nlC (s.data.toList.take z)) ∧ OnlyAt p w w' := by
  obtain ⟨c0, c1, f0, f1⟩ := h.cells
  have C := Lib.hid (fun w => Tryd.strings_Count_one (s.extract 0 z) 10 w)
  go_enter Tryd.func18, Tryd.ntmps18
  go_wp2_with (go_at_call 39; refine (C.out _).mono ?_; rintro e w' ⟨rfl, rfl⟩)
  go_still_tail 12, (by kernel_rfl)
  still_call (C.out _)
  repeat still_step
  refine wpStill_nil ?_
  change wpList _ _ _ _ _ w.drew
  have c0' : w.drew.cell? ⟨p, 0, none⟩ = some (.string s) := c0
  have c1' : w.drew.cell? ⟨p, 1, none⟩ = some (.int .i64 n) := c1
  have f0' : w.drew.frozen? ⟨p, 0, none⟩ = false := f0
  have f1' : w.drew.frozen? ⟨p, 1, none⟩ = false := f1
  have h' : PL w.drew p s n := h
  have hb : Below w.heap.size w w.drew := (Below.refl _ _).drew
  clear c0 c1 f0 f1
  generalize w.drew = w2 at *
  go_wp2
  refine bodyPost_end (v := .tuple #[]) (by simp [results, Tryd.results18, go_sem]) rfl ?_
  have hcnt : Lib.countByte (s.data.toList.take z) 10 ≤ 5000 := by
    have : Lib.countByte (s.data.toList.take z) 10 ≤ (s.data.toList.take z).length := by unfold Lib.countByte; exact List.count_le_length ..
    rw [List.length_take, ← Lib.size_eq] at this
    omega
  rw [show wrap64 (n + (Lib.countByte (s.data.toList.take z) 10 : Int)) = n + (nlC (s.data.toList.take z) : Int) from IntWalk.wrap64_in _ (by omega)]
  have e1 : _ = some (Obj.cells #[.string s, .int .i64 (n + (nlC (s.data.toList.take z) : Int))] 42 (0, 0)) := heap_set (o := 1) h' _
  have e2 : _ = some (Obj.cells #[.string (s.extract z s.size), .int .i64 (n + (nlC (s.data.toList.take z) : Int))] 42 (0, 0)) := heap_set (o := 0) e1 _
  refine ⟨rfl, e2, ⟨fun H hH => ?_, fun b hbp hbl => ?_⟩⟩
  · have a1 := (hb.mono (B' := H) (Nat.le_trans hH (Nat.le_of_lt (heap_lt h)))).setCell (p := ⟨p, 1, none⟩) hH (.int .i64 (n + (nlC (s.data.toList.take z) : Int)))
    exact a1.setCell (p := ⟨p, 0, none⟩) hH _
  · rw [heap_set_ne hbp, heap_set_ne hbp]
    exact hb.block b hbl

theorem gap_blank {c : UInt8} {t : List UInt8} (h : (sortZ (c.toNat : Int) == 1) = true) : gapN (c :: t) = 1 := by simp only [gapN]; rw [if_pos h]
theorem gap_37 {c : UInt8} {t : List UInt8} (h : (sortZ (c.toNat : Int) == 1) = false) (h2 : ((c.toNat : Int) == 37) = true) : gapN (c :: t) = (Lib.cut (c :: t) [10]).1.length := by
  simp only [gapN]; rw [if_neg (by rw [h]; simp), if_pos h2]
theorem gap_no {c : UInt8} {t : List UInt8} (h : (sortZ (c.toNat : Int) == 1) = false) (h2 : ((c.toNat : Int) == 37) = false) (h3 : Lib.hasPrefix (c :: t) [47, 42] = false) : gapN (c :: t) = 0 := by
  simp only [gapN]; rw [if_neg (by rw [h]; simp), if_neg (by rw [h2]; simp), if_neg (by rw [h3]; simp)]
theorem gap_yes {c : UInt8} {t : List UInt8} (h : (sortZ (c.toNat : Int) == 1) = false) (h2 : ((c.toNat : Int) == 37) = false) (h3 : Lib.hasPrefix (c :: t) [47, 42] = true) :
    gapN (c :: t) = if (Lib.cut (t.drop 1) [42, 47]).2.2 = true then 2 + (Lib.cut (t.drop 1) [42, 47]).1.length + 2 else 0 := by
  simp only [gapN]; rw [if_neg (by rw [h]; simp), if_neg (by rw [h2]; simp), if_pos h3]
theorem cut_len (s sep : List UInt8) : (Lib.cut s sep).1.length ≤ s.length := by
  unfold Lib.cut
  split
  · simp; omega
  · simp

set_option maxRecDepth 100000 in
set_option maxHeartbeats 1600000 in
theorem gap_is (p : Nat) (s : ByteArray) (n : Int) (w : World) (h : PL w p s n) (hs : s.size ≤ 5000) (ht : Lay w) :
    Calls Tryd.prog 38 #[.pointer (some ⟨p, 0, none⟩)] w fun e w' => e = .returned (.int .i64 (gapN s.data.toList)) ∧ ∃ k, w' = w.drewN k := by
  obtain ⟨c0, _, _, _⟩ := h.cells
  obtain ⟨m, hm⟩ := ht.2
  by_cases hp : 0 < s.size
  rotate_left
  · have hl : s.data.toList = [] := by apply List.eq_nil_of_length_eq_zero; rw [← Lib.size_eq]; omega
    have he : s.toList.isEmpty = true := by rw [Lib.toList_data, hl]; rfl
    have HO := Lib.hid (show gapN s.data.toList = 0 by rw [hl]; rfl)
    clear h ht hl
    go_enter Tryd.func38, Tryd.ntmps38
    go_wp2_with fail
    go_ret
    exact ⟨by rw [HO.out]; rfl, 0, rfl⟩
  obtain ⟨c, t, hl⟩ := cons_of hp
  have he : s.toList.isEmpty = false := by rw [Lib.toList_data, hl]; rfl
  have hc := at_0 hl hp
  have HL := Lib.hid hl
  have S := Lib.hid (fun w => sort_is (c.toNat : Int) w (by omega) (by have := c.toNat_lt; omega))
  obtain ⟨z, hz⟩ : ∃ z, sortZ (c.toNat : Int) = z := ⟨_, rfl⟩
  rw [hz] at S
  have HZ := Lib.hid hz
  have HM := Lib.hid hm
  clear h ht hl hz hm
  cases hq : (z == 1)
  rotate_left
  · have HO := Lib.hid (show gapN s.data.toList = 1 by rw [HL.out, gap_blank (by rw [HZ.out]; exact hq)])
    go_enter Tryd.func38, Tryd.ntmps38
    go_wp2_with (go_at_call 26; refine (S.out _).mono ?_; rintro e w' ⟨rfl, rfl⟩)
    go_ret
    exact ⟨by rw [HO.out]; rfl, 0, rfl⟩
  cases h37 : ((c.toNat : Int) == 37)
  rotate_left
  · have HO := Lib.hid (show gapN s.data.toList = (Lib.cut s.data.toList [10]).1.length by rw [HL.out, gap_37 (by rw [HZ.out]; exact hq) h37])
    have C := Lib.hid (Tryd.strings_Cut s ⟨#[10]⟩ m w (by omega) HM.out)
    obtain ⟨X, hX⟩ : ∃ X : ByteArray, (⟨(Lib.cut s.data.toList (ByteArray.mk #[10]).data.toList).1.toArray⟩ : ByteArray) = X := ⟨_, rfl⟩
    have hXs : X.size = (Lib.cut s.data.toList [10]).1.length := by rw [← hX, Lib.size_eq]
    rw [hX] at C
    have HX := Lib.hid hXs
    have hXb : X.size ≤ 5000 := by rw [hXs]; have := cut_len s.data.toList [10]; rw [← Lib.size_eq] at this; omega
    clear hX hXs
    go_enter Tryd.func38, Tryd.ntmps38
    go_wp2_with (go_at_call 26; refine (S.out _).mono ?_; rintro e w' ⟨rfl, rfl⟩)
    refine C.out.mono ?_
    rintro e w' ⟨rfl, k, rfl⟩
    go_wp2_with fail
    go_ret
    exact ⟨by rw [HO.out, ← HX.out]; rfl, k, rfl⟩
  have P := Lib.hid (fun w => Tryd.strings_HasPrefix s ⟨#[47, 42]⟩ w)
  obtain ⟨b, hb⟩ : ∃ b, Lib.hasPrefix s.data.toList (ByteArray.mk #[47, 42]).data.toList = b := ⟨_, rfl⟩
  rw [hb] at P
  have hb' : Lib.hasPrefix (c :: t) [47, 42] = b := by rw [← hb, HL.out]
  cases b
  · have HO := Lib.hid (show gapN s.data.toList = 0 by rw [HL.out, gap_no (by rw [HZ.out]; exact hq) h37 hb'])
    clear hb hb'
    go_enter Tryd.func38, Tryd.ntmps38
    go_wp2_with (first | (go_at_call 26; refine (S.out _).mono ?_; rintro e w' ⟨rfl, rfl⟩) | (go_at_call 19; refine (P.out _).mono ?_; rintro e w' ⟨rfl, rfl⟩))
    go_ret
    exact ⟨by rw [HO.out]; rfl, 0, rfl⟩
  have h2 : 2 ≤ s.size := by rw [Lib.size_eq]; exact prefix_two hb
  have HO := Lib.hid (show gapN s.data.toList = if (Lib.cut (s.data.toList.drop 2) [42, 47]).2.2 = true then 2 + (Lib.cut (s.data.toList.drop 2) [42, 47]).1.length + 2 else 0 by
    rw [HL.out, gap_yes (by rw [HZ.out]; exact hq) h37 hb', List.drop_succ_cons])
  have hd : (s.extract 2 s.size).data.toList = s.data.toList.drop 2 := by rw [Lib.extract_data, List.take_of_length_le (by rw [List.length_drop, Lib.size_eq]; omega)]
  have C := Tryd.strings_Cut (s.extract 2 s.size) ⟨#[42, 47]⟩ m w (by rw [Lib.size_eq, hd, List.length_drop, ← Lib.size_eq]; omega) HM.out
  rw [hd] at C
  obtain ⟨X, hX⟩ : ∃ X : ByteArray, (⟨(Lib.cut (s.data.toList.drop 2) (ByteArray.mk #[42, 47]).data.toList).1.toArray⟩ : ByteArray) = X := ⟨_, rfl⟩
  have hXs : X.size = (Lib.cut (s.data.toList.drop 2) [42, 47]).1.length := by rw [← hX, Lib.size_eq]
  rw [hX] at C
  obtain ⟨cl, hcl⟩ : ∃ cl, (Lib.cut (s.data.toList.drop 2) (ByteArray.mk #[42, 47]).data.toList).2.2 = cl := ⟨_, rfl⟩
  rw [hcl] at C
  have hXb : X.size ≤ 5000 := by rw [hXs]; have := cut_len (s.data.toList.drop 2) [42, 47]; rw [List.length_drop, ← Lib.size_eq] at this; omega
  have C' := Lib.hid C
  have HX := Lib.hid hXs
  have HCL := Lib.hid hcl
  clear hX hXs hb hb' hd C hcl
  cases cl
  · go_enter Tryd.func38, Tryd.ntmps38
    go_wp2_with (first | (go_at_call 26; refine (S.out _).mono ?_; rintro e w' ⟨rfl, rfl⟩) | (go_at_call 19; refine (P.out _).mono ?_; rintro e w' ⟨rfl, rfl⟩))
    refine C'.out.mono ?_
    rintro e w' ⟨rfl, k, rfl⟩
    go_wp2_with fail
    go_ret
    refine ⟨?_, k, rfl⟩
    rw [HO.out, if_neg (by rw [show [42, 47] = (ByteArray.mk #[42, 47]).data.toList from rfl, HCL.out]; simp)]
    rfl
  · go_enter Tryd.func38, Tryd.ntmps38
    go_wp2_with (first | (go_at_call 26; refine (S.out _).mono ?_; rintro e w' ⟨rfl, rfl⟩) | (go_at_call 19; refine (P.out _).mono ?_; rintro e w' ⟨rfl, rfl⟩))
    refine C'.out.mono ?_
    rintro e w' ⟨rfl, k, rfl⟩
    go_wp2_with fail
    go_ret
    refine ⟨?_, k, rfl⟩
    rw [HO.out, if_pos (by rw [show [42, 47] = (ByteArray.mk #[42, 47]).data.toList from rfl, HCL.out]), ← HX.out]
    go_num

end Go.Proofs.YtkbeaddbnnboaaaDoor
