/- The document's one token: its ways without a number or a quote. Conditions: a place within the text, which has at most 3000 bytes, and where no comment begins. The document's one token: its ways with a stop, a byte alone, a number, a quote. Conditions: a place within the text, which has at most 3000 bytes, and where no comment begins. The document's one token: its ways with a number or a quote. Conditions: a place within the text, which has at most 3000 bytes, and where no comment begins. -/
import Derived.Test.YtkbeaddbnnboaaaDoorTokRg
namespace Go.Proofs.YtkbeaddbnnboaaaDoor
open Go Go.RowKit Go.Maps

theorem dig_sort : ∀ c : Fin 256, sortZ (c.val : Int) ≠ 4 → 10 ≤ digitZ (c.val : Int) := by decide +kernel
theorem dig_none {c : UInt8} (h : sortZ (c.toNat : Int) ≠ 4) : 10 ≤ digitZ (c.toNat : Int) := dig_sort ⟨c.toNat, c.toNat_lt⟩ h
theorem ext_bytes (s : ByteArray) (p n : Nat) : s.extract p (p + n) = ⟨((s.data.toList.drop p).take n).toArray⟩ := bytes_eq (by rw [Lib.extract_data]; congr 1; omega)
theorem signs_some {l : List UInt8} (h : Lib.hasPrefix l [47, 42] = false) (h0 : 0 < runB signZ l) : signsT l = some (⟨1, 0, l.take (runB signZ l)⟩, runB signZ l) := by
  unfold signsT
  rw [if_neg (by rw [h]; simp), if_neg (by omega)]
theorem letters_some {c : UInt8} {t : List UInt8} {a k : Int} (h : sortZ (c.toNat : Int) = a) (hl : letterZ (c.toNat : Int) = true) : lettersT a k (c :: t) = some (⟨k, 0, (c :: t).take (runB letterZ (c :: t))⟩, runB letterZ (c :: t)) := by
  simp only [lettersT]
  rw [h, if_pos (by simp), if_neg (by rw [runB_yes hl]; omega)]
theorem tok_sort4 {c : UInt8} {t : List UInt8} (h : sortZ (c.toNat : Int) = 4) : tokT (c :: t) = numberT (c :: t) := by
  unfold tokT
  rw [stop_sort h (by decide), letters_sort h (by decide), signs_sort h (by decide), alone_sort h (by decide), letters_sort h (by decide), within_no (sort_not h (by decide)), within_no (sort_not h (by decide)), alone_sort h (by decide)]
  cases numberT (c :: t) <;> rfl
theorem tok_q39 {t : List UInt8} : tokT (39 :: t) = withinT 39 2 (39 :: t) := by
  have h : sortZ (((39 : UInt8).toNat : Nat) : Int) = 8 := by decide
  unfold tokT
  rw [stop_sort h (by decide), letters_sort h (by decide), signs_sort h (by decide), alone_sort h (by decide), letters_sort h (by decide), numT_bad (by decide) (by decide), within_no (q := 34) (by decide), alone_sort h (by decide)]
  cases withinT 39 2 (39 :: t) <;> rfl
theorem tok_q34 {t : List UInt8} : tokT (34 :: t) = withinT 34 5 (34 :: t) := by
  have h : sortZ (((34 : UInt8).toNat : Nat) : Int) = 8 := by decide
  unfold tokT
  rw [stop_sort h (by decide), letters_sort h (by decide), signs_sort h (by decide), alone_sort h (by decide), letters_sort h (by decide), numT_bad (by decide) (by decide), within_no (q := 39) (by decide), alone_sort h (by decide)]
  cases withinT 34 5 (34 :: t) <;> rfl
theorem tok_no {c : UInt8} {t : List UInt8} {k : Int} (h : sortZ (c.toNat : Int) = k) (hk : k = 0 ∨ k = 1 ∨ k = 8) (h1 : ((c.toNat : Int) == 39) = false) (h2 : ((c.toNat : Int) == 34) = false) : tokT (c :: t) = none := by
  have h48 : c ≠ 48 := ne_sort h (by show (4 : Int) ≠ k; omega)
  have hd : 10 ≤ digitZ (c.toNat : Int) := dig_none (by rw [h]; omega)
  unfold tokT
  rw [stop_sort h (by omega), letters_sort h (by omega), signs_sort h (by omega), alone_sort h (by omega), letters_sort h (by omega), numT_bad h48 hd, within_no h1, within_no h2, alone_sort h (by omega)]
  rfl

set_option linter.unusedVariables false in
set_option maxRecDepth 100000 in
set_option maxHeartbeats 3200000 in
theorem one_low (s : ByteArray) (p : Nat) (w : World) (hs : s.size ≤ 3000) (hp : p < s.size) (hcm : Lib.hasPrefix (s.data.toList.drop p) [47, 42] = false) (hk : sortZ (s[p].toNat : Int) = 2) :
    Calls Tryd.prog 22 #[.string s, .int .i64 p] w (AttPost w (tokT (s.data.toList.drop p))) := by
  have hd := drop_at s p hp
  obtain ⟨y, hy⟩ : ∃ y, s[p] = y := ⟨_, rfl⟩
  rw [hy] at hd hk
  have hn : (w.alloc (.cells #[.int .i64 0, .int .i64 0, .int .i64 0, .string ⟨#[]⟩, .bool false, .bool false] 30)).heap[w.heap.size]? = some (.cells #[.int .i64 0, .int .i64 0, .int .i64 0, .string ⟨#[]⟩, .bool false, .bool false] 30 (0, 0)) := new_at _ _ rfl
  have C := Lib.hid (fun w => ref_sort (y.toNat : Int) w (by omega) (by have := y.toNat_lt; omega))
  have h46 : ((y.toNat : Int) == 46) = false := sort_not hk (by decide)
  rw [hk] at C
  obtain ⟨r, hr⟩ : ∃ r, runB letterZ (s.data.toList.drop p) = r := ⟨_, rfl⟩
  have hrl : p + r ≤ s.size := by
    have := runB_le letterZ (s.data.toList.drop p)
    rw [hr, List.length_drop, ← Lib.size_eq] at this
    omega
  have R := Lib.hid (fun w => ref_word_is s p w (by omega) (by omega))
  rw [hr] at R
  have HE := Lib.hid (ext_bytes s p r)
  have HO := Lib.hid (show tokT (s.data.toList.drop p) = some (⟨1, 0, (s.data.toList.drop p).take r⟩, r) ∧ 0 < r by
    have hl : letterZ (y.toNat : Int) = true := by unfold letterZ; rw [hk]; rfl
    refine ⟨?_, by rw [← hr, hd, runB_yes hl]; omega⟩
    have hx := letters_some (a := 2) (k := 1) (t := s.data.toList.drop (p + 1)) hk hl
    rw [← hd, hr] at hx
    unfold tokT
    rw [hx, hd, stop_sort hk (by decide)]
    rfl)
  have z0 := cell_of_heap (o := 0) hn rfl
  have zf0 := free_of_heap (o := 0) hn
  have z1 := cell_of_heap (o := 1) hn rfl
  have zf1 := free_of_heap (o := 1) hn
  have z2 := cell_of_heap (o := 2) hn rfl
  have zf2 := free_of_heap (o := 2) hn
  have z3 := cell_of_heap (o := 3) hn rfl
  have zf3 := free_of_heap (o := 3) hn
  have z4 := cell_of_heap (o := 4) hn rfl
  have zf4 := free_of_heap (o := 4) hn
  have z5 := cell_of_heap (o := 5) hn rfl
  have zf5 := free_of_heap (o := 5) hn
  clear hr hd hn hcm
  go_enter Tryd.func22, Tryd.ntmps22
  go_wp2_with (first | (go_at_call 41; refine (C.out _).mono ?_; rintro e w' ⟨rfl, rfl⟩) | (go_at_call 42; refine (R.out _).mono ?_; rintro e w' ⟨rfl, rfl⟩))
  refine bodyPost_ret (v := .tuple #[.agg #[.int .i64 1, .int .i64 0, .int .i64 0, .string (s.extract p (p + r)), .bool false, .bool false], .int .i64 r]) (by simp [results, Tryd.results22, go_sem]) rfl ?_
  exact ⟨⟨⟨1, 0, (s.data.toList.drop p).take r⟩, r, by rw [HE.out], .inr ⟨HO.out.1, HO.out.2⟩⟩, (Below.refl _ _).alloc (Nat.le_refl _) _⟩

set_option linter.unusedVariables false in
set_option maxRecDepth 100000 in
set_option maxHeartbeats 3200000 in
theorem one_up (s : ByteArray) (p : Nat) (w : World) (hs : s.size ≤ 3000) (hp : p < s.size) (hcm : Lib.hasPrefix (s.data.toList.drop p) [47, 42] = false) (hk : sortZ (s[p].toNat : Int) = 3) :
    Calls Tryd.prog 22 #[.string s, .int .i64 p] w (AttPost w (tokT (s.data.toList.drop p))) := by
  have hd := drop_at s p hp
  obtain ⟨y, hy⟩ : ∃ y, s[p] = y := ⟨_, rfl⟩
  rw [hy] at hd hk
  have hn : (w.alloc (.cells #[.int .i64 0, .int .i64 0, .int .i64 0, .string ⟨#[]⟩, .bool false, .bool false] 30)).heap[w.heap.size]? = some (.cells #[.int .i64 0, .int .i64 0, .int .i64 0, .string ⟨#[]⟩, .bool false, .bool false] 30 (0, 0)) := new_at _ _ rfl
  have C := Lib.hid (fun w => ref_sort (y.toNat : Int) w (by omega) (by have := y.toNat_lt; omega))
  have h46 : ((y.toNat : Int) == 46) = false := sort_not hk (by decide)
  rw [hk] at C
  obtain ⟨r, hr⟩ : ∃ r, runB letterZ (s.data.toList.drop p) = r := ⟨_, rfl⟩
  have hrl : p + r ≤ s.size := by
    have := runB_le letterZ (s.data.toList.drop p)
    rw [hr, List.length_drop, ← Lib.size_eq] at this
    omega
  have R := Lib.hid (fun w => ref_word_is s p w (by omega) (by omega))
  rw [hr] at R
  have HE := Lib.hid (ext_bytes s p r)
  have HO := Lib.hid (show tokT (s.data.toList.drop p) = some (⟨4, 0, (s.data.toList.drop p).take r⟩, r) ∧ 0 < r by
    have hl : letterZ (y.toNat : Int) = true := by unfold letterZ; rw [hk]; rfl
    refine ⟨?_, by rw [← hr, hd, runB_yes hl]; omega⟩
    have hx := letters_some (a := 3) (k := 4) (t := s.data.toList.drop (p + 1)) hk hl
    rw [← hd, hr] at hx
    unfold tokT
    rw [hx, hd, stop_sort hk (by decide), letters_sort hk (by decide), signs_sort hk (by decide), alone_sort hk (by decide)]
    rfl)
  have z0 := cell_of_heap (o := 0) hn rfl
  have zf0 := free_of_heap (o := 0) hn
  have z1 := cell_of_heap (o := 1) hn rfl
  have zf1 := free_of_heap (o := 1) hn
  have z2 := cell_of_heap (o := 2) hn rfl
  have zf2 := free_of_heap (o := 2) hn
  have z3 := cell_of_heap (o := 3) hn rfl
  have zf3 := free_of_heap (o := 3) hn
  have z4 := cell_of_heap (o := 4) hn rfl
  have zf4 := free_of_heap (o := 4) hn
  have z5 := cell_of_heap (o := 5) hn rfl
  have zf5 := free_of_heap (o := 5) hn
  clear hr hd hn hcm
  go_enter Tryd.func22, Tryd.ntmps22
  go_wp2_with (first | (go_at_call 41; refine (C.out _).mono ?_; rintro e w' ⟨rfl, rfl⟩) | (go_at_call 42; refine (R.out _).mono ?_; rintro e w' ⟨rfl, rfl⟩))
  refine bodyPost_ret (v := .tuple #[.agg #[.int .i64 4, .int .i64 0, .int .i64 0, .string (s.extract p (p + r)), .bool false, .bool false], .int .i64 r]) (by simp [results, Tryd.results22, go_sem]) rfl ?_
  exact ⟨⟨⟨4, 0, (s.data.toList.drop p).take r⟩, r, by rw [HE.out], .inr ⟨HO.out.1, HO.out.2⟩⟩, (Below.refl _ _).alloc (Nat.le_refl _) _⟩

set_option linter.unusedVariables false in
set_option maxRecDepth 100000 in
set_option maxHeartbeats 3200000 in
theorem one_sign (s : ByteArray) (p : Nat) (w : World) (hs : s.size ≤ 3000) (hp : p < s.size) (hcm : Lib.hasPrefix (s.data.toList.drop p) [47, 42] = false) (hk : sortZ (s[p].toNat : Int) = 5) (h46 : ((s[p].toNat : Int) == 46) = false) :
    Calls Tryd.prog 22 #[.string s, .int .i64 p] w (AttPost w (tokT (s.data.toList.drop p))) := by
  have hd := drop_at s p hp
  obtain ⟨y, hy⟩ : ∃ y, s[p] = y := ⟨_, rfl⟩
  rw [hy] at hd hk h46
  have hn : (w.alloc (.cells #[.int .i64 0, .int .i64 0, .int .i64 0, .string ⟨#[]⟩, .bool false, .bool false] 30)).heap[w.heap.size]? = some (.cells #[.int .i64 0, .int .i64 0, .int .i64 0, .string ⟨#[]⟩, .bool false, .bool false] 30 (0, 0)) := new_at _ _ rfl
  have C := Lib.hid (fun w => ref_sort (y.toNat : Int) w (by omega) (by have := y.toNat_lt; omega))
  rw [hk] at C
  obtain ⟨r, hr⟩ : ∃ r, runB signZ (s.data.toList.drop p) = r := ⟨_, rfl⟩
  have hrl : p + r ≤ s.size := by
    have := runB_le signZ (s.data.toList.drop p)
    rw [hr, List.length_drop, ← Lib.size_eq] at this
    omega
  have R := Lib.hid (fun w => ref_run_is s p w (by omega) (by omega))
  rw [hr] at R
  have HE := Lib.hid (ext_bytes s p r)
  have HO := Lib.hid (show tokT (s.data.toList.drop p) = some (⟨1, 0, (s.data.toList.drop p).take r⟩, r) ∧ 0 < r by
    have hl : signZ (y.toNat : Int) = true := by unfold signZ; rw [hk]; rfl
    have h0 : 0 < runB signZ (s.data.toList.drop p) := by rw [hd, runB_yes hl]; omega
    refine ⟨?_, by rw [← hr]; exact h0⟩
    have hx := signs_some hcm h0
    rw [hr] at hx
    unfold tokT
    rw [hx]
    have hst : stopT (s.data.toList.drop p) = none := by
      rw [hd]; exact stop_no h46
    rw [hst, hd, letters_sort hk (by decide)]
    rfl)
  have z0 := cell_of_heap (o := 0) hn rfl
  have zf0 := free_of_heap (o := 0) hn
  have z1 := cell_of_heap (o := 1) hn rfl
  have zf1 := free_of_heap (o := 1) hn
  have z2 := cell_of_heap (o := 2) hn rfl
  have zf2 := free_of_heap (o := 2) hn
  have z3 := cell_of_heap (o := 3) hn rfl
  have zf3 := free_of_heap (o := 3) hn
  have z4 := cell_of_heap (o := 4) hn rfl
  have zf4 := free_of_heap (o := 4) hn
  have z5 := cell_of_heap (o := 5) hn rfl
  have zf5 := free_of_heap (o := 5) hn
  clear hr hd hn hcm
  go_enter Tryd.func22, Tryd.ntmps22
  go_wp2_with (first | (go_at_call 41; refine (C.out _).mono ?_; rintro e w' ⟨rfl, rfl⟩) | (go_at_call 43; refine (R.out _).mono ?_; rintro e w' ⟨rfl, rfl⟩))
  refine bodyPost_ret (v := .tuple #[.agg #[.int .i64 1, .int .i64 0, .int .i64 0, .string (s.extract p (p + r)), .bool false, .bool false], .int .i64 r]) (by simp [results, Tryd.results22, go_sem]) rfl ?_
  exact ⟨⟨⟨1, 0, (s.data.toList.drop p).take r⟩, r, by rw [HE.out], .inr ⟨HO.out.1, HO.out.2⟩⟩, (Below.refl _ _).alloc (Nat.le_refl _) _⟩

set_option linter.unusedVariables false in
set_option maxRecDepth 100000 in
set_option maxHeartbeats 3200000 in
theorem one_dot (s : ByteArray) (p : Nat) (w : World) (hs : s.size ≤ 3000) (hp : p < s.size) (hcm : Lib.hasPrefix (s.data.toList.drop p) [47, 42] = false) (h46 : ((s[p].toNat : Int) == 46) = true) (hl : p + 1 < s.size) (g1 : (sortZ (s[p + 1].toNat : Int) == 1) = false) (g2 : ((s[p + 1].toNat : Int) == 37) = false) :
    Calls Tryd.prog 22 #[.string s, .int .i64 p] w (AttPost w (tokT (s.data.toList.drop p))) := by
  have hd := drop_at s p hp
  obtain ⟨y, hy⟩ : ∃ y, s[p] = y := ⟨_, rfl⟩
  rw [hy] at hd h46
  have hn : (w.alloc (.cells #[.int .i64 0, .int .i64 0, .int .i64 0, .string ⟨#[]⟩, .bool false, .bool false] 30)).heap[w.heap.size]? = some (.cells #[.int .i64 0, .int .i64 0, .int .i64 0, .string ⟨#[]⟩, .bool false, .bool false] 30 (0, 0)) := new_at _ _ rfl
  have C := Lib.hid (fun w => ref_sort (y.toNat : Int) w (by omega) (by have := y.toNat_lt; omega))
  have hk : sortZ (y.toNat : Int) = 5 := by rw [show (y.toNat : Int) = 46 by simpa using h46]; rfl
  rw [hk] at C
  have hd2 := drop_at s (p + 1) hl
  obtain ⟨x, hx⟩ : ∃ x, s[p + 1] = x := ⟨_, rfl⟩
  rw [hx] at hd2 g1 g2
  have D := Lib.hid (fun w => ref_sort (x.toNat : Int) w (by omega) (by have := x.toNat_lt; omega))
  obtain ⟨zx, hzx⟩ : ∃ zx, sortZ (x.toNat : Int) = zx := ⟨_, rfl⟩
  have HST := Lib.hid (show stopT (s.data.toList.drop p) = none by rw [hd, hd2]; exact stop_none h46 g2 g1)
  rw [hzx] at D g1
  clear hd2 hzx
  obtain ⟨r, hr⟩ : ∃ r, runB signZ (s.data.toList.drop p) = r := ⟨_, rfl⟩
  have hrl : p + r ≤ s.size := by
    have := runB_le signZ (s.data.toList.drop p)
    rw [hr, List.length_drop, ← Lib.size_eq] at this
    omega
  have R := Lib.hid (fun w => ref_run_is s p w (by omega) (by omega))
  rw [hr] at R
  have HE := Lib.hid (ext_bytes s p r)
  have HO := Lib.hid (show tokT (s.data.toList.drop p) = some (⟨1, 0, (s.data.toList.drop p).take r⟩, r) ∧ 0 < r by
    have hl : signZ (y.toNat : Int) = true := by unfold signZ; rw [hk]; rfl
    have h0 : 0 < runB signZ (s.data.toList.drop p) := by rw [hd, runB_yes hl]; omega
    refine ⟨?_, by rw [← hr]; exact h0⟩
    have hx := signs_some hcm h0
    rw [hr] at hx
    unfold tokT
    rw [hx]
    have hst : stopT (s.data.toList.drop p) = none := by
      exact HST.out
    rw [hst, hd, letters_sort hk (by decide)]
    rfl)
  have z0 := cell_of_heap (o := 0) hn rfl
  have zf0 := free_of_heap (o := 0) hn
  have z1 := cell_of_heap (o := 1) hn rfl
  have zf1 := free_of_heap (o := 1) hn
  have z2 := cell_of_heap (o := 2) hn rfl
  have zf2 := free_of_heap (o := 2) hn
  have z3 := cell_of_heap (o := 3) hn rfl
  have zf3 := free_of_heap (o := 3) hn
  have z4 := cell_of_heap (o := 4) hn rfl
  have zf4 := free_of_heap (o := 4) hn
  have z5 := cell_of_heap (o := 5) hn rfl
  have zf5 := free_of_heap (o := 5) hn
  clear hr hd hn hcm
  go_enter Tryd.func22, Tryd.ntmps22
  go_wp2_with (first | (go_at_call_of 41 (Value.int IntKind.u8 (y.toNat : Int)); refine (C.out _).mono ?_; rintro e w' ⟨rfl, rfl⟩) | (go_at_call_of 41 (Value.int IntKind.u8 (x.toNat : Int)); refine (D.out _).mono ?_; rintro e w' ⟨rfl, rfl⟩) | (go_at_call 43; refine (R.out _).mono ?_; rintro e w' ⟨rfl, rfl⟩))
  refine bodyPost_ret (v := .tuple #[.agg #[.int .i64 1, .int .i64 0, .int .i64 0, .string (s.extract p (p + r)), .bool false, .bool false], .int .i64 r]) (by simp [results, Tryd.results22, go_sem]) rfl ?_
  exact ⟨⟨⟨1, 0, (s.data.toList.drop p).take r⟩, r, by rw [HE.out], .inr ⟨HO.out.1, HO.out.2⟩⟩, (Below.refl _ _).alloc (Nat.le_refl _) _⟩

end Go.Proofs.YtkbeaddbnnboaaaDoor

namespace Go.Proofs.YtkbeaddbnnboaaaDoor
open Go Go.RowKit Go.Maps

set_option linter.unusedVariables false in
set_option maxRecDepth 100000 in
set_option maxHeartbeats 3200000 in
theorem one_stopEnd (s : ByteArray) (p : Nat) (w : World) (hs : s.size ≤ 3000) (hp : p < s.size) (hcm : Lib.hasPrefix (s.data.toList.drop p) [47, 42] = false) (h46 : ((s[p].toNat : Int) == 46) = true) (hl : ¬ p + 1 < s.size) :
    Calls Tryd.prog 22 #[.string s, .int .i64 p] w (AttPost w (tokT (s.data.toList.drop p))) := by
  have hd := drop_at s p hp
  obtain ⟨y, hy⟩ : ∃ y, s[p] = y := ⟨_, rfl⟩
  rw [hy] at hd h46
  have hn : (w.alloc (.cells #[.int .i64 0, .int .i64 0, .int .i64 0, .string ⟨#[]⟩, .bool false, .bool false] 30)).heap[w.heap.size]? = some (.cells #[.int .i64 0, .int .i64 0, .int .i64 0, .string ⟨#[]⟩, .bool false, .bool false] 30 (0, 0)) := new_at _ _ rfl
  have C := Lib.hid (fun w => ref_sort (y.toNat : Int) w (by omega) (by have := y.toNat_lt; omega))
  have hk : sortZ (y.toNat : Int) = 5 := by rw [show (y.toNat : Int) = 46 by simpa using h46]; rfl
  rw [hk] at C
  have he : s.data.toList.drop (p + 1) = [] := List.drop_of_length_le (by rw [← Lib.size_eq]; omega)
  have HO := Lib.hid (show tokT (s.data.toList.drop p) = some (⟨7, 0, []⟩, 1) by
    unfold tokT
    rw [show stopT (s.data.toList.drop p) = some (⟨7, 0, []⟩, 1) from by rw [hd, he]; exact stop_end h46]
    rfl)
  have z0 := cell_of_heap (o := 0) hn rfl
  have zf0 := free_of_heap (o := 0) hn
  have z1 := cell_of_heap (o := 1) hn rfl
  have zf1 := free_of_heap (o := 1) hn
  have z2 := cell_of_heap (o := 2) hn rfl
  have zf2 := free_of_heap (o := 2) hn
  have z3 := cell_of_heap (o := 3) hn rfl
  have zf3 := free_of_heap (o := 3) hn
  have z4 := cell_of_heap (o := 4) hn rfl
  have zf4 := free_of_heap (o := 4) hn
  have z5 := cell_of_heap (o := 5) hn rfl
  have zf5 := free_of_heap (o := 5) hn
  clear hd hn hcm
  go_enter Tryd.func22, Tryd.ntmps22
  go_wp2_with (first | (go_at_call 41; refine (C.out _).mono ?_; rintro e w' ⟨rfl, rfl⟩) | fail)
  refine bodyPost_ret (v := .tuple #[.agg #[.int .i64 7, .int .i64 0, .int .i64 0, .string ⟨#[]⟩, .bool false, .bool false], .int .i64 1]) (by simp [results, Tryd.results22, go_sem]) rfl ?_
  exact ⟨⟨⟨7, 0, []⟩, 1, rfl, .inr ⟨HO.out, by omega⟩⟩, (Below.refl _ _).alloc (Nat.le_refl _) _⟩

set_option linter.unusedVariables false in
set_option maxRecDepth 100000 in
set_option maxHeartbeats 3200000 in
theorem one_stopBlank (s : ByteArray) (p : Nat) (w : World) (hs : s.size ≤ 3000) (hp : p < s.size) (hcm : Lib.hasPrefix (s.data.toList.drop p) [47, 42] = false) (h46 : ((s[p].toNat : Int) == 46) = true) (hl : p + 1 < s.size) (g1 : sortZ (s[p + 1].toNat : Int) = 1) :
    Calls Tryd.prog 22 #[.string s, .int .i64 p] w (AttPost w (tokT (s.data.toList.drop p))) := by
  have hd := drop_at s p hp
  obtain ⟨y, hy⟩ : ∃ y, s[p] = y := ⟨_, rfl⟩
  rw [hy] at hd h46
  have hn : (w.alloc (.cells #[.int .i64 0, .int .i64 0, .int .i64 0, .string ⟨#[]⟩, .bool false, .bool false] 30)).heap[w.heap.size]? = some (.cells #[.int .i64 0, .int .i64 0, .int .i64 0, .string ⟨#[]⟩, .bool false, .bool false] 30 (0, 0)) := new_at _ _ rfl
  have C := Lib.hid (fun w => ref_sort (y.toNat : Int) w (by omega) (by have := y.toNat_lt; omega))
  have hk : sortZ (y.toNat : Int) = 5 := by rw [show (y.toNat : Int) = 46 by simpa using h46]; rfl
  rw [hk] at C
  have hd2 := drop_at s (p + 1) hl
  obtain ⟨x, hx⟩ : ∃ x, s[p + 1] = x := ⟨_, rfl⟩
  rw [hx] at hd2 g1
  have D := Lib.hid (fun w => ref_sort (x.toNat : Int) w (by omega) (by have := x.toNat_lt; omega))
  have HST := Lib.hid (show stopT (s.data.toList.drop p) = some (⟨7, 0, []⟩, 1) by
    rw [hd, hd2]
    simp only [stopT]
    rw [if_pos h46]
    split
    · rfl
    · rw [g1]; rfl)
  rw [g1] at D
  clear hd2 g1
  have HO := Lib.hid (show tokT (s.data.toList.drop p) = some (⟨7, 0, []⟩, 1) by
    unfold tokT
    rw [show stopT (s.data.toList.drop p) = some (⟨7, 0, []⟩, 1) from HST.out]
    rfl)
  have z0 := cell_of_heap (o := 0) hn rfl
  have zf0 := free_of_heap (o := 0) hn
  have z1 := cell_of_heap (o := 1) hn rfl
  have zf1 := free_of_heap (o := 1) hn
  have z2 := cell_of_heap (o := 2) hn rfl
  have zf2 := free_of_heap (o := 2) hn
  have z3 := cell_of_heap (o := 3) hn rfl
  have zf3 := free_of_heap (o := 3) hn
  have z4 := cell_of_heap (o := 4) hn rfl
  have zf4 := free_of_heap (o := 4) hn
  have z5 := cell_of_heap (o := 5) hn rfl
  have zf5 := free_of_heap (o := 5) hn
  clear hd hn hcm
  go_enter Tryd.func22, Tryd.ntmps22
  go_wp2_with (first | (go_at_call_of 41 (Value.int IntKind.u8 (y.toNat : Int)); refine (C.out _).mono ?_; rintro e w' ⟨rfl, rfl⟩) | (go_at_call_of 41 (Value.int IntKind.u8 (x.toNat : Int)); refine (D.out _).mono ?_; rintro e w' ⟨rfl, rfl⟩) | fail)
  refine bodyPost_ret (v := .tuple #[.agg #[.int .i64 7, .int .i64 0, .int .i64 0, .string ⟨#[]⟩, .bool false, .bool false], .int .i64 1]) (by simp [results, Tryd.results22, go_sem]) rfl ?_
  exact ⟨⟨⟨7, 0, []⟩, 1, rfl, .inr ⟨HO.out, by omega⟩⟩, (Below.refl _ _).alloc (Nat.le_refl _) _⟩

set_option linter.unusedVariables false in
set_option maxRecDepth 100000 in
set_option maxHeartbeats 3200000 in
theorem one_stopRem (s : ByteArray) (p : Nat) (w : World) (hs : s.size ≤ 3000) (hp : p < s.size) (hcm : Lib.hasPrefix (s.data.toList.drop p) [47, 42] = false) (h46 : ((s[p].toNat : Int) == 46) = true) (hl : p + 1 < s.size) (g1 : ((s[p + 1].toNat : Int) == 37) = true) :
    Calls Tryd.prog 22 #[.string s, .int .i64 p] w (AttPost w (tokT (s.data.toList.drop p))) := by
  have hd := drop_at s p hp
  obtain ⟨y, hy⟩ : ∃ y, s[p] = y := ⟨_, rfl⟩
  rw [hy] at hd h46
  have hn : (w.alloc (.cells #[.int .i64 0, .int .i64 0, .int .i64 0, .string ⟨#[]⟩, .bool false, .bool false] 30)).heap[w.heap.size]? = some (.cells #[.int .i64 0, .int .i64 0, .int .i64 0, .string ⟨#[]⟩, .bool false, .bool false] 30 (0, 0)) := new_at _ _ rfl
  have C := Lib.hid (fun w => ref_sort (y.toNat : Int) w (by omega) (by have := y.toNat_lt; omega))
  have hk : sortZ (y.toNat : Int) = 5 := by rw [show (y.toNat : Int) = 46 by simpa using h46]; rfl
  rw [hk] at C
  have hd2 := drop_at s (p + 1) hl
  obtain ⟨x, hx⟩ : ∃ x, s[p + 1] = x := ⟨_, rfl⟩
  rw [hx] at hd2 g1
  have D := Lib.hid (fun w => ref_sort (x.toNat : Int) w (by omega) (by have := x.toNat_lt; omega))
  have HST := Lib.hid (show stopT (s.data.toList.drop p) = some (⟨7, 0, []⟩, 1) by
    rw [hd, hd2]
    simp only [stopT]
    rw [if_pos h46, if_pos g1])
  rw [show sortZ (x.toNat : Int) = 7 by rw [show (x.toNat : Int) = 37 by simpa using g1]; rfl] at D
  clear hd2
  have HO := Lib.hid (show tokT (s.data.toList.drop p) = some (⟨7, 0, []⟩, 1) by
    unfold tokT
    rw [show stopT (s.data.toList.drop p) = some (⟨7, 0, []⟩, 1) from HST.out]
    rfl)
  have z0 := cell_of_heap (o := 0) hn rfl
  have zf0 := free_of_heap (o := 0) hn
  have z1 := cell_of_heap (o := 1) hn rfl
  have zf1 := free_of_heap (o := 1) hn
  have z2 := cell_of_heap (o := 2) hn rfl
  have zf2 := free_of_heap (o := 2) hn
  have z3 := cell_of_heap (o := 3) hn rfl
  have zf3 := free_of_heap (o := 3) hn
  have z4 := cell_of_heap (o := 4) hn rfl
  have zf4 := free_of_heap (o := 4) hn
  have z5 := cell_of_heap (o := 5) hn rfl
  have zf5 := free_of_heap (o := 5) hn
  clear hd hn hcm
  go_enter Tryd.func22, Tryd.ntmps22
  go_wp2_with (first | (go_at_call_of 41 (Value.int IntKind.u8 (y.toNat : Int)); refine (C.out _).mono ?_; rintro e w' ⟨rfl, rfl⟩) | (go_at_call_of 41 (Value.int IntKind.u8 (x.toNat : Int)); refine (D.out _).mono ?_; rintro e w' ⟨rfl, rfl⟩) | fail)
  refine bodyPost_ret (v := .tuple #[.agg #[.int .i64 7, .int .i64 0, .int .i64 0, .string ⟨#[]⟩, .bool false, .bool false], .int .i64 1]) (by simp [results, Tryd.results22, go_sem]) rfl ?_
  exact ⟨⟨⟨7, 0, []⟩, 1, rfl, .inr ⟨HO.out, by omega⟩⟩, (Below.refl _ _).alloc (Nat.le_refl _) _⟩

set_option linter.unusedVariables false in
set_option maxRecDepth 100000 in
set_option maxHeartbeats 3200000 in
theorem one_alone (s : ByteArray) (p : Nat) (w : World) (hs : s.size ≤ 3000) (hp : p < s.size) (hcm : Lib.hasPrefix (s.data.toList.drop p) [47, 42] = false) (hk : sortZ (s[p].toNat : Int) = 6) :
    Calls Tryd.prog 22 #[.string s, .int .i64 p] w (AttPost w (tokT (s.data.toList.drop p))) := by
  have hd := drop_at s p hp
  obtain ⟨y, hy⟩ : ∃ y, s[p] = y := ⟨_, rfl⟩
  rw [hy] at hd hk
  have hn : (w.alloc (.cells #[.int .i64 0, .int .i64 0, .int .i64 0, .string ⟨#[]⟩, .bool false, .bool false] 30)).heap[w.heap.size]? = some (.cells #[.int .i64 0, .int .i64 0, .int .i64 0, .string ⟨#[]⟩, .bool false, .bool false] 30 (0, 0)) := new_at _ _ rfl
  have C := Lib.hid (fun w => ref_sort (y.toNat : Int) w (by omega) (by have := y.toNat_lt; omega))
  have h46 : ((y.toNat : Int) == 46) = false := sort_not hk (by decide)
  have h39 : ((y.toNat : Int) == 39) = false := sort_not hk (by decide)
  have h34 : ((y.toNat : Int) == 34) = false := sort_not hk (by decide)
  rw [hk] at C
  have HE := Lib.hid (show s.extract p (p + 1) = ⟨[y].toArray⟩ from bytes_eq (by rw [one_ext s p hp, hy]))
  have HO := Lib.hid (show tokT (s.data.toList.drop p) = some (⟨1, 0, [y]⟩, 1) by
    unfold tokT
    rw [hd]
    rw [stop_sort hk (by decide), letters_sort hk (by decide), signs_sort hk (by decide), alone_yes hk]
    rfl)
  have z0 := cell_of_heap (o := 0) hn rfl
  have zf0 := free_of_heap (o := 0) hn
  have z1 := cell_of_heap (o := 1) hn rfl
  have zf1 := free_of_heap (o := 1) hn
  have z2 := cell_of_heap (o := 2) hn rfl
  have zf2 := free_of_heap (o := 2) hn
  have z3 := cell_of_heap (o := 3) hn rfl
  have zf3 := free_of_heap (o := 3) hn
  have z4 := cell_of_heap (o := 4) hn rfl
  have zf4 := free_of_heap (o := 4) hn
  have z5 := cell_of_heap (o := 5) hn rfl
  have zf5 := free_of_heap (o := 5) hn
  clear hd hn hcm
  go_enter Tryd.func22, Tryd.ntmps22
  go_wp2_with (first | (go_at_call 41; refine (C.out _).mono ?_; rintro e w' ⟨rfl, rfl⟩) | fail)
  refine bodyPost_ret (v := .tuple #[.agg #[.int .i64 1, .int .i64 0, .int .i64 0, .string (s.extract p (p + 1)), .bool false, .bool false], .int .i64 1]) (by simp [results, Tryd.results22, go_sem]) rfl ?_
  exact ⟨⟨⟨1, 0, [y]⟩, 1, by rw [HE.out]; rfl, .inr ⟨HO.out, by omega⟩⟩, (Below.refl _ _).alloc (Nat.le_refl _) _⟩

set_option linter.unusedVariables false in
set_option maxRecDepth 100000 in
set_option maxHeartbeats 3200000 in
theorem one_punct (s : ByteArray) (p : Nat) (w : World) (hs : s.size ≤ 3000) (hp : p < s.size) (hcm : Lib.hasPrefix (s.data.toList.drop p) [47, 42] = false) (hk : sortZ (s[p].toNat : Int) = 7) :
    Calls Tryd.prog 22 #[.string s, .int .i64 p] w (AttPost w (tokT (s.data.toList.drop p))) := by
  have hd := drop_at s p hp
  obtain ⟨y, hy⟩ : ∃ y, s[p] = y := ⟨_, rfl⟩
  rw [hy] at hd hk
  have hn : (w.alloc (.cells #[.int .i64 0, .int .i64 0, .int .i64 0, .string ⟨#[]⟩, .bool false, .bool false] 30)).heap[w.heap.size]? = some (.cells #[.int .i64 0, .int .i64 0, .int .i64 0, .string ⟨#[]⟩, .bool false, .bool false] 30 (0, 0)) := new_at _ _ rfl
  have C := Lib.hid (fun w => ref_sort (y.toNat : Int) w (by omega) (by have := y.toNat_lt; omega))
  have h46 : ((y.toNat : Int) == 46) = false := sort_not hk (by decide)
  have h39 : ((y.toNat : Int) == 39) = false := sort_not hk (by decide)
  have h34 : ((y.toNat : Int) == 34) = false := sort_not hk (by decide)
  rw [hk] at C
  have HE := Lib.hid (show s.extract p (p + 1) = ⟨[y].toArray⟩ from bytes_eq (by rw [one_ext s p hp, hy]))
  have HO := Lib.hid (show tokT (s.data.toList.drop p) = some (⟨6, 0, [y]⟩, 1) by
    unfold tokT
    rw [hd]
    rw [stop_sort hk (by decide), letters_sort hk (by decide), signs_sort hk (by decide), alone_sort hk (by decide), letters_sort hk (by decide), numT_bad (ne_sort hk (by decide)) (dig_none (by rw [hk]; decide)), within_no h39, within_no h34, alone_yes hk]
    rfl)
  have z0 := cell_of_heap (o := 0) hn rfl
  have zf0 := free_of_heap (o := 0) hn
  have z1 := cell_of_heap (o := 1) hn rfl
  have zf1 := free_of_heap (o := 1) hn
  have z2 := cell_of_heap (o := 2) hn rfl
  have zf2 := free_of_heap (o := 2) hn
  have z3 := cell_of_heap (o := 3) hn rfl
  have zf3 := free_of_heap (o := 3) hn
  have z4 := cell_of_heap (o := 4) hn rfl
  have zf4 := free_of_heap (o := 4) hn
  have z5 := cell_of_heap (o := 5) hn rfl
  have zf5 := free_of_heap (o := 5) hn
  clear hd hn hcm
  go_enter Tryd.func22, Tryd.ntmps22
  go_wp2_with (first | (go_at_call 41; refine (C.out _).mono ?_; rintro e w' ⟨rfl, rfl⟩) | fail)
  refine bodyPost_ret (v := .tuple #[.agg #[.int .i64 6, .int .i64 0, .int .i64 0, .string (s.extract p (p + 1)), .bool false, .bool false], .int .i64 1]) (by simp [results, Tryd.results22, go_sem]) rfl ?_
  exact ⟨⟨⟨6, 0, [y]⟩, 1, by rw [HE.out]; rfl, .inr ⟨HO.out, by omega⟩⟩, (Below.refl _ _).alloc (Nat.le_refl _) _⟩

set_option linter.unusedVariables false in
set_option maxRecDepth 100000 in
set_option maxHeartbeats 3200000 in
theorem one_none (s : ByteArray) (p : Nat) (w : World) (hs : s.size ≤ 3000) (hp : p < s.size) (hcm : Lib.hasPrefix (s.data.toList.drop p) [47, 42] = false) (k : Int) (hk : sortZ (s[p].toNat : Int) = k) (hk3 : k = 0 ∨ k = 1 ∨ k = 8) (h39 : ((s[p].toNat : Int) == 39) = false) (h34 : ((s[p].toNat : Int) == 34) = false) :
    Calls Tryd.prog 22 #[.string s, .int .i64 p] w (AttPost w (tokT (s.data.toList.drop p))) := by
  have hd := drop_at s p hp
  obtain ⟨y, hy⟩ : ∃ y, s[p] = y := ⟨_, rfl⟩
  rw [hy] at hd hk h39 h34
  have hn : (w.alloc (.cells #[.int .i64 0, .int .i64 0, .int .i64 0, .string ⟨#[]⟩, .bool false, .bool false] 30)).heap[w.heap.size]? = some (.cells #[.int .i64 0, .int .i64 0, .int .i64 0, .string ⟨#[]⟩, .bool false, .bool false] 30 (0, 0)) := new_at _ _ rfl
  have C := Lib.hid (fun w => ref_sort (y.toNat : Int) w (by omega) (by have := y.toNat_lt; omega))
  have h46 : ((y.toNat : Int) == 46) = false := sort_not hk (by show (5 : Int) ≠ k; omega)
  have HNO := Lib.hid (show tokT (s.data.toList.drop p) = none by rw [hd]; exact tok_no hk hk3 h39 h34)
  rw [hk] at C
  have q2 : ¬ k = 2 := by omega
  have q3 : ¬ k = 3 := by omega
  have q4 : ¬ k = 4 := by omega
  have q5 : ¬ k = 5 := by omega
  have q6 : ¬ k = 6 := by omega
  have q7 : ¬ k = 7 := by omega
  have HO := HNO
  have z0 := cell_of_heap (o := 0) hn rfl
  have zf0 := free_of_heap (o := 0) hn
  have z1 := cell_of_heap (o := 1) hn rfl
  have zf1 := free_of_heap (o := 1) hn
  have z2 := cell_of_heap (o := 2) hn rfl
  have zf2 := free_of_heap (o := 2) hn
  have z3 := cell_of_heap (o := 3) hn rfl
  have zf3 := free_of_heap (o := 3) hn
  have z4 := cell_of_heap (o := 4) hn rfl
  have zf4 := free_of_heap (o := 4) hn
  have z5 := cell_of_heap (o := 5) hn rfl
  have zf5 := free_of_heap (o := 5) hn
  clear hd hn hcm
  go_enter Tryd.func22, Tryd.ntmps22
  go_wp2_with (first | (go_at_call 41; refine (C.out _).mono ?_; rintro e w' ⟨rfl, rfl⟩) | fail)
  refine bodyPost_ret (v := .tuple #[.agg #[.int .i64 0, .int .i64 0, .int .i64 0, .string ⟨#[]⟩, .bool false, .bool false], .int .i64 0]) (by simp [results, Tryd.results22, go_sem]) rfl ?_
  exact ⟨⟨⟨0, 0, []⟩, 0, rfl, .inl ⟨HO.out, rfl⟩⟩, (Below.refl _ _).alloc (Nat.le_refl _) _⟩

end Go.Proofs.YtkbeaddbnnboaaaDoor

namespace Go.Proofs.YtkbeaddbnnboaaaDoor
open Go Go.RowKit Go.Maps

set_option linter.unusedVariables false in
set_option maxRecDepth 100000 in
set_option maxHeartbeats 3200000 in
theorem one_num (s : ByteArray) (p : Nat) (w : World) (hs : s.size ≤ 3000) (hp : p < s.size) (hcm : Lib.hasPrefix (s.data.toList.drop p) [47, 42] = false) (hk : sortZ (s[p].toNat : Int) = 4) :
    Calls Tryd.prog 22 #[.string s, .int .i64 p] w (AttPost w (tokT (s.data.toList.drop p))) := by
  have hd := drop_at s p hp
  obtain ⟨y, hy⟩ : ∃ y, s[p] = y := ⟨_, rfl⟩
  rw [hy] at hd hk
  have hn : (w.alloc (.cells #[.int .i64 0, .int .i64 0, .int .i64 0, .string ⟨#[]⟩, .bool false, .bool false] 30)).heap[w.heap.size]? = some (.cells #[.int .i64 0, .int .i64 0, .int .i64 0, .string ⟨#[]⟩, .bool false, .bool false] 30 (0, 0)) := new_at _ _ rfl
  have C := Lib.hid (fun w => ref_sort (y.toNat : Int) w (by omega) (by have := y.toNat_lt; omega))
  have h46 : ((y.toNat : Int) == 46) = false := sort_not hk (by decide)
  rw [hk] at C
  have NUM := Lib.hid (fun w => ref_number_is s p w hs hp)
  have HT4 := Lib.hid (show tokT (s.data.toList.drop p) = numberT (s.data.toList.drop p) by rw [hd]; exact tok_sort4 hk)
  have z0 := cell_of_heap (o := 0) hn rfl
  have zf0 := free_of_heap (o := 0) hn
  have z1 := cell_of_heap (o := 1) hn rfl
  have zf1 := free_of_heap (o := 1) hn
  have z2 := cell_of_heap (o := 2) hn rfl
  have zf2 := free_of_heap (o := 2) hn
  have z3 := cell_of_heap (o := 3) hn rfl
  have zf3 := free_of_heap (o := 3) hn
  have z4 := cell_of_heap (o := 4) hn rfl
  have zf4 := free_of_heap (o := 4) hn
  have z5 := cell_of_heap (o := 5) hn rfl
  have zf5 := free_of_heap (o := 5) hn
  have HN := Lib.hid hn
  have HB1 : Hid (Below w.heap.size w (w.alloc (.cells #[.int .i64 0, .int .i64 0, .int .i64 0, .string ⟨#[]⟩, .bool false, .bool false] 30))) := (Below.refl _ _).alloc (Nat.le_refl _) _
  clear hd hn hcm
  go_enter Tryd.func22, Tryd.ntmps22
  go_wp2_with (go_at_call 41; refine (C.out _).mono ?_; rintro e w' ⟨rfl, rfl⟩)
  refine (NUM.out _).mono ?_
  rintro e w5 ⟨⟨t, n, rfl, ho⟩, b5⟩
  have h5 := (b5.block _ (heap_lt HN.out)).trans HN.out
  have HB5 := Lib.hid (HB1.out.trans (b5.mono HB1.out.size))
  have HO := Lib.hid ho
  obtain ⟨tk, tn, ts⟩ := t
  obtain ⟨X, hX⟩ : ∃ X : ByteArray, (⟨ts.toArray⟩ : ByteArray) = X := ⟨_, rfl⟩
  have HX := Lib.hid hX
  simp only [hX]
  have H5 := Lib.hid h5
  have y0 := cell_of_heap (o := 0) h5 rfl
  have yf0 := free_of_heap (o := 0) h5
  have y1 := cell_of_heap (o := 1) h5 rfl
  have yf1 := free_of_heap (o := 1) h5
  have y2 := cell_of_heap (o := 2) h5 rfl
  have yf2 := free_of_heap (o := 2) h5
  have y3 := cell_of_heap (o := 3) h5 rfl
  have yf3 := free_of_heap (o := 3) h5
  have y4 := cell_of_heap (o := 4) h5 rfl
  have yf4 := free_of_heap (o := 4) h5
  have y5 := cell_of_heap (o := 5) h5 rfl
  have yf5 := free_of_heap (o := 5) h5
  clear b5 ho hX h5
  go_wp2_with fail
  obtain ⟨e0, e1, e2, e3, e4, e5⟩ := six_cells H5.out (.int .i64 tk) (.int .i64 0) (.int .i64 tn) (.string X) (.bool false) (.bool false)
  refine bodyPost_ret (v := .tuple #[.agg #[.int .i64 tk, .int .i64 0, .int .i64 tn, .string X, .bool false, .bool false], .int .i64 n]) (by simp [results, Tryd.results22, go_sem, e0, e1, e2, e3, e4, e5]) rfl ?_
  refine ⟨⟨⟨tk, tn, ts⟩, n, by rw [HX.out], ?_⟩, below6 HB5.out _ _ _ _ _ _⟩
  rw [HT4.out]
  exact HO.out

set_option linter.unusedVariables false in
set_option maxRecDepth 100000 in
set_option maxHeartbeats 3200000 in
theorem one_q39 (s : ByteArray) (p : Nat) (w : World) (hs : s.size ≤ 3000) (hp : p < s.size) (hcm : Lib.hasPrefix (s.data.toList.drop p) [47, 42] = false) (h39 : ((s[p].toNat : Int) == 39) = true) :
    Calls Tryd.prog 22 #[.string s, .int .i64 p] w (AttPost w (tokT (s.data.toList.drop p))) := by
  have hd := drop_at s p hp
  obtain ⟨y, hy⟩ : ∃ y, s[p] = y := ⟨_, rfl⟩
  rw [hy] at hd h39
  have hn : (w.alloc (.cells #[.int .i64 0, .int .i64 0, .int .i64 0, .string ⟨#[]⟩, .bool false, .bool false] 30)).heap[w.heap.size]? = some (.cells #[.int .i64 0, .int .i64 0, .int .i64 0, .string ⟨#[]⟩, .bool false, .bool false] 30 (0, 0)) := new_at _ _ rfl
  have C := Lib.hid (fun w => ref_sort (y.toNat : Int) w (by omega) (by have := y.toNat_lt; omega))
  obtain rfl : y = 39 := UInt8.toNat_inj.1 (by have := beq_iff_eq.1 h39; show y.toNat = 39; omega)
  have hx : (s.extract (p + 1) s.size).data.toList = s.data.toList.drop (p + 1) := by rw [Lib.extract_data, List.take_of_length_le (by rw [List.length_drop, Lib.size_eq]; omega)]
  have hxs : (s.extract (p + 1) s.size).size ≤ 3000 := by
    have : (s.extract (p + 1) s.size).size = _ := Lib.size_eq _
    rw [this, hx, List.length_drop, ← Lib.size_eq]
    omega
  have G := Lib.hid (fun w => ref_get (s.extract (p + 1) s.size) 39 w (by omega))
  rw [hx] at G
  have HT4 := Lib.hid (show tokT (s.data.toList.drop p) = withinT 39 2 (39 :: s.data.toList.drop (p + 1)) by rw [hd]; exact tok_q39)
  rw [show sortZ ((((39 : UInt8)).toNat : Nat) : Int) = 8 from rfl] at C
  obtain ⟨o, ho⟩ : ∃ o, getL 39 (s.data.toList.drop (p + 1)) = o := ⟨_, rfl⟩
  rw [ho] at G
  have z0 := cell_of_heap (o := 0) hn rfl
  have zf0 := free_of_heap (o := 0) hn
  have z1 := cell_of_heap (o := 1) hn rfl
  have zf1 := free_of_heap (o := 1) hn
  have z2 := cell_of_heap (o := 2) hn rfl
  have zf2 := free_of_heap (o := 2) hn
  have z3 := cell_of_heap (o := 3) hn rfl
  have zf3 := free_of_heap (o := 3) hn
  have z4 := cell_of_heap (o := 4) hn rfl
  have zf4 := free_of_heap (o := 4) hn
  have z5 := cell_of_heap (o := 5) hn rfl
  have zf5 := free_of_heap (o := 5) hn
  have HN := Lib.hid hn
  have HB1 : Hid (Below w.heap.size w (w.alloc (.cells #[.int .i64 0, .int .i64 0, .int .i64 0, .string ⟨#[]⟩, .bool false, .bool false] 30))) := (Below.refl _ _).alloc (Nat.le_refl _) _
  rcases o with _ | ⟨b, k⟩
  · have HO := Lib.hid (show tokT (s.data.toList.drop p) = none by rw [HT4.out]; exact within_bad (by decide) ho)
    unfold GetPost at G
    clear hd hn hcm ho hx h39
    go_enter Tryd.func22, Tryd.ntmps22
    go_wp2_with (go_at_call 41; refine (C.out _).mono ?_; rintro e w' ⟨rfl, rfl⟩)
    refine (G.out _).mono ?_
    rintro e w5 ⟨rfl, b5⟩
    have h5 := (b5.block _ (heap_lt HN.out)).trans HN.out
    have HB5 := Lib.hid (HB1.out.trans (b5.mono HB1.out.size))
    have H5 := Lib.hid h5
    have y0 := cell_of_heap (o := 0) h5 rfl
    have yf0 := free_of_heap (o := 0) h5
    have y1 := cell_of_heap (o := 1) h5 rfl
    have yf1 := free_of_heap (o := 1) h5
    have y2 := cell_of_heap (o := 2) h5 rfl
    have yf2 := free_of_heap (o := 2) h5
    have y3 := cell_of_heap (o := 3) h5 rfl
    have yf3 := free_of_heap (o := 3) h5
    have y4 := cell_of_heap (o := 4) h5 rfl
    have yf4 := free_of_heap (o := 4) h5
    have y5 := cell_of_heap (o := 5) h5 rfl
    have yf5 := free_of_heap (o := 5) h5
    clear b5 h5
    go_wp2_with fail
    obtain ⟨e0, e1, e2, e3, e4, e5⟩ := six_cells H5.out (.int .i64 0) (.int .i64 0) (.int .i64 0) (.string ⟨#[]⟩) (.bool false) (.bool false)
    refine bodyPost_ret (v := .tuple #[.agg #[.int .i64 0, .int .i64 0, .int .i64 0, .string ⟨#[]⟩, .bool false, .bool false], .int .i64 0]) (by simp [results, Tryd.results22, go_sem, e0, e1, e2, e3, e4, e5]) rfl ?_
    exact ⟨⟨⟨0, 0, []⟩, 0, rfl, .inl ⟨HO.out, rfl⟩⟩, below6 HB5.out _ _ _ _ _ _⟩
  · have HO := Lib.hid (show tokT (s.data.toList.drop p) = some (⟨2, 0, b⟩, 1 + k) by rw [HT4.out]; exact within_ok (by decide) ho)
    have hk1 : (k : Int) + 1 = ((1 + k : Nat) : Int) := by omega
    have hkb := (getL_len ho).2.1
    rw [List.length_drop, ← Lib.size_eq] at hkb
    obtain ⟨X, hX⟩ : ∃ X : ByteArray, (⟨b.toArray⟩ : ByteArray) = X := ⟨_, rfl⟩
    have HX := Lib.hid hX
    unfold GetPost at G
    simp only [hX] at G
    clear hd hn hcm ho hx h39 hX
    go_enter Tryd.func22, Tryd.ntmps22
    go_wp2_with (go_at_call 41; refine (C.out _).mono ?_; rintro e w' ⟨rfl, rfl⟩)
    refine (G.out _).mono ?_
    rintro e w5 ⟨rfl, b5⟩
    have h5 := (b5.block _ (heap_lt HN.out)).trans HN.out
    have HB5 := Lib.hid (HB1.out.trans (b5.mono HB1.out.size))
    have H5 := Lib.hid h5
    have y0 := cell_of_heap (o := 0) h5 rfl
    have yf0 := free_of_heap (o := 0) h5
    have y1 := cell_of_heap (o := 1) h5 rfl
    have yf1 := free_of_heap (o := 1) h5
    have y2 := cell_of_heap (o := 2) h5 rfl
    have yf2 := free_of_heap (o := 2) h5
    have y3 := cell_of_heap (o := 3) h5 rfl
    have yf3 := free_of_heap (o := 3) h5
    have y4 := cell_of_heap (o := 4) h5 rfl
    have yf4 := free_of_heap (o := 4) h5
    have y5 := cell_of_heap (o := 5) h5 rfl
    have yf5 := free_of_heap (o := 5) h5
    clear b5 h5
    go_wp2_with fail
    obtain ⟨e0, e1, e2, e3, e4, e5⟩ := six_cells H5.out (.int .i64 2) (.int .i64 0) (.int .i64 0) (.string X) (.bool false) (.bool false)
    refine bodyPost_ret (v := .tuple #[.agg #[.int .i64 2, .int .i64 0, .int .i64 0, .string X, .bool false, .bool false], .int .i64 (1 + k : Nat)]) (by simp [results, Tryd.results22, go_sem, e0, e1, e2, e3, e4, e5]) rfl ?_
    exact ⟨⟨⟨2, 0, b⟩, 1 + k, by rw [HX.out], .inr ⟨HO.out, by omega⟩⟩, below6 HB5.out _ _ _ _ _ _⟩

set_option linter.unusedVariables false in
set_option maxRecDepth 100000 in
set_option maxHeartbeats 3200000 in
theorem one_q34 (s : ByteArray) (p : Nat) (w : World) (hs : s.size ≤ 3000) (hp : p < s.size) (hcm : Lib.hasPrefix (s.data.toList.drop p) [47, 42] = false) (h39 : ((s[p].toNat : Int) == 34) = true) :
    Calls Tryd.prog 22 #[.string s, .int .i64 p] w (AttPost w (tokT (s.data.toList.drop p))) := by
  have hd := drop_at s p hp
  obtain ⟨y, hy⟩ : ∃ y, s[p] = y := ⟨_, rfl⟩
  rw [hy] at hd h39
  have hn : (w.alloc (.cells #[.int .i64 0, .int .i64 0, .int .i64 0, .string ⟨#[]⟩, .bool false, .bool false] 30)).heap[w.heap.size]? = some (.cells #[.int .i64 0, .int .i64 0, .int .i64 0, .string ⟨#[]⟩, .bool false, .bool false] 30 (0, 0)) := new_at _ _ rfl
  have C := Lib.hid (fun w => ref_sort (y.toNat : Int) w (by omega) (by have := y.toNat_lt; omega))
  obtain rfl : y = 34 := UInt8.toNat_inj.1 (by have := beq_iff_eq.1 h39; show y.toNat = 34; omega)
  have hx : (s.extract (p + 1) s.size).data.toList = s.data.toList.drop (p + 1) := by rw [Lib.extract_data, List.take_of_length_le (by rw [List.length_drop, Lib.size_eq]; omega)]
  have hxs : (s.extract (p + 1) s.size).size ≤ 3000 := by
    have : (s.extract (p + 1) s.size).size = _ := Lib.size_eq _
    rw [this, hx, List.length_drop, ← Lib.size_eq]
    omega
  have G := Lib.hid (fun w => ref_get (s.extract (p + 1) s.size) 34 w (by omega))
  rw [hx] at G
  have HT4 := Lib.hid (show tokT (s.data.toList.drop p) = withinT 34 5 (34 :: s.data.toList.drop (p + 1)) by rw [hd]; exact tok_q34)
  rw [show sortZ ((((34 : UInt8)).toNat : Nat) : Int) = 8 from rfl] at C
  obtain ⟨o, ho⟩ : ∃ o, getL 34 (s.data.toList.drop (p + 1)) = o := ⟨_, rfl⟩
  rw [ho] at G
  have z0 := cell_of_heap (o := 0) hn rfl
  have zf0 := free_of_heap (o := 0) hn
  have z1 := cell_of_heap (o := 1) hn rfl
  have zf1 := free_of_heap (o := 1) hn
  have z2 := cell_of_heap (o := 2) hn rfl
  have zf2 := free_of_heap (o := 2) hn
  have z3 := cell_of_heap (o := 3) hn rfl
  have zf3 := free_of_heap (o := 3) hn
  have z4 := cell_of_heap (o := 4) hn rfl
  have zf4 := free_of_heap (o := 4) hn
  have z5 := cell_of_heap (o := 5) hn rfl
  have zf5 := free_of_heap (o := 5) hn
  have HN := Lib.hid hn
  have HB1 : Hid (Below w.heap.size w (w.alloc (.cells #[.int .i64 0, .int .i64 0, .int .i64 0, .string ⟨#[]⟩, .bool false, .bool false] 30))) := (Below.refl _ _).alloc (Nat.le_refl _) _
  rcases o with _ | ⟨b, k⟩
  · have HO := Lib.hid (show tokT (s.data.toList.drop p) = none by rw [HT4.out]; exact within_bad (by decide) ho)
    unfold GetPost at G
    clear hd hn hcm ho hx h39
    go_enter Tryd.func22, Tryd.ntmps22
    go_wp2_with (go_at_call 41; refine (C.out _).mono ?_; rintro e w' ⟨rfl, rfl⟩)
    refine (G.out _).mono ?_
    rintro e w5 ⟨rfl, b5⟩
    have h5 := (b5.block _ (heap_lt HN.out)).trans HN.out
    have HB5 := Lib.hid (HB1.out.trans (b5.mono HB1.out.size))
    have H5 := Lib.hid h5
    have y0 := cell_of_heap (o := 0) h5 rfl
    have yf0 := free_of_heap (o := 0) h5
    have y1 := cell_of_heap (o := 1) h5 rfl
    have yf1 := free_of_heap (o := 1) h5
    have y2 := cell_of_heap (o := 2) h5 rfl
    have yf2 := free_of_heap (o := 2) h5
    have y3 := cell_of_heap (o := 3) h5 rfl
    have yf3 := free_of_heap (o := 3) h5
    have y4 := cell_of_heap (o := 4) h5 rfl
    have yf4 := free_of_heap (o := 4) h5
    have y5 := cell_of_heap (o := 5) h5 rfl
    have yf5 := free_of_heap (o := 5) h5
    clear b5 h5
    go_wp2_with fail
    obtain ⟨e0, e1, e2, e3, e4, e5⟩ := six_cells H5.out (.int .i64 0) (.int .i64 0) (.int .i64 0) (.string ⟨#[]⟩) (.bool false) (.bool false)
    refine bodyPost_ret (v := .tuple #[.agg #[.int .i64 0, .int .i64 0, .int .i64 0, .string ⟨#[]⟩, .bool false, .bool false], .int .i64 0]) (by simp [results, Tryd.results22, go_sem, e0, e1, e2, e3, e4, e5]) rfl ?_
    exact ⟨⟨⟨0, 0, []⟩, 0, rfl, .inl ⟨HO.out, rfl⟩⟩, below6 HB5.out _ _ _ _ _ _⟩
  · have HO := Lib.hid (show tokT (s.data.toList.drop p) = some (⟨5, 0, b⟩, 1 + k) by rw [HT4.out]; exact within_ok (by decide) ho)
    have hk1 : (k : Int) + 1 = ((1 + k : Nat) : Int) := by omega
    have hkb := (getL_len ho).2.1
    rw [List.length_drop, ← Lib.size_eq] at hkb
    obtain ⟨X, hX⟩ : ∃ X : ByteArray, (⟨b.toArray⟩ : ByteArray) = X := ⟨_, rfl⟩
    have HX := Lib.hid hX
    unfold GetPost at G
    simp only [hX] at G
    clear hd hn hcm ho hx h39 hX
    go_enter Tryd.func22, Tryd.ntmps22
    go_wp2_with (go_at_call 41; refine (C.out _).mono ?_; rintro e w' ⟨rfl, rfl⟩)
    refine (G.out _).mono ?_
    rintro e w5 ⟨rfl, b5⟩
    have h5 := (b5.block _ (heap_lt HN.out)).trans HN.out
    have HB5 := Lib.hid (HB1.out.trans (b5.mono HB1.out.size))
    have H5 := Lib.hid h5
    have y0 := cell_of_heap (o := 0) h5 rfl
    have yf0 := free_of_heap (o := 0) h5
    have y1 := cell_of_heap (o := 1) h5 rfl
    have yf1 := free_of_heap (o := 1) h5
    have y2 := cell_of_heap (o := 2) h5 rfl
    have yf2 := free_of_heap (o := 2) h5
    have y3 := cell_of_heap (o := 3) h5 rfl
    have yf3 := free_of_heap (o := 3) h5
    have y4 := cell_of_heap (o := 4) h5 rfl
    have yf4 := free_of_heap (o := 4) h5
    have y5 := cell_of_heap (o := 5) h5 rfl
    have yf5 := free_of_heap (o := 5) h5
    clear b5 h5
    go_wp2_with fail
    obtain ⟨e0, e1, e2, e3, e4, e5⟩ := six_cells H5.out (.int .i64 5) (.int .i64 0) (.int .i64 0) (.string X) (.bool false) (.bool false)
    refine bodyPost_ret (v := .tuple #[.agg #[.int .i64 5, .int .i64 0, .int .i64 0, .string X, .bool false, .bool false], .int .i64 (1 + k : Nat)]) (by simp [results, Tryd.results22, go_sem, e0, e1, e2, e3, e4, e5]) rfl ?_
    exact ⟨⟨⟨5, 0, b⟩, 1 + k, by rw [HX.out], .inr ⟨HO.out, by omega⟩⟩, below6 HB5.out _ _ _ _ _ _⟩

/-- the document's one token, in all its ways -/
theorem ref_one_is (s : ByteArray) (p : Nat) (w : World) (hs : s.size ≤ 3000) (hp : p < s.size) (hcm : Lib.hasPrefix (s.data.toList.drop p) [47, 42] = false) :
    Calls Tryd.prog 22 #[.string s, .int .i64 p] w (AttPost w (tokT (s.data.toList.drop p))) := by
  cases h46 : ((s[p].toNat : Int) == 46) with
  | true =>
    by_cases hl : p + 1 < s.size
    · cases g1 : (sortZ (s[p + 1].toNat : Int) == 1) with
      | true => exact one_stopBlank s p w hs hp hcm h46 hl (by simpa using g1)
      | false =>
        cases g2 : ((s[p + 1].toNat : Int) == 37) with
        | true => exact one_stopRem s p w hs hp hcm h46 hl g2
        | false => exact one_dot s p w hs hp hcm h46 hl g1 g2
    · exact one_stopEnd s p w hs hp hcm h46 hl
  | false =>
    cases h39 : ((s[p].toNat : Int) == 39) with
    | true => exact one_q39 s p w hs hp hcm h39
    | false =>
      cases h34 : ((s[p].toNat : Int) == 34) with
      | true => exact one_q34 s p w hs hp hcm h34
      | false =>
        rcases sort_val (s[p].toNat : Int) with h | h | h | h | h | h | h | h | h
        · exact one_none s p w hs hp hcm _ h (by omega) h39 h34
        · exact one_none s p w hs hp hcm _ h (by omega) h39 h34
        · exact one_low s p w hs hp hcm h
        · exact one_up s p w hs hp hcm h
        · exact one_num s p w hs hp hcm h
        · exact one_sign s p w hs hp hcm h h46
        · exact one_alone s p w hs hp hcm h
        · exact one_punct s p w hs hp hcm h
        · exact one_none s p w hs hp hcm _ h (by omega) h39 h34

end Go.Proofs.YtkbeaddbnnboaaaDoor
