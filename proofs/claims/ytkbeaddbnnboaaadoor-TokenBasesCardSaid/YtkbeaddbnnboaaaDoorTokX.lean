/- The law TokenBases returns true for every input: its walk. Conditions: the library's variables hold what their text lays. -/
import Derived.Test.YtkbeaddbnnboaaaDoorTokW
namespace Go.Proofs.YtkbeaddbnnboaaaDoor
open Go Go.RowKit Go.Maps

theorem lexV_at (X : ByteArray) (l : List UInt8) (v : Int) (hX : X.data.toList = l) (h : lexN l 1 0 = lexV v) (hl : X.size ≤ 5000) (w : World) (ht : Lay w) :
    Calls Tryd.prog 9 #[.string X] w fun e w' => (∃ g cap, e = .returned (.tuple #[.slice (some ⟨g, 0, none⟩) 2 cap, .int .i64 0, .int .i64 0]) ∧ (2 ≤ cap ∧ cap ≤ 9223372036854775807) ∧ w'.cell? ⟨g, 0, none⟩ = some (.int .i64 3) ∧ w'.cell? ⟨g, 2, none⟩ = some (.int .i64 v)) ∧ Below w.heap.size w w' := by
  have := lex_at X.data.toList (lexV v) (by rw [hX]; exact h) (by rw [← Lib.size_eq]; exact hl) 2 0 0 rfl rfl rfl (by decide) w ht
  rw [bytes_back] at this
  refine this.mono ?_
  rintro e w' ⟨⟨g, cap, rfl, _, r⟩, hb⟩
  exact ⟨⟨g, cap, rfl, ⟨r.fits, r.max⟩, r.cell 0 _ rfl, r.cell 2 _ rfl⟩, hb⟩

set_option maxRecDepth 100000 in
set_option maxHeartbeats 3200000 in
theorem bases_walk (n c : Int) (W : World) (hn0 : 0 ≤ n) (hn1 : n ≤ 4294967295) (hc0 : 0 ≤ c) (hc1 : c ≤ 255) (ht : Lay W) :
    Calls Tryd.prog 7 #[.int .u32 n, .int .u8 c] W fun e w' => e = .returned (.bool true) ∧ Below W.heap.size W w' := by
  obtain ⟨n, rfl⟩ : ∃ k : Nat, n = k := ⟨n.toNat, by omega⟩
  have hn : n < 4294967296 := by omega
  clear hn0 hn1
  obtain ⟨W0, hW0⟩ : ∃ W0, W.alloc (.cells #[.int .u32 n] 32) = W0 := ⟨_, rfl⟩
  have hb0 : Below W.heap.size W W0 := by rw [← hW0]; exact (Below.refl _ _).alloc (Nat.le_refl _) _
  have hbox : W0.cell? ⟨W.heap.size, 0, none⟩ = some (.int .u32 n) := by
    rw [← hW0]
    exact cell_of_heap (heap_alloc_new _ _) rfl
  have hlt : W.heap.size < W0.heap.size := by rw [← hW0]; show _ < (W.heap.push _).size; rw [Array.size_push]; omega
  have BOX : Hid (∀ w, Below W0.heap.size W0 w → w.cell? ⟨W.heap.size, 0, none⟩ = some (.int .u32 n)) := fun w hb => (hb.cell (p := ⟨W.heap.size, 0, none⟩) hlt).trans hbox
  have HT := Lib.hid (ht.on hb0)
  have B0 := Lib.hid hb0
  have HW0 := Lib.hid hW0
  clear ht hb0 hbox hlt hW0
  go_enter Tryd.func7, Tryd.ntmps7
  go_wp2_with fail
  rw [HW0.out]
  refine (alive_is _ HT.out).mono ?_
  rintro e w1 ⟨rfl, b1⟩
  have T1 := Lib.hid (HT.out.on b1)
  have B1 := Lib.hid b1
  clear b1
  go_wp2_with fail
  refine (basis_is 10 n W.heap.size _ (by omega) hn (BOX.out _ B1.out)).mono ?_
  rintro e w2 ⟨rfl, b2⟩
  obtain ⟨D1, hD1⟩ : ∃ D : ByteArray, ⟨(digL 10 33 n).toArray⟩ = D := ⟨_, rfl⟩
  rw [hD1]
  have hl1 : D1.data.toList = digL 10 33 n := by rw [← hD1]
  have hs1 : D1.size ≤ 34 := by rw [Lib.size_eq, hl1]; exact digL_len 10 33 n
  have T2 := Lib.hid (T1.out.on b2)
  have B2 := Lib.hid (bt B1.out b2)
  have LX1 := Lib.hid (lexV_at (D1 ++ ⟨#[32]⟩) (digL 10 33 n ++ [32]) n (by rw [ByteArray.data_append, Array.toList_append, hl1]) (lex_ten (Nat.lt_of_lt_of_le hn (by omega)) hn) (by simp only [ByteArray.size_append]; show D1.size + 1 ≤ 5000; omega))
  clear hl1 hD1 b2
  go_wp2_with fail
  refine (basis_is 16 n W.heap.size _ (by omega) hn (BOX.out _ B2.out)).mono ?_
  rintro e w3 ⟨rfl, b3⟩
  obtain ⟨D2, hD2⟩ : ∃ D : ByteArray, ⟨(digL 16 33 n).toArray⟩ = D := ⟨_, rfl⟩
  rw [hD2]
  have hl2 : D2.data.toList = digL 16 33 n := by rw [← hD2]
  have hs2 : D2.size ≤ 34 := by rw [Lib.size_eq, hl2]; exact digL_len 16 33 n
  have T3 := Lib.hid (T2.out.on b3)
  have B3 := Lib.hid (bt B2.out b3)
  have LX2 := Lib.hid (lexV_at (⟨#[48, 120]⟩ ++ D2 ++ ⟨#[32]⟩) ([48, 120] ++ digL 16 33 n ++ [32]) n (by rw [ByteArray.data_append, Array.toList_append, ByteArray.data_append, Array.toList_append, hl2]) (lex_hex (Nat.lt_of_lt_of_le hn (by omega)) hn) (by simp only [ByteArray.size_append]; show 2 + D2.size + 1 ≤ 5000; omega))
  clear hl2 hD2 b3
  go_wp2_with fail
  refine (basis_is 8 n W.heap.size _ (by omega) hn (BOX.out _ B3.out)).mono ?_
  rintro e w4 ⟨rfl, b4⟩
  obtain ⟨D3, hD3⟩ : ∃ D : ByteArray, ⟨(digL 8 33 n).toArray⟩ = D := ⟨_, rfl⟩
  rw [hD3]
  have hl3 : D3.data.toList = digL 8 33 n := by rw [← hD3]
  have hs3 : D3.size ≤ 34 := by rw [Lib.size_eq, hl3]; exact digL_len 8 33 n
  have T4 := Lib.hid (T3.out.on b4)
  have B4 := Lib.hid (bt B3.out b4)
  have LX3 := Lib.hid (lexV_at (⟨#[48, 111]⟩ ++ D3 ++ ⟨#[32]⟩) ([48, 111] ++ digL 8 33 n ++ [32]) n (by rw [ByteArray.data_append, Array.toList_append, ByteArray.data_append, Array.toList_append, hl3]) (lex_oct (Nat.lt_of_lt_of_le hn (by omega)) hn) (by simp only [ByteArray.size_append]; show 2 + D3.size + 1 ≤ 5000; omega))
  clear hl3 hD3 b4
  go_wp2_with fail
  refine (basis_is 2 n W.heap.size _ (by omega) hn (BOX.out _ B4.out)).mono ?_
  rintro e w5 ⟨rfl, b5⟩
  obtain ⟨D4, hD4⟩ : ∃ D : ByteArray, ⟨(digL 2 33 n).toArray⟩ = D := ⟨_, rfl⟩
  rw [hD4]
  have hl4 : D4.data.toList = digL 2 33 n := by rw [← hD4]
  have hs4 : D4.size ≤ 34 := by rw [Lib.size_eq, hl4]; exact digL_len 2 33 n
  have T5 := Lib.hid (T4.out.on b5)
  have B5 := Lib.hid (bt B4.out b5)
  have LX4 := Lib.hid (lexV_at (⟨#[48, 98]⟩ ++ D4 ++ ⟨#[32]⟩) ([48, 98] ++ digL 2 33 n ++ [32]) n (by rw [ByteArray.data_append, Array.toList_append, ByteArray.data_append, Array.toList_append, hl4]) (lex_bin (Nat.lt_of_lt_of_le hn (by omega)) hn) (by simp only [ByteArray.size_append]; show 2 + D4.size + 1 ≤ 5000; omega))
  clear hl4 hD4 b5
  go_wp2_with fail
  have START : Hid (Lay w5) ∧ Hid (Below W0.heap.size W0 w5) := ⟨T5, B5⟩
  clear T1 T2 T3 T4 T5 B1 B2 B3 B4 B5 HT
  go_loopw [29] (fun vi wr => ∃ i : Nat, vi = .int .i64 i ∧ i ≤ 4 ∧ Hid (Lay wr) ∧ Hid (Below W0.heap.size W0 wr)) (fun vi _ => 4 - (intOf vi).toNat)
  case atStart => exact ⟨0, rfl, Nat.zero_le _, START⟩
  case round =>
    obtain ⟨i, rfl, hi, HL, HB⟩ := hrel
    obtain rfl | rfl | rfl | rfl | rfl : i = 0 ∨ i = 1 ∨ i = 2 ∨ i = 3 ∨ i = 4 := by omega
    · have ix : ∀ w, (Instr.index 37 (.agg #[.string (D1), .string (⟨#[48, 120]⟩ ++ D2), .string (⟨#[48, 111]⟩ ++ D3), .string (⟨#[48, 98]⟩ ++ D4)]) (.int .i64 0)).run Tryd.prog w = .ok (.string (D1)) w := fun _ => by kernel_rfl
      go_wp2_with fail
      refine (LX1.out _ HL.out).mono ?_
      rintro e w7 ⟨⟨g, cp, rfl, ⟨k1, k2⟩, y0, y2⟩, b7⟩
      have z := BOX.out _ (bt HB.out b7)
      have HL7 := Lib.hid (HL.out.on b7)
      have HB7 := Lib.hid (bt HB.out b7)
      clear b7
      go_wp2_with fail
      go_quiet (fail)
      have BK : Below w7.heap.size w7 (w7.drewN nq) := ⟨rfl, rfl, rfl, Nat.le_refl _, fun _ _ => rfl⟩
      have HL8 := Lib.hid (HL7.out.on BK)
      have HB8 := Lib.hid (bt HB7.out BK)
      clear BK
      go_wp2_with fail
      go_round
      case rel => exact ⟨1, rfl, by omega, HL8, HB8⟩
      case measure => simp [intOf]
    · have ix : ∀ w, (Instr.index 37 (.agg #[.string (D1), .string (⟨#[48, 120]⟩ ++ D2), .string (⟨#[48, 111]⟩ ++ D3), .string (⟨#[48, 98]⟩ ++ D4)]) (.int .i64 1)).run Tryd.prog w = .ok (.string (⟨#[48, 120]⟩ ++ D2)) w := fun _ => by kernel_rfl
      go_wp2_with fail
      refine (LX2.out _ HL.out).mono ?_
      rintro e w7 ⟨⟨g, cp, rfl, ⟨k1, k2⟩, y0, y2⟩, b7⟩
      have z := BOX.out _ (bt HB.out b7)
      have HL7 := Lib.hid (HL.out.on b7)
      have HB7 := Lib.hid (bt HB.out b7)
      clear b7
      go_wp2_with fail
      go_quiet (fail)
      have BK : Below w7.heap.size w7 (w7.drewN nq) := ⟨rfl, rfl, rfl, Nat.le_refl _, fun _ _ => rfl⟩
      have HL8 := Lib.hid (HL7.out.on BK)
      have HB8 := Lib.hid (bt HB7.out BK)
      clear BK
      go_wp2_with fail
      go_round
      case rel => exact ⟨2, rfl, by omega, HL8, HB8⟩
      case measure => simp [intOf]
    · have ix : ∀ w, (Instr.index 37 (.agg #[.string (D1), .string (⟨#[48, 120]⟩ ++ D2), .string (⟨#[48, 111]⟩ ++ D3), .string (⟨#[48, 98]⟩ ++ D4)]) (.int .i64 2)).run Tryd.prog w = .ok (.string (⟨#[48, 111]⟩ ++ D3)) w := fun _ => by kernel_rfl
      go_wp2_with fail
      refine (LX3.out _ HL.out).mono ?_
      rintro e w7 ⟨⟨g, cp, rfl, ⟨k1, k2⟩, y0, y2⟩, b7⟩
      have z := BOX.out _ (bt HB.out b7)
      have HL7 := Lib.hid (HL.out.on b7)
      have HB7 := Lib.hid (bt HB.out b7)
      clear b7
      go_wp2_with fail
      go_quiet (fail)
      have BK : Below w7.heap.size w7 (w7.drewN nq) := ⟨rfl, rfl, rfl, Nat.le_refl _, fun _ _ => rfl⟩
      have HL8 := Lib.hid (HL7.out.on BK)
      have HB8 := Lib.hid (bt HB7.out BK)
      clear BK
      go_wp2_with fail
      go_round
      case rel => exact ⟨3, rfl, by omega, HL8, HB8⟩
      case measure => simp [intOf]
    · have ix : ∀ w, (Instr.index 37 (.agg #[.string (D1), .string (⟨#[48, 120]⟩ ++ D2), .string (⟨#[48, 111]⟩ ++ D3), .string (⟨#[48, 98]⟩ ++ D4)]) (.int .i64 3)).run Tryd.prog w = .ok (.string (⟨#[48, 98]⟩ ++ D4)) w := fun _ => by kernel_rfl
      go_wp2_with fail
      refine (LX4.out _ HL.out).mono ?_
      rintro e w7 ⟨⟨g, cp, rfl, ⟨k1, k2⟩, y0, y2⟩, b7⟩
      have z := BOX.out _ (bt HB.out b7)
      have HL7 := Lib.hid (HL.out.on b7)
      have HB7 := Lib.hid (bt HB.out b7)
      clear b7
      go_wp2_with fail
      go_quiet (fail)
      have BK : Below w7.heap.size w7 (w7.drewN nq) := ⟨rfl, rfl, rfl, Nat.le_refl _, fun _ _ => rfl⟩
      have HL8 := Lib.hid (HL7.out.on BK)
      have HB8 := Lib.hid (bt HB7.out BK)
      clear BK
      go_wp2_with fail
      go_round
      case rel => exact ⟨4, rfl, by omega, HL8, HB8⟩
      case measure => simp [intOf]
    · have HBW := Lib.hid (B0.out.trans (HB.out.mono B0.out.size))
      by_cases hc : c = 39 ∨ c = 92 ∨ c = 10
      · rcases hc with rfl | rfl | rfl
        all_goals
          go_wp2_with fail
          go_ret
          exact ⟨rfl, HBW.out⟩
      · obtain ⟨y, rfl⟩ : ∃ y : UInt8, c = (y.toNat : Int) := ⟨UInt8.ofNat c.toNat, by rw [UInt8.toNat_ofNat']; omega⟩
        have LC := Lib.hid (lexV_at (⟨#[48, 39]⟩ ++ ⟨#[y]⟩ ++ ⟨#[32]⟩) [48, 39, y, 32] y.toNat rfl (lex_char y (fun h => hc (by rw [h]; decide)) (fun h => hc (by rw [h]; decide)) (fun h => hc (by rw [h]; decide))) (by show 2 + 1 + 1 ≤ 5000; omega))
        have c1 : ((y.toNat : Int) == 39) = false := by rw [beq_eq_false_iff_ne]; exact fun h => hc (.inl h)
        have c2 : ((y.toNat : Int) == 92) = false := by rw [beq_eq_false_iff_ne]; exact fun h => hc (.inr (.inl h))
        have c3 : ((y.toNat : Int) == 10) = false := by rw [beq_eq_false_iff_ne]; exact fun h => hc (.inr (.inr h))
        have cv : (convert 38 9 (.slice (some ⟨wr.heap.size, 0, none⟩) 1 1)).run Tryd.prog (wr.alloc (.cells #[.int .u8 y.toNat] 5)) = .ok (.string ⟨#[y]⟩) (wr.alloc (.cells #[.int .u8 y.toNat] 5)) := by
          refine run_convert_bytes_back _ 38 9 5 ⟨wr.heap.size, 0, none⟩ 1 [y] Tryd.underlying38 Tryd.underlying5 Tryd.underlying9 fun j hj => ?_
          obtain rfl : j = 0 := by simpa using hj
          exact cell_of_heap (heap_alloc_new _ _) rfl
        clear hc LX1 LX2 LX3 LX4
        go_wp2_with fail
        have HA : Hid (Below wr.heap.size wr (wr.alloc (.cells #[.int .u8 y.toNat] 5))) := (Below.refl _ _).alloc (Nat.le_refl _) _
        clear cv
        refine (LC.out _ (HL.out.on HA.out)).mono ?_
        rintro e w7 ⟨⟨g, cp, rfl, ⟨k1, k2⟩, y0, y2⟩, b7⟩
        have HB7 := Lib.hid (bt (bt HBW.out HA.out) b7)
        clear b7 HA LC HBW HL HB START
        go_wp2_with fail
        go_ret
        exact ⟨rfl, HB7.out⟩

end Go.Proofs.YtkbeaddbnnboaaaDoor
