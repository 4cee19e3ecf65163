/- strconv.AppendUint at base 16, of a byte. Conditions: the slice is the call's own; the library's table holds its entry. -/
import Derived.Test.YtkbeaddbnnboaaaDoorNameC
import Derived.Test.YtkbeaddbnnboaaaDoorShelf
import Derived.Lib.AppendIntMem
import Derived.Lib.OwnKind
import Derived.OwnWalk
import Derived.LoopN
import Derived.BigCall
import Derived.BigGuard
import Derived.CellFam
namespace Go.Proofs.YtkbeaddbnnboaaaDoor
open Go Go.RowKit

set_option maxHeartbeats 400000 in
theorem tz_is (w : World) (htab : w.cell? ⟨3, 15, none⟩ = some (.int .u8 4)) :
    Calls Tryd.prog 90 #[.int .u64 16] w fun e w' => e = .returned (.int .i64 4) ∧ w' = w := by
  have key : IntKind.u64.wrap (bits BinOp.and IntKind.u64 16 (IntKind.u64.wrap (-16)) * 285870213051353865) / 288230376151711744 = 15 := by decide +kernel
  go_enter Tryd.func90, Tryd.ntmps90
  go_wp2_with fail
  go_ret
  exact ⟨rfl, rfl⟩
set_option maxHeartbeats 400000 in
theorem tz2_is (w : World) (htab : w.cell? ⟨3, 15, none⟩ = some (.int .u8 4)) :
    Calls Tryd.prog 80 #[.int .u64 16] w fun e w' => e = .returned (.int .i64 4) ∧ w' = w := by
  go_enter Tryd.func80, Tryd.ntmps80
  go_wp2_with fail
  refine (tz_is _ htab).mono ?_
  rintro e w1 ⟨rfl, rfl⟩
  go_wp2_with fail
  go_ret
  exact ⟨rfl, rfl⟩
set_option maxHeartbeats 400000 in
theorem pow_is (w : World) :
    Calls Tryd.prog 79 #[.int .i64 16] w fun e w' => e = .returned (.bool true) ∧ w' = w := by
  go_enter Tryd.func79, Tryd.ntmps79
  go_wp2_with fail
  go_ret
  exact ⟨rfl, rfl⟩


/-- a digit in 16 -/
def hexd (k : Nat) : UInt8 := #[48, 49, 50, 51, 52, 53, 54, 55, 56, 57, 97, 98, 99, 100, 101, 102].getD k 0
def hexL (u : Nat) : List UInt8 := if u < 16 then [hexd u] else [hexd (u / 16), hexd (u % 16)]
theorem hexd_at : ∀ k : Fin 16, (ByteArray.mk #[48, 49, 50, 51, 52, 53, 54, 55, 56, 57, 97, 98, 99, 100, 101, 102, 103, 104, 105, 106, 107, 108, 109, 110, 111, 112, 113, 114, 115, 116, 117, 118, 119, 120, 121, 122])[k.val]'(by have := k.isLt; show k.val < 36; omega) = hexd k.val := by decide +kernel
theorem byteInfo : (Tryd.prog.info? 5).map (fun i => (i.zero, i.size, i.bytes)) = some (some (.int .u8 0), 1, 1) := by kernel_rfl
abbrev bc (l : List UInt8) : List Value := l.map fun b => Value.int .u8 (b.toNat : Int)

set_option maxHeartbeats 800000 in
theorem format_low (B n u : Nat) (hu : u < 16) (sv : Value) (xs : List Value) (w : World) (hown : w.ownsRow B 5 1 sv n xs) (hBw : B ≤ w.heap.size) (hlim : n ≤ 100000)
    (htab : w.cell? ⟨3, 15, none⟩ = some (.int .u8 4)) (hg : 3 < w.heap.size) :
    Calls Tryd.prog 68 #[sv, .int .u64 u, .int .i64 16, .bool false, .bool true] w fun e w' => ∃ v', e = .returned (.tuple #[v', .string ⟨#[]⟩]) ∧ w'.ownsRow B 5 1 v' (n + 1) (xs ++ bc [hexd u]) ∧ Below B w w' := by
  have T := Lib.hid (fun (w1 : World) (h : w1.cell? ⟨3, 15, none⟩ = some (.int .u8 4)) => tz2_is w1 h)
  have hd := hexd_at ⟨u, hu⟩
  simp only at hd
  obtain ⟨D, hD⟩ : ∃ D, hexd u = D := ⟨_, rfl⟩
  rw [hD] at hd ⊢
  clear hD
  have hu' : (u : Int) < 16 := by omega
  have hd' : decide (16 ≤ (u : Int)) = false := by simp; omega
  obtain ⟨i0, hi, hz0, hz1, hz2⟩ := info_parts byteInfo
  have HOWN := Lib.hid hown
  clear hown
  go_enter Tryd.func68, Tryd.ntmps68
  go_wp2_with fail
  refine (pow_is _).mono ?_
  rintro e w1 ⟨rfl, rfl⟩
  go_wp2_with fail
  refine (T.out _ ?_).mono ?_
  · go_simp
  rintro e w1 ⟨rfl, rfl⟩
  clear T htab hg
  go_wp2_with fail
  refine wp_loop_rounds 1 ?_
  rw [rounds_succ]
  go_wp2_with (at_builtin; refine wpList_append_own _ rfl _ _ 38 rfl B 5 i0 (.int .u8 0) 1 1 Tryd.underlying38 hi hz0 hz1 hz2 rfl (by decide) _ _ _ rfl (HOWN.out.alloc _) ⟨w.heap.size, 64, none⟩ 1 1 [.int .u8 (D.toNat : Int)] rfl rfl ?c1 ?c2 ?c3 ?c4 ?c5 ?_)
  case c1 =>
    intro j u' hj
    obtain rfl : j = 0 := by
      rcases j with _ | j
      · rfl
      · simp at hj
    simp at hj
    subst hj
    go_simp
  case c2 => intro u hu; simp at hu; subst hu; rfl
  case c3 => unfold maxLen; omega
  case c4 => omega
  case c5 => simp; omega
  intro v2 w3 hown' hgrow _
  go_wp2
  go_ret2
  exact ⟨v2, rfl, hown', ((Below.refl B _).alloc hBw _).grown hgrow (by simp; omega) (fun k hk => (HOWN.out.lt k hk).1)⟩

theorem and_15 : ∀ k : Fin 256, bits BinOp.and IntKind.u64 (k.val : Int) 15 = ((k.val % 16 : Nat) : Int) := by decide +kernel

set_option maxHeartbeats 800000 in
set_option maxRecDepth 100000 in
theorem format_high (B n u : Nat) (hl : 16 ≤ u) (hu : u < 256) (sv : Value) (xs : List Value) (w : World) (hown : w.ownsRow B 5 1 sv n xs) (hBw : B ≤ w.heap.size) (hlim : n ≤ 100000)
    (htab : w.cell? ⟨3, 15, none⟩ = some (.int .u8 4)) (hg : 3 < w.heap.size) :
    Calls Tryd.prog 68 #[sv, .int .u64 u, .int .i64 16, .bool false, .bool true] w fun e w' => ∃ v', e = .returned (.tuple #[v', .string ⟨#[]⟩]) ∧ w'.ownsRow B 5 1 v' (n + 2) (xs ++ bc [hexd (u / 16), hexd (u % 16)]) ∧ Below B w w' := by
  have T := Lib.hid (fun (w1 : World) (h : w1.cell? ⟨3, 15, none⟩ = some (.int .u8 4)) => tz2_is w1 h)
  have hd := hexd_at ⟨u / 16, by omega⟩
  have hf := hexd_at ⟨u % 16, by omega⟩
  have ha := and_15 ⟨u, hu⟩
  simp only at hd hf ha
  obtain ⟨D, hD⟩ : ∃ D, hexd (u / 16) = D := ⟨_, rfl⟩
  obtain ⟨F, hF⟩ : ∃ F, hexd (u % 16) = F := ⟨_, rfl⟩
  rw [hD] at hd ⊢
  rw [hF] at hf ⊢
  clear hD hF
  have hd' : decide (16 ≤ (u : Int)) = true := by simp; omega
  have hd2 : decide (16 ≤ (u : Int) / 16) = false := by simp; omega
  have hu2 : u / 16 < 16 := by omega
  have hu3 : u % 16 < 16 := by omega
  have hu4 : (u : Int) < 256 := by omega
  obtain ⟨i0, hi, hz0, hz1, hz2⟩ := info_parts byteInfo
  have HOWN := Lib.hid hown
  clear hown
  go_enter Tryd.func68, Tryd.ntmps68
  go_wp2_with fail
  refine (pow_is _).mono ?_
  rintro e w1 ⟨rfl, rfl⟩
  go_wp2_with fail
  refine (T.out _ ?_).mono ?_
  · go_simp
  rintro e w1 ⟨rfl, rfl⟩
  clear T htab hg
  go_wp2_with fail
  refine wp_loop_rounds 2 ?_
  rw [rounds_succ]
  go_wp2_with fail
  rw [rounds_succ]
  go_wp2_with (at_builtin; refine wpList_append_own _ rfl _ _ 38 rfl B 5 i0 (.int .u8 0) 1 1 Tryd.underlying38 hi hz0 hz1 hz2 rfl (by decide) _ _ _ rfl (HOWN.out.alloc _) ⟨w.heap.size, 63, none⟩ 2 2 [.int .u8 (D.toNat : Int), .int .u8 (F.toNat : Int)] rfl rfl ?c1 ?c2 ?c3 ?c4 ?c5 ?_)
  case c1 =>
    intro j u' hj
    rcases j with _ | _ | j
    · simp at hj
      subst hj
      go_simp
    · simp at hj
      subst hj
      go_simp
    · simp at hj
  case c2 => intro u hu; simp at hu; rcases hu with rfl | rfl <;> rfl
  case c3 => unfold maxLen; omega
  case c4 => omega
  case c5 => simp; omega
  intro v2 w3 hown' hgrow _
  go_wp2
  go_ret2
  exact ⟨v2, rfl, hown', ((Below.refl B _).alloc hBw _).grown hgrow (by simp; omega) (fun k hk => (HOWN.out.lt k hk).1)⟩

theorem cell_lt {w : World} {a : Addr} {v : Value} (h : w.cell? a = some v) : a.block < w.heap.size := by
  rcases Nat.lt_or_ge a.block w.heap.size with h' | h'
  · exact h'
  · unfold World.cell? at h
    rw [Array.getElem?_eq_none h'] at h
    simp at h

theorem format_is (B n u : Nat) (hu : u < 256) (sv : Value) (xs : List Value) (w : World) (hown : w.ownsRow B 5 1 sv n xs) (hBw : B ≤ w.heap.size) (hlim : n ≤ 100000)
    (htab : w.cell? ⟨3, 15, none⟩ = some (.int .u8 4)) :
    Calls Tryd.prog 68 #[sv, .int .u64 u, .int .i64 16, .bool false, .bool true] w fun e w' => ∃ v', e = .returned (.tuple #[v', .string ⟨#[]⟩]) ∧ w'.ownsRow B 5 1 v' (n + (hexL u).length) (xs ++ bc (hexL u)) ∧ Below B w w' := by
  unfold hexL
  by_cases h : u < 16
  · rw [if_pos h]
    exact format_low B n u h sv xs w hown hBw hlim htab (cell_lt htab)
  · rw [if_neg h]
    exact format_high B n u (by omega) hu sv xs w hown hBw hlim htab (cell_lt htab)

set_option maxHeartbeats 400000 in
theorem inner_append (B n u : Nat) (hu : u < 256) (sv : Value) (xs : List Value) (w : World) (hown : w.ownsRow B 5 1 sv n xs) (hBw : B ≤ w.heap.size) (hlim : n ≤ 100000)
    (htab : w.cell? ⟨3, 15, none⟩ = some (.int .u8 4)) :
    Calls Tryd.prog 47 #[sv, .int .u64 u, .int .i64 16] w fun e w' => ∃ v', e = .returned v' ∧ w'.ownsRow B 5 1 v' (n + (hexL u).length) (xs ++ bc (hexL u)) ∧ Below B w w' := by
  have C := Lib.hid (format_is B n u hu sv xs w hown hBw hlim htab)
  clear hown htab
  go_enter Tryd.func47, Tryd.ntmps47
  go_wp2_with fail
  refine C.out.mono ?_
  rintro e w1 ⟨v', rfl, h1, h2⟩
  go_wp2_with fail
  go_ret
  exact ⟨v', rfl, h1, h2⟩

set_option maxHeartbeats 400000 in
theorem append_is (B n u : Nat) (hu : u < 256) (sv : Value) (xs : List Value) (w : World) (hown : w.ownsRow B 5 1 sv n xs) (hBw : B ≤ w.heap.size) (hlim : n ≤ 100000)
    (htab : w.cell? ⟨3, 15, none⟩ = some (.int .u8 4)) :
    Calls Tryd.prog 25 #[sv, .int .u64 u, .int .i64 16] w fun e w' => ∃ v', e = .returned v' ∧ w'.ownsRow B 5 1 v' (n + (hexL u).length) (xs ++ bc (hexL u)) ∧ Below B w w' := by
  have C := Lib.hid (inner_append B n u hu sv xs w hown hBw hlim htab)
  clear hown htab
  go_enter Tryd.func25, Tryd.ntmps25
  go_wp2_with fail
  refine C.out.mono ?_
  rintro e w1 ⟨v', rfl, h1, h2⟩
  go_wp2_with fail
  go_ret
  exact ⟨v', rfl, h1, h2⟩

end Go.Proofs.YtkbeaddbnnboaaaDoor
