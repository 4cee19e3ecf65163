/- The document's answer: how an atom is written. Conditions: the text has at most 4000 bytes. -/
import Derived.Test.YtnkkenchabcpoaaDoorNameI
import Derived.Test.YtnkkenchabcpoaaDoorNameS
import Derived.Test.YtnkkenchabcpoaaDoorNameEscapes
import Derived.Test.YtnkkenchabcpoaaDoorNameBack
import Derived.Lib.AppendStr
namespace Go.Proofs.YtnkkenchabcpoaaDoor
open Go Go.RowKit Go.Maps

theorem str_cells (s : ByteArray) : Lib.strCells s = bc s.data.toList := rfl
set_option maxHeartbeats 400000 in
theorem hex_low (u : Nat) (hu : u < 16) (w : World) : Calls Tryd.prog 25 #[.int .i64 u] w fun e w' => e = .returned (.string ⟨#[hexd u]⟩) ∧ w' = w := by
  have h1 : (u : Int) < 16 := by omega
  have hx := ext_hex ⟨u, hu⟩
  have he := ext_bytes hx
  simp only at he
  obtain ⟨D, hD⟩ : ∃ D, hexd u = D := ⟨_, rfl⟩
  rw [hD] at he ⊢
  have HE := Lib.hid he
  clear hx hD he
  go_enter Tryd.func25, Tryd.ntmps25
  go_wp2_with fail
  go_ret
  exact ⟨by show Ending.returned (.string _) = _; rw [HE.out], rfl⟩
set_option maxHeartbeats 400000 in
theorem hex_is (u : Nat) (hu : u < 256) (w : World) : Calls Tryd.prog 25 #[.int .i64 u] w fun e w' => e = .returned (.string ⟨(hexL u).toArray⟩) ∧ ∃ q, w' = w.drewN q := by
  by_cases h : u < 16
  · refine (hex_low u h w).mono fun e w' ⟨h1, h2⟩ => ⟨?_, 0, h2⟩
    rw [h1]
    unfold hexL
    rw [if_pos h]
  · have h1 : ¬ (u : Int) < 16 := by omega
    have c1 := fun w => hex_low (u / 16) (by omega) w
    have c2 := fun w => hex_low (u % 16) (by omega) w
    rw [show ((u / 16 : Nat) : Int) = (u : Int) / 16 by omega] at c1
    rw [show ((u % 16 : Nat) : Int) = (u : Int) % 16 by omega] at c2
    have hl : hexL u = [hexd (u / 16), hexd (u % 16)] := by unfold hexL; rw [if_neg h]
    rw [hl]
    have h2 : (u : Int) < 256 := by omega
    generalize hexd (u / 16) = x at *
    generalize hexd (u % 16) = y at *
    have C1 := Lib.hid c1
    have C2 := Lib.hid c2
    clear c1 c2 hl
    go_enter Tryd.func25, Tryd.ntmps25
    go_wp2_with fail
    refine (C1.out _).mono ?_
    rintro e w' ⟨rfl, hw⟩
    obtain rfl := hw.symm
    go_wp2_with fail
    refine (C2.out _).mono ?_
    rintro e w' ⟨rfl, hw⟩
    obtain rfl := hw.symm
    go_wp2_with fail
    go_ret
    exact ⟨rfl, 0, rfl⟩

set_option maxHeartbeats 1600000 in
theorem ref_put_quoted (s : ByteArray) (w : World) (hs : s.size ≤ 4000) (hp : plainB s.data.toList = false) :
    Calls Tryd.prog 15 #[.string s] w fun e w' => e = .returned (.string ⟨(putB s.data.toList ++ [39]).toArray⟩) ∧ Below w.heap.size w w' := by
  have P := Lib.hid (fun w => ref_plain s w hs)
  rw [hp] at P
  clear hp
  obtain ⟨i0, hi, hz0, hz1, hz2⟩ := info_parts byteInfo
  go_enter Tryd.func15, Tryd.ntmps15
  go_wp2_with fail
  refine (P.out _).mono ?_
  rintro e w1 ⟨rfl, hw⟩
  obtain rfl := hw.symm
  clear P hw
  have hnil := Lib.hid (World.ownsRow_nil w w.heap.size 5 1)
  go_wp2_with (at_builtin; refine wpList_append_own _ rfl (.tmp 9) (.tmp 10) 32 rfl w.heap.size 5 i0 (.int .u8 0) 1 1 Tryd.underlying32 hi hz0 hz1 hz2 rfl (by decide) _ _ _ rfl (hnil.out.alloc _) ⟨w.heap.size, 0, none⟩ 1 1 [.int .u8 39] rfl rfl (cell_one_new _ _ _) one_1 ?a1 ?a2 ?a3 ?_)
  case a1 => unfold maxLen; omega
  case a2 => omega
  case a3 => simp
  intro v1 w1 hown1 hg1 _
  have HO1 := Lib.hid (own_more (L := []) (X := [39]) (N := [39]) hown1 rfl rfl rfl)
  have HB1 := Lib.hid (below_app (Below.refl w.heap.size w) (Nat.le_refl _) hnil.out hg1)
  clear hown1 hg1 hnil
  go_wp2_with fail
  go_loopw [3, 4] (fun v i wr => ∃ k : Nat, k ≤ s.size ∧ i = .int .i64 k ∧ Hid (wr.ownsRow w.heap.size 5 1 v (putB (s.data.toList.take k)).length (bc (putB (s.data.toList.take k)))) ∧ Hid (Below w.heap.size w wr)) (fun _ i _ => s.size - (intOf i).toNat)
  case atStart => exact ⟨0, Nat.zero_le _, rfl, HO1, HB1⟩
  case round =>
    obtain ⟨k, hk, rfl, hown, hbl⟩ := hrel
    by_cases hlt : k < s.size
    · have hl1 := putB_len (s.data.toList.take k)
      have hl2 : (s.data.toList.take k).length ≤ 4000 := by simp; omega
      have hst := putB_snoc (s.data.toList.take k) s[k]
      rw [← take_snoc s k hlt] at hst
      have HS := Lib.hid hst
      have hl : (putB (s.data.toList.take k)).length ≤ 20001 := by omega
      clear hst hl1 hl2
      generalize putB (s.data.toList.take k) = L at *
      have hc0 : (0 : Int) ≤ (s[k].toNat : Int) := by omega
      have hc1 : (s[k].toNat : Int) ≤ 255 := by have := s[k].toNat_lt; omega
      cases h39 : ((s[k].toNat : Int) == 39)
      · cases h92 : ((s[k].toNat : Int) == 92)
        · cases h10 : ((s[k].toNat : Int) == 10)
          · cases h9 : ((s[k].toNat : Int) == 9)
            · have hO : wrO (s[k].toNat : Int) = false := by unfold wrO; rw [h39, h92, h10, h9]; rfl
              by_cases h32 : (s[k].toNat : Int) < 32
              · have hp2 : putC s[k] = [92, 120] ++ hexL s[k].toNat ++ [92] := by
                  unfold putC
                  rw [hO, if_neg (by simp), if_pos (by omega)]
                rw [hp2] at HS
                have HH := Lib.hid (show L ++ ([92, 120] ++ hexL s[k].toNat ++ [92]) = ((L ++ [92, 120]) ++ hexL s[k].toNat) ++ [92] by simp)
                clear hp2
                have HXC := Lib.hid (fun w => hex_is s[k].toNat (by have := s[k].toNat_lt; omega) w)
                have hxl := hexL_len s[k].toNat
                go_wp2_with (at_builtin; refine wpList_append_own _ rfl (.tmp 55) (.tmp 56) 32 rfl w.heap.size 5 i0 (.int .u8 0) 1 1 Tryd.underlying32 hi hz0 hz1 hz2 rfl (by decide) _ _ _ rfl (hown.out.alloc _) ⟨wr.heap.size, 0, none⟩ 2 2 [.int .u8 92, .int .u8 120] rfl rfl (cell_two_new _ _ _ _) one_2 ?_ ?_ ?_ ?_)
                · unfold maxLen; omega
                · omega
                · have := hbl.out.size; simp; omega
                intro v3 w3 hown3 hg3 _
                obtain ⟨X3, hX3⟩ : ∃ X, X = L ++ [92, 120] := ⟨_, rfl⟩
                have HO3 := Lib.hid (own_more hown3 hX3 rfl rfl)
                have HX3 := Lib.hid hX3
                have l3 : X3.length ≤ 20003 := by rw [hX3]; simp; omega
                have hb3 := Lib.hid (below_app hbl.out (Nat.le_refl _) hown.out hg3)
                clear hX3 hown3 hg3 hown hbl
                go_wp2_with fail
                refine (HXC.out _).mono ?_
                rintro e w4 ⟨rfl, q4, rfl⟩
                obtain ⟨S4, hS4⟩ : ∃ S4 : ByteArray, S4 = ⟨(hexL s[k].toNat).toArray⟩ := ⟨_, rfl⟩
                rw [← hS4]
                have hS5 : S4.data.toList = hexL s[k].toNat := by rw [hS4]
                have hS6 : S4.size = (hexL s[k].toNat).length := by rw [hS4]; rfl
                have HS5 := Lib.hid hS5
                have HO3b := Lib.hid (ownsRow_below HO3.out (below_drewN w3 q4))
                have hb3b := Lib.hid (hb3.out.trans ((below_drewN w3 q4).mono hb3.out.size))
                clear hS4 hS5
                obtain ⟨w4, hw4⟩ : ∃ w4, w4 = w3.drewN q4 := ⟨_, rfl⟩
                rw [← hw4] at HO3b hb3b ⊢
                clear hw4
                go_wp2_with (at_builtin; refine Lib.wpList_append_own_string _ rfl (.tmp 58) (.tmp 61) 32 9 rfl w.heap.size 5 i0 Tryd.underlying32 Tryd.underlying9 hi hz0 hz1 hz2 _ _ _ rfl HO3b.out S4 rfl ?_ ?_ ?_ ?_)
                · unfold maxLen; omega
                · omega
                · exact hb3b.out.size
                intro v5 w5 hown5 hg5 _
                obtain ⟨X5, hX5⟩ : ∃ X, X = X3 ++ S4.data.toList := ⟨_, rfl⟩
                have HO5 := Lib.hid (own_more hown5 hX5 (congrArg List.length HS5.out) (str_cells S4))
                have HX5 := Lib.hid hX5
                have l5 : X5.length ≤ 20005 := by rw [hX5, List.length_append, ← Lib.size_eq]; omega
                have hb5 := Lib.hid (hb3b.out.grown hg5 hb3b.out.size (fun k hk => (HO3b.out.lt k hk).1))
                clear hX5 hown5 hg5 HO3 HO3b hb3 hb3b
                go_wp2_with (at_builtin; refine wpList_append_own _ rfl (.tmp 63) (.tmp 64) 32 rfl w.heap.size 5 i0 (.int .u8 0) 1 1 Tryd.underlying32 hi hz0 hz1 hz2 rfl (by decide) _ _ _ rfl (HO5.out.alloc _) ⟨w5.heap.size, 0, none⟩ 1 1 [.int .u8 92] rfl rfl (cell_one_new _ _ _) one_1 ?_ ?_ ?_ ?_)
                · unfold maxLen; omega
                · omega
                · have := hb5.out.size; simp; omega
                intro v6 w6 hown6 hg6 _
                have HO6 := Lib.hid (own_more (X := X5 ++ [92]) (N := [92]) hown6 rfl rfl rfl)
                have hb6 := Lib.hid (below_app hb5.out (Nat.le_refl _) HO5.out hg6)
                clear hown6 hg6 HO5 hb5
                go_wp2
                go_roundw
                case rel => exact ⟨k + 1, by omega, by go_num, by rw [HS.out, HH.out, ← HX3.out, ← HS5.out, ← HX5.out]; exact HO6, hb6⟩
                case measure => simp [intOf]; omega
              have h32' : ¬ (s[k].toNat : Int) < 32 := h32
              cases h127 : ((s[k].toNat : Int) == 127)
              · have hp2 : putC s[k] = [s[k]] := by
                  unfold putC
                  rw [hO, if_neg (by simp), if_neg (by rintro (h | h); · omega
                                                       · rw [h] at h127; cases h127)]
                rw [hp2] at HS
                clear hp2
                go_wp2_with (at_builtin; refine wpList_append_own _ rfl (.tmp 21) (.tmp 23) 32 rfl w.heap.size 5 i0 (.int .u8 0) 1 1 Tryd.underlying32 hi hz0 hz1 hz2 rfl (by decide) _ _ _ rfl (hown.out.alloc _) ⟨wr.heap.size, 0, none⟩ 1 1 [.int .u8 (s[k].toNat : Int)] rfl rfl (cell_one_new _ _ _) one_1 ?_ ?_ ?_ ?_)
                · unfold maxLen; omega
                · omega
                · have := hbl.out.size; simp; omega
                intro v3 w3 hown3 hg3 _
                have HO3 := Lib.hid (own_more (X := L ++ [s[k]]) (N := [s[k]]) hown3 rfl rfl rfl)
                have hb3 := Lib.hid (below_app hbl.out (Nat.le_refl _) hown.out hg3)
                clear hown3 hg3 hown hbl
                go_wp2
                go_roundw
                case rel => exact ⟨k + 1, by omega, by go_num, by rw [HS.out]; exact HO3, hb3⟩
                case measure => simp [intOf]; omega
              · have hx127 : s[k].toNat = 127 := by have := beq_iff_eq.1 h127; omega
                have HX := Lib.hid hx127
                clear hx127
                have hp2 : putC s[k] = [92, 120] ++ hexL s[k].toNat ++ [92] := by
                  unfold putC
                  rw [hO, if_neg (by simp), if_pos (Or.inr HX.out)]
                rw [hp2] at HS
                have HH := Lib.hid (show L ++ ([92, 120] ++ hexL s[k].toNat ++ [92]) = ((L ++ [92, 120]) ++ hexL s[k].toNat) ++ [92] by simp)
                clear hp2
                have HXC := Lib.hid (fun w => hex_is s[k].toNat (by have := s[k].toNat_lt; omega) w)
                have hxl := hexL_len s[k].toNat
                go_wp2_with (at_builtin; refine wpList_append_own _ rfl (.tmp 55) (.tmp 56) 32 rfl w.heap.size 5 i0 (.int .u8 0) 1 1 Tryd.underlying32 hi hz0 hz1 hz2 rfl (by decide) _ _ _ rfl (hown.out.alloc _) ⟨wr.heap.size, 0, none⟩ 2 2 [.int .u8 92, .int .u8 120] rfl rfl (cell_two_new _ _ _ _) one_2 ?_ ?_ ?_ ?_)
                · unfold maxLen; omega
                · omega
                · have := hbl.out.size; simp; omega
                intro v3 w3 hown3 hg3 _
                obtain ⟨X3, hX3⟩ : ∃ X, X = L ++ [92, 120] := ⟨_, rfl⟩
                have HO3 := Lib.hid (own_more hown3 hX3 rfl rfl)
                have HX3 := Lib.hid hX3
                have l3 : X3.length ≤ 20003 := by rw [hX3]; simp; omega
                have hb3 := Lib.hid (below_app hbl.out (Nat.le_refl _) hown.out hg3)
                clear hX3 hown3 hg3 hown hbl
                go_wp2_with fail
                refine (HXC.out _).mono ?_
                rintro e w4 ⟨rfl, q4, rfl⟩
                obtain ⟨S4, hS4⟩ : ∃ S4 : ByteArray, S4 = ⟨(hexL s[k].toNat).toArray⟩ := ⟨_, rfl⟩
                rw [← hS4]
                have hS5 : S4.data.toList = hexL s[k].toNat := by rw [hS4]
                have hS6 : S4.size = (hexL s[k].toNat).length := by rw [hS4]; rfl
                have HS5 := Lib.hid hS5
                have HO3b := Lib.hid (ownsRow_below HO3.out (below_drewN w3 q4))
                have hb3b := Lib.hid (hb3.out.trans ((below_drewN w3 q4).mono hb3.out.size))
                clear hS4 hS5
                obtain ⟨w4, hw4⟩ : ∃ w4, w4 = w3.drewN q4 := ⟨_, rfl⟩
                rw [← hw4] at HO3b hb3b ⊢
                clear hw4
                go_wp2_with (at_builtin; refine Lib.wpList_append_own_string _ rfl (.tmp 58) (.tmp 61) 32 9 rfl w.heap.size 5 i0 Tryd.underlying32 Tryd.underlying9 hi hz0 hz1 hz2 _ _ _ rfl HO3b.out S4 rfl ?_ ?_ ?_ ?_)
                · unfold maxLen; omega
                · omega
                · exact hb3b.out.size
                intro v5 w5 hown5 hg5 _
                obtain ⟨X5, hX5⟩ : ∃ X, X = X3 ++ S4.data.toList := ⟨_, rfl⟩
                have HO5 := Lib.hid (own_more hown5 hX5 (congrArg List.length HS5.out) (str_cells S4))
                have HX5 := Lib.hid hX5
                have l5 : X5.length ≤ 20005 := by rw [hX5, List.length_append, ← Lib.size_eq]; omega
                have hb5 := Lib.hid (hb3b.out.grown hg5 hb3b.out.size (fun k hk => (HO3b.out.lt k hk).1))
                clear hX5 hown5 hg5 HO3 HO3b hb3 hb3b
                go_wp2_with (at_builtin; refine wpList_append_own _ rfl (.tmp 63) (.tmp 64) 32 rfl w.heap.size 5 i0 (.int .u8 0) 1 1 Tryd.underlying32 hi hz0 hz1 hz2 rfl (by decide) _ _ _ rfl (HO5.out.alloc _) ⟨w5.heap.size, 0, none⟩ 1 1 [.int .u8 92] rfl rfl (cell_one_new _ _ _) one_1 ?_ ?_ ?_ ?_)
                · unfold maxLen; omega
                · omega
                · have := hb5.out.size; simp; omega
                intro v6 w6 hown6 hg6 _
                have HO6 := Lib.hid (own_more (X := X5 ++ [92]) (N := [92]) hown6 rfl rfl rfl)
                have hb6 := Lib.hid (below_app hb5.out (Nat.le_refl _) HO5.out hg6)
                clear hown6 hg6 HO5 hb5
                go_wp2
                go_roundw
                case rel => exact ⟨k + 1, by omega, by go_num, by rw [HS.out, HH.out, ← HX3.out, ← HS5.out, ← HX5.out]; exact HO6, hb6⟩
                case measure => simp [intOf]; omega
            · have e8 : s[k] = 9 := UInt8.toNat_inj.1 (by have := beq_iff_eq.1 h9; show _ = 9; omega)
              have hp2 : putC s[k] = [92, 116] := by rw [e8]; rfl
              rw [hp2] at HS
              clear hp2 e8
              go_wp2_with (at_builtin; refine wpList_append_own _ rfl (.tmp 45) (.tmp 46) 32 rfl w.heap.size 5 i0 (.int .u8 0) 1 1 Tryd.underlying32 hi hz0 hz1 hz2 rfl (by decide) _ _ _ rfl (hown.out.alloc _) ⟨wr.heap.size, 0, none⟩ 2 2 [.int .u8 92, .int .u8 116] rfl rfl (cell_two_new _ _ _ _) one_2 ?_ ?_ ?_ ?_)
              · unfold maxLen; omega
              · omega
              · have := hbl.out.size; simp; omega
              intro v3 w3 hown3 hg3 _
              have HO3 := Lib.hid (own_more (X := L ++ [92, 116]) (N := [92, 116]) hown3 rfl rfl rfl)
              have hb3 := Lib.hid (below_app hbl.out (Nat.le_refl _) hown.out hg3)
              clear hown3 hg3 hown hbl
              go_wp2
              go_roundw
              case rel => exact ⟨k + 1, by omega, by go_num, by rw [HS.out]; exact HO3, hb3⟩
              case measure => simp [intOf]; omega
          · have e8 : s[k] = 10 := UInt8.toNat_inj.1 (by have := beq_iff_eq.1 h10; show _ = 10; omega)
            have hp2 : putC s[k] = [92, 110] := by rw [e8]; rfl
            rw [hp2] at HS
            clear hp2 e8
            go_wp2_with (at_builtin; refine wpList_append_own _ rfl (.tmp 39) (.tmp 40) 32 rfl w.heap.size 5 i0 (.int .u8 0) 1 1 Tryd.underlying32 hi hz0 hz1 hz2 rfl (by decide) _ _ _ rfl (hown.out.alloc _) ⟨wr.heap.size, 0, none⟩ 2 2 [.int .u8 92, .int .u8 110] rfl rfl (cell_two_new _ _ _ _) one_2 ?_ ?_ ?_ ?_)
            · unfold maxLen; omega
            · omega
            · have := hbl.out.size; simp; omega
            intro v3 w3 hown3 hg3 _
            have HO3 := Lib.hid (own_more (X := L ++ [92, 110]) (N := [92, 110]) hown3 rfl rfl rfl)
            have hb3 := Lib.hid (below_app hbl.out (Nat.le_refl _) hown.out hg3)
            clear hown3 hg3 hown hbl
            go_wp2
            go_roundw
            case rel => exact ⟨k + 1, by omega, by go_num, by rw [HS.out]; exact HO3, hb3⟩
            case measure => simp [intOf]; omega
        · have e8 : s[k] = 92 := UInt8.toNat_inj.1 (by have := beq_iff_eq.1 h92; show _ = 92; omega)
          have hp2 : putC s[k] = [92, s[k]] := by rw [e8]; rfl
          rw [hp2] at HS
          clear hp2 e8
          go_wp2_with (at_builtin; refine wpList_append_own _ rfl (.tmp 32) (.tmp 34) 32 rfl w.heap.size 5 i0 (.int .u8 0) 1 1 Tryd.underlying32 hi hz0 hz1 hz2 rfl (by decide) _ _ _ rfl (hown.out.alloc _) ⟨wr.heap.size, 0, none⟩ 2 2 [.int .u8 92, .int .u8 (s[k].toNat : Int)] rfl rfl (cell_two_new _ _ _ _) one_2 ?_ ?_ ?_ ?_)
          · unfold maxLen; omega
          · omega
          · have := hbl.out.size; simp; omega
          intro v3 w3 hown3 hg3 _
          have HO3 := Lib.hid (own_more (X := L ++ [92, s[k]]) (N := [92, s[k]]) hown3 rfl rfl rfl)
          have hb3 := Lib.hid (below_app hbl.out (Nat.le_refl _) hown.out hg3)
          clear hown3 hg3 hown hbl
          go_wp2
          go_roundw
          case rel => exact ⟨k + 1, by omega, by go_num, by rw [HS.out]; exact HO3, hb3⟩
          case measure => simp [intOf]; omega
      · have e8 : s[k] = 39 := UInt8.toNat_inj.1 (by have := beq_iff_eq.1 h39; show _ = 39; omega)
        have hp2 : putC s[k] = [92, s[k]] := by rw [e8]; rfl
        rw [hp2] at HS
        clear hp2 e8
        go_wp2_with (at_builtin; refine wpList_append_own _ rfl (.tmp 32) (.tmp 34) 32 rfl w.heap.size 5 i0 (.int .u8 0) 1 1 Tryd.underlying32 hi hz0 hz1 hz2 rfl (by decide) _ _ _ rfl (hown.out.alloc _) ⟨wr.heap.size, 0, none⟩ 2 2 [.int .u8 92, .int .u8 (s[k].toNat : Int)] rfl rfl (cell_two_new _ _ _ _) one_2 ?_ ?_ ?_ ?_)
        · unfold maxLen; omega
        · omega
        · have := hbl.out.size; simp; omega
        intro v3 w3 hown3 hg3 _
        have HO3 := Lib.hid (own_more (X := L ++ [92, s[k]]) (N := [92, s[k]]) hown3 rfl rfl rfl)
        have hb3 := Lib.hid (below_app hbl.out (Nat.le_refl _) hown.out hg3)
        clear hown3 hg3 hown hbl
        go_wp2
        go_roundw
        case rel => exact ⟨k + 1, by omega, by go_num, by rw [HS.out]; exact HO3, hb3⟩
        case measure => simp [intOf]; omega
    · have hfull : s.data.toList.take k = s.data.toList := List.take_of_length_le (by simp; omega)
      have hl1 := putB_len s.data.toList
      rw [hfull] at hown
      have hsz : (putB s.data.toList).length ≤ 20001 := by simp at hl1; omega
      clear hfull hl1
      obtain ⟨L, hLL⟩ : ∃ L, L = putB s.data.toList := ⟨_, rfl⟩
      rw [← hLL] at hown hsz
      have HLL := Lib.hid hLL
      clear hLL
      go_wp2_with (at_builtin; refine wpList_append_own _ rfl (.tmp 66) (.tmp 67) 32 rfl w.heap.size 5 i0 (.int .u8 0) 1 1 Tryd.underlying32 hi hz0 hz1 hz2 rfl (by decide) _ _ _ rfl (hown.out.alloc _) ⟨wr.heap.size, 0, none⟩ 1 1 [.int .u8 39] rfl rfl (cell_one_new _ _ _) one_1 ?_ ?_ ?_ ?_)
      · unfold maxLen; omega
      · omega
      · have := hbl.out.size; simp; omega
      intro v3 w3 hown3 hg3 _
      have HO3 := own_more (X := L ++ [39]) (N := [39]) hown3 rfl rfl rfl
      have hb3 := Lib.hid (below_app hbl.out (Nat.le_refl _) hown.out hg3)
      have hcv := conv_own HO3
      clear hown3 hg3 hown hbl HO3
      go_wp2
      go_ret
      exact ⟨by rw [← HLL.out]; rfl, hb3.out⟩

set_option maxHeartbeats 400000 in
theorem ref_put_plain (s : ByteArray) (w : World) (hs : s.size ≤ 4000) (hp : plainB s.data.toList = true) :
    Calls Tryd.prog 15 #[.string s] w fun e w' => e = .returned (.string s) ∧ Below w.heap.size w w' := by
  have P := Lib.hid (fun w => ref_plain s w hs)
  rw [hp] at P
  clear hp
  go_enter Tryd.func15, Tryd.ntmps15
  go_wp2_with fail
  refine (P.out _).mono ?_
  rintro e w1 ⟨rfl, hw⟩
  obtain rfl := hw.symm
  go_wp2_with fail
  go_ret
  exact ⟨rfl, Below.refl _ _⟩

end Go.Proofs.YtnkkenchabcpoaaDoor
