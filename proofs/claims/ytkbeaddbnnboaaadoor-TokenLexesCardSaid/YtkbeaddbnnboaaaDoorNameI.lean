/- name.Put: a contract. Conditions: the text has at most 4000 bytes; the library's variables hold what their text lays. -/
import Derived.Test.YtkbeaddbnnboaaaDoorNameH
namespace Go.Proofs.YtkbeaddbnnboaaaDoor
open Go Go.RowKit Go.Maps
open Go.WideMaps Go.WideElems

theorem cell_two_new (w : World) (x y : Value) (t : TypeId) : ∀ j u, [x, y][j]? = some u → (w.alloc (.cells #[x, y] t)).cell? ((⟨w.heap.size, 0, none⟩ : Addr).add j) = some u := by
  intro j u hj
  rcases j with _ | _ | j
  · simp at hj
    subst hj
    go_simp
  · simp at hj
    subst hj
    go_simp
  · simp at hj
theorem owns_lit (w : World) (x : Value) (B : Nat) (hB : B ≤ w.heap.size) : (w.alloc (.cells #[x] 5)).ownsRow B 5 1 (.slice (some ⟨w.heap.size, 0, none⟩) 1 1) 1 [x] :=
  ⟨rfl, .inr ⟨w.heap.size, 1, #[x], rfl, hB, heap_alloc_new w _, Nat.le_refl _, by unfold maxLen; omega, rfl, rfl⟩⟩
theorem one_1 {x : Int} : ∀ u ∈ [Value.int .u8 x], u.oneCell' = true := by
  intro u hu
  simp at hu
  subst hu
  rfl
theorem one_2 {x y : Int} : ∀ u ∈ [Value.int .u8 x, Value.int .u8 y], u.oneCell' = true := by
  intro u hu
  simp at hu
  rcases hu with rfl | rfl <;> rfl

theorem own_more {w : World} {B m : Nat} {v : Value} {L N X : List UInt8} {cells : List Value} (h : w.ownsRow B 5 1 v (L.length + m) (bc L ++ cells)) (hX : X = L ++ N) (hm : N.length = m) (hc : cells = bc N) :
    w.ownsRow B 5 1 v X.length (bc X) := by
  subst hX hc
  rw [List.length_append, hm]
  simpa [bc] using h
theorem below_app {B : Nat} {a w w' : World} {T : TypeId} {o : Obj} {v : Value} {n : Nat} {xs : List Value} (h : Below B a w) (hB : B ≤ a.heap.size) (ho : w.ownsRow B T 1 v n xs) (hg : (w.alloc o).grownBy w' v.ownBlock) : Below B a w' :=
  (h.alloc (Nat.le_trans hB h.size) o).grown hg (by have := h.size; simp; omega) (fun k hk => (ho.lt k hk).1)
theorem wrV_bd (c : Int) : wrV c ≤ 255 := by
  unfold wrV
  repeat' split
  all_goals omega

theorem append_int (B n : Nat) (c : Int) (h0 : 0 ≤ c) (h1 : c ≤ 255) (sv : Value) (xs : List Value) (w : World) (hown : w.ownsRow B 5 1 sv n xs) (hBw : B ≤ w.heap.size) (hlim : n ≤ 100000) (htab : Tab w) :
    Calls Tryd.prog 25 #[sv, .int .u64 c, .int .i64 16] w fun e w' => ∃ v', e = .returned v' ∧ w'.ownsRow B 5 1 v' (n + (hexL c.toNat).length) (xs ++ bc (hexL c.toNat)) ∧ Below B w w' := by
  have := append_is B n c.toNat (by omega) sv xs w hown hBw hlim htab.1
  rw [Int.toNat_of_nonneg h0] at this
  exact this

set_option maxHeartbeats 1600000 in
theorem put_quoted (s : ByteArray) (w : World) (hs : s.size ≤ 4000) (htab : Tab w) (hp : plainB s.data.toList = false) :
    Calls Tryd.prog 12 #[.string s] w fun e w' => e = .returned (.string ⟨(putB s.data.toList ++ [39]).toArray⟩) ∧ Below w.heap.size w w' := by
  have P := Lib.hid (fun w => plain_is s w hs)
  rw [hp] at P
  clear hp
  obtain ⟨i0, hi, hz0, hz1, hz2⟩ := info_parts byteInfo
  have HT := Lib.hid htab
  clear htab
  go_enter Tryd.func12, Tryd.ntmps12
  go_wp2_with fail
  refine (P.out _).mono ?_
  rintro e w1 ⟨rfl, b1⟩
  have HB1 := Lib.hid b1
  clear b1 P
  go_wp2_with fail
  refine (written_is _).mono ?_
  rintro e w2 ⟨rfl, hm, b2, lt2⟩
  have HB2 := Lib.hid (bt HB1.out b2)
  have HM := Lib.hid hm
  clear hm b2
  obtain ⟨bm, hbm⟩ : ∃ bm, bm = w1.heap.size := ⟨_, rfl⟩
  rw [← hbm] at HM lt2 ⊢
  clear hbm HB1
  go_wp2_with fail
  go_loopw [4, 17] (fun v i wr => ∃ k : Nat, k ≤ s.size ∧ i = .int .i64 k ∧ Hid (wr.ownsRow w2.heap.size 5 1 v (putB (s.data.toList.take k)).length (bc (putB (s.data.toList.take k)))) ∧ Hid (Below w2.heap.size w2 wr)) (fun _ i _ => s.size - (intOf i).toNat)
  case atStart => exact ⟨0, Nat.zero_le _, rfl, owns_lit w2 (.int .u8 39) _ (Nat.le_refl _), (Below.refl _ _).alloc (Nat.le_refl _) _⟩
  case round =>
    obtain ⟨k, hk, rfl, hown, hbl⟩ := hrel
    by_cases hlt : k < s.size
    · have hl1 := putB_len (s.data.toList.take k)
      have hl2 : (s.data.toList.take k).length ≤ 4000 := by simp; omega
      have hst := putB_snoc (s.data.toList.take k) s[k]
      rw [← take_snoc s k hlt] at hst
      have HS := Lib.hid hst
      have HL := Lib.hid (show (putB (s.data.toList.take k)).length ≤ 20001 by omega)
      clear hst hl1 hl2
      generalize putB (s.data.toList.take k) = L at *
      have hl := HL.out
      have hc0 : (0 : Int) ≤ (s[k].toNat : Int) := by omega
      have hc1 : (s[k].toNat : Int) ≤ 255 := by have := s[k].toNat_lt; omega
      have hlook := look_written (ownsMap_below HM.out hbl.out lt2) (s[k].toNat : Int) hc0 hc1
      cases hO : wrO (s[k].toNat : Int)
      · rw [hO] at hlook
        by_cases h32 : (s[k].toNat : Int) < 32
        · have hp2 : putC s[k] = [92, 120] ++ hexL s[k].toNat ++ [92] := by
            unfold putC
            rw [hO, if_neg (by simp), if_pos (by omega)]
          rw [hp2] at HS
          have HH := Lib.hid (show L ++ ([92, 120] ++ hexL s[k].toNat ++ [92]) = ((L ++ [92, 120]) ++ hexL s[k].toNat) ++ [92] by simp)
          clear hp2
          go_wp2_with (at_builtin; refine wpList_append_own _ rfl (.tmp 46) (.tmp 47) 38 rfl w2.heap.size 5 i0 (.int .u8 0) 1 1 Tryd.underlying38 hi hz0 hz1 hz2 rfl (by decide) _ _ _ rfl (hown.out.alloc _) ⟨wr.heap.size, 0, none⟩ 2 2 [.int .u8 92, .int .u8 120] rfl rfl (cell_two_new _ _ _ _) one_2 ?_ ?_ ?_ ?_)
          · unfold maxLen; omega
          · omega
          · have := hbl.out.size; simp; omega
          intro v3 w3 hown3 hg3 _
          obtain ⟨X3, hX3⟩ : ∃ X, X = L ++ [92, 120] := ⟨_, rfl⟩
          have HO3 := Lib.hid (own_more hown3 hX3 rfl rfl)
          have HX3 := Lib.hid hX3
          have l3 : X3.length ≤ 20003 := by rw [hX3]; simp; omega
          clear hX3
          have hb3 := Lib.hid (below_app hbl.out (Nat.le_refl _) hown.out hg3)
          clear hown3 hg3 hown hbl
          go_wp2_with fail
          refine (append_int w2.heap.size _ _ hc0 hc1 _ _ _ HO3.out hb3.out.size (by omega) ((HT.out.on HB2.out).on hb3.out)).mono ?_
          rintro e w4 ⟨v4, rfl, hown4, b4⟩
          rw [Int.toNat_natCast] at hown4
          obtain ⟨X4, hX4⟩ : ∃ X, X = X3 ++ hexL s[k].toNat := ⟨_, rfl⟩
          have HO4 := Lib.hid (own_more hown4 hX4 rfl rfl)
          have HX4 := Lib.hid hX4
          have l4 : X4.length ≤ 20005 := by have := hexL_len s[k].toNat; rw [hX4, List.length_append]; omega
          clear hX4
          have hb4 := Lib.hid (hb3.out.trans b4)
          clear hown4 b4 HO3 hb3
          go_wp2_with (at_builtin; refine wpList_append_own _ rfl (.tmp 53) (.tmp 54) 38 rfl w2.heap.size 5 i0 (.int .u8 0) 1 1 Tryd.underlying38 hi hz0 hz1 hz2 rfl (by decide) _ _ _ rfl (HO4.out.alloc _) ⟨w4.heap.size, 0, none⟩ 1 1 [.int .u8 92] rfl rfl (cell_one_new _ _ _) one_1 ?_ ?_ ?_ ?_)
          · unfold maxLen; omega
          · omega
          · have := hb4.out.size; simp; omega
          intro v5 w5 hown5 hg5 _
          have HO5 := Lib.hid (own_more (X := X4 ++ [92]) (N := [92]) hown5 rfl rfl rfl)
          have hb5 := Lib.hid (below_app hb4.out (Nat.le_refl _) HO4.out hg5)
          clear hown5 hg5 HO4 hb4
          go_wp2
          go_roundw
          case rel => exact ⟨k + 1, by omega, by go_num, by rw [HS.out, HH.out, ← HX3.out, ← HX4.out]; exact HO5, hb5⟩
          case measure => simp [intOf]; omega
        cases h127 : ((s[k].toNat : Int) == 127)
        · have hp2 : putC s[k] = [s[k]] := by
            unfold putC
            rw [hO, if_neg (by simp), if_neg (by rintro (h | h); · omega
                                                 · rw [h] at h127; cases h127)]
          rw [hp2] at HS
          have h32' : ¬ (s[k].toNat : Int) < 32 := h32
          clear hp2
          go_wp2_with (at_builtin; refine wpList_append_own _ rfl (.tmp 29) (.tmp 31) 38 rfl w2.heap.size 5 i0 (.int .u8 0) 1 1 Tryd.underlying38 hi hz0 hz1 hz2 rfl (by decide) _ _ _ rfl (hown.out.alloc _) ⟨wr.heap.size, 0, none⟩ 1 1 [.int .u8 (s[k].toNat : Int)] rfl rfl (cell_one_new _ _ _) one_1 ?_ ?_ ?_ ?_)
          · unfold maxLen; omega
          · omega
          · have := hbl.out.size; simp; omega
          intro v3 w3 hown3 hg3 _
          have HO3 := Lib.hid (own_more (X := L ++ [s[k]]) (N := [s[k]]) hown3 rfl rfl rfl)
          have hb3 := Lib.hid (below_app hbl.out (Nat.le_refl _) hown.out hg3)
          clear hown3 hg3 hown hbl
          go_wp2
          go_roundw
          case rel => exact ⟨k + 1, by omega, by go_num, by rw [HS.out]; exact HO3, hb3⟩
          case measure => simp [intOf]; omega
        · have hx127 : s[k].toNat = 127 := by have := beq_iff_eq.1 h127; omega
          have HX := Lib.hid hx127
          clear hx127
          have hp2 : putC s[k] = [92, 120] ++ hexL s[k].toNat ++ [92] := by
            unfold putC
            rw [hO, if_neg (by simp), if_pos (Or.inr HX.out)]
          rw [hp2] at HS
          have HH := Lib.hid (show L ++ ([92, 120] ++ hexL s[k].toNat ++ [92]) = ((L ++ [92, 120]) ++ hexL s[k].toNat) ++ [92] by simp)
          clear hp2
          go_wp2_with (at_builtin; refine wpList_append_own _ rfl (.tmp 46) (.tmp 47) 38 rfl w2.heap.size 5 i0 (.int .u8 0) 1 1 Tryd.underlying38 hi hz0 hz1 hz2 rfl (by decide) _ _ _ rfl (hown.out.alloc _) ⟨wr.heap.size, 0, none⟩ 2 2 [.int .u8 92, .int .u8 120] rfl rfl (cell_two_new _ _ _ _) one_2 ?_ ?_ ?_ ?_)
          · unfold maxLen; omega
          · omega
          · have := hbl.out.size; simp; omega
          intro v3 w3 hown3 hg3 _
          obtain ⟨X3, hX3⟩ : ∃ X, X = L ++ [92, 120] := ⟨_, rfl⟩
          have HO3 := Lib.hid (own_more hown3 hX3 rfl rfl)
          have HX3 := Lib.hid hX3
          have l3 : X3.length ≤ 20003 := by rw [hX3]; simp; omega
          clear hX3
          have hb3 := Lib.hid (below_app hbl.out (Nat.le_refl _) hown.out hg3)
          clear hown3 hg3 hown hbl
          go_wp2_with fail
          refine (append_int w2.heap.size _ _ hc0 hc1 _ _ _ HO3.out hb3.out.size (by omega) ((HT.out.on HB2.out).on hb3.out)).mono ?_
          rintro e w4 ⟨v4, rfl, hown4, b4⟩
          rw [Int.toNat_natCast] at hown4
          obtain ⟨X4, hX4⟩ : ∃ X, X = X3 ++ hexL s[k].toNat := ⟨_, rfl⟩
          have HO4 := Lib.hid (own_more hown4 hX4 rfl rfl)
          have HX4 := Lib.hid hX4
          have l4 : X4.length ≤ 20005 := by have := hexL_len s[k].toNat; rw [hX4, List.length_append]; omega
          clear hX4
          have hb4 := Lib.hid (hb3.out.trans b4)
          clear hown4 b4 HO3 hb3
          go_wp2_with (at_builtin; refine wpList_append_own _ rfl (.tmp 53) (.tmp 54) 38 rfl w2.heap.size 5 i0 (.int .u8 0) 1 1 Tryd.underlying38 hi hz0 hz1 hz2 rfl (by decide) _ _ _ rfl (HO4.out.alloc _) ⟨w4.heap.size, 0, none⟩ 1 1 [.int .u8 92] rfl rfl (cell_one_new _ _ _) one_1 ?_ ?_ ?_ ?_)
          · unfold maxLen; omega
          · omega
          · have := hb4.out.size; simp; omega
          intro v5 w5 hown5 hg5 _
          have HO5 := Lib.hid (own_more (X := X4 ++ [92]) (N := [92]) hown5 rfl rfl rfl)
          have hb5 := Lib.hid (below_app hb4.out (Nat.le_refl _) HO4.out hg5)
          clear hown5 hg5 HO4 hb4
          go_wp2
          go_roundw
          case rel => exact ⟨k + 1, by omega, by go_num, by rw [HS.out, HH.out, ← HX3.out, ← HX4.out]; exact HO5, hb5⟩
          case measure => simp [intOf]; omega
      · rw [hO] at hlook
        have hv0 := wrV_nn (s[k].toNat : Int)
        have hv1 := wrV_bd (s[k].toNat : Int)
        have hp2 : putC s[k] = [92, UInt8.ofNat (wrV (s[k].toNat : Int)).toNat] := by
          unfold putC
          rw [hO, if_pos rfl]
        rw [hp2] at HS
        have HV := Lib.hid (show bc [92, UInt8.ofNat (wrV (s[k].toNat : Int)).toNat] = [.int .u8 92, .int .u8 (wrV (s[k].toNat : Int))] by
          have h1 : (UInt8.ofNat (wrV (s[k].toNat : Int)).toNat).toNat = (wrV (s[k].toNat : Int)).toNat := by rw [UInt8.toNat_ofNat']; omega
          simp only [bc, List.map_cons, List.map_nil, h1, Int.toNat_of_nonneg hv0]
          rfl)
        clear hp2
        go_wp2_with (at_builtin; refine wpList_append_own _ rfl (.tmp 35) (.tmp 37) 38 rfl w2.heap.size 5 i0 (.int .u8 0) 1 1 Tryd.underlying38 hi hz0 hz1 hz2 rfl (by decide) _ _ _ rfl (hown.out.alloc _) ⟨wr.heap.size, 0, none⟩ 2 2 [.int .u8 92, .int .u8 (wrV (s[k].toNat : Int))] rfl rfl (cell_two_new _ _ _ _) one_2 ?_ ?_ ?_ ?_)
        · unfold maxLen; omega
        · omega
        · have := hbl.out.size; simp; omega
        intro v3 w3 hown3 hg3 _
        have HO3 := Lib.hid (own_more (X := L ++ [92, UInt8.ofNat (wrV (s[k].toNat : Int)).toNat]) (N := [92, UInt8.ofNat (wrV (s[k].toNat : Int)).toNat]) hown3 rfl rfl HV.out.symm)
        have hb3 := Lib.hid (below_app hbl.out (Nat.le_refl _) hown.out hg3)
        clear hown3 hg3 hown hbl
        go_wp2
        go_roundw
        case rel => exact ⟨k + 1, by omega, by go_num, by rw [HS.out]; exact HO3, hb3⟩
        case measure => simp [intOf]; omega
    · have hfull : s.data.toList.take k = s.data.toList := List.take_of_length_le (by simp; omega)
      have hl1 := putB_len s.data.toList
      rw [hfull] at hown
      have HL := Lib.hid (show (putB s.data.toList).length ≤ 20001 by simp at hl1; omega)
      clear hfull hl1
      obtain ⟨L, hLL⟩ : ∃ L, L = putB s.data.toList := ⟨_, rfl⟩
      rw [← hLL] at hown HL
      have HLL := Lib.hid hLL
      clear hLL
      have hsz := HL.out
      go_wp2_with (at_builtin; refine wpList_append_own _ rfl (.tmp 57) (.tmp 58) 38 rfl w2.heap.size 5 i0 (.int .u8 0) 1 1 Tryd.underlying38 hi hz0 hz1 hz2 rfl (by decide) _ _ _ rfl (hown.out.alloc _) ⟨wr.heap.size, 0, none⟩ 1 1 [.int .u8 39] rfl rfl (cell_one_new _ _ _) one_1 ?_ ?_ ?_ ?_)
      · unfold maxLen; omega
      · omega
      · have := hbl.out.size; simp; omega
      intro v3 w3 hown3 hg3 _
      have HO3 := own_more (X := L ++ [39]) (N := [39]) hown3 rfl rfl rfl
      have hb3 := Lib.hid (below_app hbl.out (Nat.le_refl _) hown.out hg3)
      have hcv := conv_own HO3
      clear hown3 hg3 hown hbl HO3
      go_wp2
      go_ret
      exact ⟨by rw [← HLL.out]; rfl, bt HB2.out hb3.out⟩


set_option maxHeartbeats 400000 in
theorem put_plain (s : ByteArray) (w : World) (hs : s.size ≤ 4000) (hp : plainB s.data.toList = true) :
    Calls Tryd.prog 12 #[.string s] w fun e w' => e = .returned (.string s) ∧ Below w.heap.size w w' := by
  have P := Lib.hid (fun w => plain_is s w hs)
  rw [hp] at P
  clear hp
  go_enter Tryd.func12, Tryd.ntmps12
  go_wp2_with fail
  refine (P.out _).mono ?_
  rintro e w1 ⟨rfl, b1⟩
  go_wp2_with fail
  refine (clone_is s (by omega) _).mono ?_
  rintro e w2 ⟨rfl, b2⟩
  go_wp2_with fail
  go_ret
  exact ⟨rfl, bt b1 b2⟩

theorem put_is (s : ByteArray) (w : World) (hs : s.size ≤ 4000) (htab : Tab w) :
    Calls Tryd.prog 12 #[.string s] w fun e w' => e = .returned (.string ⟨(putL s.data.toList).toArray⟩) ∧ Below w.heap.size w w' := by
  cases hp : plainB s.data.toList
  · unfold putL
    rw [hp, if_neg (by simp)]
    exact put_quoted s w hs htab hp
  · unfold putL
    rw [hp, if_pos rfl]
    have := put_plain s w hs hp
    obtain ⟨⟨l⟩⟩ := s
    exact this

end Go.Proofs.YtkbeaddbnnboaaaDoor
