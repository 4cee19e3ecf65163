/- Package token's numbers: contracts. Conditions: the place stands in memory; its text has at most 5000 bytes; the library's variables hold what their text lays. -/
import Derived.Test.YtkbeaddbnnboaaaDoorTokE
namespace Go.Proofs.YtkbeaddbnnboaaaDoor
open Go Go.RowKit Go.Maps

set_option maxHeartbeats 400000 in
theorem dig_is (s : ByteArray) (base : Int) (w : World) (hs : s.size ≤ 20000) :
    Calls Tryd.prog 70 #[.string s, .int .i64 base] w fun e w' => e = .returned (.bool ((parseR base s.data.toList).2 == 0)) ∧ w' = w := by
  have P := Lib.hid (parse_is s base w (by unfold maxLen; omega))
  obtain ⟨⟨a, b⟩, hr⟩ : ∃ r, parseR base s.data.toList = r := ⟨_, rfl⟩
  rw [hr] at P ⊢
  go_enter Tryd.func70, Tryd.ntmps70
  go_wp2_with (go_at_call 71; refine P.out.mono ?_; rintro e w' ⟨rfl, rfl⟩)
  go_ret
  exact ⟨rfl, rfl⟩

theorem one_at (s : ByteArray) (k : Nat) (h : k < s.size) : (s.extract k (k + 1)).data.toList = [s[k]] := by
  rw [Lib.extract_data, drop_at s k h]
  simp
theorem digZ_one (base : Int) (c : UInt8) : digZ base (c.toNat : Int) = ((parseR base [c]).2 == 0) := by
  unfold digZ
  simp

set_option maxRecDepth 100000 in
set_option maxHeartbeats 1600000 in
theorem digits_is (p : Nat) (s : ByteArray) (n : Int) (f0 : Nat) (base : Int) (w : World) (h : PL w p s n) (hs : s.size ≤ 5000) (hf : f0 ≤ s.size) :
    Calls Tryd.prog 53 #[.pointer (some ⟨p, 0, none⟩), .int .i64 f0, .int .i64 base] w (AttPost w (digitsT f0 base s.data.toList)) := by
  have hb0 : Below w.heap.size w (w.alloc (.cells zero6 30)) := (Below.refl _ _).alloc (Nat.le_refl _) _
  have HBX := Lib.hid (fun x => (Below.refl w.heap.size w).alloc (Nat.le_refl _) (.cells x 30))
  obtain ⟨c0, _, _, _⟩ := (h.on hb0).cells
  have six : Six (w.alloc (.cells zero6 30)) w.heap.size := ⟨new_at _ _ rfl⟩
  obtain ⟨d0, d1, d2, d3, d4, d5, z0, z1, z2, z3, z4, z5⟩ := six.facts
  obtain ⟨r, hr⟩ : ∃ r, f0 + runB (digZ base) (s.data.toList.drop f0) = r := ⟨_, rfl⟩
  have hrs : r ≤ s.size := by
    have := runB_le (digZ base) (s.data.toList.drop f0)
    rw [List.length_drop, ← Lib.size_eq] at this
    omega
  have hf0r : f0 ≤ r := by omega
  have D := Lib.hid (fun s w hs => dig_is s base w hs)
  have PR := Lib.hid (fun w => parse_is (s.extract f0 r) base w (by unfold maxLen; rw [Lib.size_eq, Lib.extract_data, List.length_take]; omega))
  rw [Lib.extract_data] at PR
  obtain ⟨⟨na, ea⟩, hpr⟩ : ∃ x, parseR base ((s.data.toList.drop f0).take (r - f0)) = x := ⟨_, rfl⟩
  rw [hpr] at PR
  have hrun : r - f0 = runB (digZ base) (s.data.toList.drop f0) := by omega
  have HD := Lib.hid (show digitsT f0 base s.data.toList = if (ea == 0) = true then (if r = 0 then none else some (⟨3, na, []⟩, r)) else none by
    unfold digitsT
    rw [hr, ← hrun, hpr])
  have HR := Lib.hid hr
  clear h hb0 six hr hpr hrun
  unfold zero6 at *
  go_enter Tryd.func53, Tryd.ntmps53
  go_wp2_with fail
  go_loop [8] (fun v => ∃ k : Nat, v = .int .i64 k ∧ f0 ≤ k ∧ k ≤ r ∧ Hid (r = k + runB (digZ base) (s.data.toList.drop k))) (fun v => r - (intOf v).toNat)
  case atStart => exact ⟨f0, rfl, Nat.le_refl _, hf0r, HR.out.symm⟩
  case round =>
    obtain ⟨k, rfl, hk0, hk, HK⟩ := hrel
    by_cases hlt : k < s.size
    · have hd := drop_at s k hlt
      have D1 := Lib.hid (fun w => D.out (s.extract k (k + 1)) w (by rw [Lib.size_eq, Lib.extract_data, List.length_take]; omega))
      rw [one_at s k hlt, ← digZ_one] at D1
      obtain ⟨b, hb⟩ : ∃ b, digZ base (s[k].toNat : Int) = b := ⟨_, rfl⟩
      rw [hb] at D1
      cases b
      · have hre : r = k := by
          have := HK.out
          rw [hd, runB_no hb] at this
          omega
        subst hre
        clear hd hb HK
        go_wp2_with (go_at_call 70; refine (D1.out _).mono ?_; rintro e w' ⟨rfl, rfl⟩)
        refine (PR.out _).mono ?_
        rintro e w' ⟨rfl, rfl⟩
        cases he : (ea == 0)
        · have he2 : (ea != 0) = true := by simp [bne, he]
          have HO := Lib.hid (show digitsT f0 base s.data.toList = none by rw [HD.out, if_neg (by rw [he]; simp)])
          clear he
          go_wp2_with fail
          refine bodyPost_ret (v := no6) (by simp [results, Tryd.results53, go_sem, d0, d1, d2, d3, d4, d5]) rfl ?_
          exact .no HO.out (HBX.out _)
        · have he2 : (ea != 0) = false := by simp [bne, he]
          have HO := Lib.hid (show digitsT f0 base s.data.toList = if r = 0 then none else some (⟨3, na, []⟩, r) by rw [HD.out, if_pos he])
          clear he
          go_wp2_with fail
          refine bodyPost_ret (v := .tuple #[.agg #[.int .i64 3, .int .i64 0, .int .i64 na, .string ⟨#[]⟩, .bool false, .bool false], .int .i64 r]) (by simp [results, Tryd.results53, go_sem]) rfl ?_
          by_cases h0 : r = 0
          · exact ⟨⟨⟨3, na, []⟩, r, rfl, .inl ⟨by rw [HO.out, if_pos h0], h0⟩⟩, HBX.out _⟩
          · exact .num (z := r) (by rw [HO.out, if_neg h0]) (by omega) (HBX.out _)
      · have hre : r = k + 1 + runB (digZ base) (s.data.toList.drop (k + 1)) := by
          have := HK.out
          rw [hd, runB_yes hb] at this
          omega
        have HRE := Lib.hid hre
        have hk1 : k + 1 ≤ r := by omega
        clear hd hb HK hre
        go_wp2_with (go_at_call 70; refine (D1.out _).mono ?_; rintro e w' ⟨rfl, rfl⟩)
        go_round
        case rel => exact ⟨k + 1, by go_num, by omega, hk1, HRE.out⟩
        case measure => simp [intOf]; omega
    · have hre : r = k := by
        have := HK.out
        rw [List.drop_of_length_le (by rw [← Lib.size_eq]; omega), runB_nil] at this
        omega
      subst hre
      clear HK
      go_wp2_with fail
      refine (PR.out _).mono ?_
      rintro e w' ⟨rfl, rfl⟩
      cases he : (ea == 0)
      · have he2 : (ea != 0) = true := by simp [bne, he]
        have HO := Lib.hid (show digitsT f0 base s.data.toList = none by rw [HD.out, if_neg (by rw [he]; simp)])
        clear he
        go_wp2_with fail
        refine bodyPost_ret (v := no6) (by simp [results, Tryd.results53, go_sem, d0, d1, d2, d3, d4, d5]) rfl ?_
        exact .no HO.out (HBX.out _)
      · have he2 : (ea != 0) = false := by simp [bne, he]
        have HO := Lib.hid (show digitsT f0 base s.data.toList = if r = 0 then none else some (⟨3, na, []⟩, r) by rw [HD.out, if_pos he])
        clear he
        go_wp2_with fail
        refine bodyPost_ret (v := .tuple #[.agg #[.int .i64 3, .int .i64 0, .int .i64 na, .string ⟨#[]⟩, .bool false, .bool false], .int .i64 r]) (by simp [results, Tryd.results53, go_sem]) rfl ?_
        by_cases h0 : r = 0
        · exact ⟨⟨⟨3, na, []⟩, r, rfl, .inl ⟨by rw [HO.out, if_pos h0], h0⟩⟩, HBX.out _⟩
        · exact .num (z := r) (by rw [HO.out, if_neg h0]) (by omega) (HBX.out _)
end Go.Proofs.YtkbeaddbnnboaaaDoor
