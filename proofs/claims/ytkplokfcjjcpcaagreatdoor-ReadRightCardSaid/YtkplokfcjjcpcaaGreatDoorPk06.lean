/- Joined texts: TokE TokF TokG. Conditions: as each states. -/
import Derived.Test.YtkplokfcjjcpcaaGreatDoorPk05
section
namespace Go.Proofs.YtkplokfcjjcpcaaGreatDoor
open Go Go.RowKit Go.Maps
abbrev no6 : Value := .tuple #[.agg #[.int .i64 0, .int .i64 0, .int .i64 0, .string ⟨#[]⟩, .bool false, .bool false], .int .i64 0]
abbrev stop6 : Value := .tuple #[.agg #[.int .i64 7, .int .i64 0, .int .i64 0, .string ⟨#[]⟩, .bool false, .bool false], .int .i64 1]
theorem stop_no {c : UInt8} {t : List UInt8} (h : ((c.toNat : Int) == 46) = false) : stopT (c :: t) = none := by
  cases t <;> simp only [stopT] <;> rw [if_neg (by rw [h]; simp)]
theorem stop_end {c : UInt8} (h : ((c.toNat : Int) == 46) = true) : stopT [c] = some (⟨7, 0, []⟩, 1) := by
  simp only [stopT]; rw [if_pos h]
theorem stop_37 {c d : UInt8} {t : List UInt8} (h : ((c.toNat : Int) == 46) = true) (h1 : ((d.toNat : Int) == 37) = true) : stopT (c :: d :: t) = some (⟨7, 0, []⟩, 1) := by
  simp only [stopT]; rw [if_pos h, if_pos h1]
theorem stop_blank {c d : UInt8} {t : List UInt8} (h : ((c.toNat : Int) == 46) = true) (h1 : ((d.toNat : Int) == 37) = false) (h2 : (sortZ (d.toNat : Int) == 1) = true) : stopT (c :: d :: t) = some (⟨7, 0, []⟩, 1) := by
  simp only [stopT]; rw [if_pos h, if_neg (by rw [h1]; simp), if_pos h2]
theorem stop_none {c d : UInt8} {t : List UInt8} (h : ((c.toNat : Int) == 46) = true) (h1 : ((d.toNat : Int) == 37) = false) (h2 : (sortZ (d.toNat : Int) == 1) = false) : stopT (c :: d :: t) = none := by
  simp only [stopT]; rw [if_pos h, if_neg (by rw [h1]; simp), if_neg (by rw [h2]; simp)]
theorem AttPost.stop {w w' : World} {o : Option (Tk × Nat)} (ho : o = some (⟨7, 0, []⟩, 1)) (h : Below w.heap.size w w') : AttPost w o (.returned stop6) w' := ⟨⟨⟨7, 0, []⟩, 1, rfl, .inr ⟨ho, Nat.one_pos⟩⟩, h⟩
set_option maxRecDepth 100000 in
set_option maxHeartbeats 800000 in
theorem stop_is (p : Nat) (s : ByteArray) (n : Int) (w : World) (h : PL w p s n) (hs : s.size ≤ 5000) (hp : 0 < s.size) :
    Calls Tryz.prog 79 #[.pointer (some ⟨p, 0, none⟩)] w (AttPost w (stopT s.data.toList)) := by
  obtain ⟨c, t, hl⟩ := cons_of hp
  have hb0 : Below w.heap.size w (w.alloc (.cells zero6 48)) := (Below.refl _ _).alloc (Nat.le_refl _) _
  have HBX := Lib.hid (fun x => (Below.refl w.heap.size w).alloc (Nat.le_refl _) (.cells x 48))
  obtain ⟨c0, _, _, _⟩ := (h.on hb0).cells
  have hc := at_0 hl hp
  have six : Six (w.alloc (.cells zero6 48)) w.heap.size := ⟨new_at _ _ rfl⟩
  obtain ⟨d0, d1, d2, d3, d4, d5, z0, z1, z2, z3, z4, z5⟩ := six.facts
  have HL := Lib.hid hl
  have hsz := Lib.size_eq s
  rw [hl] at hsz
  clear h hb0 six
  unfold zero6 at *
  cases hq : ((c.toNat : Int) == 46)
  · have hq2 : ((c.toNat : Int) != 46) = true := by simp [bne, hq]
    have HO := Lib.hid (show stopT s.data.toList = none by rw [HL.out, stop_no hq])
    clear hq hl hsz
    go_enter Tryz.func79, Tryz.ntmps79
    go_wp2_with fail
    refine bodyPost_ret (v := no6) (by simp [results, Tryz.results79, go_sem, d0, d1, d2, d3, d4, d5]) rfl ?_
    exact .no HO.out (HBX.out _)
  have hq2 : ((c.toNat : Int) != 46) = false := by simp [bne, hq]
  rcases t with _ | ⟨d, t⟩
  · have h1 : s.size = 1 := hsz
    have HO := Lib.hid (show stopT s.data.toList = some (⟨7, 0, []⟩, 1) by rw [HL.out, stop_end hq])
    clear hq hl hsz
    go_enter Tryz.func79, Tryz.ntmps79
    go_wp2_with fail
    refine bodyPost_ret (v := stop6) (by simp [results, Tryz.results79, go_sem]) rfl ?_
    exact .stop HO.out (HBX.out _)
  have hp1 : 1 < s.size := by simp at hsz; omega
  have he := at_1 hl hp1
  have S := Lib.hid (fun w => sort_is (d.toNat : Int) w (by omega) (by have := d.toNat_lt; omega))
  obtain ⟨z, hz⟩ : ∃ z, sortZ (d.toNat : Int) = z := ⟨_, rfl⟩
  rw [hz] at S
  cases hr : ((d.toNat : Int) == 37)
  · have hr2 : ((d.toNat : Int) != 37) = true := by simp [bne, hr]
    cases hb : (z == 1)
    · have hb2 : (z != 1) = true := by simp [bne, hb]
      have HO := Lib.hid (show stopT s.data.toList = none by rw [HL.out, stop_none hq hr (by rw [hz]; exact hb)])
      clear hq hr hb hl hsz hz
      go_enter Tryz.func79, Tryz.ntmps79
      go_wp2_with (go_at_call 74; refine (S.out _).mono ?_; rintro e w' ⟨rfl, rfl⟩)
      refine bodyPost_ret (v := no6) (by simp [results, Tryz.results79, go_sem, d0, d1, d2, d3, d4, d5]) rfl ?_
      exact .no HO.out (HBX.out _)
    · have hb2 : (z != 1) = false := by simp [bne, hb]
      have HO := Lib.hid (show stopT s.data.toList = some (⟨7, 0, []⟩, 1) by rw [HL.out, stop_blank hq hr (by rw [hz]; exact hb)])
      clear hq hr hb hl hsz hz
      go_enter Tryz.func79, Tryz.ntmps79
      go_wp2_with (go_at_call 74; refine (S.out _).mono ?_; rintro e w' ⟨rfl, rfl⟩)
      refine bodyPost_ret (v := stop6) (by simp [results, Tryz.results79, go_sem]) rfl ?_
      exact .stop HO.out (HBX.out _)
  · have hr2 : ((d.toNat : Int) != 37) = false := by simp [bne, hr]
    have HO := Lib.hid (show stopT s.data.toList = some (⟨7, 0, []⟩, 1) by rw [HL.out, stop_37 hq hr])
    clear hq hr hl hsz hz
    go_enter Tryz.func79, Tryz.ntmps79
    go_wp2_with fail
    refine bodyPost_ret (v := stop6) (by simp [results, Tryz.results79, go_sem]) rfl ?_
    exact .stop HO.out (HBX.out _)
theorem stepF_done {q : Int} {l : List UInt8} (h : stepF q l = .done) : 1 ≤ l.length := by
  rcases l with _ | ⟨c, t⟩
  · cases h
  · simp
theorem getF_len {q : Int} : ∀ (f : Nat) (l acc b : List UInt8) (m0 m : Nat), getF q f l acc m0 = some (b, m) → m0 + 1 ≤ m ∧ m ≤ m0 + l.length ∧ b.length + m0 ≤ acc.length + m
  | 0, _, _, _, _, _, h => by cases h
  | f + 1, l, acc, b, m0, m, h => by
    unfold getF at h
    cases hs : stepF q l with
    | done =>
      rw [hs] at h
      simp at h
      obtain ⟨rfl, rfl⟩ := h
      have := stepF_done hs
      omega
    | bad => rw [hs] at h; cases h
    | go x k =>
      rw [hs] at h
      have h1 := stepF_len hs
      have h2 := getF_len f _ _ _ _ _ h
      rw [List.length_drop, List.length_append] at h2
      omega
theorem getL_len {q : Int} {l b : List UInt8} {m : Nat} (h : getL q l = some (b, m)) : 1 ≤ m ∧ m ≤ l.length ∧ b.length ≤ m := by
  have := getF_len _ _ _ _ _ _ h
  simp at this
  omega
theorem within_no {q k : Int} {c : UInt8} {t : List UInt8} (h : ((c.toNat : Int) == q) = false) : withinT q k (c :: t) = none := by
  simp only [withinT]; rw [if_neg (by rw [h]; simp)]
theorem within_bad {q k : Int} {c : UInt8} {t : List UInt8} (h : ((c.toNat : Int) == q) = true) (hg : getL q t = none) : withinT q k (c :: t) = none := by
  simp only [withinT]; rw [if_pos h, hg]
theorem within_ok {q k : Int} {c : UInt8} {t b : List UInt8} {m : Nat} (h : ((c.toNat : Int) == q) = true) (hg : getL q t = some (b, m)) : withinT q k (c :: t) = some (⟨k, 0, b⟩, 1 + m) := by
  simp only [withinT]; rw [if_pos h, hg]
set_option maxRecDepth 100000 in
set_option maxHeartbeats 800000 in
theorem within_is (p : Nat) (s : ByteArray) (n : Int) (q kind : Int) (w : World) (h : PL w p s n) (hs : s.size ≤ 5000) (hp : 0 < s.size) (ht : Tab w) :
    Calls Tryz.prog 136 #[.pointer (some ⟨p, 0, none⟩), .int .u8 q, .int .i64 kind] w (AttPost w (withinT q kind s.data.toList)) := by
  obtain ⟨c, t, hl⟩ := cons_of hp
  have hb0 : Below w.heap.size w (w.alloc (.cells zero6 48)) := (Below.refl _ _).alloc (Nat.le_refl _) _
  obtain ⟨c0, _, _, _⟩ := (h.on hb0).cells
  have hc := at_0 hl hp
  have six : Six (w.alloc (.cells zero6 48)) w.heap.size := ⟨new_at _ _ rfl⟩
  obtain ⟨d0, d1, d2, d3, d4, d5, z0, z1, z2, z3, z4, z5⟩ := six.facts
  have SIX := Lib.hid six
  have HB0 := Lib.hid hb0
  have HL := Lib.hid hl
  have he : (s.extract 1 s.size).data.toList = t := by rw [Lib.extract_data, hl]; simp [Lib.size_eq, hl]
  have hes : (s.extract 1 s.size).size ≤ 18000 := by
    have h1 := Lib.size_eq s
    rw [Lib.size_eq, he]
    rw [hl] at h1
    simp at h1
    omega
  have G := get_is (s.extract 1 s.size) q _ hes (ht.on hb0)
  rw [he] at G
  have G' := Lib.hid G
  clear h hb0 six G hl hes he ht
  unfold zero6 at *
  cases hq : ((c.toNat : Int) == q)
  · have hq2 : ((c.toNat : Int) != q) = true := by simp [bne, hq]
    have HO := Lib.hid (show withinT q kind s.data.toList = none by rw [HL.out, within_no hq])
    clear hq
    go_enter Tryz.func136, Tryz.ntmps136
    go_wp2_with fail
    refine bodyPost_ret (v := no6) (by simp [results, Tryz.results136, go_sem, d0, d1, d2, d3, d4, d5]) rfl ?_
    exact .no HO.out HB0.out
  have hq2 : ((c.toNat : Int) != q) = false := by simp [bne, hq]
  obtain ⟨o, ho⟩ : ∃ o, getL q t = o := ⟨_, rfl⟩
  rw [ho] at G'
  rcases o with _ | ⟨b, m⟩
  · have HO := Lib.hid (show withinT q kind s.data.toList = none by rw [HL.out, within_bad hq ho])
    clear hq ho
    go_enter Tryz.func136, Tryz.ntmps136
    go_wp2_with fail
    refine G'.out.mono ?_
    rintro e w5 ⟨rfl, b1⟩
    have S5 := SIX.out.on b1
    obtain ⟨d0, d1, d2, d3, d4, d5, z0, z1, z2, z3, z4, z5⟩ := S5.facts
    have HB := Lib.hid (HB0.out.trans (b1.mono HB0.out.size))
    clear b1 S5
    go_wp2_with fail
    refine bodyPost_ret (v := no6) (by simp [results, Tryz.results136, go_sem, d0, d1, d2, d3, d4, d5]) rfl ?_
    exact .no HO.out (below6 HB.out _ _ _ _ _ _)
  · have HO := Lib.hid (show withinT q kind s.data.toList = some (⟨kind, 0, b⟩, 1 + m) by rw [HL.out, within_ok hq ho])
    have hm : m ≤ 5000 := by have h1 := getL_len ho; have h2 := Lib.size_eq s; rw [HL.out] at h2; simp at h2; omega
    have hw1 : wrap64 (1 + (m : Int)) = 1 + m := IntWalk.wrap64_in _ (by omega)
    clear hq ho
    go_enter Tryz.func136, Tryz.ntmps136
    go_wp2_with fail
    refine G'.out.mono ?_
    rintro e w5 ⟨rfl, b1⟩
    have S5 := SIX.out.on b1
    obtain ⟨d0, d1, d2, d3, d4, d5, z0, z1, z2, z3, z4, z5⟩ := S5.facts
    have HS5 := Lib.hid S5
    have HB := Lib.hid (HB0.out.trans (b1.mono HB0.out.size))
    clear b1 S5
    go_wp2_with fail
    obtain ⟨q0, q1, q2, q3, q4, q5⟩ := six_cells HS5.out.h (.int .i64 kind) (.int .i64 0) (.int .i64 0) (.string ⟨b.toArray⟩) (.bool false) (.bool false)
    refine bodyPost_ret (v := .tuple #[.agg #[.int .i64 kind, .int .i64 0, .int .i64 0, .string ⟨b.toArray⟩, .bool false, .bool false], .int .i64 (1 + (m : Int))]) (by simp [results, Tryz.results136, go_sem, q0, q1, q2, q3, q4, q5]) rfl ?_
    rw [show 1 + (m : Int) = ((1 + m : Nat) : Int) by omega]
    exact .text (z := 1 + m) HO.out (by omega) (below6 HB.out _ _ _ _ _ _)
end Go.Proofs.YtkplokfcjjcpcaaGreatDoor
end
section
namespace Go.Proofs.YtkplokfcjjcpcaaGreatDoor
open Go Go.RowKit Go.Maps
set_option maxHeartbeats 400000 in
theorem dig_is (s : ByteArray) (base : Int) (w : World) (hs : s.size ≤ 20000) :
    Calls Tryz.prog 173 #[.string s, .int .i64 base] w fun e w' => e = .returned (.bool ((parseR base s.data.toList).2 == 0)) ∧ w' = w := by
  have P := Lib.hid (parse_is s base w (by unfold maxLen; omega))
  obtain ⟨⟨a, b⟩, hr⟩ : ∃ r, parseR base s.data.toList = r := ⟨_, rfl⟩
  rw [hr] at P ⊢
  go_enter Tryz.func173, Tryz.ntmps173
  go_wp2_with (go_at_call 174; refine P.out.mono ?_; rintro e w' ⟨rfl, rfl⟩)
  go_ret
  exact ⟨rfl, rfl⟩
theorem one_at (s : ByteArray) (k : Nat) (h : k < s.size) : (s.extract k (k + 1)).data.toList = [s[k]] := by
  rw [Lib.extract_data, drop_at s k h]
  simp
theorem digZ_one (base : Int) (c : UInt8) : digZ base (c.toNat : Int) = ((parseR base [c]).2 == 0) := by
  unfold digZ
  simp
set_option maxRecDepth 100000 in
set_option maxHeartbeats 1600000 in
theorem digits_is (p : Nat) (s : ByteArray) (n : Int) (f0 : Nat) (base : Int) (w : World) (h : PL w p s n) (hs : s.size ≤ 5000) (hf : f0 ≤ s.size) :
    Calls Tryz.prog 134 #[.pointer (some ⟨p, 0, none⟩), .int .i64 f0, .int .i64 base] w (AttPost w (digitsT f0 base s.data.toList)) := by
  have hb0 : Below w.heap.size w (w.alloc (.cells zero6 48)) := (Below.refl _ _).alloc (Nat.le_refl _) _
  have HBX := Lib.hid (fun x => (Below.refl w.heap.size w).alloc (Nat.le_refl _) (.cells x 48))
  obtain ⟨c0, _, _, _⟩ := (h.on hb0).cells
  have six : Six (w.alloc (.cells zero6 48)) w.heap.size := ⟨new_at _ _ rfl⟩
  obtain ⟨d0, d1, d2, d3, d4, d5, z0, z1, z2, z3, z4, z5⟩ := six.facts
  obtain ⟨r, hr⟩ : ∃ r, f0 + runB (digZ base) (s.data.toList.drop f0) = r := ⟨_, rfl⟩
  have hrs : r ≤ s.size := by
    have := runB_le (digZ base) (s.data.toList.drop f0)
    rw [List.length_drop, ← Lib.size_eq] at this
    omega
  have hf0r : f0 ≤ r := by omega
  have D := Lib.hid (fun s w hs => dig_is s base w hs)
  have PR := Lib.hid (fun w => parse_is (s.extract f0 r) base w (by unfold maxLen; rw [Lib.size_eq, Lib.extract_data, List.length_take]; omega))
  rw [Lib.extract_data] at PR
  obtain ⟨⟨na, ea⟩, hpr⟩ : ∃ x, parseR base ((s.data.toList.drop f0).take (r - f0)) = x := ⟨_, rfl⟩
  rw [hpr] at PR
  have hrun : r - f0 = runB (digZ base) (s.data.toList.drop f0) := by omega
  have HD := Lib.hid (show digitsT f0 base s.data.toList = if (ea == 0) = true then (if r = 0 then none else some (⟨3, na, []⟩, r)) else none by
    unfold digitsT
    rw [hr, ← hrun, hpr])
  have HR := Lib.hid hr
  clear h hb0 six hr hpr hrun
  unfold zero6 at *
  go_enter Tryz.func134, Tryz.ntmps134
  go_wp2_with fail
  go_loop [8] (fun v => ∃ k : Nat, v = .int .i64 k ∧ f0 ≤ k ∧ k ≤ r ∧ Hid (r = k + runB (digZ base) (s.data.toList.drop k))) (fun v => r - (intOf v).toNat)
  case atStart => exact ⟨f0, rfl, Nat.le_refl _, hf0r, HR.out.symm⟩
  case round =>
    obtain ⟨k, rfl, hk0, hk, HK⟩ := hrel
    by_cases hlt : k < s.size
    · have hd := drop_at s k hlt
      have D1 := Lib.hid (fun w => D.out (s.extract k (k + 1)) w (by rw [Lib.size_eq, Lib.extract_data, List.length_take]; omega))
      rw [one_at s k hlt, ← digZ_one] at D1
      obtain ⟨b, hb⟩ : ∃ b, digZ base (s[k].toNat : Int) = b := ⟨_, rfl⟩
      rw [hb] at D1
      cases b
      · have hre : r = k := by
          have := HK.out
          rw [hd, runB_no hb] at this
          omega
        subst hre
        clear hd hb HK
        go_wp2_with (go_at_call 173; refine (D1.out _).mono ?_; rintro e w' ⟨rfl, rfl⟩)
        refine (PR.out _).mono ?_
        rintro e w' ⟨rfl, rfl⟩
        cases he : (ea == 0)
        · have he2 : (ea != 0) = true := by simp [bne, he]
          have HO := Lib.hid (show digitsT f0 base s.data.toList = none by rw [HD.out, if_neg (by rw [he]; simp)])
          clear he
          go_wp2_with fail
          refine bodyPost_ret (v := no6) (by simp [results, Tryz.results134, go_sem, d0, d1, d2, d3, d4, d5]) rfl ?_
          exact .no HO.out (HBX.out _)
        · have he2 : (ea != 0) = false := by simp [bne, he]
          have HO := Lib.hid (show digitsT f0 base s.data.toList = if r = 0 then none else some (⟨3, na, []⟩, r) by rw [HD.out, if_pos he])
          clear he
          go_wp2_with fail
          refine bodyPost_ret (v := .tuple #[.agg #[.int .i64 3, .int .i64 0, .int .i64 na, .string ⟨#[]⟩, .bool false, .bool false], .int .i64 r]) (by simp [results, Tryz.results134, go_sem]) rfl ?_
          by_cases h0 : r = 0
          · exact ⟨⟨⟨3, na, []⟩, r, rfl, .inl ⟨by rw [HO.out, if_pos h0], h0⟩⟩, HBX.out _⟩
          · exact .num (z := r) (by rw [HO.out, if_neg h0]) (by omega) (HBX.out _)
      · have hre : r = k + 1 + runB (digZ base) (s.data.toList.drop (k + 1)) := by
          have := HK.out
          rw [hd, runB_yes hb] at this
          omega
        have HRE := Lib.hid hre
        have hk1 : k + 1 ≤ r := by omega
        clear hd hb HK hre
        go_wp2_with (go_at_call 173; refine (D1.out _).mono ?_; rintro e w' ⟨rfl, rfl⟩)
        go_round
        case rel => exact ⟨k + 1, by go_num, by omega, hk1, HRE.out⟩
        case measure => simp [intOf]; omega
    · have hre : r = k := by
        have := HK.out
        rw [List.drop_of_length_le (by rw [← Lib.size_eq]; omega), runB_nil] at this
        omega
      subst hre
      clear HK
      go_wp2_with fail
      refine (PR.out _).mono ?_
      rintro e w' ⟨rfl, rfl⟩
      cases he : (ea == 0)
      · have he2 : (ea != 0) = true := by simp [bne, he]
        have HO := Lib.hid (show digitsT f0 base s.data.toList = none by rw [HD.out, if_neg (by rw [he]; simp)])
        clear he
        go_wp2_with fail
        refine bodyPost_ret (v := no6) (by simp [results, Tryz.results134, go_sem, d0, d1, d2, d3, d4, d5]) rfl ?_
        exact .no HO.out (HBX.out _)
      · have he2 : (ea != 0) = false := by simp [bne, he]
        have HO := Lib.hid (show digitsT f0 base s.data.toList = if r = 0 then none else some (⟨3, na, []⟩, r) by rw [HD.out, if_pos he])
        clear he
        go_wp2_with fail
        refine bodyPost_ret (v := .tuple #[.agg #[.int .i64 3, .int .i64 0, .int .i64 na, .string ⟨#[]⟩, .bool false, .bool false], .int .i64 r]) (by simp [results, Tryz.results134, go_sem]) rfl ?_
        by_cases h0 : r = 0
        · exact ⟨⟨⟨3, na, []⟩, r, rfl, .inl ⟨by rw [HO.out, if_pos h0], h0⟩⟩, HBX.out _⟩
        · exact .num (z := r) (by rw [HO.out, if_neg h0]) (by omega) (HBX.out _)
end Go.Proofs.YtkplokfcjjcpcaaGreatDoor
end
section
namespace Go.Proofs.YtkplokfcjjcpcaaGreatDoor
open Go Go.RowKit Go.Maps
def charO (z : Nat) : Option (List UInt8 × Nat) → Option (Tk × Nat)
  | some ([c], _) => some (⟨3, (c.toNat : Int), []⟩, 2 + z)
  | _ => none
theorem charT_o (l : List UInt8) : charT l = if (l.drop 2).length < charZ (l.drop 2) then none else charO (charZ (l.drop 2)) (getL 39 ((l.drop 2).take (charZ (l.drop 2)) ++ [39])) := rfl
set_option maxRecDepth 100000 in
set_option maxHeartbeats 1600000 in
theorem char_is (p : Nat) (s : ByteArray) (n : Int) (w : World) (h : PL w p s n) (hs : s.size ≤ 5000) (h2 : 2 ≤ s.size) (ht : Tab w) :
    Calls Tryz.prog 135 #[.pointer (some ⟨p, 0, none⟩)] w (AttPost w (charT s.data.toList)) := by
  have hb0 : Below w.heap.size w (w.alloc (.cells zero6 48)) := (Below.refl _ _).alloc (Nat.le_refl _) _
  obtain ⟨c0, _, _, _⟩ := (h.on hb0).cells
  have six : Six (w.alloc (.cells zero6 48)) w.heap.size := ⟨new_at _ _ rfl⟩
  obtain ⟨d0, d1, d2, d3, d4, d5, z0, z1, z2, z3, z4, z5⟩ := six.facts
  have SIX := Lib.hid six
  have HB0 := Lib.hid hb0
  have hl : (s.extract 2 s.size).data.toList = s.data.toList.drop 2 := by rw [Lib.extract_data, List.take_of_length_le (by rw [List.length_drop, Lib.size_eq]; omega)]
  have hsz : (s.extract 2 s.size).size = s.size - 2 := by rw [Lib.size_eq, hl, List.length_drop, ← Lib.size_eq]
  obtain ⟨S, hS⟩ : ∃ S, s.extract 2 s.size = S := ⟨_, rfl⟩
  rw [hS] at hl hsz
  have P1 := Lib.hid (fun w => Tryz.strings_HasPrefix S ⟨#[39]⟩ w)
  have P2 := Lib.hid (fun w => Tryz.strings_HasPrefix S ⟨#[92]⟩ w)
  obtain ⟨b1, hb1⟩ : ∃ b, Lib.hasPrefix S.data.toList (ByteArray.mk #[39]).data.toList = b := ⟨_, rfl⟩
  obtain ⟨b2, hb2⟩ : ∃ b, Lib.hasPrefix S.data.toList (ByteArray.mk #[92]).data.toList = b := ⟨_, rfl⟩
  rw [hb1] at P1
  rw [hb2] at P2
  obtain ⟨z, hz⟩ : ∃ z : Nat, z = if b1 = true then 2 else if b2 = true then 2 else 1 := ⟨_, rfl⟩
  have hzb : 1 ≤ z ∧ z ≤ 2 := by rw [hz]; cases b1 <;> cases b2 <;> simp
  have hcz : charZ (s.data.toList.drop 2) = z := by
    rw [hz, ← hb1, ← hb2, ← hl]
    rfl
  have HCZ := Lib.hid hcz
  have HL := Lib.hid hl
  have HS := Lib.hid hS
  have HT := Lib.hid (ht.on hb0)
  clear h hb0 six hl hb1 hb2 hcz ht
  unfold zero6 at *
  by_cases hlt : S.size < z
  · have HO := Lib.hid (show charT s.data.toList = none by rw [charT_o, HCZ.out, if_pos (by rw [← HL.out, ← Lib.size_eq]; exact hlt)])
    clear HT
    cases b1
    · cases b2
      · have hz1 : z = 1 := hz
        subst hz1
        clear hz
        go_enter Tryz.func135, Tryz.ntmps135
        go_wp2_with (first | (go_at_call_of 49 (Value.string S); first | (refine (P1.out _).mono ?_; rintro e w' ⟨rfl, rfl⟩) | (refine (P2.out _).mono ?_; rintro e w' ⟨rfl, rfl⟩)))
        refine bodyPost_ret (v := no6) (by simp [results, Tryz.results135, go_sem, d0, d1, d2, d3, d4, d5]) rfl ?_
        exact .no HO.out HB0.out
      · have hz1 : z = 2 := hz
        subst hz1
        clear hz
        go_enter Tryz.func135, Tryz.ntmps135
        go_wp2_with (first | (go_at_call_of 49 (Value.string S); first | (refine (P1.out _).mono ?_; rintro e w' ⟨rfl, rfl⟩) | (refine (P2.out _).mono ?_; rintro e w' ⟨rfl, rfl⟩)))
        refine bodyPost_ret (v := no6) (by simp [results, Tryz.results135, go_sem, d0, d1, d2, d3, d4, d5]) rfl ?_
        exact .no HO.out HB0.out
    · have hz1 : z = 2 := hz
      subst hz1
      clear hz P2
      go_enter Tryz.func135, Tryz.ntmps135
      go_wp2_with (first | (go_at_call_of 49 (Value.string S); first | (refine (P1.out _).mono ?_; rintro e w' ⟨rfl, rfl⟩) | (refine (P2.out _).mono ?_; rintro e w' ⟨rfl, rfl⟩)))
      refine bodyPost_ret (v := no6) (by simp [results, Tryz.results135, go_sem, d0, d1, d2, d3, d4, d5]) rfl ?_
      exact .no HO.out HB0.out
  have hg : (S.extract 0 z ++ ⟨#[39]⟩).data.toList = (s.data.toList.drop 2).take z ++ [39] := by
    rw [ByteArray.data_append, Array.toList_append, Lib.extract_data, List.drop_zero, Nat.sub_zero, HL.out]
  have G := Lib.hid (get_is (S.extract 0 z ++ ⟨#[39]⟩) 39 _ (by rw [Lib.size_eq, hg, List.length_append, List.length_take]; simp; omega) HT.out)
  rw [hg] at G
  obtain ⟨o, ho⟩ : ∃ o, getL 39 ((s.data.toList.drop 2).take z ++ [39]) = o := ⟨_, rfl⟩
  rw [ho] at G
  have HC := Lib.hid (show charT s.data.toList = charO z o by rw [charT_o, HCZ.out, if_neg (by rw [← HL.out, ← Lib.size_eq]; exact hlt), ho])
  clear ho hg HT
  rcases o with _ | ⟨b, m⟩
  · have HO := Lib.hid (show charT s.data.toList = none from HC.out)
    clear HC
    cases b1
    · cases b2
      · have hz1 : z = 1 := hz
        subst hz1
        clear hz
        go_enter Tryz.func135, Tryz.ntmps135
        go_wp2_with (first | (go_at_call_of 49 (Value.string S); first | (refine (P1.out _).mono ?_; rintro e w' ⟨rfl, rfl⟩) | (refine (P2.out _).mono ?_; rintro e w' ⟨rfl, rfl⟩)))
        refine G.out.mono ?_
        rintro e w5 ⟨rfl, b5⟩
        have S5 := SIX.out.on b5
        obtain ⟨d0, d1, d2, d3, d4, d5, z0, z1, z2, z3, z4, z5⟩ := S5.facts
        have HS5 := Lib.hid S5
        have HB := Lib.hid (HB0.out.trans (b5.mono HB0.out.size))
        clear b5 S5 SIX HB0
        go_wp2_with fail
        refine bodyPost_ret (v := no6) (by simp [results, Tryz.results135, go_sem, d0, d1, d2, d3, d4, d5]) rfl ?_
        exact .no HO.out (below6 HB.out _ _ _ _ _ _)
      · have hz1 : z = 2 := hz
        subst hz1
        clear hz
        go_enter Tryz.func135, Tryz.ntmps135
        go_wp2_with (first | (go_at_call_of 49 (Value.string S); first | (refine (P1.out _).mono ?_; rintro e w' ⟨rfl, rfl⟩) | (refine (P2.out _).mono ?_; rintro e w' ⟨rfl, rfl⟩)))
        refine G.out.mono ?_
        rintro e w5 ⟨rfl, b5⟩
        have S5 := SIX.out.on b5
        obtain ⟨d0, d1, d2, d3, d4, d5, z0, z1, z2, z3, z4, z5⟩ := S5.facts
        have HS5 := Lib.hid S5
        have HB := Lib.hid (HB0.out.trans (b5.mono HB0.out.size))
        clear b5 S5 SIX HB0
        go_wp2_with fail
        refine bodyPost_ret (v := no6) (by simp [results, Tryz.results135, go_sem, d0, d1, d2, d3, d4, d5]) rfl ?_
        exact .no HO.out (below6 HB.out _ _ _ _ _ _)
    · have hz1 : z = 2 := hz
      subst hz1
      clear hz P2
      go_enter Tryz.func135, Tryz.ntmps135
      go_wp2_with (first | (go_at_call_of 49 (Value.string S); first | (refine (P1.out _).mono ?_; rintro e w' ⟨rfl, rfl⟩) | (refine (P2.out _).mono ?_; rintro e w' ⟨rfl, rfl⟩)))
      refine G.out.mono ?_
      rintro e w5 ⟨rfl, b5⟩
      have S5 := SIX.out.on b5
      obtain ⟨d0, d1, d2, d3, d4, d5, z0, z1, z2, z3, z4, z5⟩ := S5.facts
      have HS5 := Lib.hid S5
      have HB := Lib.hid (HB0.out.trans (b5.mono HB0.out.size))
      clear b5 S5 SIX HB0
      go_wp2_with fail
      refine bodyPost_ret (v := no6) (by simp [results, Tryz.results135, go_sem, d0, d1, d2, d3, d4, d5]) rfl ?_
      exact .no HO.out (below6 HB.out _ _ _ _ _ _)
  rcases b with _ | ⟨c, _ | ⟨d, t⟩⟩
  · have HO := Lib.hid (show charT s.data.toList = none from HC.out)
    clear HC
    cases b1
    · cases b2
      · have hz1 : z = 1 := hz
        subst hz1
        clear hz
        go_enter Tryz.func135, Tryz.ntmps135
        go_wp2_with (first | (go_at_call_of 49 (Value.string S); first | (refine (P1.out _).mono ?_; rintro e w' ⟨rfl, rfl⟩) | (refine (P2.out _).mono ?_; rintro e w' ⟨rfl, rfl⟩)))
        refine G.out.mono ?_
        rintro e w5 ⟨rfl, b5⟩
        have S5 := SIX.out.on b5
        obtain ⟨d0, d1, d2, d3, d4, d5, z0, z1, z2, z3, z4, z5⟩ := S5.facts
        have HS5 := Lib.hid S5
        have HB := Lib.hid (HB0.out.trans (b5.mono HB0.out.size))
        clear b5 S5 SIX HB0
        go_wp2_with fail
        refine bodyPost_ret (v := no6) (by simp [results, Tryz.results135, go_sem, d0, d1, d2, d3, d4, d5]) rfl ?_
        exact .no HO.out (below6 HB.out _ _ _ _ _ _)
      · have hz1 : z = 2 := hz
        subst hz1
        clear hz
        go_enter Tryz.func135, Tryz.ntmps135
        go_wp2_with (first | (go_at_call_of 49 (Value.string S); first | (refine (P1.out _).mono ?_; rintro e w' ⟨rfl, rfl⟩) | (refine (P2.out _).mono ?_; rintro e w' ⟨rfl, rfl⟩)))
        refine G.out.mono ?_
        rintro e w5 ⟨rfl, b5⟩
        have S5 := SIX.out.on b5
        obtain ⟨d0, d1, d2, d3, d4, d5, z0, z1, z2, z3, z4, z5⟩ := S5.facts
        have HS5 := Lib.hid S5
        have HB := Lib.hid (HB0.out.trans (b5.mono HB0.out.size))
        clear b5 S5 SIX HB0
        go_wp2_with fail
        refine bodyPost_ret (v := no6) (by simp [results, Tryz.results135, go_sem, d0, d1, d2, d3, d4, d5]) rfl ?_
        exact .no HO.out (below6 HB.out _ _ _ _ _ _)
    · have hz1 : z = 2 := hz
      subst hz1
      clear hz P2
      go_enter Tryz.func135, Tryz.ntmps135
      go_wp2_with (first | (go_at_call_of 49 (Value.string S); first | (refine (P1.out _).mono ?_; rintro e w' ⟨rfl, rfl⟩) | (refine (P2.out _).mono ?_; rintro e w' ⟨rfl, rfl⟩)))
      refine G.out.mono ?_
      rintro e w5 ⟨rfl, b5⟩
      have S5 := SIX.out.on b5
      obtain ⟨d0, d1, d2, d3, d4, d5, z0, z1, z2, z3, z4, z5⟩ := S5.facts
      have HS5 := Lib.hid S5
      have HB := Lib.hid (HB0.out.trans (b5.mono HB0.out.size))
      clear b5 S5 SIX HB0
      go_wp2_with fail
      refine bodyPost_ret (v := no6) (by simp [results, Tryz.results135, go_sem, d0, d1, d2, d3, d4, d5]) rfl ?_
      exact .no HO.out (below6 HB.out _ _ _ _ _ _)
  · have HO := Lib.hid (show charT s.data.toList = some (⟨3, (c.toNat : Int), []⟩, 2 + z) from HC.out)
    have hw8 : wrap64 (c.toNat : Int) = (c.toNat : Int) := IntWalk.wrap64_in _ (by have := c.toNat_lt; omega)
    obtain ⟨B, hB⟩ : ∃ B : ByteArray, ⟨[c].toArray⟩ = B := ⟨_, rfl⟩
    have hBs : 0 < B.size := by rw [← hB]; exact Nat.one_pos
    have hB1 : ((B.size : Int) != 1) = false := by rw [← hB]; rfl
    have cx : B[0] = c := at_0 (t := []) (by rw [← hB]) hBs
    have G2 := G.out
    unfold GetPost at G2
    simp only [hB] at G2
    have G := Lib.hid G2
    clear HC G2 hB
    cases b1
    · cases b2
      · have hz1 : z = 1 := hz
        subst hz1
        clear hz
        go_enter Tryz.func135, Tryz.ntmps135
        go_wp2_with (first | (go_at_call_of 49 (Value.string S); first | (refine (P1.out _).mono ?_; rintro e w' ⟨rfl, rfl⟩) | (refine (P2.out _).mono ?_; rintro e w' ⟨rfl, rfl⟩)))
        refine G.out.mono ?_
        rintro e w5 ⟨rfl, b5⟩
        have S5 := SIX.out.on b5
        obtain ⟨d0, d1, d2, d3, d4, d5, z0, z1, z2, z3, z4, z5⟩ := S5.facts
        have HS5 := Lib.hid S5
        have HB := Lib.hid (HB0.out.trans (b5.mono HB0.out.size))
        clear b5 S5 SIX HB0
        go_wp2_with fail
        obtain ⟨q0, q1, q2, q3, q4, q5⟩ := six_cells HS5.out.h (.int .i64 3) (.int .i64 0) (.int .i64 (c.toNat : Int)) (.string ⟨#[]⟩) (.bool false) (.bool false)
        refine bodyPost_ret (v := .tuple #[.agg #[.int .i64 3, .int .i64 0, .int .i64 (c.toNat : Int), .string ⟨#[]⟩, .bool false, .bool false], .int .i64 3]) (by simp [results, Tryz.results135, go_sem, q0, q1, q2, q3, q4, q5, hw8]) rfl ?_
        exact .num (z := 3) HO.out (by omega) (below6 HB.out _ _ _ _ _ _)
      · have hz1 : z = 2 := hz
        subst hz1
        clear hz
        go_enter Tryz.func135, Tryz.ntmps135
        go_wp2_with (first | (go_at_call_of 49 (Value.string S); first | (refine (P1.out _).mono ?_; rintro e w' ⟨rfl, rfl⟩) | (refine (P2.out _).mono ?_; rintro e w' ⟨rfl, rfl⟩)))
        refine G.out.mono ?_
        rintro e w5 ⟨rfl, b5⟩
        have S5 := SIX.out.on b5
        obtain ⟨d0, d1, d2, d3, d4, d5, z0, z1, z2, z3, z4, z5⟩ := S5.facts
        have HS5 := Lib.hid S5
        have HB := Lib.hid (HB0.out.trans (b5.mono HB0.out.size))
        clear b5 S5 SIX HB0
        go_wp2_with fail
        obtain ⟨q0, q1, q2, q3, q4, q5⟩ := six_cells HS5.out.h (.int .i64 3) (.int .i64 0) (.int .i64 (c.toNat : Int)) (.string ⟨#[]⟩) (.bool false) (.bool false)
        refine bodyPost_ret (v := .tuple #[.agg #[.int .i64 3, .int .i64 0, .int .i64 (c.toNat : Int), .string ⟨#[]⟩, .bool false, .bool false], .int .i64 4]) (by simp [results, Tryz.results135, go_sem, q0, q1, q2, q3, q4, q5, hw8]) rfl ?_
        exact .num (z := 4) HO.out (by omega) (below6 HB.out _ _ _ _ _ _)
    · have hz1 : z = 2 := hz
      subst hz1
      clear hz P2
      go_enter Tryz.func135, Tryz.ntmps135
      go_wp2_with (first | (go_at_call_of 49 (Value.string S); first | (refine (P1.out _).mono ?_; rintro e w' ⟨rfl, rfl⟩) | (refine (P2.out _).mono ?_; rintro e w' ⟨rfl, rfl⟩)))
      refine G.out.mono ?_
      rintro e w5 ⟨rfl, b5⟩
      have S5 := SIX.out.on b5
      obtain ⟨d0, d1, d2, d3, d4, d5, z0, z1, z2, z3, z4, z5⟩ := S5.facts
      have HS5 := Lib.hid S5
      have HB := Lib.hid (HB0.out.trans (b5.mono HB0.out.size))
      clear b5 S5 SIX HB0
      go_wp2_with fail
      obtain ⟨q0, q1, q2, q3, q4, q5⟩ := six_cells HS5.out.h (.int .i64 3) (.int .i64 0) (.int .i64 (c.toNat : Int)) (.string ⟨#[]⟩) (.bool false) (.bool false)
      refine bodyPost_ret (v := .tuple #[.agg #[.int .i64 3, .int .i64 0, .int .i64 (c.toNat : Int), .string ⟨#[]⟩, .bool false, .bool false], .int .i64 4]) (by simp [results, Tryz.results135, go_sem, q0, q1, q2, q3, q4, q5, hw8]) rfl ?_
      exact .num (z := 4) HO.out (by omega) (below6 HB.out _ _ _ _ _ _)
  · have HO := Lib.hid (show charT s.data.toList = none from HC.out)
    obtain ⟨B, hB⟩ : ∃ B : ByteArray, ⟨(c :: d :: t).toArray⟩ = B := ⟨_, rfl⟩
    have hBs : 2 ≤ B.size := by rw [← hB, Lib.size_eq]; simp
    have hB1 : ((B.size : Int) != 1) = true := by simp [bne]; omega
    have G2 := G.out
    unfold GetPost at G2
    simp only [hB] at G2
    have G := Lib.hid G2
    clear HC G2 hB
    cases b1
    · cases b2
      · have hz1 : z = 1 := hz
        subst hz1
        clear hz
        go_enter Tryz.func135, Tryz.ntmps135
        go_wp2_with (first | (go_at_call_of 49 (Value.string S); first | (refine (P1.out _).mono ?_; rintro e w' ⟨rfl, rfl⟩) | (refine (P2.out _).mono ?_; rintro e w' ⟨rfl, rfl⟩)))
        refine G.out.mono ?_
        rintro e w5 ⟨rfl, b5⟩
        have S5 := SIX.out.on b5
        obtain ⟨d0, d1, d2, d3, d4, d5, z0, z1, z2, z3, z4, z5⟩ := S5.facts
        have HS5 := Lib.hid S5
        have HB := Lib.hid (HB0.out.trans (b5.mono HB0.out.size))
        clear b5 S5 SIX HB0
        go_wp2_with fail
        refine bodyPost_ret (v := no6) (by simp [results, Tryz.results135, go_sem, d0, d1, d2, d3, d4, d5]) rfl ?_
        exact .no HO.out (below6 HB.out _ _ _ _ _ _)
      · have hz1 : z = 2 := hz
        subst hz1
        clear hz
        go_enter Tryz.func135, Tryz.ntmps135
        go_wp2_with (first | (go_at_call_of 49 (Value.string S); first | (refine (P1.out _).mono ?_; rintro e w' ⟨rfl, rfl⟩) | (refine (P2.out _).mono ?_; rintro e w' ⟨rfl, rfl⟩)))
        refine G.out.mono ?_
        rintro e w5 ⟨rfl, b5⟩
        have S5 := SIX.out.on b5
        obtain ⟨d0, d1, d2, d3, d4, d5, z0, z1, z2, z3, z4, z5⟩ := S5.facts
        have HS5 := Lib.hid S5
        have HB := Lib.hid (HB0.out.trans (b5.mono HB0.out.size))
        clear b5 S5 SIX HB0
        go_wp2_with fail
        refine bodyPost_ret (v := no6) (by simp [results, Tryz.results135, go_sem, d0, d1, d2, d3, d4, d5]) rfl ?_
        exact .no HO.out (below6 HB.out _ _ _ _ _ _)
    · have hz1 : z = 2 := hz
      subst hz1
      clear hz P2
      go_enter Tryz.func135, Tryz.ntmps135
      go_wp2_with (first | (go_at_call_of 49 (Value.string S); first | (refine (P1.out _).mono ?_; rintro e w' ⟨rfl, rfl⟩) | (refine (P2.out _).mono ?_; rintro e w' ⟨rfl, rfl⟩)))
      refine G.out.mono ?_
      rintro e w5 ⟨rfl, b5⟩
      have S5 := SIX.out.on b5
      obtain ⟨d0, d1, d2, d3, d4, d5, z0, z1, z2, z3, z4, z5⟩ := S5.facts
      have HS5 := Lib.hid S5
      have HB := Lib.hid (HB0.out.trans (b5.mono HB0.out.size))
      clear b5 S5 SIX HB0
      go_wp2_with fail
      refine bodyPost_ret (v := no6) (by simp [results, Tryz.results135, go_sem, d0, d1, d2, d3, d4, d5]) rfl ?_
      exact .no HO.out (below6 HB.out _ _ _ _ _ _)
end Go.Proofs.YtkplokfcjjcpcaaGreatDoor
end
