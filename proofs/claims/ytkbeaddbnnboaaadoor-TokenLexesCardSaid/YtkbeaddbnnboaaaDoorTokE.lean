/- Package token's attempts: stop, within, and those that only call one: contracts. Conditions: the place stands in memory; its text has one to 5000 bytes; the library's variables hold what their text lays. -/
import Derived.Test.YtkbeaddbnnboaaaDoorTokD
namespace Go.Proofs.YtkbeaddbnnboaaaDoor
open Go Go.RowKit Go.Maps

abbrev no6 : Value := .tuple #[.agg #[.int .i64 0, .int .i64 0, .int .i64 0, .string ⟨#[]⟩, .bool false, .bool false], .int .i64 0]
abbrev stop6 : Value := .tuple #[.agg #[.int .i64 7, .int .i64 0, .int .i64 0, .string ⟨#[]⟩, .bool false, .bool false], .int .i64 1]
theorem stop_no {c : UInt8} {t : List UInt8} (h : ((c.toNat : Int) == 46) = false) : stopT (c :: t) = none := by
  cases t <;> simp only [stopT] <;> rw [if_neg (by rw [h]; simp)]
theorem stop_end {c : UInt8} (h : ((c.toNat : Int) == 46) = true) : stopT [c] = some (⟨7, 0, []⟩, 1) := by
  simp only [stopT]; rw [if_pos h]
theorem stop_37 {c d : UInt8} {t : List UInt8} (h : ((c.toNat : Int) == 46) = true) (h1 : ((d.toNat : Int) == 37) = true) : stopT (c :: d :: t) = some (⟨7, 0, []⟩, 1) := by
  simp only [stopT]; rw [if_pos h, if_pos h1]
theorem stop_blank {c d : UInt8} {t : List UInt8} (h : ((c.toNat : Int) == 46) = true) (h1 : ((d.toNat : Int) == 37) = false) (h2 : (sortZ (d.toNat : Int) == 1) = true) : stopT (c :: d :: t) = some (⟨7, 0, []⟩, 1) := by
  simp only [stopT]; rw [if_pos h, if_neg (by rw [h1]; simp), if_pos h2]
theorem stop_none {c d : UInt8} {t : List UInt8} (h : ((c.toNat : Int) == 46) = true) (h1 : ((d.toNat : Int) == 37) = false) (h2 : (sortZ (d.toNat : Int) == 1) = false) : stopT (c :: d :: t) = none := by
  simp only [stopT]; rw [if_pos h, if_neg (by rw [h1]; simp), if_neg (by rw [h2]; simp)]
theorem AttPost.stop {w w' : World} {o : Option (Tk × Nat)} (ho : o = some (⟨7, 0, []⟩, 1)) (h : Below w.heap.size w w') : AttPost w o (.returned stop6) w' := ⟨⟨⟨7, 0, []⟩, 1, rfl, .inr ⟨ho, Nat.one_pos⟩⟩, h⟩

set_option maxRecDepth 100000 in
set_option maxHeartbeats 800000 in
theorem stop_is (p : Nat) (s : ByteArray) (n : Int) (w : World) (h : PL w p s n) (hs : s.size ≤ 5000) (hp : 0 < s.size) :
    Calls Tryd.prog 29 #[.pointer (some ⟨p, 0, none⟩)] w (AttPost w (stopT s.data.toList)) := by
  obtain ⟨c, t, hl⟩ := cons_of hp
  have hb0 : Below w.heap.size w (w.alloc (.cells zero6 30)) := (Below.refl _ _).alloc (Nat.le_refl _) _
  have HBX := Lib.hid (fun x => (Below.refl w.heap.size w).alloc (Nat.le_refl _) (.cells x 30))
  obtain ⟨c0, _, _, _⟩ := (h.on hb0).cells
  have hc := at_0 hl hp
  have six : Six (w.alloc (.cells zero6 30)) w.heap.size := ⟨new_at _ _ rfl⟩
  obtain ⟨d0, d1, d2, d3, d4, d5, z0, z1, z2, z3, z4, z5⟩ := six.facts
  have HL := Lib.hid hl
  have hsz := Lib.size_eq s
  rw [hl] at hsz
  clear h hb0 six
  unfold zero6 at *
  cases hq : ((c.toNat : Int) == 46)
  · have hq2 : ((c.toNat : Int) != 46) = true := by simp [bne, hq]
    have HO := Lib.hid (show stopT s.data.toList = none by rw [HL.out, stop_no hq])
    clear hq hl hsz
    go_enter Tryd.func29, Tryd.ntmps29
    go_wp2_with fail
    refine bodyPost_ret (v := no6) (by simp [results, Tryd.results29, go_sem, d0, d1, d2, d3, d4, d5]) rfl ?_
    exact .no HO.out (HBX.out _)
  have hq2 : ((c.toNat : Int) != 46) = false := by simp [bne, hq]
  rcases t with _ | ⟨d, t⟩
  · have h1 : s.size = 1 := hsz
    have HO := Lib.hid (show stopT s.data.toList = some (⟨7, 0, []⟩, 1) by rw [HL.out, stop_end hq])
    clear hq hl hsz
    go_enter Tryd.func29, Tryd.ntmps29
    go_wp2_with fail
    refine bodyPost_ret (v := stop6) (by simp [results, Tryd.results29, go_sem]) rfl ?_
    exact .stop HO.out (HBX.out _)
  have hp1 : 1 < s.size := by simp at hsz; omega
  have he := at_1 hl hp1
  have S := Lib.hid (fun w => sort_is (d.toNat : Int) w (by omega) (by have := d.toNat_lt; omega))
  obtain ⟨z, hz⟩ : ∃ z, sortZ (d.toNat : Int) = z := ⟨_, rfl⟩
  rw [hz] at S
  cases hr : ((d.toNat : Int) == 37)
  · have hr2 : ((d.toNat : Int) != 37) = true := by simp [bne, hr]
    cases hb : (z == 1)
    · have hb2 : (z != 1) = true := by simp [bne, hb]
      have HO := Lib.hid (show stopT s.data.toList = none by rw [HL.out, stop_none hq hr (by rw [hz]; exact hb)])
      clear hq hr hb hl hsz hz
      go_enter Tryd.func29, Tryd.ntmps29
      go_wp2_with (go_at_call 26; refine (S.out _).mono ?_; rintro e w' ⟨rfl, rfl⟩)
      refine bodyPost_ret (v := no6) (by simp [results, Tryd.results29, go_sem, d0, d1, d2, d3, d4, d5]) rfl ?_
      exact .no HO.out (HBX.out _)
    · have hb2 : (z != 1) = false := by simp [bne, hb]
      have HO := Lib.hid (show stopT s.data.toList = some (⟨7, 0, []⟩, 1) by rw [HL.out, stop_blank hq hr (by rw [hz]; exact hb)])
      clear hq hr hb hl hsz hz
      go_enter Tryd.func29, Tryd.ntmps29
      go_wp2_with (go_at_call 26; refine (S.out _).mono ?_; rintro e w' ⟨rfl, rfl⟩)
      refine bodyPost_ret (v := stop6) (by simp [results, Tryd.results29, go_sem]) rfl ?_
      exact .stop HO.out (HBX.out _)
  · have hr2 : ((d.toNat : Int) != 37) = false := by simp [bne, hr]
    have HO := Lib.hid (show stopT s.data.toList = some (⟨7, 0, []⟩, 1) by rw [HL.out, stop_37 hq hr])
    clear hq hr hl hsz hz
    go_enter Tryd.func29, Tryd.ntmps29
    go_wp2_with fail
    refine bodyPost_ret (v := stop6) (by simp [results, Tryd.results29, go_sem]) rfl ?_
    exact .stop HO.out (HBX.out _)

theorem stepF_done {q : Int} {l : List UInt8} (h : stepF q l = .done) : 1 ≤ l.length := by
  rcases l with _ | ⟨c, t⟩
  · cases h
  · simp
theorem getF_len {q : Int} : ∀ (f : Nat) (l acc b : List UInt8) (m0 m : Nat), getF q f l acc m0 = some (b, m) → m0 + 1 ≤ m ∧ m ≤ m0 + l.length ∧ b.length + m0 ≤ acc.length + m
  | 0, _, _, _, _, _, h => by cases h
  | f + 1, l, acc, b, m0, m, h => by
    unfold getF at h
    cases hs : stepF q l with
    | done =>
      rw [hs] at h
      simp at h
      obtain ⟨rfl, rfl⟩ := h
      have := stepF_done hs
      omega
    | bad => rw [hs] at h; cases h
    | go x k =>
      rw [hs] at h
      have h1 := stepF_len hs
      have h2 := getF_len f _ _ _ _ _ h
      rw [List.length_drop, List.length_append] at h2
      omega
theorem getL_len {q : Int} {l b : List UInt8} {m : Nat} (h : getL q l = some (b, m)) : 1 ≤ m ∧ m ≤ l.length ∧ b.length ≤ m := by
  have := getF_len _ _ _ _ _ _ h
  simp at this
  omega
theorem within_no {q k : Int} {c : UInt8} {t : List UInt8} (h : ((c.toNat : Int) == q) = false) : withinT q k (c :: t) = none := by
  simp only [withinT]; rw [if_neg (by rw [h]; simp)]
theorem within_bad {q k : Int} {c : UInt8} {t : List UInt8} (h : ((c.toNat : Int) == q) = true) (hg : getL q t = none) : withinT q k (c :: t) = none := by
  simp only [withinT]; rw [if_pos h, hg]
theorem within_ok {q k : Int} {c : UInt8} {t b : List UInt8} {m : Nat} (h : ((c.toNat : Int) == q) = true) (hg : getL q t = some (b, m)) : withinT q k (c :: t) = some (⟨k, 0, b⟩, 1 + m) := by
  simp only [withinT]; rw [if_pos h, hg]

set_option maxRecDepth 100000 in
set_option maxHeartbeats 800000 in
theorem within_is (p : Nat) (s : ByteArray) (n : Int) (q kind : Int) (w : World) (h : PL w p s n) (hs : s.size ≤ 5000) (hp : 0 < s.size) (ht : Tab w) :
    Calls Tryd.prog 55 #[.pointer (some ⟨p, 0, none⟩), .int .u8 q, .int .i64 kind] w (AttPost w (withinT q kind s.data.toList)) := by
  obtain ⟨c, t, hl⟩ := cons_of hp
  have hb0 : Below w.heap.size w (w.alloc (.cells zero6 30)) := (Below.refl _ _).alloc (Nat.le_refl _) _
  obtain ⟨c0, _, _, _⟩ := (h.on hb0).cells
  have hc := at_0 hl hp
  have six : Six (w.alloc (.cells zero6 30)) w.heap.size := ⟨new_at _ _ rfl⟩
  obtain ⟨d0, d1, d2, d3, d4, d5, z0, z1, z2, z3, z4, z5⟩ := six.facts
  have SIX := Lib.hid six
  have HB0 := Lib.hid hb0
  have HL := Lib.hid hl
  have he : (s.extract 1 s.size).data.toList = t := by rw [Lib.extract_data, hl]; simp [Lib.size_eq, hl]
  have hes : (s.extract 1 s.size).size ≤ 18000 := by
    have h1 := Lib.size_eq s
    rw [Lib.size_eq, he]
    rw [hl] at h1
    simp at h1
    omega
  have G := get_is (s.extract 1 s.size) q _ hes (ht.on hb0)
  rw [he] at G
  have G' := Lib.hid G
  clear h hb0 six G hl hes he ht
  unfold zero6 at *
  cases hq : ((c.toNat : Int) == q)
  · have hq2 : ((c.toNat : Int) != q) = true := by simp [bne, hq]
    have HO := Lib.hid (show withinT q kind s.data.toList = none by rw [HL.out, within_no hq])
    clear hq
    go_enter Tryd.func55, Tryd.ntmps55
    go_wp2_with fail
    refine bodyPost_ret (v := no6) (by simp [results, Tryd.results55, go_sem, d0, d1, d2, d3, d4, d5]) rfl ?_
    exact .no HO.out HB0.out
  have hq2 : ((c.toNat : Int) != q) = false := by simp [bne, hq]
  obtain ⟨o, ho⟩ : ∃ o, getL q t = o := ⟨_, rfl⟩
  rw [ho] at G'
  rcases o with _ | ⟨b, m⟩
  · have HO := Lib.hid (show withinT q kind s.data.toList = none by rw [HL.out, within_bad hq ho])
    clear hq ho
    go_enter Tryd.func55, Tryd.ntmps55
    go_wp2_with fail
    refine G'.out.mono ?_
    rintro e w5 ⟨rfl, b1⟩
    have S5 := SIX.out.on b1
    obtain ⟨d0, d1, d2, d3, d4, d5, z0, z1, z2, z3, z4, z5⟩ := S5.facts
    have HB := Lib.hid (HB0.out.trans (b1.mono HB0.out.size))
    clear b1 S5
    go_wp2_with fail
    refine bodyPost_ret (v := no6) (by simp [results, Tryd.results55, go_sem, d0, d1, d2, d3, d4, d5]) rfl ?_
    exact .no HO.out (below6 HB.out _ _ _ _ _ _)
  · have HO := Lib.hid (show withinT q kind s.data.toList = some (⟨kind, 0, b⟩, 1 + m) by rw [HL.out, within_ok hq ho])
    have hm : m ≤ 5000 := by have h1 := getL_len ho; have h2 := Lib.size_eq s; rw [HL.out] at h2; simp at h2; omega
    have hw1 : wrap64 (1 + (m : Int)) = 1 + m := IntWalk.wrap64_in _ (by omega)
    clear hq ho
    go_enter Tryd.func55, Tryd.ntmps55
    go_wp2_with fail
    refine G'.out.mono ?_
    rintro e w5 ⟨rfl, b1⟩
    have S5 := SIX.out.on b1
    obtain ⟨d0, d1, d2, d3, d4, d5, z0, z1, z2, z3, z4, z5⟩ := S5.facts
    have HS5 := Lib.hid S5
    have HB := Lib.hid (HB0.out.trans (b1.mono HB0.out.size))
    clear b1 S5
    go_wp2_with fail
    obtain ⟨q0, q1, q2, q3, q4, q5⟩ := six_cells HS5.out.h (.int .i64 kind) (.int .i64 0) (.int .i64 0) (.string ⟨b.toArray⟩) (.bool false) (.bool false)
    refine bodyPost_ret (v := .tuple #[.agg #[.int .i64 kind, .int .i64 0, .int .i64 0, .string ⟨b.toArray⟩, .bool false, .bool false], .int .i64 (1 + (m : Int))]) (by simp [results, Tryd.results55, go_sem, q0, q1, q2, q3, q4, q5]) rfl ?_
    rw [show 1 + (m : Int) = ((1 + m : Nat) : Int) by omega]
    exact .text (z := 1 + m) HO.out (by omega) (below6 HB.out _ _ _ _ _ _)

end Go.Proofs.YtkbeaddbnnboaaaDoor
