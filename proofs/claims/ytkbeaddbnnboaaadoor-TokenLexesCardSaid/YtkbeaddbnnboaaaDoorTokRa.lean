/- The document's word, run, digits, line: contracts. Conditions: the place stands within the text, which has at most 4000 bytes. The document's skip: a contract. Conditions: the place stands within the text, which has at most 4000 bytes. The document's skip: the walk. Conditions: the place stands within the text, which has at most 4000 bytes. -/
import Derived.Test.YtkbeaddbnnboaaaDoorTokN
import Derived.Test.YtkbeaddbnnboaaaDoorTokRefNum
import Derived.Lib.CutLaws
namespace Go.Proofs.YtkbeaddbnnboaaaDoor
open Go Go.RowKit Go.Maps

set_option maxRecDepth 100000 in
set_option maxHeartbeats 1600000 in
theorem ref_word_is (s : ByteArray) (p : Nat) (w : World) (hs : s.size ≤ 4000) (hp : p ≤ s.size) :
    Calls Tryd.prog 42 #[.string s, .int .i64 p] w fun e w' => e = .returned (.int .i64 (runB letterZ (s.data.toList.drop p))) ∧ w' = w := by
  obtain ⟨r, hr⟩ : ∃ r, runB letterZ (s.data.toList.drop p) = r := ⟨_, rfl⟩
  rw [hr]
  have HR := Lib.hid hr
  have hrl : p + r ≤ s.size := by
    have := runB_le letterZ (s.data.toList.drop p)
    rw [hr, List.length_drop, ← Lib.size_eq] at this
    omega
  clear hr
  go_enter Tryd.func42, Tryd.ntmps42
  go_wp2
  go_loop [5] (fun v => ∃ k : Nat, v = .int .i64 k ∧ k ≤ r ∧ Hid (r = k + runB letterZ (s.data.toList.drop (p + k)))) (fun v => r - (intOf v).toNat)
  case atStart => exact ⟨0, rfl, Nat.zero_le _, by show r = _; rw [← HR.out]; simp⟩
  case round =>
    obtain ⟨k, rfl, hk, HK2⟩ := hrel
    by_cases hlt : p + k < s.size
    · obtain ⟨y, hy⟩ : ∃ y, s[p + k] = y := ⟨_, rfl⟩
      have hd := drop_at s (p + k) hlt
      rw [hy] at hd
      obtain ⟨z, hz⟩ : ∃ z, sortZ (y.toNat : Int) = z := ⟨_, rfl⟩
      have C := Lib.hid (fun w => ref_sort (y.toNat : Int) w (by omega) (by have := y.toNat_lt; omega))
      rw [hz] at C
      cases hb : letterZ (y.toNat : Int)
      · have hre : r = k := by
          have := HK2.out
          rw [hd, runB_no hb] at this
          omega
        subst hre
        have hz2 : (z != 2) = true ∧ (z != 3) = true ∧ (z != 4) = true := by
          unfold letterZ wordS at hb
          rw [hz] at hb
          simpa [and_assoc] using hb
        obtain ⟨z2, z3, z4⟩ := hz2
        clear hd hb HK2 hz
        go_wp2_with (go_at_call 41; refine (C.out _).mono ?_; rintro e w' ⟨rfl, rfl⟩)
        go_ret
        exact ⟨rfl, rfl⟩
      · have hre : r = k + 1 + runB letterZ (s.data.toList.drop (p + k + 1)) := by
          have := HK2.out
          rw [hd, runB_yes hb] at this
          omega
        have HRE := Lib.hid hre
        have hk1 : k + 1 ≤ r := by omega
        have hz2 : z = 2 ∨ z = 3 ∨ z = 4 := by
          unfold letterZ wordS at hb
          rw [hz] at hb
          simpa [or_assoc] using hb
        clear hd hb HK2 hre hz
        rcases hz2 with rfl | rfl | rfl
        all_goals
          go_wp2_with (go_at_call 41; refine (C.out _).mono ?_; rintro e w' ⟨rfl, rfl⟩)
          go_round
          case rel => exact ⟨k + 1, by go_num, hk1, HRE.out⟩
          case measure => simp [intOf]; omega
    · have hre : r = k := by
        have := HK2.out
        rw [List.drop_of_length_le (by simp; omega), runB_nil] at this
        omega
      subst hre
      clear HK2
      go_wp2
      go_ret
      exact ⟨rfl, rfl⟩

set_option maxRecDepth 100000 in
set_option maxHeartbeats 1600000 in
theorem ref_run_is (s : ByteArray) (p : Nat) (w : World) (hs : s.size ≤ 4000) (hp : p ≤ s.size) :
    Calls Tryd.prog 43 #[.string s, .int .i64 p, .int .i64 5] w fun e w' => e = .returned (.int .i64 (runB signZ (s.data.toList.drop p))) ∧ w' = w := by
  obtain ⟨r, hr⟩ : ∃ r, runB signZ (s.data.toList.drop p) = r := ⟨_, rfl⟩
  rw [hr]
  have HR := Lib.hid hr
  have hrl : p + r ≤ s.size := by
    have := runB_le signZ (s.data.toList.drop p)
    rw [hr, List.length_drop, ← Lib.size_eq] at this
    omega
  clear hr
  go_enter Tryd.func43, Tryd.ntmps43
  go_wp2
  go_loop [7] (fun v => ∃ k : Nat, v = .int .i64 k ∧ k ≤ r ∧ Hid (r = k + runB signZ (s.data.toList.drop (p + k)))) (fun v => r - (intOf v).toNat)
  case atStart => exact ⟨0, rfl, Nat.zero_le _, by show r = _; rw [← HR.out]; simp⟩
  case round =>
    obtain ⟨k, rfl, hk, HK2⟩ := hrel
    by_cases hlt : p + k < s.size
    · obtain ⟨y, hy⟩ : ∃ y, s[p + k] = y := ⟨_, rfl⟩
      have hd := drop_at s (p + k) hlt
      rw [hy] at hd
      obtain ⟨z, hz⟩ : ∃ z, sortZ (y.toNat : Int) = z := ⟨_, rfl⟩
      have C := Lib.hid (fun w => ref_sort (y.toNat : Int) w (by omega) (by have := y.toNat_lt; omega))
      rw [hz] at C
      have hb0 : signZ (y.toNat : Int) = (z == 5) := by unfold signZ signS; rw [hz]
      cases hb : (z == 5)
      · rw [hb] at hb0
        have hre : r = k := by
          have := HK2.out
          rw [hd, runB_no hb0] at this
          omega
        subst hre
        have hz5 : ¬ z = 5 := by simpa using hb
        clear hd hb0 HK2 hz
        go_wp2_with (go_at_call 41; refine (C.out _).mono ?_; rintro e w' ⟨rfl, rfl⟩)
        go_ret
        exact ⟨rfl, rfl⟩
      · rw [hb] at hb0
        have hre : r = k + 1 + runB signZ (s.data.toList.drop (p + k + 1)) := by
          have := HK2.out
          rw [hd, runB_yes hb0] at this
          omega
        have HRE := Lib.hid hre
        have hk1 : k + 1 ≤ r := by omega
        have hz5 : z = 5 := by simpa using hb
        subst hz5
        clear hd hb0 hb HK2 hre hz
        go_wp2_with (go_at_call 41; refine (C.out _).mono ?_; rintro e w' ⟨rfl, rfl⟩)
        go_round
        case rel => exact ⟨k + 1, by go_num, hk1, HRE.out⟩
        case measure => simp [intOf]; omega
    · have hre : r = k := by
        have := HK2.out
        rw [List.drop_of_length_le (by simp; omega), runB_nil] at this
        omega
      subst hre
      clear HK2
      go_wp2
      go_ret
      exact ⟨rfl, rfl⟩

set_option maxRecDepth 100000 in
set_option maxHeartbeats 1600000 in
theorem ref_line_is (s : ByteArray) (p : Nat) (w : World) (hs : s.size ≤ 4000) (hp : p ≤ s.size) :
    Calls Tryd.prog 21 #[.string s, .int .i64 p] w fun e w' => e = .returned (.int .i64 (1 + nlC (s.data.toList.take p))) ∧ w' = w := by
  obtain ⟨r, hr⟩ : ∃ r : Nat, nlC (s.data.toList.take p) = r := ⟨_, rfl⟩
  rw [hr]
  have HR := Lib.hid hr
  clear hr
  go_enter Tryd.func21, Tryd.ntmps21
  go_wp2
  go_loop [5, 6] (fun v i => ∃ k c : Nat, i = .int .i64 k ∧ v = .int .i64 (1 + (c : Int)) ∧ k ≤ p ∧ c ≤ k ∧ Hid (nlC (s.data.toList.take k) = c)) (fun _ i => p - (intOf i).toNat)
  case atStart => exact ⟨0, 0, rfl, rfl, Nat.zero_le _, Nat.le_refl _, rfl⟩
  case round =>
    obtain ⟨k, c, rfl, rfl, hk, hck, HK2⟩ := hrel
    by_cases hlt : k < p
    · have hls : k < s.size := by omega
      obtain ⟨y, hy⟩ : ∃ y, s[k] = y := ⟨_, rfl⟩
      have ht := take_snoc s k hls
      rw [hy] at ht
      cases hb : ((y.toNat : Int) == 10)
      · have HN : Hid (nlC (s.data.toList.take (k + 1)) = c) := by
          show _ = _
          rw [ht, nlC_app, HK2.out]
          have : y ≠ 10 := fun e => by rw [e] at hb; cases hb
          simp [nlC, Lib.countByte, this]
        clear ht HK2
        go_wp2
        go_round
        case rel => exact ⟨k + 1, c, by go_num, rfl, by omega, by omega, HN⟩
        case measure => simp [intOf]; omega
      · have HN : Hid (nlC (s.data.toList.take (k + 1)) = c + 1) := by
          show _ = _
          rw [ht, nlC_app, HK2.out]
          have : y = 10 := UInt8.toNat_inj.1 (by have := beq_iff_eq.1 hb; show y.toNat = 10; omega)
          subst this
          rfl
        clear ht HK2
        go_wp2
        go_round
        case rel => exact ⟨k + 1, c + 1, by go_num, by go_num, by omega, by omega, HN⟩
        case measure => simp [intOf]; omega
    · obtain rfl : k = p := by omega
      obtain rfl : r = c := HR.out.symm.trans HK2.out
      go_wp2
      go_ret
      exact ⟨rfl, rfl⟩

theorem digZ_parse (base : Int) (y : UInt8) : digZ base (y.toNat : Int) = ((parseR base [y]).2 == 0) := by
  unfold digZ
  rw [show UInt8.ofNat ((y.toNat : Int)).toNat = y by simp]
theorem one_ext (s : ByteArray) (k : Nat) (h : k < s.size) : (s.extract k (k + 1)).data.toList = [s[k]] := one_at s k h
set_option maxRecDepth 100000 in
set_option maxHeartbeats 1600000 in
theorem ref_digits_is (s : ByteArray) (p : Nat) (base : Int) (w : World) (hs : s.size ≤ 4000) (hp : p ≤ s.size) :
    Calls Tryd.prog 61 #[.string s, .int .i64 p, .int .i64 base] w fun e w' => e = .returned (.int .i64 (runB (digZ base) (s.data.toList.drop p))) ∧ w' = w := by
  obtain ⟨r, hr⟩ : ∃ r, runB (digZ base) (s.data.toList.drop p) = r := ⟨_, rfl⟩
  rw [hr]
  have HR := Lib.hid hr
  have hrl : p + r ≤ s.size := by
    have := runB_le (digZ base) (s.data.toList.drop p)
    rw [hr, List.length_drop, ← Lib.size_eq] at this
    omega
  clear hr
  go_enter Tryd.func61, Tryd.ntmps61
  go_wp2
  go_loop [7] (fun v => ∃ k : Nat, v = .int .i64 k ∧ k ≤ r ∧ Hid (r = k + runB (digZ base) (s.data.toList.drop (p + k)))) (fun v => r - (intOf v).toNat)
  case atStart => exact ⟨0, rfl, Nat.zero_le _, by show r = _; rw [← HR.out]; simp⟩
  case round =>
    obtain ⟨k, rfl, hk, HK2⟩ := hrel
    by_cases hlt : p + k < s.size
    · have hd := drop_at s (p + k) hlt
      have P := Lib.hid (fun w => ref_parse (s.extract (p + k) (p + k + 1)) base w (by rw [Lib.size_eq, one_ext s _ hlt]; unfold maxLen; simp))
      rw [one_ext s _ hlt] at P
      obtain ⟨y, hy⟩ : ∃ y, s[p + k] = y := ⟨_, rfl⟩
      rw [hy] at P hd
      have hdz := digZ_parse base y
      obtain ⟨⟨v, ec⟩, hv⟩ : ∃ x, parseR base [y] = x := ⟨_, rfl⟩
      rw [hv] at P hdz
      cases hb : (ec == 0)
      · rw [hb] at hdz
        have hre : r = k := by
          have := HK2.out
          rw [hd, runB_no hdz] at this
          omega
        subst hre
        have he : (ec != 0) = true := by simp [bne, hb]
        clear hd hb HK2 hv hdz
        go_wp2_with (go_at_call 62; refine (P.out _).mono ?_; rintro e w' ⟨rfl, rfl⟩)
        go_ret
        exact ⟨rfl, rfl⟩
      · rw [hb] at hdz
        have hre : r = k + 1 + runB (digZ base) (s.data.toList.drop (p + k + 1)) := by
          have := HK2.out
          rw [hd, runB_yes hdz] at this
          omega
        have HRE := Lib.hid hre
        have hk1 : k + 1 ≤ r := by omega
        have he : (ec != 0) = false := by simp [bne, hb]
        clear hd hb HK2 hre hv hdz
        go_wp2_with (go_at_call 62; refine (P.out _).mono ?_; rintro e w' ⟨rfl, rfl⟩)
        go_round
        case rel => exact ⟨k + 1, by go_num, hk1, HRE.out⟩
        case measure => simp [intOf]; omega
    · have hre : r = k := by
        have := HK2.out
        rw [List.drop_of_length_le (by simp; omega), runB_nil] at this
        omega
      subst hre
      clear HK2
      go_wp2
      go_ret
      exact ⟨rfl, rfl⟩

end Go.Proofs.YtkbeaddbnnboaaaDoor

namespace Go.Proofs.YtkbeaddbnnboaaaDoor
open Go Go.RowKit Go.Maps

def not10 (c : Int) : Bool := !(c == 10)
theorem idx_in (s sub : List UInt8) (h : 0 ≤ Lib.index s sub) : (Lib.index s sub).toNat + sub.length ≤ s.length := by
  have hc := Lib.indexB_cases ⟨s.toArray⟩ ⟨sub.toArray⟩
  rw [show Lib.indexB ⟨s.toArray⟩ ⟨sub.toArray⟩ = Lib.index s sub from rfl] at hc
  rcases hc with hc | ⟨i, hi, hl⟩
  · omega
  · rw [Lib.size_eq, Lib.size_eq] at hl
    simp at hl
    omega
theorem cutR_run : ∀ u : List UInt8, (Lib.cut u [10]).1.length = runB not10 u
  | [] => rfl
  | c :: t => by
    have ih := cutR_run t
    have hg := Lib.index_ge t [10]
    by_cases hc : c = 10
    · subst hc
      rw [runB_no (by decide)]
      rfl
    · have hb : not10 (c.toNat : Int) = true := by
        unfold not10
        rw [Bool.not_eq_true', beq_eq_false_iff_ne]
        exact fun e => hc (UInt8.toNat_inj.1 (by show c.toNat = 10; omega))
      rw [runB_yes hb, ← ih]
      have hp : ([10] : List UInt8).isPrefixOf (c :: t) = false := by
        show ((10 == c) && _) = false
        rw [beq_eq_false_iff_ne.2 (Ne.symm hc)]
        rfl
      have hi : Lib.index (c :: t) [10] = if Lib.index t [10] == -1 then -1 else Lib.index t [10] + 1 := by
        rw [Lib.index, hp]
        rfl
      unfold Lib.cut
      rw [hi]
      by_cases h1 : Lib.index t [10] = -1
      · rw [h1]
        simp
      · have h0 : 0 ≤ Lib.index t [10] := by omega
        rw [if_neg (show ¬ (Lib.index t [10] == -1) = true by rw [beq_iff_eq]; exact h1), if_pos (by omega), if_pos h0]
        simp only [List.length_take, List.length_cons]
        have hl := idx_in t [10] h0
        simp at hl
        omega
abbrev endQ : List UInt8 := [42, 47]
theorem cutC_nil : (Lib.cut [] endQ).1.length = 0 ∧ (Lib.cut [] endQ).2.2 = false := ⟨rfl, rfl⟩
theorem cutC_yes {u : List UInt8} (h : Lib.hasPrefix u endQ = true) : (Lib.cut u endQ).1.length = 0 ∧ (Lib.cut u endQ).2.2 = true := by
  rcases u with _ | ⟨c, t⟩
  · cases h
  · have hi : Lib.index (c :: t) endQ = 0 := by
      rw [Lib.index, if_pos (show endQ.isPrefixOf (c :: t) = true from h)]
    unfold Lib.cut
    rw [hi]
    exact ⟨rfl, rfl⟩
theorem cutC_no {c : UInt8} {t : List UInt8} (h : Lib.hasPrefix (c :: t) endQ = false) : (Lib.cut (c :: t) endQ).1.length = 1 + (Lib.cut t endQ).1.length ∧ (Lib.cut (c :: t) endQ).2.2 = (Lib.cut t endQ).2.2 := by
  have hg := Lib.index_ge t endQ
  have hi : Lib.index (c :: t) endQ = if Lib.index t endQ == -1 then -1 else Lib.index t endQ + 1 := by
    rw [Lib.index, show endQ.isPrefixOf (c :: t) = false from h]
    rfl
  unfold Lib.cut
  rw [hi]
  by_cases h1 : Lib.index t endQ = -1
  · rw [h1]
    simp
    omega
  · have h0 : 0 ≤ Lib.index t endQ := by omega
    rw [if_neg (show ¬ (Lib.index t endQ == -1) = true by rw [beq_iff_eq]; exact h1), if_pos (by omega), if_pos h0]
    have hl := idx_in t endQ h0
    simp only [List.length_take, List.length_cons] at hl ⊢
    refine ⟨?_, trivial⟩
    simp at hl
    omega
theorem pre_q {c d : UInt8} {t : List UInt8} : Lib.hasPrefix (c :: d :: t) endQ = (((c.toNat : Int) == 42) && ((d.toNat : Int) == 47)) := by
  have e : ∀ (x : UInt8) (k : Nat), k < 256 → (UInt8.ofNat k == x) = ((x.toNat : Int) == (k : Int)) := fun x k hk => by
    rw [Bool.eq_iff_iff, beq_iff_eq, beq_iff_eq]
    constructor
    · intro h
      rw [← h]
      simp
      omega
    · intro h
      apply UInt8.toNat_inj.1
      simp
      omega
  show ((42 == c) && ((47 == d) && true)) = _
  rw [show (42 == c) = ((c.toNat : Int) == 42) from e c 42 (by omega), show (47 == d) = ((d.toNat : Int) == 47) from e d 47 (by omega), Bool.and_true]

end Go.Proofs.YtkbeaddbnnboaaaDoor

namespace Go.Proofs.YtkbeaddbnnboaaaDoor
open Go Go.RowKit Go.Maps

theorem ne_bool {y : UInt8} {k : Int} (h : ((y.toNat : Int) == k) = false) : ((y.toNat : Int) != k) = true := by simp [bne, h]
theorem eq_bool {y : UInt8} {k : Int} (h : ((y.toNat : Int) == k) = true) : ((y.toNat : Int) != k) = false := by simp [bne, h]

set_option maxRecDepth 100000 in
set_option maxHeartbeats 3200000 in
theorem ref_skip_is (s : ByteArray) (p : Nat) (w : World) (hs : s.size ≤ 4000) (hp : p ≤ s.size) (N : Nat) (ok : Bool) (hN : p + skipN (s.data.toList.drop p) = N) (hok : (!Lib.hasPrefix (s.data.toList.drop N) [47, 42]) = ok) :
    Calls Tryd.prog 20 #[.string s, .int .i64 p] w fun e w' => e = .returned (.tuple #[.int .i64 N, .bool ok]) ∧ w' = w := by
  have HN := Lib.hid hN
  have HOK := Lib.hid hok
  clear hN hok
  go_enter Tryd.func20, Tryd.ntmps20
  go_wp2
  go_loop [1] (fun v => ∃ a : Nat, v = .int .i64 a ∧ a ≤ s.size ∧ Hid (a + skipN (s.data.toList.drop a) = N)) (fun v => s.size - (intOf v).toNat)
  case atStart => exact ⟨p, rfl, hp, HN⟩
  case round =>
    obtain ⟨a, rfl, ha, HA⟩ := hrel
    by_cases hlt : a < s.size
    · obtain ⟨y, hy⟩ : ∃ y, s[a] = y := ⟨_, rfl⟩
      have hd := drop_at s a hlt
      rw [hy] at hd
      obtain ⟨z, hz⟩ : ∃ z, sortZ (y.toNat : Int) = z := ⟨_, rfl⟩
      have C := Lib.hid (fun w => ref_sort (y.toNat : Int) w (by omega) (by have := y.toNat_lt; omega))
      rw [hz] at C
      cases h1 : (z == 1)
      · have h1' : (sortZ (y.toNat : Int) == 1) = false := by rw [hz]; exact h1
        cases h37 : ((y.toNat : Int) == 37)
        · obtain ⟨pf, hpf⟩ : ∃ pf, Lib.hasPrefix (s.data.toList.drop a) [47, 42] = pf := ⟨_, rfl⟩
          cases pf
          · have h0 : gapN (s.data.toList.drop a) = 0 := by rw [hd] at hpf ⊢; exact gap_no h1' h37 hpf
            have hNa : N = a := by have := HA.out; rw [skipN_0 h0] at this; omega
            subst hNa
            have hokt : ok = true := by rw [← HOK.out, hpf]; rfl
            subst hokt
            cases h47 : ((y.toNat : Int) == 47)
            · have e47 := ne_bool h47
              clear hd hz h0 hpf h1' h47
              go_wp2_with (go_at_call 41; refine (C.out _).mono ?_; rintro e w' ⟨rfl, rfl⟩)
              go_ret2
              exact ⟨rfl, rfl⟩
            · have e47 := eq_bool h47
              by_cases hlt2 : N + 1 < s.size
              · obtain ⟨x, hx⟩ : ∃ x, s[N + 1] = x := ⟨_, rfl⟩
                have hd2 := drop_at s (N + 1) hlt2
                rw [hx] at hd2
                have e42 : ((x.toNat : Int) != 42) = true := by
                  refine ne_bool ?_
                  rw [hd, hd2] at hpf
                  rw [beq_eq_false_iff_ne]
                  intro e
                  have hy47 : y = 47 := UInt8.toNat_inj.1 (by have := beq_iff_eq.1 h47; show y.toNat = 47; omega)
                  have hx42 : x = 42 := UInt8.toNat_inj.1 (by show x.toNat = 42; omega)
                  subst hy47 hx42
                  cases hpf
                clear hd hz h0 hpf h1' h47 hd2
                go_wp2_with (go_at_call 41; refine (C.out _).mono ?_; rintro e w' ⟨rfl, rfl⟩)
                go_ret2
                exact ⟨rfl, rfl⟩
              · clear hd hz h0 hpf h1' h47
                go_wp2_with (go_at_call 41; refine (C.out _).mono ?_; rintro e w' ⟨rfl, rfl⟩)
                go_ret2
                exact ⟨rfl, rfl⟩
          · have hy47 : y = 47 := by
              rw [hd] at hpf
              simp only [Lib.hasPrefix, List.isPrefixOf, Bool.and_eq_true, beq_iff_eq] at hpf
              exact hpf.1.symm
            subst hy47
            have hl2 := prefix_two hpf
            rw [List.length_drop, ← Lib.size_eq] at hl2
            have hlt2 : a + 1 < s.size := by omega
            obtain ⟨x, hx⟩ : ∃ x, s[a + 1] = x := ⟨_, rfl⟩
            have hd2 := drop_at s (a + 1) hlt2
            rw [hx] at hd2
            have hx42 : x = 42 := by
              rw [hd, hd2] at hpf
              simp only [Lib.hasPrefix, List.isPrefixOf, Bool.and_eq_true, beq_iff_eq] at hpf
              exact hpf.2.1.symm
            subst hx42
            obtain ⟨b2, hb2⟩ : ∃ b2, (Lib.cut (s.data.toList.drop (a + 2)) endQ).2.2 = b2 := ⟨_, rfl⟩
            obtain ⟨c2, hc2⟩ : ∃ c2, (Lib.cut (s.data.toList.drop (a + 2)) endQ).1.length = c2 := ⟨_, rfl⟩
            have hcl : a + 2 + c2 ≤ s.size := by
              have := cut_len (s.data.toList.drop (a + 2)) endQ
              rw [hc2, List.length_drop, ← Lib.size_eq] at this
              omega
            have hroom : b2 = true → a + 2 + c2 + 2 ≤ s.size := fun h => by
              have := cut_room (s := s.data.toList.drop (a + 2)) (sep := endQ) (by rw [hb2, h])
              rw [hc2, List.length_drop, ← Lib.size_eq] at this
              simp at this
              omega
            have hg : gapN (s.data.toList.drop a) = if b2 = true then 2 + c2 + 2 else 0 := by
              have h := gap_yes (t := s.data.toList.drop (a + 1)) h1' h37 (by rw [← hd]; exact hpf)
              rw [← hd, List.drop_drop] at h
              rw [show a + 1 + 1 = a + 2 from rfl] at h
              rw [h, ← hb2, ← hc2]
            have HG := Lib.hid hg
            have HPF := Lib.hid hpf
            have HCC : Hid (c2 = 0 + (Lib.cut (s.data.toList.drop (a + 2 + 0)) endQ).1.length ∧ b2 = (Lib.cut (s.data.toList.drop (a + 2 + 0)) endQ).2.2) := by
              refine ⟨?_, ?_⟩
              · rw [← hc2, Nat.zero_add]
              · rw [← hb2]
            have HROOM := Lib.hid hroom
            clear hd hz hpf h1' hd2 hg hb2 hc2 h37 hroom
            go_wp2_with (go_at_call 41; refine (C.out _).mono ?_; rintro e w' ⟨rfl, rfl⟩)
            go_loop [6] (fun v => ∃ k : Nat, v = .int .i64 (a + 2 + k : Nat) ∧ k ≤ c2 ∧ Hid (c2 = k + (Lib.cut (s.data.toList.drop (a + 2 + k)) endQ).1.length ∧ b2 = (Lib.cut (s.data.toList.drop (a + 2 + k)) endQ).2.2)) (fun v => s.size - (intOf v).toNat)
            case atStart => exact ⟨0, by go_num, Nat.zero_le _, HCC⟩
            case round =>
              obtain ⟨k, rfl, hk, HK⟩ := hrel
              by_cases hl3 : a + 2 + k < s.size
              · obtain ⟨u, hu⟩ : ∃ u, s[a + 2 + k] = u := ⟨_, rfl⟩
                have hd3 := drop_at s (a + 2 + k) hl3
                rw [hu] at hd3
                have no : Lib.hasPrefix (s.data.toList.drop (a + 2 + k)) endQ = false → k + 1 ≤ c2 ∧ Hid (c2 = k + 1 + (Lib.cut (s.data.toList.drop (a + 2 + (k + 1))) endQ).1.length ∧ b2 = (Lib.cut (s.data.toList.drop (a + 2 + (k + 1))) endQ).2.2) := by
                  intro hno
                  obtain ⟨k1, k2⟩ := HK.out
                  rw [hd3] at hno k1 k2
                  obtain ⟨m1, m2⟩ := cutC_no hno
                  rw [m1] at k1
                  rw [m2] at k2
                  exact ⟨by omega, ⟨by rw [show a + 2 + (k + 1) = a + 2 + k + 1 from rfl]; omega, k2⟩⟩
                by_cases hl4 : a + 2 + k + 1 < s.size
                · obtain ⟨v, hv⟩ : ∃ v, s[a + 2 + k + 1] = v := ⟨_, rfl⟩
                  have hd4 := drop_at s (a + 2 + k + 1) hl4
                  rw [hv] at hd4
                  have hq : Lib.hasPrefix (s.data.toList.drop (a + 2 + k)) endQ = (((u.toNat : Int) == 42) && ((v.toNat : Int) == 47)) := by rw [hd3, hd4]; exact pre_q
                  cases hu42 : ((u.toNat : Int) == 42)
                  · obtain ⟨hk1, HN⟩ := no (by rw [hq, hu42]; rfl)
                    clear no hd3 hd4 hq HK
                    go_wp2
                    go_round
                    case rel => exact ⟨k + 1, by go_num, hk1, HN⟩
                    case measure => simp [intOf]; omega
                  · cases hv47 : ((v.toNat : Int) == 47)
                    · obtain ⟨hk1, HN⟩ := no (by rw [hq, hu42, hv47]; rfl)
                      clear no hd3 hd4 hq HK
                      go_wp2
                      go_round
                      case rel => exact ⟨k + 1, by go_num, hk1, HN⟩
                      case measure => simp [intOf]; omega
                    · obtain ⟨k1, k2⟩ := HK.out
                      obtain ⟨m1, m2⟩ := cutC_yes (u := s.data.toList.drop (a + 2 + k)) (by rw [hq, hu42, hv47]; rfl)
                      rw [m1] at k1
                      rw [m2] at k2
                      obtain rfl : c2 = k := by omega
                      subst k2
                      have hrm := HROOM.out rfl
                      have HN2 : Hid ((a + 2 + c2 + 2) + skipN (s.data.toList.drop (a + 2 + c2 + 2)) = N) := by
                        have := HA.out
                        have h2 := HG.out
                        rw [if_pos rfl] at h2
                        rw [skipN_on (by rw [h2]; omega), h2, List.drop_drop, show a + (2 + c2 + 2) = a + 2 + c2 + 2 by omega] at this
                        show _ = _
                        omega
                      clear no hd3 hd4 hq HK m1 m2 k1
                      go_wp2
                      go_round
                      case rel => exact ⟨a + 2 + c2 + 2, by go_num, hrm, HN2⟩
                      case measure => simp [intOf]; omega
                · obtain ⟨hk1, HN⟩ := no (by
                    rw [hd3, List.drop_of_length_le (by rw [← Lib.size_eq]; omega)]
                    show ((42 == u) && (List.isPrefixOf [47] [])) = false
                    simp)
                  clear no hd3 HK
                  cases hu42 : ((u.toNat : Int) == 42)
                  all_goals
                    go_wp2
                    go_round
                    case rel => exact ⟨k + 1, by go_num, hk1, HN⟩
                    case measure => simp [intOf]; omega
              · obtain ⟨k1, k2⟩ := HK.out
                rw [List.drop_of_length_le (by rw [← Lib.size_eq]; omega)] at k1 k2
                rw [cutC_nil.1] at k1
                rw [cutC_nil.2] at k2
                subst k2
                obtain rfl : N = a := by
                  have := HA.out
                  have h2 := HG.out
                  rw [if_neg (by simp)] at h2
                  rw [skipN_0 h2] at this
                  omega
                obtain rfl : ok = false := by rw [← HOK.out, HPF.out]; rfl
                clear HK k1
                go_wp2
                go_ret2
                exact ⟨rfl, rfl⟩
        · obtain ⟨r, hr⟩ : ∃ r, runB not10 (s.data.toList.drop a) = r := ⟨_, rfl⟩
          have hrl : a + r ≤ s.size := by
            have := runB_le not10 (s.data.toList.drop a)
            rw [hr, List.length_drop, ← Lib.size_eq] at this
            omega
          have hr1 : 1 ≤ r := by
            rw [← hr, hd, runB_yes (by have := beq_iff_eq.1 h37; rw [this]; rfl)]
            omega
          have HN2 : Hid ((a + r) + skipN (s.data.toList.drop (a + r)) = N) := by
            have hg : gapN (s.data.toList.drop a) = r := by rw [← hr, ← cutR_run, hd]; exact gap_37 h1' h37
            have := HA.out
            rw [skipN_on (by rw [hg]; omega), hg, List.drop_drop] at this
            show _ = _
            omega
          have HR : Hid (r = 0 + runB not10 (s.data.toList.drop (a + 0))) := by show _ = _; rw [← hr]; simp
          clear hr hd hz h1'
          go_wp2_with (go_at_call 41; refine (C.out _).mono ?_; rintro e w' ⟨rfl, rfl⟩)
          go_loop [1] (fun v => ∃ k : Nat, v = .int .i64 (a + k : Nat) ∧ k ≤ r ∧ Hid (r = k + runB not10 (s.data.toList.drop (a + k)))) (fun v => s.size - (intOf v).toNat)
          case atStart => exact ⟨0, rfl, Nat.zero_le _, HR⟩
          case round =>
            obtain ⟨k, rfl, hk, HK⟩ := hrel
            by_cases hl2 : a + k < s.size
            · obtain ⟨x, hx⟩ : ∃ x, s[a + k] = x := ⟨_, rfl⟩
              have hd2 := drop_at s (a + k) hl2
              rw [hx] at hd2
              cases hb : ((x.toNat : Int) == 10)
              · have hre : r = k + 1 + runB not10 (s.data.toList.drop (a + k + 1)) := by
                  have := HK.out
                  rw [hd2, runB_yes (by unfold not10; rw [hb]; rfl)] at this
                  omega
                have HRE := Lib.hid hre
                have hk1 : k + 1 ≤ r := by omega
                have e10 := ne_bool hb
                clear hd2 hre HK hb
                go_wp2
                go_round
                case rel => exact ⟨k + 1, by go_num, hk1, HRE.out⟩
                case measure => simp [intOf]; omega
              · have hre : r = k := by
                  have := HK.out
                  rw [hd2, runB_no (by unfold not10; rw [hb]; rfl)] at this
                  omega
                subst hre
                have e10 := eq_bool hb
                clear hd2 HK hb
                go_wp2
                go_round
                case rel => exact ⟨a + r, rfl, hrl, HN2⟩
                case measure => simp [intOf]; omega
            · have hre : r = k := by
                have := HK.out
                rw [List.drop_of_length_le (by rw [← Lib.size_eq]; omega), runB_nil] at this
                omega
              subst hre
              clear HK
              go_wp2
              go_round
              case rel => exact ⟨a + r, rfl, hrl, HN2⟩
              case measure => simp [intOf]; omega
      · have hz1 : z = 1 := by simpa using h1
        subst hz1
        have HN2 : Hid ((a + 1) + skipN (s.data.toList.drop (a + 1)) = N) := by
          have := HA.out
          have hg : gapN (y :: s.data.toList.drop (a + 1)) = 1 := gap_blank (by rw [hz]; rfl)
          rw [hd, skipN_on (by rw [hg]; omega), hg, List.drop_succ_cons, List.drop_zero] at this
          show _ = _
          omega
        clear hd hz h1
        go_wp2_with (go_at_call 41; refine (C.out _).mono ?_; rintro e w' ⟨rfl, rfl⟩)
        go_round
        case rel => exact ⟨a + 1, by go_num, by omega, HN2⟩
        case measure => simp [intOf]; omega
    · have hNa : N = a := by have := HA.out; rw [List.drop_of_length_le (by rw [← Lib.size_eq]; omega), show skipN [] = 0 from rfl] at this; omega
      subst hNa
      have hokt : ok = true := by rw [← HOK.out, List.drop_of_length_le (by rw [← Lib.size_eq]; omega)]; rfl
      subst hokt
      go_wp2
      go_ret2
      exact ⟨rfl, rfl⟩

end Go.Proofs.YtkbeaddbnnboaaaDoor
