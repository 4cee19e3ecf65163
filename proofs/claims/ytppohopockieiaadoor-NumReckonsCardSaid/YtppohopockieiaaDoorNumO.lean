/- The document's own answer Two, operator by operator: contracts over the translated text. Conditions: the arguments fit int64. -/
import Derived.Test.YtppohopockieiaaDoorNumN
namespace Go.Proofs.YtppohopockieiaaDoor
open Go Go.RowKit Go.Maps Go.Shelf

set_option maxRecDepth 100000 in
set_option maxHeartbeats 1600000 in
theorem rtwo_sum (a b n q : Int) (ha : inR a) (hb : inR b) (h : clip (a + b) = (n, q)) (w : World) :
    Calls Tryd.prog 12 #[.string { data := #[43] }, .int .i64 a, .int .i64 b] w fun e w' => e = ret n q ∧ w' = w := by
  by_cases hr : inR (a + b)
  · rw [clip_in hr] at h
    cases h
    have C := Lib.hid (fun w => radd_in a b w ha hb hr)
    generalize a + b = r at *
    clear hr ha hb
    go_enter Tryd.func12, Tryd.ntmps12
    go_wp2_with (first | (go_at_call 21; refine (C.out _).mono ?_; rintro e w' ⟨rfl, rfl⟩) | (go_at_call 20; refine (told_true _ _).mono ?_; rintro e w' ⟨rfl, rfl⟩))
    go_ret2
    exact ⟨rfl, rfl⟩
  · rw [clip_out hr] at h
    cases h
    have C := Lib.hid (fun w => radd_out a b w ha hb hr)
    clear hr ha hb
    go_enter Tryd.func12, Tryd.ntmps12
    go_wp2_with (first | (go_at_call 21; refine (C.out _).mono ?_; rintro e w' ⟨rfl, rfl⟩) | (go_at_call 20; refine (told_false _ _).mono ?_; rintro e w' ⟨rfl, rfl⟩))
    go_ret2
    exact ⟨rfl, rfl⟩

set_option maxRecDepth 100000 in
set_option maxHeartbeats 1600000 in
theorem rtwo_product (a b n q : Int) (ha : inR a) (hb : inR b) (h : clip (a * b) = (n, q)) (w : World) :
    Calls Tryd.prog 12 #[.string { data := #[42] }, .int .i64 a, .int .i64 b] w fun e w' => e = ret n q ∧ w' = w := by
  by_cases hr : inR (a * b)
  · rw [clip_in hr] at h
    cases h
    have C := Lib.hid (fun w => rmul_in a b w ha hb hr)
    generalize a * b = r at *
    clear hr ha hb
    go_enter Tryd.func12, Tryd.ntmps12
    go_wp2_with (first | (go_at_call 22; refine (C.out _).mono ?_; rintro e w' ⟨rfl, rfl⟩) | (go_at_call 20; refine (told_true _ _).mono ?_; rintro e w' ⟨rfl, rfl⟩))
    go_ret2
    exact ⟨rfl, rfl⟩
  · rw [clip_out hr] at h
    cases h
    have C := Lib.hid (fun w => rmul_out a b w ha hb hr)
    clear hr ha hb
    go_enter Tryd.func12, Tryd.ntmps12
    go_wp2_with (first | (go_at_call 22; refine (C.out _).mono ?_; rintro e w' ⟨⟨x, rfl⟩, rfl⟩) | (go_at_call 20; refine (told_false _ _).mono ?_; rintro e w' ⟨rfl, rfl⟩))
    go_ret2
    exact ⟨rfl, rfl⟩

set_option maxRecDepth 100000 in
set_option maxHeartbeats 1600000 in
theorem rtwo_difference (a b n q : Int) (ha : inR a) (hb : inR b) (h : clip (a - b) = (n, q)) (w : World) :
    Calls Tryd.prog 12 #[.string { data := #[45] }, .int .i64 a, .int .i64 b] w fun e w' => e = ret n q ∧ w' = w := by
  by_cases h0 : b = -9223372036854775808
  · subst h0
    by_cases h1 : a < 0
    · have hr : inR (a - -9223372036854775808) := by unfold inR at *; omega
      rw [clip_in hr] at h
      cases h
      have hr' := hr
      obtain ⟨g1, g2⟩ := hr'
      have g3 : wrap64 (a + 9223372036854775808) = a - -9223372036854775808 := by unfold inR at ha; unfold wrap64; omega
      have G := Lib.hid g3
      clear g3 hr ha hb
      go_enter Tryd.func12, Tryd.ntmps12
      go_wp2_with (first | (go_at_call 20; refine (told_true _ _).mono ?_; rintro e w' ⟨rfl, rfl⟩))
      go_ret2
      exact ⟨by first | rfl | (rw [G.out]; rfl), rfl⟩
    · have hr : ¬ inR (a - -9223372036854775808) := by unfold inR at *; omega
      rw [clip_out hr] at h
      cases h
      clear hr ha hb
      go_enter Tryd.func12, Tryd.ntmps12
      go_wp2_with (first | (go_at_call 20; refine (told_false _ _).mono ?_; rintro e w' ⟨rfl, rfl⟩))
      go_ret2
      exact ⟨rfl, rfl⟩
  · have e0 : (b == -9223372036854775808) = false := by simpa using h0
    have hb2 : inR (-b) := by unfold inR at *; omega
    obtain ⟨g1, g2⟩ := hb2
    have hs : a - b = a + -b := by omega
    rw [hs] at h
    clear hs h0
    by_cases hr : inR (a + -b)
    · rw [clip_in hr] at h
      cases h
      have C := Lib.hid (fun w => radd_in a (-b) w ha ⟨g1, g2⟩ hr)
      generalize a + -b = r at *
      clear hr ha hb
      go_enter Tryd.func12, Tryd.ntmps12
      go_wp2_with (first | (go_at_call 21; refine (C.out _).mono ?_; rintro e w' ⟨rfl, rfl⟩) | (go_at_call 20; refine (told_true _ _).mono ?_; rintro e w' ⟨rfl, rfl⟩))
      go_ret2
      exact ⟨rfl, rfl⟩
    · rw [clip_out hr] at h
      cases h
      have C := Lib.hid (fun w => radd_out a (-b) w ha ⟨g1, g2⟩ hr)
      clear hr ha hb
      go_enter Tryd.func12, Tryd.ntmps12
      go_wp2_with (first | (go_at_call 21; refine (C.out _).mono ?_; rintro e w' ⟨rfl, rfl⟩) | (go_at_call 20; refine (told_false _ _).mono ?_; rintro e w' ⟨rfl, rfl⟩))
      go_ret2
      exact ⟨rfl, rfl⟩

set_option maxRecDepth 100000 in
set_option maxHeartbeats 1600000 in
theorem rtwo_quotient (a b n q : Int) (ha : inR a) (hb : inR b) (h : quoR a b = (n, q)) (w : World) :
    Calls Tryd.prog 12 #[.string { data := #[47, 47] }, .int .i64 a, .int .i64 b] w fun e w' => e = ret n q ∧ w' = w := by
  unfold quoR at h
  by_cases h0 : b = 0
  · subst h0
    rw [if_pos rfl] at h
    cases h
    clear ha hb
    go_enter Tryd.func12, Tryd.ntmps12
    go_wp2
    go_ret2
    exact ⟨rfl, rfl⟩
  rw [if_neg h0] at h
  have e0 : (b == 0) = false := by simpa using h0
  by_cases hr : inR (a.tdiv b)
  · rw [clip_in hr] at h
    cases h
    have C := Lib.hid (fun w => rquo_in a b w ha hb h0 hr)
    generalize a.tdiv b = r at *
    clear hr ha hb
    go_enter Tryd.func12, Tryd.ntmps12
    go_wp2_with (first | (go_at_call 23; refine (C.out _).mono ?_; rintro e w' ⟨rfl, rfl⟩) | (go_at_call 20; refine (told_true _ _).mono ?_; rintro e w' ⟨rfl, rfl⟩))
    go_ret2
    exact ⟨rfl, rfl⟩
  · rw [clip_out hr] at h
    cases h
    have C := Lib.hid (fun w => rquo_out a b w ha hb hr)
    clear hr ha hb
    go_enter Tryd.func12, Tryd.ntmps12
    go_wp2_with (first | (go_at_call 23; refine (C.out _).mono ?_; rintro e w' ⟨⟨x, rfl⟩, rfl⟩) | (go_at_call 20; refine (told_false _ _).mono ?_; rintro e w' ⟨rfl, rfl⟩))
    go_ret2
    exact ⟨rfl, rfl⟩

set_option maxRecDepth 100000 in
set_option maxHeartbeats 1600000 in
theorem rtwo_floor (a b n q : Int) (ha : inR a) (hb : inR b) (h : divR a b = (n, q)) (w : World) :
    Calls Tryd.prog 12 #[.string { data := #[100, 105, 118] }, .int .i64 a, .int .i64 b] w fun e w' => e = ret n q ∧ w' = w := by
  unfold divR at h
  by_cases h0 : b = 0
  · subst h0
    rw [if_pos rfl] at h
    cases h
    clear ha hb
    go_enter Tryd.func12, Tryd.ntmps12
    go_wp2
    go_ret2
    exact ⟨rfl, rfl⟩
  rw [if_neg h0] at h
  have e0 : (b == 0) = false := by simpa using h0
  by_cases hr : inR (a.fdiv b)
  · rw [clip_in hr] at h
    cases h
    have C := Lib.hid (fun w => rdown_in a b w ha hb h0 hr)
    generalize a.fdiv b = r at *
    clear hr ha hb
    go_enter Tryd.func12, Tryd.ntmps12
    go_wp2_with (first | (go_at_call 24; refine (C.out _).mono ?_; rintro e w' ⟨rfl, rfl⟩) | (go_at_call 20; refine (told_true _ _).mono ?_; rintro e w' ⟨rfl, rfl⟩))
    go_ret2
    exact ⟨rfl, rfl⟩
  · rw [clip_out hr] at h
    cases h
    have C := Lib.hid (fun w => rdown_out a b w ha hb h0 hr)
    clear hr ha hb
    go_enter Tryd.func12, Tryd.ntmps12
    go_wp2_with (first | (go_at_call 24; refine (C.out _).mono ?_; rintro e w' ⟨⟨x, rfl⟩, rfl⟩) | (go_at_call 20; refine (told_false _ _).mono ?_; rintro e w' ⟨rfl, rfl⟩))
    go_ret2
    exact ⟨rfl, rfl⟩

set_option maxRecDepth 100000 in
set_option maxHeartbeats 1600000 in
theorem rtwo_rest (a b n q : Int) (ha : inR a) (hb : inR b) (h : remR a b = (n, q)) (w : World) :
    Calls Tryd.prog 12 #[.string { data := #[114, 101, 109] }, .int .i64 a, .int .i64 b] w fun e w' => e = ret n q ∧ w' = w := by
  unfold remR at h
  by_cases h0 : b = 0
  · subst h0
    rw [if_pos rfl] at h
    cases h
    clear ha hb
    go_enter Tryd.func12, Tryd.ntmps12
    go_wp2
    go_ret2
    exact ⟨rfl, rfl⟩
  rw [if_neg h0] at h
  have e0 : (b == 0) = false := by simpa using h0
  cases h
  by_cases h1 : b = -1
  · subst h1
    have e1 : a.tmod (-1) = 0 := by rw [Int.tmod_neg, Int.tmod_one]
    rw [e1]
    clear ha hb e1 e0 h0
    go_enter Tryd.func12, Tryd.ntmps12
    go_wp2
    go_ret2
    exact ⟨rfl, rfl⟩
  · have e1 : (b == -1) = false := by simpa using h1
    have hr : inR (a.tmod b) := tmod_in ha
    obtain ⟨g1, g2⟩ := hr
    obtain ⟨g3, g4⟩ := ha
    obtain ⟨g5, g6⟩ := hb
    go_enter Tryd.func12, Tryd.ntmps12
    go_wp2
    go_ret2
    exact ⟨rfl, rfl⟩

set_option maxRecDepth 100000 in
set_option maxHeartbeats 1600000 in
theorem rtwo_modulus (a b n q : Int) (ha : inR a) (hb : inR b) (h : modR a b = (n, q)) (w : World) :
    Calls Tryd.prog 12 #[.string { data := #[109, 111, 100] }, .int .i64 a, .int .i64 b] w fun e w' => e = ret n q ∧ w' = w := by
  unfold modR at h
  by_cases h0 : b = 0
  · subst h0
    rw [if_pos rfl] at h
    cases h
    clear ha hb
    go_enter Tryd.func12, Tryd.ntmps12
    go_wp2
    go_ret2
    exact ⟨rfl, rfl⟩
  rw [if_neg h0] at h
  have e0 : (b == 0) = false := by simpa using h0
  have hm := fmod_in (a := a) hb h0
  have hu := tmod_fmod (a := a) h0
  generalize hf : a.fmod b = m at *
  cases h
  by_cases h1 : b = -1
  · subst h1
    have e1 : a.tmod (-1) = 0 := by rw [Int.tmod_neg, Int.tmod_one]
    have e2 : unlikeB a (-1) = false := by simp [unlikeB, e1]
    rw [e2, if_neg (by simp), e1] at hu
    subst hu
    clear ha hb e1 e2 e0 h0 hf hm
    go_enter Tryd.func12, Tryd.ntmps12
    go_wp2
    go_ret2
    exact ⟨rfl, rfl⟩
  · have e1 : (b == -1) = false := by simpa using h1
    have hr : inR (a.tmod b) := tmod_in ha
    obtain ⟨g1, g2⟩ := hr
    obtain ⟨g3, g4⟩ := ha
    obtain ⟨g5, g6⟩ := hb
    obtain ⟨g7, g8⟩ := hm
    clear hf h1
    unfold unlikeB at hu
    cases e2 : (a.tmod b != 0)
    · rw [e2, if_neg (by simp)] at hu
      subst hu
      go_enter Tryd.func12, Tryd.ntmps12
      go_wp2
      go_ret2
      exact ⟨rfl, rfl⟩
    · cases e3 : decide (a.tmod b < 0)
      all_goals
        cases e4 : decide (b < 0)
      all_goals
        rw [e2, e3, e4] at hu
        simp at hu
        subst hu
        go_enter Tryd.func12, Tryd.ntmps12
        go_wp2
        go_ret2
        exact ⟨rfl, rfl⟩

set_option maxRecDepth 100000 in
set_option maxHeartbeats 1600000 in
theorem rtwo_least (a b n q : Int)  (h : (minZ a b, (0 : Int)) = (n, q)) (w : World) :
    Calls Tryd.prog 12 #[.string { data := #[109, 105, 110] }, .int .i64 a, .int .i64 b] w fun e w' => e = ret n q ∧ w' = w := by
  cases h
  rw [show minZ a b = min a b from by unfold minZ; omega]
  go_enter Tryd.func12, Tryd.ntmps12
  go_wp2
  go_ret2
  exact ⟨rfl, rfl⟩

set_option maxRecDepth 100000 in
set_option maxHeartbeats 1600000 in
theorem rtwo_greatest (a b n q : Int)  (h : (maxZ a b, (0 : Int)) = (n, q)) (w : World) :
    Calls Tryd.prog 12 #[.string { data := #[109, 97, 120] }, .int .i64 a, .int .i64 b] w fun e w' => e = ret n q ∧ w' = w := by
  cases h
  rw [show maxZ a b = max a b from by unfold maxZ; omega]
  go_enter Tryd.func12, Tryd.ntmps12
  go_wp2
  go_ret2
  exact ⟨rfl, rfl⟩

set_option maxRecDepth 100000 in
set_option maxHeartbeats 1600000 in
theorem rtwo_and (a b n q : Int) (ha : inR a) (hb : inR b) (h : (andZ a b, (0 : Int)) = (n, q)) (w : World) :
    Calls Tryd.prog 12 #[.string { data := #[47, 92] }, .int .i64 a, .int .i64 b] w fun e w' => e = ret n q ∧ w' = w := by
  cases h
  unfold andZ
  rw [and_bv]
  have C := Lib.hid (fun w => rbits_and a b (BitVec.ofInt 64 a &&& BitVec.ofInt 64 b) w ha hb (fun i _ => by simp))
  generalize (BitVec.ofInt 64 a &&& BitVec.ofInt 64 b).toInt = r at *
  clear ha hb
  go_enter Tryd.func12, Tryd.ntmps12
  go_wp2_with (first | (go_at_call 25; refine (C.out _).mono ?_; rintro e w' ⟨rfl, rfl⟩))
  go_ret2
  exact ⟨rfl, rfl⟩

set_option maxRecDepth 100000 in
set_option maxHeartbeats 1600000 in
theorem rtwo_or (a b n q : Int) (ha : inR a) (hb : inR b) (h : (orZ a b, (0 : Int)) = (n, q)) (w : World) :
    Calls Tryd.prog 12 #[.string { data := #[92, 47] }, .int .i64 a, .int .i64 b] w fun e w' => e = ret n q ∧ w' = w := by
  cases h
  unfold orZ
  rw [or_bv]
  have C := Lib.hid (fun w => rbits_or a b (BitVec.ofInt 64 a ||| BitVec.ofInt 64 b) w ha hb (fun i _ => by simp))
  generalize (BitVec.ofInt 64 a ||| BitVec.ofInt 64 b).toInt = r at *
  clear ha hb
  go_enter Tryd.func12, Tryd.ntmps12
  go_wp2_with (first | (go_at_call 25; refine (C.out _).mono ?_; rintro e w' ⟨rfl, rfl⟩))
  go_ret2
  exact ⟨rfl, rfl⟩

set_option maxRecDepth 100000 in
set_option maxHeartbeats 1600000 in
theorem rtwo_xor (a b n q : Int) (ha : inR a) (hb : inR b) (h : (xorZ a b, (0 : Int)) = (n, q)) (w : World) :
    Calls Tryd.prog 12 #[.string { data := #[120, 111, 114] }, .int .i64 a, .int .i64 b] w fun e w' => e = ret n q ∧ w' = w := by
  cases h
  unfold xorZ
  rw [xor_bv]
  have C := Lib.hid (fun w => rbits_xor a b (BitVec.ofInt 64 a ^^^ BitVec.ofInt 64 b) w ha hb (fun i _ => by simp))
  generalize (BitVec.ofInt 64 a ^^^ BitVec.ofInt 64 b).toInt = r at *
  clear ha hb
  go_enter Tryd.func12, Tryd.ntmps12
  go_wp2_with (first | (go_at_call 25; refine (C.out _).mono ?_; rintro e w' ⟨rfl, rfl⟩))
  go_ret2
  exact ⟨rfl, rfl⟩

end Go.Proofs.YtppohopockieiaaDoor
