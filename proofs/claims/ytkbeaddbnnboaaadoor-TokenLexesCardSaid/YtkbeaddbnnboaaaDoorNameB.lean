/- The document's answer on sorts: what it comes to. Conditions: the byte is one. -/
import Derived.Test.YtkbeaddbnnboaaaDoorNameA
namespace Go.Proofs.YtkbeaddbnnboaaaDoor
open Go Go.RowKit

set_option maxHeartbeats 800000 in
theorem ref_sort_0 (c r : Int) (w : World) (q1a : (c == 32) = false) (q3a : (c == 95) = false) (b5 b6 b7 b8 : Bool) (h : c < 9)
    (I5 : Hid (∀ w, Calls Tryd.prog 60 #[.int .u8 c, .string ⟨#[43, 45, 42, 47, 92, 94, 60, 62, 61, 126, 58, 46, 63, 64, 35, 38, 36]⟩] w fun e w' => e = .returned (.bool b5) ∧ w' = w))
    (I6 : Hid (∀ w, Calls Tryd.prog 60 #[.int .u8 c, .string ⟨#[33, 59]⟩] w fun e w' => e = .returned (.bool b6) ∧ w' = w))
    (I7 : Hid (∀ w, Calls Tryd.prog 60 #[.int .u8 c, .string ⟨#[40, 41, 91, 93, 123, 125, 44, 124, 37]⟩] w fun e w' => e = .returned (.bool b7) ∧ w' = w))
    (I8 : Hid (∀ w, Calls Tryd.prog 60 #[.int .u8 c, .string ⟨#[39, 34, 96]⟩] w fun e w' => e = .returned (.bool b8) ∧ w' = w))
    (HR : Hid ((if b5 = true then 5 else if b6 = true then 6 else if b7 = true then 7 else if b8 = true then 8 else 0) = r)) :
    Calls Tryd.prog 41 #[.int .u8 c] w fun e w' => e = .returned (.int .i64 r) ∧ w' = w := by
  go_enter Tryd.func41, Tryd.ntmps41
  go_wp2_with fail
  refine (I5.out _).mono ?_
  rintro e w' ⟨rfl, rfl⟩
  cases b5
  · go_wp2_with fail
    refine (I6.out _).mono ?_
    rintro e w' ⟨rfl, rfl⟩
    cases b6
    · go_wp2_with fail
      refine (I7.out _).mono ?_
      rintro e w' ⟨rfl, rfl⟩
      cases b7
      · go_wp2_with fail
        refine (I8.out _).mono ?_
        rintro e w' ⟨rfl, rfl⟩
        cases b8
        · go_wp2_with fail
          go_ret
          cases HR.out
          exact ⟨rfl, rfl⟩
        · go_wp2_with fail
          go_ret
          cases HR.out
          exact ⟨rfl, rfl⟩
      · go_wp2_with fail
        go_ret
        cases HR.out
        exact ⟨rfl, rfl⟩
    · go_wp2_with fail
      go_ret
      cases HR.out
      exact ⟨rfl, rfl⟩
  · go_wp2_with fail
    go_ret
    cases HR.out
    exact ⟨rfl, rfl⟩

set_option maxHeartbeats 800000 in
theorem ref_sort_1 (c r : Int) (w : World) (q1a : (c == 32) = false) (q3a : (c == 95) = false) (b5 b6 b7 b8 : Bool) (h : 13 < c) (h' : c < 48)
    (I5 : Hid (∀ w, Calls Tryd.prog 60 #[.int .u8 c, .string ⟨#[43, 45, 42, 47, 92, 94, 60, 62, 61, 126, 58, 46, 63, 64, 35, 38, 36]⟩] w fun e w' => e = .returned (.bool b5) ∧ w' = w))
    (I6 : Hid (∀ w, Calls Tryd.prog 60 #[.int .u8 c, .string ⟨#[33, 59]⟩] w fun e w' => e = .returned (.bool b6) ∧ w' = w))
    (I7 : Hid (∀ w, Calls Tryd.prog 60 #[.int .u8 c, .string ⟨#[40, 41, 91, 93, 123, 125, 44, 124, 37]⟩] w fun e w' => e = .returned (.bool b7) ∧ w' = w))
    (I8 : Hid (∀ w, Calls Tryd.prog 60 #[.int .u8 c, .string ⟨#[39, 34, 96]⟩] w fun e w' => e = .returned (.bool b8) ∧ w' = w))
    (HR : Hid ((if b5 = true then 5 else if b6 = true then 6 else if b7 = true then 7 else if b8 = true then 8 else 0) = r)) :
    Calls Tryd.prog 41 #[.int .u8 c] w fun e w' => e = .returned (.int .i64 r) ∧ w' = w := by
  go_enter Tryd.func41, Tryd.ntmps41
  go_wp2_with fail
  refine (I5.out _).mono ?_
  rintro e w' ⟨rfl, rfl⟩
  cases b5
  · go_wp2_with fail
    refine (I6.out _).mono ?_
    rintro e w' ⟨rfl, rfl⟩
    cases b6
    · go_wp2_with fail
      refine (I7.out _).mono ?_
      rintro e w' ⟨rfl, rfl⟩
      cases b7
      · go_wp2_with fail
        refine (I8.out _).mono ?_
        rintro e w' ⟨rfl, rfl⟩
        cases b8
        · go_wp2_with fail
          go_ret
          cases HR.out
          exact ⟨rfl, rfl⟩
        · go_wp2_with fail
          go_ret
          cases HR.out
          exact ⟨rfl, rfl⟩
      · go_wp2_with fail
        go_ret
        cases HR.out
        exact ⟨rfl, rfl⟩
    · go_wp2_with fail
      go_ret
      cases HR.out
      exact ⟨rfl, rfl⟩
  · go_wp2_with fail
    go_ret
    cases HR.out
    exact ⟨rfl, rfl⟩

set_option maxHeartbeats 800000 in
theorem ref_sort_2 (c r : Int) (w : World) (q1a : (c == 32) = false) (q3a : (c == 95) = false) (b5 b6 b7 b8 : Bool) (h : 57 < c) (h' : c < 65)
    (I5 : Hid (∀ w, Calls Tryd.prog 60 #[.int .u8 c, .string ⟨#[43, 45, 42, 47, 92, 94, 60, 62, 61, 126, 58, 46, 63, 64, 35, 38, 36]⟩] w fun e w' => e = .returned (.bool b5) ∧ w' = w))
    (I6 : Hid (∀ w, Calls Tryd.prog 60 #[.int .u8 c, .string ⟨#[33, 59]⟩] w fun e w' => e = .returned (.bool b6) ∧ w' = w))
    (I7 : Hid (∀ w, Calls Tryd.prog 60 #[.int .u8 c, .string ⟨#[40, 41, 91, 93, 123, 125, 44, 124, 37]⟩] w fun e w' => e = .returned (.bool b7) ∧ w' = w))
    (I8 : Hid (∀ w, Calls Tryd.prog 60 #[.int .u8 c, .string ⟨#[39, 34, 96]⟩] w fun e w' => e = .returned (.bool b8) ∧ w' = w))
    (HR : Hid ((if b5 = true then 5 else if b6 = true then 6 else if b7 = true then 7 else if b8 = true then 8 else 0) = r)) :
    Calls Tryd.prog 41 #[.int .u8 c] w fun e w' => e = .returned (.int .i64 r) ∧ w' = w := by
  go_enter Tryd.func41, Tryd.ntmps41
  go_wp2_with fail
  refine (I5.out _).mono ?_
  rintro e w' ⟨rfl, rfl⟩
  cases b5
  · go_wp2_with fail
    refine (I6.out _).mono ?_
    rintro e w' ⟨rfl, rfl⟩
    cases b6
    · go_wp2_with fail
      refine (I7.out _).mono ?_
      rintro e w' ⟨rfl, rfl⟩
      cases b7
      · go_wp2_with fail
        refine (I8.out _).mono ?_
        rintro e w' ⟨rfl, rfl⟩
        cases b8
        · go_wp2_with fail
          go_ret
          cases HR.out
          exact ⟨rfl, rfl⟩
        · go_wp2_with fail
          go_ret
          cases HR.out
          exact ⟨rfl, rfl⟩
      · go_wp2_with fail
        go_ret
        cases HR.out
        exact ⟨rfl, rfl⟩
    · go_wp2_with fail
      go_ret
      cases HR.out
      exact ⟨rfl, rfl⟩
  · go_wp2_with fail
    go_ret
    cases HR.out
    exact ⟨rfl, rfl⟩

set_option maxHeartbeats 800000 in
theorem ref_sort_3 (c r : Int) (w : World) (q1a : (c == 32) = false) (q3a : (c == 95) = false) (b5 b6 b7 b8 : Bool) (h : 90 < c) (h' : c < 97)
    (I5 : Hid (∀ w, Calls Tryd.prog 60 #[.int .u8 c, .string ⟨#[43, 45, 42, 47, 92, 94, 60, 62, 61, 126, 58, 46, 63, 64, 35, 38, 36]⟩] w fun e w' => e = .returned (.bool b5) ∧ w' = w))
    (I6 : Hid (∀ w, Calls Tryd.prog 60 #[.int .u8 c, .string ⟨#[33, 59]⟩] w fun e w' => e = .returned (.bool b6) ∧ w' = w))
    (I7 : Hid (∀ w, Calls Tryd.prog 60 #[.int .u8 c, .string ⟨#[40, 41, 91, 93, 123, 125, 44, 124, 37]⟩] w fun e w' => e = .returned (.bool b7) ∧ w' = w))
    (I8 : Hid (∀ w, Calls Tryd.prog 60 #[.int .u8 c, .string ⟨#[39, 34, 96]⟩] w fun e w' => e = .returned (.bool b8) ∧ w' = w))
    (HR : Hid ((if b5 = true then 5 else if b6 = true then 6 else if b7 = true then 7 else if b8 = true then 8 else 0) = r)) :
    Calls Tryd.prog 41 #[.int .u8 c] w fun e w' => e = .returned (.int .i64 r) ∧ w' = w := by
  go_enter Tryd.func41, Tryd.ntmps41
  go_wp2_with fail
  refine (I5.out _).mono ?_
  rintro e w' ⟨rfl, rfl⟩
  cases b5
  · go_wp2_with fail
    refine (I6.out _).mono ?_
    rintro e w' ⟨rfl, rfl⟩
    cases b6
    · go_wp2_with fail
      refine (I7.out _).mono ?_
      rintro e w' ⟨rfl, rfl⟩
      cases b7
      · go_wp2_with fail
        refine (I8.out _).mono ?_
        rintro e w' ⟨rfl, rfl⟩
        cases b8
        · go_wp2_with fail
          go_ret
          cases HR.out
          exact ⟨rfl, rfl⟩
        · go_wp2_with fail
          go_ret
          cases HR.out
          exact ⟨rfl, rfl⟩
      · go_wp2_with fail
        go_ret
        cases HR.out
        exact ⟨rfl, rfl⟩
    · go_wp2_with fail
      go_ret
      cases HR.out
      exact ⟨rfl, rfl⟩
  · go_wp2_with fail
    go_ret
    cases HR.out
    exact ⟨rfl, rfl⟩

set_option maxHeartbeats 800000 in
theorem ref_sort_4 (c r : Int) (w : World) (q1a : (c == 32) = false) (q3a : (c == 95) = false) (b5 b6 b7 b8 : Bool) (h : 122 < c)
    (I5 : Hid (∀ w, Calls Tryd.prog 60 #[.int .u8 c, .string ⟨#[43, 45, 42, 47, 92, 94, 60, 62, 61, 126, 58, 46, 63, 64, 35, 38, 36]⟩] w fun e w' => e = .returned (.bool b5) ∧ w' = w))
    (I6 : Hid (∀ w, Calls Tryd.prog 60 #[.int .u8 c, .string ⟨#[33, 59]⟩] w fun e w' => e = .returned (.bool b6) ∧ w' = w))
    (I7 : Hid (∀ w, Calls Tryd.prog 60 #[.int .u8 c, .string ⟨#[40, 41, 91, 93, 123, 125, 44, 124, 37]⟩] w fun e w' => e = .returned (.bool b7) ∧ w' = w))
    (I8 : Hid (∀ w, Calls Tryd.prog 60 #[.int .u8 c, .string ⟨#[39, 34, 96]⟩] w fun e w' => e = .returned (.bool b8) ∧ w' = w))
    (HR : Hid ((if b5 = true then 5 else if b6 = true then 6 else if b7 = true then 7 else if b8 = true then 8 else 0) = r)) :
    Calls Tryd.prog 41 #[.int .u8 c] w fun e w' => e = .returned (.int .i64 r) ∧ w' = w := by
  go_enter Tryd.func41, Tryd.ntmps41
  go_wp2_with fail
  refine (I5.out _).mono ?_
  rintro e w' ⟨rfl, rfl⟩
  cases b5
  · go_wp2_with fail
    refine (I6.out _).mono ?_
    rintro e w' ⟨rfl, rfl⟩
    cases b6
    · go_wp2_with fail
      refine (I7.out _).mono ?_
      rintro e w' ⟨rfl, rfl⟩
      cases b7
      · go_wp2_with fail
        refine (I8.out _).mono ?_
        rintro e w' ⟨rfl, rfl⟩
        cases b8
        · go_wp2_with fail
          go_ret
          cases HR.out
          exact ⟨rfl, rfl⟩
        · go_wp2_with fail
          go_ret
          cases HR.out
          exact ⟨rfl, rfl⟩
      · go_wp2_with fail
        go_ret
        cases HR.out
        exact ⟨rfl, rfl⟩
    · go_wp2_with fail
      go_ret
      cases HR.out
      exact ⟨rfl, rfl⟩
  · go_wp2_with fail
    go_ret
    cases HR.out
    exact ⟨rfl, rfl⟩

set_option maxHeartbeats 400000 in
theorem ref_sort (c : Int) (w : World) (h0 : 0 ≤ c) (h1 : c ≤ 255) :
    Calls Tryd.prog 41 #[.int .u8 c] w fun e w' => e = .returned (.int .i64 (sortZ c)) ∧ w' = w := by
  rw [← sortR_eq c h0 h1]
  obtain ⟨r, hr⟩ : ∃ r, sortR c = r := ⟨_, rfl⟩
  rw [hr]
  unfold sortR at hr
  by_cases q1 : (9 ≤ c ∧ c ≤ 13) ∨ c = 32
  · rw [if_pos q1] at hr
    subst hr
    rcases q1 with ⟨q1, q2⟩ | rfl
    · go_enter Tryd.func41, Tryd.ntmps41
      go_wp2
      go_ret
      exact ⟨rfl, rfl⟩
    · go_enter Tryd.func41, Tryd.ntmps41
      go_wp2
      go_ret
      exact ⟨rfl, rfl⟩
  rw [if_neg q1] at hr
  have q1a : (c == 32) = false := beq_eq_false_iff_ne.2 (by omega)
  have q1b : c < 9 ∨ 13 < c := by omega
  clear q1
  by_cases q2 : 97 ≤ c ∧ c ≤ 122
  · rw [if_pos q2] at hr
    subst hr
    obtain ⟨q2, q3⟩ := q2
    clear q1b
    go_enter Tryd.func41, Tryd.ntmps41
    go_wp2
    go_ret
    exact ⟨rfl, rfl⟩
  rw [if_neg q2] at hr
  by_cases q3 : (65 ≤ c ∧ c ≤ 90) ∨ c = 95
  · rw [if_pos q3] at hr
    subst hr
    clear q2 q1b
    rcases q3 with ⟨q1, q2⟩ | rfl
    · go_enter Tryd.func41, Tryd.ntmps41
      go_wp2
      go_ret
      exact ⟨rfl, rfl⟩
    · clear q1a
      go_enter Tryd.func41, Tryd.ntmps41
      go_wp2
      go_ret
      exact ⟨rfl, rfl⟩
  rw [if_neg q3] at hr
  have q3a : (c == 95) = false := beq_eq_false_iff_ne.2 (by omega)
  by_cases q4 : 48 ≤ c ∧ c ≤ 57
  · rw [if_pos q4] at hr
    subst hr
    clear q2 q1b q3
    obtain ⟨q4, q5⟩ := q4
    go_enter Tryd.func41, Tryd.ntmps41
    go_wp2
    go_ret
    exact ⟨rfl, rfl⟩
  rw [if_neg q4] at hr
  obtain ⟨b5, h5⟩ : ∃ b, inB c [43, 45, 42, 47, 92, 94, 60, 62, 61, 126, 58, 46, 63, 64, 35, 38, 36] = b := ⟨_, rfl⟩
  obtain ⟨b6, h6⟩ : ∃ b, inB c [33, 59] = b := ⟨_, rfl⟩
  obtain ⟨b7, h7⟩ : ∃ b, inB c [40, 41, 91, 93, 123, 125, 44, 124, 37] = b := ⟨_, rfl⟩
  obtain ⟨b8, h8⟩ : ∃ b, inB c [39, 34, 96] = b := ⟨_, rfl⟩
  rw [h5, h6, h7, h8] at hr
  have I5 := Lib.hid (fun w => ref_in c #[43, 45, 42, 47, 92, 94, 60, 62, 61, 126, 58, 46, 63, 64, 35, 38, 36] b5 h5 (by decide) w)
  have I6 := Lib.hid (fun w => ref_in c #[33, 59] b6 h6 (by decide) w)
  have I7 := Lib.hid (fun w => ref_in c #[40, 41, 91, 93, 123, 125, 44, 124, 37] b7 h7 (by decide) w)
  have I8 := Lib.hid (fun w => ref_in c #[39, 34, 96] b8 h8 (by decide) w)
  have HR := Lib.hid hr
  clear hr h5 h6 h7 h8
  have rg : c < 9 ∨ 13 < c ∧ c < 48 ∨ 57 < c ∧ c < 65 ∨ 90 < c ∧ c < 97 ∨ 122 < c := by omega
  clear q1b q2 q3 q4
  rcases rg with h | ⟨h, h'⟩ | ⟨h, h'⟩ | ⟨h, h'⟩ | h
  · exact ref_sort_0 c r w q1a q3a b5 b6 b7 b8 h I5 I6 I7 I8 HR
  · exact ref_sort_1 c r w q1a q3a b5 b6 b7 b8 h h' I5 I6 I7 I8 HR
  · exact ref_sort_2 c r w q1a q3a b5 b6 b7 b8 h h' I5 I6 I7 I8 HR
  · exact ref_sort_3 c r w q1a q3a b5 b6 b7 b8 h h' I5 I6 I7 I8 HR
  · exact ref_sort_4 c r w q1a q3a b5 b6 b7 b8 h I5 I6 I7 I8 HR

end Go.Proofs.YtkbeaddbnnboaaaDoor
