/- The library's cmp functions at whole numbers and texts. Conditions: none. -/
import Derived.Test.YtkidcchafdiofaaTermG
namespace Go.Proofs.Ytkidcchafdiofaa
open Go Go.RowKit

theorem ret_int {k : IntKind} {a b : Int} (h : a = b) : Ending.returned (.int k a) = .returned (.int k b) := by rw [h]
theorem nan64_is (x : Int) (w : World) : Calls Try.prog 58 #[.int .i64 x] w fun e w' => e = .returned (.bool false) ∧ w = w' := by
  go_enter Try.func58, Try.ntmps58
  go_wp2
  go_ret
  exact ⟨by simp, rfl⟩
theorem nanS_is (x : ByteArray) (w : World) : Calls Try.prog 59 #[.string x] w fun e w' => e = .returned (.bool false) ∧ w = w' := by
  go_enter Try.func59, Try.ntmps59
  go_wp2
  go_ret
  exact ⟨by simp, rfl⟩
theorem cmp64_is (x y : Int) (w : World) : Calls Try.prog 52 #[.int .i64 x, .int .i64 y] w fun e w' => e = .returned (.int .i64 (Lib.compareInt x y)) ∧ w = w' := by
  obtain ⟨r, hr⟩ : ∃ r, Lib.compareInt x y = r := ⟨_, rfl⟩
  rw [hr]
  have HR := Lib.hid hr
  clear hr
  go_enter Try.func52, Try.ntmps52
  go_wp2_with (go_at_call 58; refine (nan64_is _ _).mono ?_; rintro _ _ ⟨rfl, rfl⟩)
  all_goals
    go_ret
    refine ⟨ret_int ?_, rfl⟩
    rw [← HR.out]
    unfold Lib.compareInt
    first | rw [if_pos (by assumption)] | rw [if_neg (by omega), if_pos (by omega)] | rw [if_neg (by omega), if_neg (by omega)]
/-- how two texts stand -/
def cmpS (x y : ByteArray) : Int := if Op.bytesLess x.toList y.toList = true then -1 else if (x.toList == y.toList) = true then 0 else 1
theorem cmpS_is (x y : ByteArray) (w : World) : Calls Try.prog 53 #[.string x, .string y] w fun e w' => e = .returned (.int .i64 (cmpS x y)) ∧ w = w' := by
  obtain ⟨r, hr⟩ : ∃ r, cmpS x y = r := ⟨_, rfl⟩
  rw [hr]
  have HR := Lib.hid hr
  clear hr
  go_enter Try.func53, Try.ntmps53
  go_wp2_with (go_at_call 59; refine (nanS_is _ _).mono ?_; rintro _ _ ⟨rfl, rfl⟩)
  all_goals
    go_ret
    refine ⟨ret_int ?_, rfl⟩
    rw [← HR.out]
    clear HR
    unfold cmpS
    simp_all
theorem cmpI_is (x y : Int) (w : World) : Calls Try.prog 51 #[.int .i64 x, .int .i64 y] w fun e w' => e = .returned (.int .i64 (Lib.compareInt x y)) ∧ w = w' :=
  (Try.cmp_Compare_int x y w).mono fun _ _ h => ⟨h.1, h.2.symm⟩

/-- the first that isn't 0 -/
def or4 (a b c d : Int) : Int := if a ≠ 0 then a else if b ≠ 0 then b else if c ≠ 0 then c else d
set_option maxRecDepth 100000 in
set_option maxHeartbeats 1600000 in
theorem or_is (B : Nat) (a b c d : Int) (w : World) (h : w.heap[B]? = some (.cells #[.int .i64 a, .int .i64 b, .int .i64 c, .int .i64 d] 3 (0, 0))) :
    Calls Try.prog 50 #[.slice (some ⟨B, 0, none⟩) 4 4] w fun e w' => e = .returned (.int .i64 (or4 a b c d)) ∧ w = w' := by
  have c0 := cell_of_heap (o := 0) h rfl
  have c1 := cell_of_heap (o := 1) h rfl
  have c2 := cell_of_heap (o := 2) h rfl
  have c3 := cell_of_heap (o := 3) h rfl
  obtain ⟨r, hr⟩ : ∃ r, or4 a b c d = r := ⟨_, rfl⟩
  rw [hr]
  have HR := Lib.hid hr
  clear hr h
  have fin : ∀ x : Int, or4 a b c d = x → Ending.returned (.int .i64 x) = .returned (.int .i64 r) := fun x hx => by rw [← hx, HR.out]
  have FIN := Lib.hid fin
  clear fin HR
  go_enter Try.func50, Try.ntmps50
  go_wp2
  refine wp_loop_rounds 5 ?_
  rw [rounds_succ]
  go_wp2
  · go_ret
    exact ⟨FIN.out a (by unfold or4; rw [if_pos (by simp_all)]), rfl⟩
  · rw [rounds_succ]
    go_wp2
    · go_ret
      exact ⟨FIN.out b (by unfold or4; rw [if_neg (by simp_all), if_pos (by simp_all)]), rfl⟩
    · rw [rounds_succ]
      go_wp2
      · go_ret
        exact ⟨FIN.out c (by unfold or4; rw [if_neg (by simp_all), if_neg (by simp_all), if_pos (by simp_all)]), rfl⟩
      · rw [rounds_succ]
        go_wp2
        · go_ret
          exact ⟨FIN.out d (by unfold or4; rw [if_neg (by simp_all), if_neg (by simp_all), if_neg (by simp_all)]), rfl⟩
        · rw [rounds_succ]
          go_wp2
          go_ret
          exact ⟨FIN.out 0 (by unfold or4; rw [if_neg (by simp_all), if_neg (by simp_all), if_neg (by simp_all)]; simp_all), rfl⟩

end Go.Proofs.Ytkidcchafdiofaa
