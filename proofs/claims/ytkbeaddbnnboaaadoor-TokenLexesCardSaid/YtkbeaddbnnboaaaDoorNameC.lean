/- name.Plain's parts: a set of sorts asked by a method value; whether every byte of a text is of a set. Conditions: the byte is one; the text has at most 4000 bytes. -/
import Derived.Test.YtkbeaddbnnboaaaDoorNameA
import Derived.Below
namespace Go.Proofs.YtkbeaddbnnboaaaDoor
open Go Go.RowKit

theorem bt {w0 w1 w2 : World} (a : Below w0.heap.size w0 w1) (b : Below w1.heap.size w1 w2) : Below w0.heap.size w0 w2 := a.trans (b.mono a.size)
theorem sort_val (c : Int) : sortZ c = 0 ∨ sortZ c = 1 ∨ sortZ c = 2 ∨ sortZ c = 3 ∨ sortZ c = 4 ∨ sortZ c = 5 ∨ sortZ c = 6 ∨ sortZ c = 7 ∨ sortZ c = 8 := by
  obtain ⟨k, hk⟩ : ∃ k, sortZ c = k := ⟨_, rfl⟩
  rw [hk]
  unfold sortZ at hk
  (repeat' split at hk) <;> omega
theorem sort_at (c k : Int) (h : sortZ c = k) (w : World) (h0 : 0 ≤ c) (h1 : c ≤ 255) :
    Calls Tryd.prog 26 #[.int .u8 c] w fun e w' => e = .returned (.int .i64 k) ∧ w' = w := by
  subst h
  exact sort_is c w h0 h1

/-- the nine bools of a set of sorts -/
abbrev wordA : Value := .agg #[.bool false, .bool false, .bool true, .bool true, .bool true, .bool false, .bool false, .bool false, .bool false]
abbrev signA : Value := .agg #[.bool false, .bool false, .bool false, .bool false, .bool false, .bool true, .bool false, .bool false, .bool false]
def wordS (k : Int) : Bool := k == 2 || k == 3 || k == 4
def signS (k : Int) : Bool := k == 5

set_option maxHeartbeats 1000000 in
theorem have_word (c : Int) (w : World) (h0 : 0 ≤ c) (h1 : c ≤ 255) :
    Calls Tryd.prog 28 #[wordA, .int .u8 c] w fun e w' => e = .returned (.bool (wordS (sortZ c))) ∧ Below w.heap.size w w' := by
  rcases sort_val c with h | h | h | h | h | h | h | h | h
  all_goals
    have C := Lib.hid (fun w => sort_at c _ h w h0 h1)
    rw [h]
    clear h
    go_enter Tryd.func28, Tryd.ntmps28
    go_wp2_with fail
    refine (C.out _).mono ?_
    rintro e w' ⟨rfl, rfl⟩
    go_wp2_with fail
    go_ret
    exact ⟨rfl, (Below.refl _ _).alloc (Nat.le_refl _) _⟩

set_option maxHeartbeats 1000000 in
theorem have_sign (c : Int) (w : World) (h0 : 0 ≤ c) (h1 : c ≤ 255) :
    Calls Tryd.prog 28 #[signA, .int .u8 c] w fun e w' => e = .returned (.bool (signS (sortZ c))) ∧ Below w.heap.size w w' := by
  rcases sort_val c with h | h | h | h | h | h | h | h | h
  all_goals
    have C := Lib.hid (fun w => sort_at c _ h w h0 h1)
    rw [h]
    clear h
    go_enter Tryd.func28, Tryd.ntmps28
    go_wp2_with fail
    refine (C.out _).mono ?_
    rintro e w' ⟨rfl, rfl⟩
    go_wp2_with fail
    go_ret
    exact ⟨rfl, (Below.refl _ _).alloc (Nat.le_refl _) _⟩

theorem all_snoc (p : UInt8 → Bool) (l : List UInt8) (b : UInt8) : (l ++ [b]).all p = (l.all p && p b) := by simp

set_option maxHeartbeats 400000 in
theorem every_is (s : ByteArray) (A : Value) (p : Int → Bool) (hp : ∀ (c : Int) (w : World), 0 ≤ c → c ≤ 255 →
      Calls Tryd.prog 28 #[A, .int .u8 c] w fun e w' => e = .returned (.bool (p c)) ∧ Below w.heap.size w w') (w : World) (hs : s.size ≤ 4000) :
    Calls Tryd.prog 27 #[.string s, .func (.func 28) #[A] #[]] w fun e w' => e = .returned (.bool (s.data.toList.all fun b => p (b.toNat : Int))) ∧ Below w.heap.size w w' := by
  obtain ⟨r, hr⟩ : ∃ r, (s.data.toList.all fun b => p (b.toNat : Int)) = r := ⟨_, rfl⟩
  rw [hr]
  have HR := Lib.hid hr
  have HP := Lib.hid hp
  clear hr hp
  go_enter Tryd.func27, Tryd.ntmps27
  go_wp2
  go_loopw [8] (fun i wr => ∃ k : Nat, k ≤ s.size ∧ i = .int .i64 k ∧ Hid (((s.data.toList.take k).all fun b => p (b.toNat : Int)) = true) ∧ Below w.heap.size w wr) (fun i _ => s.size - (intOf i).toNat)
  case atStart => exact ⟨0, Nat.zero_le _, rfl, rfl, Below.refl _ _⟩
  case round =>
    obtain ⟨k, hk, rfl, hall, hbl⟩ := hrel
    by_cases hlt : k < s.size
    · have hst := all_snoc (fun b => p (b.toNat : Int)) (s.data.toList.take k) s[k]
      rw [← take_snoc s k hlt, hall.out, Bool.true_and] at hst
      have HS := Lib.hid hst
      clear hst
      have hc0 : (0 : Int) ≤ (s[k].toNat : Int) := by omega
      have hc1 : (s[k].toNat : Int) ≤ 255 := by have := s[k].toNat_lt; omega
      have C := Lib.hid (fun w => HP.out (s[k].toNat : Int) w hc0 hc1)
      cases hb : p (s[k].toNat : Int)
      · rw [hb] at C
        have hp : Hid (r = false) := by
          show r = false
          rw [← HR.out]
          exact List.all_eq_false.2 ⟨s[k], byte_mem s k hlt, by simp [hb]⟩
        clear hb
        go_wp2_with (go_at_call 28; refine (C.out _).mono ?_; rintro e w1 ⟨rfl, hb1⟩)
        go_ret
        cases hp.out
        exact ⟨rfl, bt hbl hb1⟩
      · rw [hb] at C HS
        clear hb
        go_wp2_with (go_at_call 28; refine (C.out _).mono ?_; rintro e w1 ⟨rfl, hb1⟩)
        go_roundw
        case rel => exact ⟨k + 1, by omega, by go_num, HS, bt hbl hb1⟩
        case measure => simp [intOf]; omega
    · have hfull : s.data.toList.take k = s.data.toList := List.take_of_length_le (by simp; omega)
      have hp : Hid (r = true) := by
        show r = true
        rw [← HR.out, ← hfull]
        exact hall.out
      clear hfull hall
      go_wp2
      go_ret
      cases hp.out
      exact ⟨rfl, hbl⟩

end Go.Proofs.YtkbeaddbnnboaaaDoor
