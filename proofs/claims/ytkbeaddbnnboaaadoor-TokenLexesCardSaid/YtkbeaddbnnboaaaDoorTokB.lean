/- Package token's small functions: contracts. Conditions: the place stands in memory; its text has at most 5000 bytes. -/
import Derived.Test.YtkbeaddbnnboaaaDoorTokA
import Derived.Test.YtkbeaddbnnboaaaDoorNameO
namespace Go.Proofs.YtkbeaddbnnboaaaDoor
open Go Go.RowKit Go.Maps

/-- a place in a text: what is left of it, and the line -/
def PL (w : World) (p : Nat) (s : ByteArray) (n : Int) : Prop := w.heap[p]? = some (.cells #[.string s, .int .i64 n] 42 (0, 0))
theorem PL.on {w w' : World} {p : Nat} {s : ByteArray} {n : Int} (h : PL w p s n) (hb : Below w.heap.size w w') : PL w' p s n := (hb.block p (heap_lt h)).trans h
theorem PL.cells {w : World} {p : Nat} {s : ByteArray} {n : Int} (h : PL w p s n) : w.cell? ⟨p, 0, none⟩ = some (.string s) ∧ w.cell? ⟨p, 1, none⟩ = some (.int .i64 n) ∧ w.frozen? ⟨p, 0, none⟩ = false ∧ w.frozen? ⟨p, 1, none⟩ = false :=
  ⟨by rw [cell_of_row w p 0 _ _ _ h]; rfl, by rw [cell_of_row w p 1 _ _ _ h]; rfl, frozen_of_row w p 0 _ _ h, frozen_of_row w p 1 _ _ h⟩

set_option maxHeartbeats 400000 in
theorem letter_is (c : Int) (w : World) (h0 : 0 ≤ c) (h1 : c ≤ 255) :
    Calls Tryd.prog 69 #[.int .u8 c] w fun e w' => e = .returned (.bool (letterZ c)) ∧ w' = w := by
  have S := Lib.hid (fun w => sort_is c w h0 h1)
  unfold letterZ wordS
  rcases sort_val c with h | h | h | h | h | h | h | h | h
  all_goals
    rw [h] at S ⊢
    go_enter Tryd.func69, Tryd.ntmps69
    go_wp2_with (go_at_call 26; refine (S.out _).mono ?_; rintro e w' ⟨rfl, rfl⟩)
    go_ret
    exact ⟨rfl, rfl⟩
set_option maxHeartbeats 400000 in
theorem sign_is (c : Int) (w : World) (h0 : 0 ≤ c) (h1 : c ≤ 255) :
    Calls Tryd.prog 51 #[.int .u8 c] w fun e w' => e = .returned (.bool (signZ c)) ∧ w' = w := by
  have S := Lib.hid (fun w => sort_is c w h0 h1)
  unfold signZ signS
  rcases sort_val c with h | h | h | h | h | h | h | h | h
  all_goals
    rw [h] at S ⊢
    go_enter Tryd.func51, Tryd.ntmps51
    go_wp2_with (go_at_call 26; refine (S.out _).mono ?_; rintro e w' ⟨rfl, rfl⟩)
    go_ret
    exact ⟨rfl, rfl⟩

theorem drop_at (s : ByteArray) (k : Nat) (h : k < s.size) : s.data.toList.drop k = s[k] :: s.data.toList.drop (k + 1) := by
  rw [List.drop_eq_getElem_cons (by simpa using h)]
  rfl
theorem get_byte {s : ByteArray} {k : Nat} {c : UInt8} (h : s.data.toList[k]? = some c) : ∃ h : k < s.size, s[k] = c := by
  obtain ⟨h1, h2⟩ := List.getElem?_eq_some_iff.1 h
  exact ⟨by simpa using h1, h2⟩

set_option maxHeartbeats 800000 in
theorem run_is (K : Nat) (hK : K = 69 ∨ K = 51) (P : Int → Bool) (hP : ∀ (c : Int) (w : World), 0 ≤ c → c ≤ 255 → Calls Tryd.prog K #[.int .u8 c] w fun e w' => e = .returned (.bool (P c)) ∧ w' = w)
    (p : Nat) (s : ByteArray) (n : Int) (w : World) (h : PL w p s n) (hs : s.size ≤ 5000) :
    Calls Tryd.prog 50 #[.pointer (some ⟨p, 0, none⟩), .func (.func K) #[] #[]] w fun e w' => e = .returned (.int .i64 (runB P s.data.toList)) ∧ w' = w := by
  obtain ⟨c0, _, _, _⟩ := h.cells
  have HP := Lib.hid hP
  obtain ⟨r, hr⟩ : ∃ r, runB P s.data.toList = r := ⟨_, rfl⟩
  rw [hr]
  have HR := Lib.hid hr
  have hrl : r ≤ s.size := by rw [← hr]; exact Nat.le_trans (runB_le _ _) (by simp)
  clear hP hr h
  rcases hK with rfl | rfl
  all_goals
    go_enter Tryd.func50, Tryd.ntmps50
    go_wp2
    go_loop [5] (fun v => ∃ k : Nat, v = .int .i64 k ∧ k ≤ r ∧ Hid (r = k + runB P (s.data.toList.drop k))) (fun v => r - (intOf v).toNat)
    case atStart => exact ⟨0, rfl, Nat.zero_le _, by show r = _; rw [← HR.out]; simp⟩
    case round =>
      obtain ⟨k, rfl, hk, HK2⟩ := hrel
      by_cases hlt : k < s.size
      · obtain ⟨y, hy⟩ : ∃ y, s[k] = y := ⟨_, rfl⟩
        have hd := drop_at s k hlt
        rw [hy] at hd
        have C := Lib.hid (fun w => HP.out (y.toNat : Int) w (by omega) (by have := y.toNat_lt; omega))
        cases hb : P (y.toNat : Int)
        · have hre : r = k := by
            have := HK2.out
            rw [hd, runB_no hb] at this
            omega
          subst hre
          rw [hb] at C
          clear hd hb HK2
          go_wp2_with (first | (go_at_call 69; refine (C.out _).mono ?_; rintro e w' ⟨rfl, rfl⟩) | (go_at_call 51; refine (C.out _).mono ?_; rintro e w' ⟨rfl, rfl⟩))
          go_ret
          exact ⟨rfl, rfl⟩
        · have hre : r = k + 1 + runB P (s.data.toList.drop (k + 1)) := by
            have := HK2.out
            rw [hd, runB_yes hb] at this
            omega
          have HRE := Lib.hid hre
          have hk1 : k + 1 ≤ r := by omega
          rw [hb] at C
          clear hd hb HK2 hre
          go_wp2_with (first | (go_at_call 69; refine (C.out _).mono ?_; rintro e w' ⟨rfl, rfl⟩) | (go_at_call 51; refine (C.out _).mono ?_; rintro e w' ⟨rfl, rfl⟩))
          go_round
          case rel => exact ⟨k + 1, by go_num, hk1, HRE.out⟩
          case measure => simp [intOf]; omega
      · have hre : r = k := by
          have := HK2.out
          rw [List.drop_of_length_le (by simp; omega), runB_nil] at this
          omega
        subst hre
        clear HK2
        go_wp2
        go_ret
        exact ⟨rfl, rfl⟩

end Go.Proofs.YtkbeaddbnnboaaaDoor
