/- Sorts of bytes: what package name and the document's answer come to. Conditions: the byte is one. -/
import Derived.Test.YtkbeaddbnnboaaaDoorRows
import Derived.WalkKit
import Derived.WalkSpells
import Derived.WalkLawsBesides
import Derived.Lib.Hide
import Derived.Lib.Strings
namespace Go.Proofs.YtkbeaddbnnboaaaDoor
open Go Go.RowKit

/-- a byte's sort -/
def sortZ (c : Int) : Int :=
  if c = 9 then 1 else if c = 10 then 1 else if c = 11 then 1 else if c = 12 then 1 else if c = 13 then 1 else if c = 32 then 1 else if c = 95 then 3
  else if c = 43 then 5 else if c = 45 then 5 else if c = 42 then 5 else if c = 47 then 5 else if c = 92 then 5 else if c = 94 then 5 else if c = 60 then 5 else if c = 62 then 5
  else if c = 61 then 5 else if c = 126 then 5 else if c = 58 then 5 else if c = 46 then 5 else if c = 63 then 5 else if c = 64 then 5 else if c = 35 then 5 else if c = 38 then 5 else if c = 36 then 5
  else if c = 33 then 6 else if c = 59 then 6
  else if c = 40 then 7 else if c = 41 then 7 else if c = 91 then 7 else if c = 93 then 7 else if c = 123 then 7 else if c = 125 then 7 else if c = 44 then 7 else if c = 124 then 7 else if c = 37 then 7
  else if c = 39 then 8 else if c = 34 then 8 else if c = 96 then 8
  else if 97 ≤ c ∧ c ≤ 122 then 2 else if 65 ≤ c ∧ c ≤ 90 then 3 else if 48 ≤ c ∧ c ≤ 57 then 4 else 0

theorem ret_int {k : IntKind} {a b : Int} (h : a = b) : Ending.returned (.int k a) = .returned (.int k b) := by rw [h]

set_option maxHeartbeats 4000000 in
theorem sort_is (c : Int) (w : World) (h0 : 0 ≤ c) (h1 : c ≤ 255) :
    Calls Tryd.prog 26 #[.int .u8 c] w fun e w' => e = .returned (.int .i64 (sortZ c)) ∧ w' = w := by
  go_enter Tryd.func26, Tryd.ntmps26
  go_wp2
  all_goals
    go_ret
    refine ⟨ret_int ?_, rfl⟩
    unfold sortZ
    simp only [beq_iff_eq, beq_eq_false_iff_ne, ne_eq] at *
    first | (subst_vars; rfl) | (simp only [*, if_false]; done) | ((repeat' split) <;> first | rfl | omega)

/-- is a byte in a text? -/
def inB (c : Int) (l : List UInt8) : Bool := l.any fun b => (b.toNat : Int) == c
theorem take_snoc (s : ByteArray) (k : Nat) (h : k < s.size) : s.data.toList.take (k + 1) = s.data.toList.take k ++ [s[k]] := by
  rw [List.take_succ_eq_append_getElem (by simpa using h)]; rfl
theorem inB_snoc (c : Int) (l : List UInt8) (b : UInt8) : inB c (l ++ [b]) = (inB c l || ((b.toNat : Int) == c)) := by
  unfold inB; simp
theorem byte_mem (s : ByteArray) (k : Nat) (h : k < s.size) : s[k] ∈ s.data.toList := List.getElem_mem (l := s.data.toList) (n := k) (by simpa using h)

set_option maxHeartbeats 400000 in
theorem in_is (c : Int) (s : ByteArray) (w : World) (hs : s.size ≤ 4000) :
    Calls Tryd.prog 60 #[.int .u8 c, .string s] w fun e w' => e = .returned (.bool (inB c s.data.toList)) ∧ w' = w := by
  obtain ⟨r, hr⟩ : ∃ r, inB c s.data.toList = r := ⟨_, rfl⟩
  rw [hr]
  have HR := Lib.hid hr
  clear hr
  go_enter Tryd.func60, Tryd.ntmps60
  go_wp2
  go_loop [5] (fun i => ∃ k : Nat, k ≤ s.size ∧ i = .int .i64 k ∧ Hid (inB c (s.data.toList.take k) = false)) (fun i => s.size - (intOf i).toNat)
  case atStart => exact ⟨0, Nat.zero_le _, rfl, rfl⟩
  case round =>
    obtain ⟨k, hk, rfl, hno⟩ := hrel
    by_cases hlt : k < s.size
    · have hst := inB_snoc c (s.data.toList.take k) s[k]
      rw [← take_snoc s k hlt, hno.out, Bool.false_or] at hst
      have HS := Lib.hid hst
      clear hst
      cases hb : (s[k].toNat : Int) == c
      · rw [hb] at HS
        go_wp2
        go_round
        case rel => exact ⟨k + 1, by omega, by go_num, HS⟩
        case measure => simp [intOf]; omega
      · have hp : Hid (r = true) := by
          show r = true
          rw [← HR.out]
          unfold inB
          exact List.any_eq_true.2 ⟨s[k], byte_mem s k hlt, hb⟩
        go_wp2
        go_ret
        cases hp.out
        exact ⟨rfl, rfl⟩
    · have hfull : s.data.toList.take k = s.data.toList := List.take_of_length_le (by simp; omega)
      have hp : Hid (r = false) := by
        show r = false
        rw [← HR.out, ← hfull]
        exact hno.out
      clear hfull hno
      go_wp2
      go_ret
      cases hp.out
      exact ⟨rfl, rfl⟩

/-- a byte's sort, as the document's answer asks for it -/
def sortR (c : Int) : Int :=
  if (9 ≤ c ∧ c ≤ 13) ∨ c = 32 then 1 else if 97 ≤ c ∧ c ≤ 122 then 2 else if (65 ≤ c ∧ c ≤ 90) ∨ c = 95 then 3 else if 48 ≤ c ∧ c ≤ 57 then 4
  else if inB c [43, 45, 42, 47, 92, 94, 60, 62, 61, 126, 58, 46, 63, 64, 35, 38, 36] = true then 5 else if inB c [33, 59] = true then 6
  else if inB c [40, 41, 91, 93, 123, 125, 44, 124, 37] = true then 7 else if inB c [39, 34, 96] = true then 8 else 0

theorem sortR_eq (c : Int) (h0 : 0 ≤ c) (h1 : c ≤ 255) : sortR c = sortZ c := by
  have h : ∀ k : Fin 256, sortR (k.val : Int) = sortZ (k.val : Int) := by decide +kernel
  have := h ⟨c.toNat, by omega⟩
  simpa [Int.toNat_of_nonneg h0] using this

theorem ref_in (c : Int) (l : Array UInt8) (b : Bool) (h : inB c l.toList = b) (hs : l.size ≤ 4000) (w : World) :
    Calls Tryd.prog 60 #[.int .u8 c, .string ⟨l⟩] w fun e w' => e = .returned (.bool b) ∧ w' = w := by
  have := in_is c ⟨l⟩ w hs
  rw [show inB c (ByteArray.mk l).data.toList = b from h] at this
  exact this

end Go.Proofs.YtkbeaddbnnboaaaDoor
