/- The document's answers for layer 2: Plain, digits, numbers. Conditions: the text has at most 4000 bytes. -/
import Derived.Test.YtkbeaddbnnboaaaDoorNameB
import Derived.Test.YtkbeaddbnnboaaaDoorNameL
import Derived.Test.YtkbeaddbnnboaaaDoorNamePlainM
import Derived.Test.YtkbeaddbnnboaaaDoorNameQ
namespace Go.Proofs.YtkbeaddbnnboaaaDoor
open Go Go.RowKit

/-- what a byte counts in a base of at most 16; -1: nothing -/
def digV (base c : Int) : Int := if hexZ c < base then hexZ c else -1
theorem digV_bd (base c : Int) : -1 ≤ digV base c ∧ digV base c ≤ 99 := by
  unfold digV hexZ
  (repeat' split) <;> omega

set_option maxHeartbeats 1600000 in
theorem ref_digit (c base : Int) (hb : base = 8 ∨ base = 16) (w : World) (h0 : 0 ≤ c) (h1 : c ≤ 255) :
    Calls Tryd.prog 63 #[.int .u8 c, .int .i64 base] w fun e w' => e = .returned (.int .i64 (digV base c)) ∧ w' = w := by
  obtain ⟨r, hr⟩ : ∃ r, digV base c = r := ⟨_, rfl⟩
  rw [hr]
  unfold digV at hr
  by_cases q1 : 48 ≤ c ∧ c ≤ 57
  · rw [show hexZ c = c - 48 by unfold hexZ; rw [if_pos q1]] at hr
    obtain ⟨q1, q2⟩ := q1
    by_cases q3 : base ≤ c - 48
    · rw [if_neg (by omega)] at hr
      subst hr
      rcases hb with rfl | rfl
      all_goals
        go_enter Tryd.func63, Tryd.ntmps63
        go_wp2_with fail
        all_goals (go_ret; exact ⟨rfl, rfl⟩)
    · rw [if_pos (by omega)] at hr
      subst hr
      have q4 : c - 48 < base := by omega
      clear q3
      rcases hb with rfl | rfl
      all_goals
        go_enter Tryd.func63, Tryd.ntmps63
        go_wp2_with fail
        all_goals (go_ret; exact ⟨rfl, rfl⟩)
  by_cases q2 : 97 ≤ c ∧ c ≤ 102
  · rw [show hexZ c = c - 97 + 10 by unfold hexZ; rw [if_neg q1, if_pos (by omega)]] at hr
    obtain ⟨q2, q3⟩ := q2
    rcases hb with rfl | rfl
    · rw [if_neg (by omega)] at hr
      subst hr
      clear q1
      go_enter Tryd.func63, Tryd.ntmps63
      go_wp2_with fail
      go_ret
      exact ⟨rfl, rfl⟩
    · rw [if_pos (by omega)] at hr
      subst hr
      clear q1
      go_enter Tryd.func63, Tryd.ntmps63
      go_wp2_with fail
      go_ret
      exact ⟨rfl, rfl⟩
  by_cases q3 : 65 ≤ c ∧ c ≤ 70
  · rw [show hexZ c = c - 65 + 10 by unfold hexZ; rw [if_neg q1, if_neg (by omega), if_pos (by omega)]] at hr
    obtain ⟨q3, q4⟩ := q3
    rcases hb with rfl | rfl
    · rw [if_neg (by omega)] at hr
      subst hr
      clear q1 q2
      go_enter Tryd.func63, Tryd.ntmps63
      go_wp2_with fail
      go_ret
      exact ⟨rfl, rfl⟩
    · rw [if_pos (by omega)] at hr
      subst hr
      clear q1 q2
      go_enter Tryd.func63, Tryd.ntmps63
      go_wp2_with fail
      go_ret
      exact ⟨rfl, rfl⟩
  have hno : r = -1 := by
    rw [← hr, if_neg]
    unfold hexZ
    (repeat' split) <;> omega
  subst hno
  have hc : c < 48 ∨ 57 < c ∧ c < 65 ∨ 70 < c ∧ c < 97 ∨ 102 < c := by omega
  clear q1 q2 q3 hr
  rcases hb with rfl | rfl <;> rcases hc with h | ⟨h, h'⟩ | ⟨h, h'⟩ | h
  all_goals
    go_enter Tryd.func63, Tryd.ntmps63
    go_wp2_with fail
    go_ret
    exact ⟨rfl, rfl⟩

/-- digits as the document's answer adds them up: never above 1000 -/
def satN (base : Int) (l : List UInt8) : Int := l.foldl (fun n c => min (n * base + hexZ (c.toNat : Int)) 1000) 0
theorem hexZ_bd (c : Int) : 0 ≤ hexZ c ∧ hexZ c ≤ 99 := by
  unfold hexZ
  (repeat' split) <;> omega
theorem sat_snoc (base : Int) (l : List UInt8) (c : UInt8) : satN base (l ++ [c]) = min (satN base l * base + hexZ (c.toNat : Int)) 1000 := by
  unfold satN
  rw [List.foldl_append]
  rfl
theorem sat_from (base : Int) (hb : 0 ≤ base) : ∀ (l : List UInt8) (a : Int), 0 ≤ a → a ≤ 1000 → 0 ≤ l.foldl (fun n c => min (n * base + hexZ (c.toNat : Int)) 1000) a ∧ l.foldl (fun n c => min (n * base + hexZ (c.toNat : Int)) 1000) a ≤ 1000
  | [], a, h0, h1 => ⟨h0, h1⟩
  | c :: t, a, h0, h1 => by
    have h2 := Int.mul_nonneg h0 hb
    have h3 := (hexZ_bd (c.toNat : Int)).1
    exact sat_from base hb t _ (by show 0 ≤ min _ _; omega) (by show min _ _ ≤ (1000 : Int); omega)
theorem sat_bd (base : Int) (hb : 0 ≤ base) (l : List UInt8) : 0 ≤ satN base l ∧ satN base l ≤ 1000 := sat_from base hb l 0 (by omega) (by omega)
theorem sat_big (base : Int) (hb : 2 ≤ base) : ∀ (l : List UInt8) (a : Int), 255 < a → 255 < l.foldl (fun n c => min (n * base + hexZ (c.toNat : Int)) 1000) a
  | [], a, h => h
  | c :: t, a, h => by
    have h2 : 256 * base ≤ a * base := Int.mul_le_mul_of_nonneg_right (by omega) (by omega)
    have h3 := (hexZ_bd (c.toNat : Int)).1
    exact sat_big base hb t _ (by show 255 < min _ _; omega)
def digL (base : Int) (l : List UInt8) : Bool := l.all fun c => decide (hexZ (c.toNat : Int) < base)
/-- digits, as they are added up by either -/
theorem numF_from (base : Int) (hb : 2 ≤ base) : ∀ (l : List UInt8) (a : Int), 0 ≤ a → a ≤ 255 → digL base l = true →
    numF base a l = if l.foldl (fun n c => min (n * base + hexZ (c.toNat : Int)) 1000) a ≤ 255 then some (l.foldl (fun n c => min (n * base + hexZ (c.toNat : Int)) 1000) a) else none
  | [], a, _, h1, _ => by
    unfold numF
    rw [List.foldl_nil, if_pos h1]
  | c :: t, a, h0, h1, h => by
    unfold digL at h
    rw [List.all_cons, Bool.and_eq_true] at h
    have hc : hexZ (c.toNat : Int) < base := by simpa using h.1
    have h2 := Int.mul_nonneg h0 (show 0 ≤ base by omega)
    have h3 := (hexZ_bd (c.toNat : Int)).1
    unfold numF
    rw [List.foldl_cons]
    by_cases h4 : a * base + hexZ (c.toNat : Int) ≤ 255
    · rw [if_pos ⟨hc, h4⟩, show min (a * base + hexZ (c.toNat : Int)) 1000 = a * base + hexZ (c.toNat : Int) by omega]
      exact numF_from base hb t _ (by omega) h4 h.2
    · have h5 := sat_big base hb t (min (a * base + hexZ (c.toNat : Int)) 1000) (by omega)
      rw [if_neg (fun hh => h4 hh.2), if_neg (by omega)]
theorem numF_sat (base : Int) (hb : 2 ≤ base) (l : List UInt8) (h : digL base l = true) : numF base 0 l = if satN base l ≤ 255 then some (satN base l) else none :=
  numF_from base hb l 0 (by omega) (by omega) h
theorem numF_bad (base : Int) : ∀ (l : List UInt8) (a : Int), digL base l = false → numF base a l = none
  | [], _, h => by cases h
  | c :: t, a, h => by
    unfold numF
    split
    · rename_i hc
      refine numF_bad base t _ ?_
      unfold digL at h ⊢
      rw [List.all_cons, decide_eq_true hc.1, Bool.true_and] at h
      exact h
    · rfl
theorem numR_eq (base : Int) (hb : 2 ≤ base) (l : List UInt8) : numR base l = if l = [] ∨ digL base l = false ∨ 255 < satN base l then none else some (satN base l) := by
  unfold numR
  by_cases h0 : l = []
  · rw [if_pos h0, if_pos (.inl h0)]
  rw [if_neg h0]
  cases hd : digL base l
  · rw [numF_bad base l 0 hd, if_pos (.inr (.inl rfl))]
  · rw [numF_sat base hb l hd]
    by_cases h1 : satN base l ≤ 255
    · rw [if_pos h1, if_neg]
      rintro (h | h | h)
      · exact h0 h
      · cases h
      · omega
    · rw [if_neg h1, if_pos (.inr (.inr (by omega)))]

/-- where the digits end decides -/
theorem numAt_end {base : Int} (hb : 2 ≤ base) (hb2 : base ≤ 16) (t : List UInt8) (k : Nat) (hk : k ≤ t.length) (hd : digL base (t.take k) = true) (he : k = t.length ∨ ∃ c, t[k]? = some c ∧ base ≤ hexZ (c.toNat : Int)) :
    numAt base t = if k = 0 ∨ t[k]? ≠ some 92 ∨ 255 < satN base (t.take k) then none else some (UInt8.ofNat (satN base (t.take k)).toNat, k + 1) := by
  have hno : ∀ j, j < k → t[j]? ≠ some 92 := by
    intro j hj hh
    have hm : (92 : UInt8) ∈ t.take k := by
      have : (t.take k)[j]? = some 92 := by rw [List.getElem?_take, if_pos hj]; exact hh
      exact List.mem_of_getElem? this
    have := List.all_eq_true.1 hd 92 hm
    simp at this
    rw [show hexZ 92 = 99 from rfl] at this
    omega
  unfold numAt
  by_cases h92 : t[k]? = some 92
  · have hix : Lib.indexByte t 92 = (k : Int) := by
      have hkl : k < t.length := (List.getElem?_eq_some_iff.1 h92).1
      have e : t = t.take k ++ 92 :: t.drop (k + 1) := by
        have h1 : t.drop k = 92 :: t.drop (k + 1) := by
          rw [List.drop_eq_getElem_cons hkl]
          congr 1
          have := (List.getElem?_eq_some_iff.1 h92).2
          exact this
        rw [← h1, List.take_append_drop]
      have hl : (t.take k).length = k := by rw [List.length_take]; omega
      have h2 := index_app (t.take k) (t.drop (k + 1)) (fun b hb => by
        rintro rfl
        obtain ⟨j, hj⟩ := List.getElem?_of_mem hb
        rw [List.getElem?_take] at hj
        split at hj
        · rename_i hjk
          exact hno j hjk hj
        · cases hj)
      rw [← e, hl] at h2
      exact h2
    rw [hix, if_neg (by omega), Int.toNat_natCast, numR_eq base hb]
    by_cases h0 : k = 0
    · subst h0
      simp
    · have hne : t.take k ≠ [] := by
        intro h
        have := congrArg List.length h
        have hkl := (List.getElem?_eq_some_iff.1 h92).1
        rw [List.length_take, List.length_nil] at this
        omega
      by_cases hs : 255 < satN base (t.take k)
      · rw [if_pos (.inr (.inr hs)), if_pos (.inr (.inr hs))]
      · rw [if_neg (by rintro (h | h | h); exact hne h; rw [hd] at h; cases h; exact hs h), if_neg (by rintro (h | h | h); exact h0 h; exact h h92; exact hs h)]
  · rw [if_pos (show k = 0 ∨ t[k]? ≠ some 92 ∨ 255 < satN base (t.take k) from .inr (.inl h92))]
    split
    · rfl
    · rename_i hneg
      obtain ⟨i, hi⟩ := Int.eq_ofNat_of_zero_le (show 0 ≤ Lib.indexByte t 92 by omega)
      rw [hi, Int.toNat_natCast]
      have h1 := (Lib.indexByte_some hi).1
      have hik : k < i := by
        rcases Nat.lt_trichotomy i k with h | h | h
        · exact absurd h1 (hno i h)
        · subst h; exact absurd h1 h92
        · exact h
      have hil : i < t.length := (List.getElem?_eq_some_iff.1 h1).1
      rcases he with he | ⟨c, hc, hc2⟩
      · omega
      · have hbad : digL base (t.take i) = false := by
          refine List.all_eq_false.2 ⟨c, ?_, by simp; omega⟩
          have : (t.take i)[k]? = some c := by rw [List.getElem?_take, if_pos hik]; exact hc
          exact List.mem_of_getElem? this
        rw [numR_eq base hb, if_pos (.inr (.inl hbad))]

end Go.Proofs.YtkbeaddbnnboaaaDoor
