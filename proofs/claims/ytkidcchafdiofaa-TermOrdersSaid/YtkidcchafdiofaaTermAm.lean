/- The document's Place, order and Cons: contracts. Conditions: memory holds the row of numbers. -/
import Derived.Test.YtkidcchafdiofaaTermAj
namespace Go.Proofs.Ytkidcchafdiofaa
open Go Go.RowKit
attribute [local go_sem ↓] Go.wp_at_zero Go.wp_at_succ

/-- where a number is -/
def placeI (vs : List Int) (n : Int) : Int := if n ∈ vs then (vs.idxOf n : Int) else -1
theorem idx_first : ∀ (vs : List Int) (n : Int) (i : Nat), vs[i]? = some n → vs.idxOf n ≤ i
  | [], _, _, h => by simp at h
  | a :: r, n, 0, h => by simp at h; subst h; simp
  | a :: r, n, i + 1, h => by
    have h1 := idx_first r n i (by simpa using h)
    rw [List.idxOf_cons]
    cases (a == n) <;> simp <;> omega
theorem place_at {vs : List Int} {n : Int} {i : Nat} (h : vs[i]? = some n) (h0 : ∀ j, j < i → vs[j]? ≠ some n) : placeI vs n = i := by
  have hm := List.mem_of_getElem? h
  obtain ⟨hl, he⟩ := List.getElem?_eq_some_iff.1 h
  unfold placeI
  rw [if_pos hm]
  have h1 : vs.idxOf n < vs.length := List.idxOf_lt_length_of_mem hm
  have h2 : vs[vs.idxOf n]? = some n := by rw [List.getElem?_eq_getElem h1, List.getElem_idxOf h1]
  rcases Nat.lt_trichotomy (vs.idxOf n) i with h3 | h3 | h3
  · exact absurd h2 (h0 _ h3)
  · rw [h3]
  · have := idx_first vs n i h
    omega
theorem place_no {vs : List Int} {n : Int} (h0 : ∀ j, j < vs.length → vs[j]? ≠ some n) : placeI vs n = -1 := by
  unfold placeI
  rw [if_neg]
  intro hm
  obtain ⟨i, hi, he⟩ := List.getElem_of_mem hm
  exact h0 i hi (by rw [List.getElem?_eq_getElem hi, he])

set_option maxRecDepth 100000 in
set_option maxHeartbeats 1600000 in
theorem place_is (vs : List Int) (n : Int) (ad : Option Addr) (cap g : Nat) (w : World) (h1 : vs.length ≤ cap) (h2 : cap ≤ 9223372036854775807) (h3 : 0 < vs.length → ad = some ⟨g, 0, none⟩) (h4 : ∀ i n, vs[i]? = some n → w.cell? ⟨g, i, none⟩ = some (.int .i64 n)) :
    Calls Try.prog 39 #[.slice ad vs.length cap, .int .i64 n] w fun e w' => e = .returned (.int .i64 (placeI vs n)) ∧ w = w' := by
  have H3 := Lib.hid h3
  have H4 := Lib.hid h4
  obtain ⟨m, hm⟩ : ∃ m, vs.length = m := ⟨_, rfl⟩
  have HM := Lib.hid hm
  rw [hm] at H3 h1 ⊢
  clear h3 h4 hm
  obtain ⟨z, hz⟩ : ∃ z, placeI vs n = z := ⟨_, rfl⟩
  have HZ := Lib.hid hz
  rw [hz]
  clear hz
  go_enter Try.func39, Try.ntmps39
  go_wp2
  go_loop [9] (fun c => ∃ i : Nat, c = .int .i64 i ∧ i ≤ m ∧ Hid (∀ j, j < i → vs[j]? ≠ some n)) (fun c => m - (intOf c).toNat)
  case atStart => exact ⟨0, rfl, Nat.zero_le _, fun j hj => by omega⟩
  case round =>
    obtain ⟨i, rfl, hi, HN⟩ := hrel
    by_cases hlt : i < m
    · obtain rfl : ad = some ⟨g, 0, none⟩ := H3.out (by omega)
      obtain ⟨v, hv⟩ : ∃ v, vs[i]? = some v := ⟨vs[i]'(by rw [HM.out]; exact hlt), List.getElem?_eq_getElem _⟩
      have e0 := H4.out i v hv
      have HV := Lib.hid hv
      clear hv
      have i1 : (0 : Int) ≤ (i : Int) := by omega
      have i2 : (i : Int) < (m : Int) := by omega
      by_cases hvn : v = n
      · subst hvn
        have HE : Hid (z = i) := by show z = i; rw [← HZ.out, place_at HV.out HN.out]
        go_wp2
        go_ret
        exact ⟨by rw [HE.out]; rfl, rfl⟩
      · have hb : (v == n) = false := beq_eq_false_iff_ne.2 hvn
        have HN2 : Hid (∀ j, j < i + 1 → vs[j]? ≠ some n) := fun j hj he => by
          rcases Nat.lt_or_ge j i with h | h
          · exact HN.out j h he
          · obtain rfl : j = i := by omega
            rw [HV.out] at he
            exact hvn (Option.some.inj he)
        clear hvn
        go_wp2
        go_round
        case rel => exact ⟨i + 1, by go_num, by omega, HN2.out⟩
        case measure => simp [intOf]; omega
    · have hie : i = m := by omega
      have HE : Hid (z = -1) := by show z = -1; rw [← HZ.out, place_no (fun j hj => HN.out j (by have := HM.out; omega))]
      go_wp2
      go_ret
      exact ⟨by rw [HE.out]; rfl, rfl⟩

theorem order_is (a b : ByteArray) (w : World) : Calls Try.prog 42 #[.string a, .string b] w fun e w' => e = .returned (.int .i64 (cmpB a.toList b.toList)) ∧ w = w' := by
  have h1 := cmpB_is a.toList b.toList
  obtain ⟨z, hz⟩ : ∃ z, cmpB a.toList b.toList = z := ⟨_, rfl⟩
  rw [hz] at h1 ⊢
  obtain ⟨l1, g1⟩ : ∃ l, Op.bytesLess a.toList b.toList = l := ⟨_, rfl⟩
  obtain ⟨q, g3⟩ : ∃ l, (a.toList == b.toList) = l := ⟨_, rfl⟩
  rw [g1, g3] at h1
  have HZ := Lib.hid h1
  clear h1 hz
  cases l1
  · cases q
    · obtain rfl : 1 = z := HZ.out
      clear HZ
      go_enter Try.func42, Try.ntmps42
      go_wp2
      go_ret
      exact ⟨rfl, rfl⟩
    · obtain rfl : 0 = z := HZ.out
      clear HZ
      go_enter Try.func42, Try.ntmps42
      go_wp2
      go_ret
      exact ⟨rfl, rfl⟩
  · obtain rfl : -1 = z := HZ.out
    clear HZ
    go_enter Try.func42, Try.ntmps42
    go_wp2
    go_ret
    exact ⟨rfl, rfl⟩

end Go.Proofs.Ytkidcchafdiofaa
