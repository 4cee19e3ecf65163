/- The closure of TokenBases writes a number's digits in a base. Conditions: the box it holds has the number. -/
import Derived.Test.YtkbeaddbnnboaaaDoorTokV
import Derived.Deep.QuietTactic
namespace Go.Proofs.YtkbeaddbnnboaaaDoor
open Go Go.RowKit Go.Maps

set_option maxRecDepth 100000 in
set_option maxHeartbeats 1600000 in
theorem basis_is (b n : Nat) (g : Nat) (w : World) (hb : 2 ≤ b ∧ b ≤ 16) (hn : n < 4294967296) (hc : w.cell? ⟨g, 0, none⟩ = some (.int .u32 n)) :
    Calls Tryd.prog 14 #[.int .u32 b, .pointer (some ⟨g, 0, none⟩)] w fun e w' => e = .returned (.string ⟨(digL b 33 n).toArray⟩) ∧ Below w.heap.size w w' := by
  obtain ⟨hb1, hb2⟩ := hb
  have hb0 : (b : Int) ≠ 0 := by omega
  go_enter Tryd.func14, Tryd.ntmps14
  go_wp2_with fail
  go_loopw [4, 5] (fun v i wr => ∃ (k : Nat) (A : ByteArray), v = .string A ∧ i = .int .u32 k ∧ k < 4294967296 ∧ Hid (BasSt b n k A) ∧ Hid (Below w.heap.size w wr)) (fun _ i _ => (intOf i).toNat)
  case atStart => exact ⟨n, ⟨#[]⟩, rfl, rfl, hn, BasSt.start hb1 hn, Below.refl _ _⟩
  case round =>
    obtain ⟨k, A, rfl, rfl, hk, HD, HB⟩ := hrel
    have hA := HD.out.small
    obtain ⟨d, hd⟩ : ∃ d : Nat, k % b = d := ⟨_, rfl⟩
    have hdl : d < b := by rw [← hd]; exact Nat.mod_lt _ (by omega)
    have hdz : (k : Int) % (b : Int) = (d : Int) := by rw [← hd]; rfl
    have hE := digit_at ⟨d, by omega⟩
    simp only at hE
    obtain ⟨E, hEE⟩ : ∃ E : ByteArray, ⟨#[dch d]⟩ = E := ⟨_, rfl⟩
    rw [hEE] at hE
    have hEs : E.size ≤ 1 := by rw [← hEE]; exact Nat.le_refl _
    have HE := Lib.hid hEE
    have HDD := Lib.hid hd
    clear hEE hd
    by_cases hlt : k < b
    · have hlt' : (k : Int) < (b : Int) := by omega
      have HX := HD.out.last hlt
      rw [HDD.out, HE.out] at HX
      replace HX := Lib.hid HX
      go_wp2_with fail
      go_quiet (fail)
      have HB2 : Hid (Below w.heap.size w (wr.drewN nq)) := HB.out.trans ⟨rfl, rfl, rfl, Nat.le_refl _, fun _ _ => rfl⟩
      go_wp2_with fail
      go_ret
      exact ⟨congrArg (fun x => Ending.returned (Value.string x)) HX.out, HB2.out⟩
    · have hlt' : ¬ (k : Int) < (b : Int) := by omega
      have HX := HD.out.next hb1 hlt
      rw [HDD.out, HE.out] at HX
      replace HX := Lib.hid HX
      have hq : (k : Int) / (b : Int) = ((k / b : Nat) : Int) := rfl
      have hql : k / b < k := Nat.div_lt_self (by omega) (by omega)
      obtain ⟨q, hqq⟩ : ∃ q : Nat, k / b = q := ⟨_, rfl⟩
      rw [hqq] at hq hql HX
      clear hqq
      go_wp2_with fail
      go_quiet (fail)
      have HB2 : Hid (Below w.heap.size w (wr.drewN nq)) := HB.out.trans ⟨rfl, rfl, rfl, Nat.le_refl _, fun _ _ => rfl⟩
      go_wp2_with fail
      go_round
      case rel => exact ⟨q, _, rfl, rfl, by omega, HX, HB2⟩
      case measure => simp [intOf]; omega

end Go.Proofs.YtkbeaddbnnboaaaDoor
