/- How deep the way stands, and that no part stands within itself. Conditions: the last step's part lies elsewhere than those of the steps ahead of it. -/
import Derived.Test.YtkidcchafdiofaaTermB
import Derived.Test.YtkidcchafdiofaaShelf
import Derived.LaidEqlPtr
namespace Go.Proofs.Ytkidcchafdiofaa
open Go Go.RowKit

theorem bitLen_pow : ∀ x : Nat, 1 ≤ x → x < 2 ^ 64 → 1 ≤ Lib.bitLen x ∧ 2 ^ (Lib.bitLen x - 1) ≤ x := by
  intro x
  induction x using Nat.strongRecOn with
  | _ x ih =>
    intro h1 h2
    have hh := Lib.bitLen_half x (by omega) h2
    by_cases hx : x / 2 = 0
    · rw [hx] at hh
      have : Lib.bitLen 0 = 0 := by decide
      rw [hh, this]
      exact ⟨by omega, h1⟩
    · obtain ⟨i1, i2⟩ := ih (x / 2) (by omega) (by omega) (by omega)
      rw [hh]
      refine ⟨by omega, ?_⟩
      rw [show 1 + Lib.bitLen (x / 2) - 1 = (Lib.bitLen (x / 2) - 1) + 1 from by omega, Nat.pow_succ]
      omega

def Quiet (w : World) (v : Value) (e : Ending) (w' : World) : Prop := e = .returned v ∧ ∃ n, w' = w.drewN n

set_option maxRecDepth 100000 in
set_option maxHeartbeats 800000 in
theorem within_no (q : Nat) (d : Int) (w : World) (_h0 : -1 ≤ d) (h1 : d < 2) :
    Calls Try.prog 56 #[.pointer (some ⟨q, 0, none⟩), .int .i64 d] w (Quiet w (.bool false)) := by
  go_enter Try.func56, Try.ntmps56
  go_wp2
  go_ret
  exact ⟨rfl, 0, rfl⟩

set_option maxRecDepth 100000 in
set_option maxHeartbeats 1600000 in
theorem within_yes (q : Nat) (T : TypeId) (tl : List Value) (g : Nat) (f : St) (σ : List St) (w : World) (hw : WayAt w q T tl g (f :: σ)) (hne : ∀ e ∈ σ, ¬ (e.B = f.B ∧ e.o = f.o)) (hpl : ∀ e ∈ f :: σ, Plain w e.B) (h2 : 2 ≤ σ.length) (hlen : σ.length ≤ 1000001) :
    Calls Try.prog 56 #[.pointer (some ⟨q, 0, none⟩), .int .i64 σ.length] w (Quiet w (.bool false)) := by
  obtain ⟨cap, c0, _, l0, l1, _, _⟩ := way_ptr hw
  obtain ⟨n, hn⟩ : ∃ n, σ.length = n := ⟨_, rfl⟩
  obtain ⟨b1, b2⟩ := bitLen_pow (n - 1) (by omega) (by omega)
  obtain ⟨a, ha⟩ : ∃ a, 2 ^ (Lib.bitLen (n - 1) - 1) = a := ⟨_, rfl⟩
  have ha1 : 1 ≤ a := by rw [← ha]; exact Nat.one_le_two_pow
  rw [ha] at b2
  obtain ⟨e, he⟩ : ∃ e, (f :: σ).reverse[a]? = some e := ⟨_, List.getElem?_eq_getElem (by simp; omega)⟩
  have ce := way_at hw a e he
  have cf := (way_top hw).1
  have hem : e ∈ σ := by
    rw [List.reverse_cons, List.getElem?_append_left (by simp; omega)] at he
    exact List.mem_reverse.1 (List.mem_of_getElem? he)
  have hd := hne e hem
  have qP : ∀ d : Nat, (binOp .eql 69 (.pointer (some ⟨e.B, e.o, none⟩)) (.pointer (some ⟨f.B, f.o, none⟩))).run Try.prog (w.drewN d) = .ok (.bool false) (w.drewN d) := fun d => by
    obtain ⟨ca, ta, hca⟩ := hpl e (List.mem_cons_of_mem _ hem)
    obtain ⟨cb, tb, hcb⟩ := hpl f (by simp)
    obtain ⟨j, hj⟩ : ∃ j, Try.prog.info? 27 = some j := Option.isSome_iff_exists.1 (by kernel_rfl)
    refine run_eql_ptr_other (w.drewN d) Try.underlying69 hj ?_ (by simp; exact fun h1 h2 => hd ⟨h1, h2⟩) hca hcb
    have h4 : (Try.prog.info? 27).map (·.size) = some 4 := by kernel_rfl
    rw [hj] at h4
    simp at h4
    omega
  simp only [List.length_cons] at c0 l0
  rw [hn] at c0 l0 cf h2 hlen ⊢
  have HA := Lib.hid ha
  unfold maxLen at l1
  obtain ⟨L, hL⟩ : ∃ L, Lib.bitLen (n - 1) = L := ⟨_, rfl⟩
  have HL := Lib.hid hL
  rw [hL] at b1
  have b3 : L ≤ 63 := by
    rcases Nat.lt_or_ge L 64 with h | h
    · omega
    · have h5 := HA.out
      rw [HL.out] at h5
      have h6 : 2 ^ 63 ≤ 2 ^ (L - 1) := Nat.pow_le_pow_right (by omega) (by omega)
      omega
  clear ha hL hn hem he hne hw hpl
  go_enter Try.func56, Try.ntmps56
  go_wp2_with fail
  refine (Try.bits_Len _ _ (by omega) (by omega)).mono ?_
  rintro e2 w2 ⟨rfl, rfl⟩
  rw [show ((n : Int) - 1).toNat = n - 1 from by omega, HL.out]
  go_wp2_with fail
  have e1 : wrap64 ((2 : Int) ^ (L - 1)) = (a : Int) := by
    have h5 := HA.out
    rw [HL.out] at h5
    rw [show ((2 : Int) ^ (L - 1)) = (a : Int) by rw [← h5]; push_cast; rfl]
    exact IntWalk.wrap64_in _ ⟨by omega, by omega⟩
  simp only [e1]
  clear e1
  have i1 : (0 : Int) ≤ (a : Int) := by omega
  have i2 : (a : Int) < (n : Int) + 1 := by omega
  have i3 : (0 : Int) ≤ (n : Int) := by omega
  have i4 : (n : Int) < (n : Int) + 1 := by omega
  go_quiet (fail)
  go_wp2
  go_ret
  exact ⟨rfl, _, rfl⟩

set_option maxRecDepth 100000 in
set_option maxHeartbeats 800000 in
theorem deep_nil (q : Nat) (T : TypeId) (tl : List Value) (g : Nat) (w : World) (hw : WayAt w q T tl g []) :
    Calls Try.prog 48 #[.pointer (some ⟨q, 0, none⟩)] w (Quiet w (.int .i64 (-1))) := by
  obtain ⟨cap, c0, _, l0, l1, _, _⟩ := way_ptr hw
  simp only [List.length_nil] at c0
  clear hw
  go_enter Try.func48, Try.ntmps48
  go_wp2_with fail
  refine (within_no _ _ _ (by omega) (by omega)).mono ?_
  rintro e w' ⟨rfl, n, rfl⟩
  go_wp2
  go_ret
  exact ⟨rfl, _, rfl⟩

set_option maxRecDepth 100000 in
set_option maxHeartbeats 800000 in
theorem deep_top (q : Nat) (T : TypeId) (tl : List Value) (g : Nat) (f : St) (σ : List St) (w : World) (hw : WayAt w q T tl g (f :: σ)) (hne : ∀ e ∈ σ, ¬ (e.B = f.B ∧ e.o = f.o)) (hpl : ∀ e ∈ f :: σ, Plain w e.B) (hlen : σ.length ≤ 1000001) :
    Calls Try.prog 48 #[.pointer (some ⟨q, 0, none⟩)] w (Quiet w (.int .i64 σ.length)) := by
  obtain ⟨cap, c0, _, l0, l1, _, _⟩ := way_ptr hw
  simp only [List.length_cons] at c0 l0
  unfold maxLen at l1
  have C := Lib.hid (show Calls Try.prog 56 #[.pointer (some ⟨q, 0, none⟩), .int .i64 σ.length] w (Quiet w (.bool false)) by
    by_cases h2 : σ.length < 2
    · exact within_no q _ w (by omega) (by omega)
    · exact within_yes q T tl g f σ w hw hne hpl (by omega) hlen)
  obtain ⟨n, hn⟩ : ∃ n, σ.length = n := ⟨_, rfl⟩
  rw [hn] at c0 l0 hlen C ⊢
  clear hw hne hpl hn
  go_enter Try.func48, Try.ntmps48
  go_wp2_with fail
  refine C.out.mono ?_
  rintro e w' ⟨rfl, d, rfl⟩
  go_wp2
  go_ret
  exact ⟨rfl, _, rfl⟩

/-- a way that stands ahead of a list of terms -/
def FromPost (w : World) (sv : Value) (e : Ending) (w' : World) : Prop :=
  e = .returned (.slice (some ⟨w.heap.size + 1, 0, none⟩) 1 1) ∧ w' = (w.alloc (.cells #[.int .i64 0, .int .i64 0, .string ⟨#[]⟩, sv] 27)).alloc (.cells #[.pointer (some ⟨w.heap.size, 0, none⟩), .int .i64 0] 77)
set_option maxRecDepth 100000 in
set_option maxHeartbeats 800000 in
theorem from_is (sv : Value) (w : World) (h : ∃ a n c, sv = .slice a n c) :
    Calls Try.prog 40 #[sv] w (FromPost w sv) := by
  obtain ⟨a, n, c, rfl⟩ := h
  go_enter Try.func40, Try.ntmps40
  go_wp2
  go_ret
  exact ⟨rfl, rfl⟩

end Go.Proofs.Ytkidcchafdiofaa
