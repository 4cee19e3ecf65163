/- name.Plain: a contract. Conditions: the text has at most 4000 bytes. -/
import Derived.Test.YtkbeaddbnnboaaaDoorNameB
import Derived.Test.YtkbeaddbnnboaaaDoorNameC
import Derived.Test.YtkbeaddbnnboaaaDoorShelf
namespace Go.Proofs.YtkbeaddbnnboaaaDoor
open Go Go.RowKit

def wordB (b : UInt8) : Bool := wordS (sortZ (b.toNat : Int))
def signB (b : UInt8) : Bool := signS (sortZ (b.toNat : Int))
/-- may an atom be written as it is? -/
def plainB (l : List UInt8) : Bool :=
  if (l == [91, 93]) = true then true else if (l == [33]) = true then true else if (l == [59]) = true then true else if (l == [123, 125]) = true then true
  else if l.isEmpty = true then false else if (l == [46]) = true then false
  else if sortZ ((l.headD 0).toNat : Int) = 2 then l.all wordB else l.all signB && !Lib.hasPrefix l [47, 42]

theorem head_at (s : ByteArray) (h : 0 < s.size) : s.data.toList.headD 0 = s[0] := by
  obtain ⟨⟨l⟩⟩ := s
  cases l with
  | nil => exact absurd h (Nat.lt_irrefl 0)
  | cons a t => rfl

set_option maxHeartbeats 800000 in
theorem plain_is (s : ByteArray) (w : World) (hs : s.size ≤ 4000) :
    Calls Tryd.prog 13 #[.string s] w fun e w' => e = .returned (.bool (plainB s.data.toList)) ∧ Below w.heap.size w w' := by
  obtain ⟨r, hr⟩ : ∃ r, plainB s.data.toList = r := ⟨_, rfl⟩
  rw [hr]
  have hr' := hr
  unfold plainB at hr'
  rw [← Lib.toList_data] at hr'
  cases e1 : s.toList == [91, 93]
  case true =>
    rw [e1, if_pos rfl] at hr'
    subst hr'
    clear hr
    go_enter Tryd.func13, Tryd.ntmps13
    go_wp2_with fail
    go_ret
    exact ⟨rfl, Below.refl _ _⟩
  rw [e1, if_neg (by simp)] at hr'
  cases e2 : s.toList == [33]
  case true =>
    rw [e2, if_pos rfl] at hr'
    subst hr'
    clear hr
    go_enter Tryd.func13, Tryd.ntmps13
    go_wp2_with fail
    go_ret
    exact ⟨rfl, Below.refl _ _⟩
  rw [e2, if_neg (by simp)] at hr'
  cases e3 : s.toList == [59]
  case true =>
    rw [e3, if_pos rfl] at hr'
    subst hr'
    clear hr
    go_enter Tryd.func13, Tryd.ntmps13
    go_wp2_with fail
    go_ret
    exact ⟨rfl, Below.refl _ _⟩
  rw [e3, if_neg (by simp)] at hr'
  cases e4 : s.toList == [123, 125]
  case true =>
    rw [e4, if_pos rfl] at hr'
    subst hr'
    clear hr
    go_enter Tryd.func13, Tryd.ntmps13
    go_wp2_with fail
    go_ret
    exact ⟨rfl, Below.refl _ _⟩
  rw [e4, if_neg (by simp)] at hr'
  cases e5 : s.toList.isEmpty
  case true =>
    rw [e5, if_pos rfl] at hr'
    subst hr'
    clear hr
    go_enter Tryd.func13, Tryd.ntmps13
    go_wp2_with fail
    go_ret
    exact ⟨rfl, Below.refl _ _⟩
  rw [e5, if_neg (by simp)] at hr'
  cases e6 : s.toList == [46]
  case true =>
    rw [e6, if_pos rfl] at hr'
    subst hr'
    clear hr
    go_enter Tryd.func13, Tryd.ntmps13
    go_wp2_with fail
    go_ret
    exact ⟨rfl, Below.refl _ _⟩
  rw [e6, if_neg (by simp), Lib.toList_data] at hr'
  have hpos : 0 < s.size := by
    rcases Nat.eq_zero_or_pos s.size with h | h
    · rw [Lib.toList_data] at e5
      have : s.data.toList = [] := List.eq_nil_of_length_eq_zero (by simpa using h)
      rw [this] at e5
      cases e5
    · exact h
  rw [head_at s hpos] at hr'
  have hc0 : (0 : Int) ≤ (s[0].toNat : Int) := by omega
  have hc1 : (s[0].toNat : Int) ≤ 255 := by have := s[0].toNat_lt; omega
  obtain ⟨k, hk⟩ : ∃ k, sortZ (s[0].toNat : Int) = k := ⟨_, rfl⟩
  have C := Lib.hid (fun w => sort_at _ k hk w hc0 hc1)
  rw [hk] at hr'
  clear hk hr
  by_cases h2 : k = 2
  · subst h2
    rw [if_pos rfl] at hr'
    have E := Lib.hid (fun w => every_is s wordA (fun c => wordS (sortZ c)) have_word w hs)
    rw [show (s.data.toList.all fun b => wordS (sortZ (b.toNat : Int))) = r from hr'] at E
    clear hr'
    go_enter Tryd.func13, Tryd.ntmps13
    go_wp2_with fail
    refine (C.out _).mono ?_
    rintro e w' ⟨rfl, rfl⟩
    go_wp2_with fail
    refine (E.out _).mono ?_
    rintro e w2 ⟨rfl, b2⟩
    go_wp2_with fail
    go_ret
    exact ⟨rfl, bt ((Below.refl _ _).alloc (Nat.le_refl _) _) b2⟩
  · rw [if_neg h2] at hr'
    have g2 : (k == 2) = false := by simpa using h2
    have E := Lib.hid (fun w => every_is s signA (fun c => signS (sortZ c)) have_sign w hs)
    have P := Lib.hid (fun w => Tryd.strings_HasPrefix s ⟨#[47, 42]⟩ w)
    obtain ⟨x, hx⟩ : ∃ x, (s.data.toList.all fun b => signS (sortZ (b.toNat : Int))) = x := ⟨_, rfl⟩
    obtain ⟨y, hy⟩ : ∃ y, Lib.hasPrefix s.data.toList (ByteArray.mk #[47, 42]).data.toList = y := ⟨_, rfl⟩
    rw [hx] at E
    rw [hy] at P
    have hr2 : (x && !y) = r := by rw [← hr', ← hx, ← hy]; rfl
    clear hr' hx hy h2
    have HR := Lib.hid hr2
    clear hr2
    cases x
    · go_enter Tryd.func13, Tryd.ntmps13
      go_wp2_with fail
      refine (C.out _).mono ?_
      rintro e w' ⟨rfl, rfl⟩
      go_wp2_with fail
      refine (E.out _).mono ?_
      rintro e w2 ⟨rfl, b2⟩
      go_wp2_with fail
      go_ret
      cases HR.out
      exact ⟨rfl, bt (bt ((Below.refl _ _).alloc (Nat.le_refl _) _) ((Below.refl _ _).alloc (Nat.le_refl _) _)) b2⟩
    · go_enter Tryd.func13, Tryd.ntmps13
      go_wp2_with fail
      refine (C.out _).mono ?_
      rintro e w' ⟨rfl, rfl⟩
      go_wp2_with fail
      refine (E.out _).mono ?_
      rintro e w2 ⟨rfl, b2⟩
      go_wp2_with fail
      refine (P.out _).mono ?_
      rintro e w' ⟨rfl, rfl⟩
      go_wp2_with fail
      go_ret
      cases HR.out
      exact ⟨rfl, bt (bt ((Below.refl _ _).alloc (Nat.le_refl _) _) ((Below.refl _ _).alloc (Nat.le_refl _) _)) b2⟩

end Go.Proofs.YtkbeaddbnnboaaaDoor
