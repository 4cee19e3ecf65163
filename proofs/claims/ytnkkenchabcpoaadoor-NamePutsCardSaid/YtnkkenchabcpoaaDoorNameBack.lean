/- The law NameBack returns true for every input: an atom that isn't plain is read within its quotes as it was; its walk. Conditions: the texts are some; the library's variables hold what their text lays. -/
import Derived.Test.YtnkkenchabcpoaaDoorNameP
import Derived.Test.YtnkkenchabcpoaaDoorNameQ
namespace Go.Proofs.YtnkkenchabcpoaaDoor
open Go Go.RowKit Go.Maps

theorem ext_bytes {s : ByteArray} {l : List UInt8} (h : s.data.toList = l) : s = ⟨l.toArray⟩ := by
  obtain ⟨⟨x⟩⟩ := s
  simp at h
  subst h
  rfl

set_option maxHeartbeats 800000 in
theorem back_quoted (a b p : ByteArray) (w : World) (htab : Tab w) (ha : a.size ≤ 3000) (hb : b.size ≤ 100) (h0 : b.size = 0 ∨ ∃ h : 0 < b.size, ((b[0].toNat : Int) == 39) = false)
    (P : Hid (∀ w, Tab w → Calls Tryd.prog 14 #[.string a] w fun e w' => e = .returned (.string p) ∧ Below w.heap.size w w'))
    (L : Hid (∀ w, Calls Tryd.prog 12 #[.string a] w fun e w' => e = .returned (.bool false) ∧ Below w.heap.size w w'))
    (G : Hid (∀ w, Tab w → Calls Tryd.prog 16 #[.string (p.extract 1 p.size ++ b), .int .u8 39] w fun e w' => e = ret3 a ((p.size : Int) - 1) 0 ∧ Below w.heap.size w w'))
    (p2 : 2 ≤ p.size) (p3 : p.size ≤ 16000) (hp : p[0] = 39) :
    Calls Tryd.prog 5 #[.string a, .string b] w fun e w' => e = .returned (.bool true) ∧ Below w.heap.size w w' := by
  have HT := Lib.hid htab
  clear htab
  rcases h0 with h0 | ⟨h0, hb0⟩
  all_goals
    go_enter Tryd.func5, Tryd.ntmps5
    go_wp2_with fail
    refine (alive_is _ HT.out).mono ?_
    rintro e w1 ⟨rfl, b1⟩
    have T1 := Lib.hid (HT.out.on b1)
    go_wp2_with fail
    refine (P.out _ T1.out).mono ?_
    rintro e w2 ⟨rfl, b2⟩
    have T2 := Lib.hid (T1.out.on b2)
    go_wp2_with fail
    refine (L.out _).mono ?_
    rintro e w3 ⟨rfl, b3⟩
    have T3 := Lib.hid (T2.out.on b3)
    go_wp2_with fail
    refine (G.out _ T3.out).mono ?_
    rintro e w4 ⟨rfl, b4⟩
    go_wp2_with fail
    go_ret
    exact ⟨rfl, bt (bt (bt b1 b2) b3) b4⟩

set_option maxHeartbeats 800000 in
theorem back_plain (a b : ByteArray) (w : World) (htab : Tab w) (ha : a.size ≤ 3000) (hb : b.size ≤ 100) (h0 : b.size = 0 ∨ ∃ h : 0 < b.size, ((b[0].toNat : Int) == 39) = false)
    (P : Hid (∀ w, Calls Tryd.prog 14 #[.string a] w fun e w' => e = .returned (.string a) ∧ Below w.heap.size w w'))
    (L : Hid (∀ w, Calls Tryd.prog 12 #[.string a] w fun e w' => e = .returned (.bool true) ∧ Below w.heap.size w w')) :
    Calls Tryd.prog 5 #[.string a, .string b] w fun e w' => e = .returned (.bool true) ∧ Below w.heap.size w w' := by
  have HT := Lib.hid htab
  clear htab
  rcases h0 with h0 | ⟨h0, hb0⟩
  all_goals
    go_enter Tryd.func5, Tryd.ntmps5
    go_wp2_with fail
    refine (alive_is _ HT.out).mono ?_
    rintro e w1 ⟨rfl, b1⟩
    go_wp2_with fail
    refine (P.out _).mono ?_
    rintro e w2 ⟨rfl, b2⟩
    go_wp2_with fail
    refine (L.out _).mono ?_
    rintro e w3 ⟨rfl, b3⟩
    go_wp2_with fail
    go_ret
    exact ⟨rfl, bt (bt b1 b2) b3⟩

set_option maxHeartbeats 800000 in
theorem back_out (a b : ByteArray) (w : World) (htab : Tab w) (ha : a.size ≤ maxLen) (hb : b.size ≤ maxLen) (h : 3000 < a.size ∨ a.size ≤ 3000 ∧ 100 < b.size ∨ a.size ≤ 3000 ∧ b.size ≤ 100 ∧ ∃ h : 0 < b.size, ((b[0].toNat : Int) == 39) = true) :
    Calls Tryd.prog 5 #[.string a, .string b] w fun e w' => e = .returned (.bool true) ∧ Below w.heap.size w w' := by
  have HT := Lib.hid htab
  clear htab
  unfold maxLen at ha hb
  rcases h with h | ⟨h, h2⟩ | ⟨h, h2, h0, hb0⟩
  all_goals
    go_enter Tryd.func5, Tryd.ntmps5
    go_wp2_with fail
    refine (alive_is _ HT.out).mono ?_
    rintro e w1 ⟨rfl, b1⟩
    go_wp2_with fail
    go_ret
    exact ⟨rfl, b1⟩

theorem back_walk (a b : ByteArray) (w : World) (ha : a.size ≤ maxLen) (hb : b.size ≤ maxLen) (htab : Tab w) :
    Calls Tryd.prog 5 #[.string a, .string b] w fun e w' => e = .returned (.bool true) ∧ Below w.heap.size w w' := by
  by_cases h1 : 3000 < a.size
  · exact back_out a b w htab ha hb (.inl h1)
  by_cases h2 : 100 < b.size
  · exact back_out a b w htab ha hb (.inr (.inl ⟨by omega, h2⟩))
  by_cases h3 : ∃ h : 0 < b.size, ((b[0].toNat : Int) == 39) = true
  · exact back_out a b w htab ha hb (.inr (.inr ⟨by omega, by omega, h3⟩))
  have h0 : b.size = 0 ∨ ∃ h : 0 < b.size, ((b[0].toNat : Int) == 39) = false := by
    rcases Nat.eq_zero_or_pos b.size with h | h
    · exact .inl h
    · refine .inr ⟨h, ?_⟩
      cases hh : ((b[0].toNat : Int) == 39)
      · rfl
      · exact absurd ⟨h, hh⟩ h3
  have L := fun w => plain_is a w (by omega)
  cases hp : plainB a.data.toList
  · rw [hp] at L
    obtain ⟨p, hpe⟩ : ∃ p : ByteArray, p = ⟨(putB a.data.toList ++ [39]).toArray⟩ := ⟨_, rfl⟩
    have hpd : p.data.toList = putB a.data.toList ++ [39] := by rw [hpe]
    have hps : p.size = (putB a.data.toList ++ [39]).length := by rw [← hpd]; exact (Lib.size_eq p).symm
    have hal : a.data.toList.length = a.size := Lib.size_eq a
    have hlen := putB_len a.data.toList
    have hpb : putB a.data.toList = 39 :: a.data.toList.flatMap putC := rfl
    rw [List.length_append] at hps
    simp only [List.length_singleton] at hps
    have hp1 : 1 ≤ (putB a.data.toList).length := by rw [hpb]; simp
    refine back_quoted a b p w htab (by omega) (by omega) h0 (Lib.hid fun w h => by rw [hpe]; exact put_quoted a w (by omega) h hp) (Lib.hid L) (Lib.hid fun w h => ?_) (by omega) (by omega) ?_
    · have hd : (p.extract 1 p.size ++ b).data.toList = a.data.toList.flatMap putC ++ 39 :: b.data.toList := by
        have e1 : (p.extract 1 p.size ++ b).data.toList = (p.extract 1 p.size).data.toList ++ b.data.toList := by simp
        rw [e1, Lib.extract_to_end, hpd, hpb]
        simp
      have hne : b.data.toList.head? ≠ some 39 := by
        intro hh
        rcases h0 with h0 | ⟨h0, hb0⟩
        · rw [List.eq_nil_of_length_eq_zero (show b.data.toList.length = 0 by rw [← Lib.size_eq]; exact h0)] at hh
          cases hh
        · cases hl : b.data.toList with
          | nil => rw [hl] at hh; cases hh
          | cons x t =>
            rw [hl] at hh
            cases hh
            rw [at_0 hl h0] at hb0
            cases hb0
      have hgl : getL 39 (p.extract 1 p.size ++ b).data.toList = some (a.data.toList, p.size - 1) := by
        rw [hd, back_all _ _ hne]
        have : (a.data.toList.flatMap putC).length + 1 = p.size - 1 := by rw [hps, hpb]; simp
        rw [this]
      have hsz : (p.extract 1 p.size ++ b).size ≤ 18000 := by
        have e2 : (p.extract 1 p.size ++ b).size = (p.extract 1 p.size ++ b).data.toList.length := (Lib.size_eq _).symm
        have e3 : b.data.toList.length = b.size := Lib.size_eq b
        rw [hpb] at hlen
        rw [e2, hd]
        simp only [List.length_append, List.length_cons] at hlen ⊢
        omega
      have := get_is (p.extract 1 p.size ++ b) 39 w hsz h
      rw [hgl] at this
      refine this.mono fun e w' hh => ?_
      obtain ⟨h1, h2⟩ : e = ret3 ⟨a.data.toList.toArray⟩ ((p.size - 1 : Nat) : Int) 0 ∧ Below w.heap.size w w' := hh
      refine ⟨?_, h2⟩
      rw [h1, ← ext_bytes (s := a) rfl, show ((p.size - 1 : Nat) : Int) = (p.size : Int) - 1 by omega]
    · exact at_0 (a := 39) (t := a.data.toList.flatMap putC ++ [39]) hpd (by omega)
  · rw [hp] at L
    exact back_plain a b w htab (by omega) (by omega) h0 (Lib.hid fun w => put_plain a w (by omega) hp) (Lib.hid L)

end Go.Proofs.YtnkkenchabcpoaaDoor
