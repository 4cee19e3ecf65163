/- When texts put together are plain (plain mathematics). Conditions: none. -/
import Derived.Test.YtkbeaddbnnboaaaDoorNameBytesM
namespace Go.Proofs.YtkbeaddbnnboaaaDoor
open Go Go.RowKit

theorem head_mem {l : List UInt8} (h : l ≠ []) : l.headD 0 ∈ l := by
  cases l with
  | nil => exact absurd rfl h
  | cons a t => exact List.mem_cons_self ..
theorem wordB_of {x : UInt8} (h : sortZ (x.toNat : Int) = 2) : wordB x = true := by unfold wordB wordS; rw [h]; rfl
theorem signB_no {x : UInt8} (h : sortZ (x.toNat : Int) = 2) : signB x = false := by unfold signB signS; rw [h]; rfl
theorem wordB_no {x : UInt8} (h : sortZ (x.toNat : Int) = 5) : wordB x = false := by unfold wordB wordS; rw [h]; rfl
theorem signB_sort {x : UInt8} (h : signB x = true) : sortZ (x.toNat : Int) = 5 := by unfold signB signS at h; simpa using h

/-- which one of two kinds a plain atom is -/
theorem plain_kind {l : List UInt8} (h : plainB l = true) (h1 : (l == [91, 93]) = false) (h2 : (l == [123, 125]) = false) (h3 : (sortZ ((l.headD 0).toNat : Int) == 6) = false) :
    l ≠ [] ∧ (sortZ ((l.headD 0).toNat : Int) = 2 ∧ l.all wordB = true ∨ sortZ ((l.headD 0).toNat : Int) = 5 ∧ l.all signB = true ∧ Lib.hasPrefix l [47, 42] = false) := by
  unfold plainB at h
  rw [h1, h2, if_neg (by simp)] at h
  have h33 : (l == [33]) = false := by
    cases hh : (l == [33])
    · rfl
    · rw [beq_iff_eq.1 hh] at h3; exact absurd h3 (by decide)
  have h59 : (l == [59]) = false := by
    cases hh : (l == [59])
    · rfl
    · rw [beq_iff_eq.1 hh] at h3; exact absurd h3 (by decide)
  rw [h33, h59, if_neg (by simp), if_neg (by simp), if_neg (by simp)] at h
  have hne : l ≠ [] := by
    rintro rfl
    simp at h
  refine ⟨hne, ?_⟩
  rw [if_neg (by simpa using hne)] at h
  split at h
  · cases h
  · split at h
    · rename_i hs
      exact .inl ⟨hs, h⟩
    · rename_i hs
      rw [Bool.and_eq_true] at h
      have := List.all_eq_true.1 h.1 _ (head_mem hne)
      exact .inr ⟨signB_sort this, h.1, by simpa using h.2⟩

/-- nothing that is longer than two bytes and has a byte of neither kind is plain -/
theorem plain_not {l : List UInt8} (hl : 3 ≤ l.length) (x : UInt8) (hx : x ∈ l) (hw : wordB x = false) (hs : signB x = false) : plainB l = false := by
  have e : ∀ m : List UInt8, m.length ≤ 2 → (l == m) = false := fun m hm => by
    cases hh : (l == m)
    · rfl
    · rw [beq_iff_eq.1 hh] at hl; omega
  unfold plainB
  rw [e _ (by decide), e _ (by decide), e _ (by decide), e _ (by decide), e [46] (by decide)]
  have hne : l.isEmpty = false := by cases l with | nil => simp at hl | cons _ _ => rfl
  rw [hne]
  have a1 : l.all wordB = false := List.all_eq_false.2 ⟨x, hx, by simp [hw]⟩
  have a2 : l.all signB = false := List.all_eq_false.2 ⟨x, hx, by simp [hs]⟩
  rw [a1, a2]
  simp
theorem plain_between (a b : List UInt8) (ha : a ≠ []) (hb : b ≠ []) (x : UInt8) (hw : wordB x = false) (hs : signB x = false) : plainB (a ++ [x] ++ b) = false := by
  have h1 := List.length_pos_iff.2 ha
  have h2 := List.length_pos_iff.2 hb
  exact plain_not (by simp; omega) x (by simp) hw hs
theorem plain_ahead (a : List UInt8) (x : UInt8) (hx : x = 65 ∨ x = 48) : plainB (x :: a) = false := by
  have e : ∀ (m : UInt8) (n : List UInt8), (x == m) = false → (x :: a == m :: n) = false := fun m n hm => by
    show (x == m && _) = false
    rw [hm, Bool.false_and]
  have h0 : ∀ m : UInt8, m ≠ 65 → m ≠ 48 → (x == m) = false := fun m h1 h2 => by
    rcases hx with rfl | rfl
    · exact beq_eq_false_iff_ne.2 (fun e => h1 e.symm)
    · exact beq_eq_false_iff_ne.2 (fun e => h2 e.symm)
  unfold plainB
  rw [e 91 _ (h0 _ (by decide) (by decide)), e 33 _ (h0 _ (by decide) (by decide)), e 59 _ (h0 _ (by decide) (by decide)), e 123 _ (h0 _ (by decide) (by decide)), e 46 _ (h0 _ (by decide) (by decide))]
  have hh : sortZ (((x :: a).headD 0).toNat : Int) ≠ 2 := by
    show sortZ (x.toNat : Int) ≠ 2
    rcases hx with rfl | rfl <;> decide
  have hs : signB x = false := by rcases hx with rfl | rfl <;> decide
  rw [if_neg (by simp), if_neg (by simp), if_neg (by simp), if_neg (by simp), if_neg (by simp), if_neg (by simp), if_neg hh, List.all_cons, hs]
  simp

theorem pre_take {l : List UInt8} (hl : 2 ≤ l.length) : Lib.hasPrefix l [47, 42] = (l.take 2 == [47, 42]) := by
  match l, hl with
  | x :: y :: t, _ =>
    show (47 == x && (42 == y && true)) = (x == 47 && (y == 42 && true))
    rw [flip_beq 47 x, flip_beq 42 y]
/-- two plain atoms put together -/
theorem plain_app {a b : List UInt8} (ha : a ≠ []) (hb : b ≠ [])
    (ka : sortZ ((a.headD 0).toNat : Int) = 2 ∧ a.all wordB = true ∨ sortZ ((a.headD 0).toNat : Int) = 5 ∧ a.all signB = true ∧ Lib.hasPrefix a [47, 42] = false)
    (kb : sortZ ((b.headD 0).toNat : Int) = 2 ∧ b.all wordB = true ∨ sortZ ((b.headD 0).toNat : Int) = 5 ∧ b.all signB = true ∧ Lib.hasPrefix b [47, 42] = false) :
    plainB (a ++ b) = ((sortZ ((a.headD 0).toNat : Int) == sortZ ((b.headD 0).toNat : Int)) && !((a ++ b).take 2 == [47, 42])) := by
  have h1 := List.length_pos_iff.2 ha
  have h2 := List.length_pos_iff.2 hb
  have hlen : 2 ≤ (a ++ b).length := by simp; omega
  have hhd : (a ++ b).headD 0 = a.headD 0 := by
    cases a with
    | nil => exact absurd rfl ha
    | cons x t => rfl
  have hsp : ∀ m : List UInt8, m ≠ [] → sortZ ((m.headD 0).toNat : Int) ≠ 2 → sortZ ((m.headD 0).toNat : Int) ≠ 5 → ((a ++ b) == m) = false := fun m _ m2 m5 => by
    cases hh : ((a ++ b) == m)
    · rfl
    · have e := beq_iff_eq.1 hh
      rw [← e, hhd] at m2 m5
      rcases ka with ⟨k, _⟩ | ⟨k, _⟩
      · exact absurd k m2
      · exact absurd k m5
  have h46 : ((a ++ b) == [46]) = false := by
    cases hh : ((a ++ b) == [46])
    · rfl
    · rw [beq_iff_eq.1 hh] at hlen; simp at hlen
  have hne : (a ++ b).isEmpty = false := by
    cases hh : a ++ b with
    | nil => rw [hh] at hlen; simp at hlen
    | cons _ _ => rfl
  unfold plainB
  rw [hsp [91, 93] (by simp) (by decide) (by decide), hsp [33] (by simp) (by decide) (by decide), hsp [59] (by simp) (by decide) (by decide), hsp [123, 125] (by simp) (by decide) (by decide), hne, h46]
  rw [if_neg (by simp), if_neg (by simp), if_neg (by simp), if_neg (by simp), if_neg (by simp), if_neg (by simp), hhd, List.all_append, List.all_append, pre_take hlen]
  rcases ka with ⟨k1, k2⟩ | ⟨k1, k2, _⟩
  · rw [k1, if_pos rfl, k2]
    have hnp : ((a ++ b).take 2 == [47, 42]) = false := by
      rw [← pre_take hlen]
      match a, ha, k1 with
      | x :: t, _, k1 =>
        have hx : (47 == x) = false := by
          cases hh : ((47 : UInt8) == x)
          · rfl
          · rw [← beq_iff_eq.1 hh] at k1
            have k3 : sortZ (((47 : UInt8)).toNat : Int) = 2 := k1
            exact absurd k3 (by decide)
        match t ++ b, show x :: t ++ b = x :: (t ++ b) from rfl with
        | r, e =>
          rw [e]
          show (47 == x && _) = false
          rw [hx, Bool.false_and]
    rw [hnp]
    rcases kb with ⟨l1, l2⟩ | ⟨l1, l2, _⟩
    · rw [l1, l2]; rfl
    · have : b.all wordB = false := List.all_eq_false.2 ⟨_, head_mem hb, by rw [wordB_no l1]; simp⟩
      rw [l1, this]; rfl
  · rw [k1, if_neg (by decide), k2]
    rcases kb with ⟨l1, l2⟩ | ⟨l1, l2, _⟩
    · have : b.all signB = false := List.all_eq_false.2 ⟨_, head_mem hb, by rw [signB_no l1]; simp⟩
      rw [l1, this]; rfl
    · rw [l1, l2]; simp

end Go.Proofs.YtkbeaddbnnboaaaDoor
