/- The law NamePlain returns true for every input: what is left of its walk, and the whole. Conditions: the texts are some; the library's variables hold what their text lays. -/
import Derived.Test.YtnkkenchabcpoaaDoorNamePlain
namespace Go.Proofs.YtnkkenchabcpoaaDoor
open Go Go.RowKit Go.Maps

set_option maxHeartbeats 3200000 in
set_option maxRecDepth 100000 in
theorem plain_main (a b : ByteArray) (w : World) (htab : Tab w) (ha : a.size ≤ 500) (hb : b.size ≤ 500) (A : Hid (PlainC a true)) (B : Hid (PlainC b true))
    (e1 : (a.toList == [91, 93]) = false) (e2 : (b.toList == [91, 93]) = false) (e3 : (a.toList == [123, 125]) = false) (e4 : (b.toList == [123, 125]) = false) (pa : 0 < a.size) (pb : 0 < b.size)
    (c d : UInt8) (ec : a[0] = c) (ed : b[0] = d) (k l : Int) (K : Hid (SortC (c.toNat : Int) k)) (L : Hid (SortC (d.toNat : Int) l)) (hk : (k == 6) = false) (hl : (l == 6) = false)
    (C1 : Hid (PlainC (a ++ ⟨#[32]⟩ ++ b) false)) (C2 : Hid (PlainC (a ++ ⟨#[39]⟩ ++ b) false)) (C3 : Hid (PlainC (⟨#[65]⟩ ++ a) false)) (C4 : Hid (PlainC (⟨#[48]⟩ ++ a) false))
    (x y : Bool) (hx : (((a ++ b).extract 0 2).toList == [47, 42]) = x) (hy : (k == l) = y) (C5 : Hid (PlainC (a ++ b) (y && !x))) :
    Calls Tryd.prog 6 #[.string a, .string b] w fun e w' => e = .returned (.bool true) ∧ Below w.heap.size w w' := by
  have HT := Lib.hid htab
  clear htab
  have s1 : (a.size : Int) ≤ 8388608 := by omega
  have s2 : (b.size : Int) ≤ 8388608 := by omega
  have s3 : 2 ≤ a.size + b.size := by omega
  have s4 : a.size + b.size ≤ 9223372036854775807 := by omega
  cases x <;> cases y
  all_goals
    go_enter Tryd.func6, Tryd.ntmps6
    go_wp2_with fail
    refine (alive_is _ HT.out).mono ?_
    rintro e w1 ⟨rfl, b1⟩
    go_wp2_with fail
    refine (A.out _).mono ?_
    rintro e w2 ⟨rfl, b2⟩
    go_wp2_with fail
    refine (B.out _).mono ?_
    rintro e w3 ⟨rfl, b3⟩
    go_wp2_with fail
    refine (K.out _).mono ?_
    rintro e w4 ⟨rfl, hw⟩
    obtain rfl := hw.symm
    clear hw
    go_wp2_with fail
    refine (L.out _).mono ?_
    rintro e w4 ⟨rfl, hw⟩
    obtain rfl := hw.symm
    clear hw
    go_wp2_with fail
    refine (C1.out _).mono ?_
    rintro e w4 ⟨rfl, b4⟩
    go_wp2_with fail
    refine (C2.out _).mono ?_
    rintro e w5 ⟨rfl, b5⟩
    go_wp2_with fail
    refine (C3.out _).mono ?_
    rintro e w6 ⟨rfl, b6⟩
    go_wp2_with fail
    refine (C4.out _).mono ?_
    rintro e w7 ⟨rfl, b7⟩
    go_wp2_with fail
    go_quiet (first | (go_at_call_of 10 (Value.int IntKind.u8 (c.toNat : Int)); exact Calls.quiet_of_same (K.out _)) | (go_at_call_of 10 (Value.int IntKind.u8 (d.toNat : Int)); exact Calls.quiet_of_same (L.out _)))
    go_wp2_with fail
    refine (C5.out _).mono ?_
    rintro e w8 ⟨rfl, b8⟩
    go_wp2_with fail
    go_ret
    exact ⟨rfl, bt (bt (bt (bt (bt (bt (bt (bt b1 b2) b3) b4) b5) b6) b7) (below_drewN _ _)) b8⟩

theorem eq_tl (a : ByteArray) (l : List UInt8) : (a.toList == l) = (a.data.toList == l) := by rw [Lib.toList_data]
theorem plain_walk (a b : ByteArray) (w : World) (ha : a.size ≤ maxLen) (hb : b.size ≤ maxLen) (htab : Tab w) :
    Calls Tryd.prog 6 #[.string a, .string b] w fun e w' => e = .returned (.bool true) ∧ Below w.heap.size w w' := by
  by_cases h1 : 500 < a.size
  · exact plain_long a b w htab ha hb (.inl h1)
  by_cases h2 : 500 < b.size
  · exact plain_long a b w htab ha hb (.inr ⟨by omega, h2⟩)
  have ha' : a.size ≤ 500 := by omega
  have hb' : b.size ≤ 500 := by omega
  cases hpa : plainB a.data.toList
  · exact plain_a_no a b w htab ha' hb' (Lib.hid (plain_c a _ (by omega) hpa))
  have A := Lib.hid (plain_c a _ (by omega) hpa)
  cases hpb : plainB b.data.toList
  · exact plain_b_no a b w htab ha' hb' A (Lib.hid (plain_c b _ (by omega) hpb))
  have B := Lib.hid (plain_c b _ (by omega) hpb)
  cases hx : ((a.toList == [91, 93]) || (b.toList == [91, 93]) || (a.toList == [123, 125]) || (b.toList == [123, 125]))
  case true => exact plain_special a b w htab ha' hb' A B _ _ _ _ rfl rfl rfl rfl hx
  have e1 : (a.toList == [91, 93]) = false := by cases h : (a.toList == [91, 93]) <;> simp [h] at hx ⊢
  have e2 : (b.toList == [91, 93]) = false := by cases h : (b.toList == [91, 93]) <;> simp [h] at hx ⊢
  have e3 : (a.toList == [123, 125]) = false := by cases h : (a.toList == [123, 125]) <;> simp [h] at hx ⊢
  have e4 : (b.toList == [123, 125]) = false := by cases h : (b.toList == [123, 125]) <;> simp [h] at hx ⊢
  have na : a.data.toList ≠ [] := by rintro h; rw [h] at hpa; cases hpa
  have nb : b.data.toList ≠ [] := by rintro h; rw [h] at hpb; cases hpb
  have pa : 0 < a.size := by rw [Lib.size_eq]; exact List.length_pos_iff.2 na
  have pb : 0 < b.size := by rw [Lib.size_eq]; exact List.length_pos_iff.2 nb
  have K : ∀ s : ByteArray, ∀ h : 0 < s.size, SortC (s[0].toNat : Int) (sortZ ((s.data.toList.headD 0).toNat : Int)) := fun s h w => by
    rw [head_at s h]
    exact sort_at _ _ rfl w (by omega) (by have := s[0].toNat_lt; omega)
  have KA := Lib.hid (K a pa)
  have KB := Lib.hid (K b pb)
  cases h6a : (sortZ ((a.data.toList.headD 0).toNat : Int) == 6)
  case true => exact plain_solo1 a b w htab ha' hb' A B e1 e2 e3 e4 pa pb _ KA h6a
  cases h6b : (sortZ ((b.data.toList.headD 0).toNat : Int) == 6)
  case true => exact plain_solo a b w htab ha' hb' A B e1 e2 e3 e4 pa pb _ _ KA KB _ h6a h6b
  rw [eq_tl] at e1 e2 e3 e4
  obtain ⟨_, ka⟩ := plain_kind hpa e1 e3 h6a
  obtain ⟨_, kb⟩ := plain_kind hpb e2 e4 h6b
  rw [← eq_tl] at e1 e2 e3 e4
  have one : ∀ c : UInt8, (ByteArray.mk #[c]).size = 1 := fun _ => rfl
  have lone : ∀ c : UInt8, (ByteArray.mk #[c]).data.toList = [c] := fun _ => rfl
  have hy := plain_app na nb ka kb
  refine plain_main a b w htab ha' hb' A B e1 e2 e3 e4 pa pb a[0] b[0] rfl rfl _ _ KA KB h6a h6b ?_ ?_ ?_ ?_ (((a ++ b).extract 0 2).toList == [47, 42]) _ rfl rfl ?_
  · exact Lib.hid (plain_c _ _ (by rw [app_size, app_size, one]; omega) (by rw [app_bytes, app_bytes, lone]; exact plain_between _ _ na nb 32 (by decide) (by decide)))
  · exact Lib.hid (plain_c _ _ (by rw [app_size, app_size, one]; omega) (by rw [app_bytes, app_bytes, lone]; exact plain_between _ _ na nb 39 (by decide) (by decide)))
  · exact Lib.hid (plain_c _ _ (by rw [app_size, one]; omega) (by rw [app_bytes, lone]; exact plain_ahead _ 65 (.inl rfl)))
  · exact Lib.hid (plain_c _ _ (by rw [app_size, one]; omega) (by rw [app_bytes, lone]; exact plain_ahead _ 48 (.inr rfl)))
  · refine Lib.hid (plain_c _ _ (by rw [app_size]; omega) ?_)
    rw [app_bytes, hy, eq_tl, Lib.extract_data, app_bytes]
    rfl

end Go.Proofs.YtnkkenchabcpoaaDoor
