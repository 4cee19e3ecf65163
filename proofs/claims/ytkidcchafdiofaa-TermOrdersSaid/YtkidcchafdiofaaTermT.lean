/- term.room, strings.Clone, term.maker.fill: contracts. Conditions: what memory holds of the part that is copied. -/
import Derived.Test.YtkidcchafdiofaaTermS
namespace Go.Proofs.Ytkidcchafdiofaa
open Go Go.RowKit
attribute [local go_sem ↓] Go.wp_at_zero Go.wp_at_succ

def RoomPost (w : World) (n : Nat) (e : Ending) (w' : World) : Prop :=
  ∃ (ad : Option Addr) (c G : Nat), e = .returned (.slice ad n c) ∧ SvOk (.slice ad n c) G 0 n ∧ (0 < n → (∃ cur, w'.heap[G]? = some (.cells cur 27 (0, 0)) ∧ cur.size = n * 4) ∧ w.heap.size ≤ G) ∧ Below w.heap.size w w'
set_option maxRecDepth 100000 in
set_option maxHeartbeats 800000 in
theorem room_is (n : Nat) (w : World) (hn : n ≤ 900000) : Calls Try.prog 54 #[.int .i64 n] w (RoomPost w n) := by
  obtain ⟨i0, hi, hz0, hz1, hz2⟩ := info_parts (show (Try.prog.info? 27).map (fun i => (i.zero, i.size, i.bytes)) = some (some (.agg #[.int .i64 0, .int .i64 0, .string ⟨#[]⟩, .slice none 0 0]), 4, 56) by kernel_rfl)
  by_cases h0 : n = 0
  · subst h0
    go_enter Try.func54, Try.ntmps54
    go_wp2
    go_ret
    exact ⟨none, 0, 0, rfl, .inl ⟨rfl, rfl⟩, fun h => (by omega), Below.refl _ _⟩
  · have hb : ((n : Int) == 0) = false := by rw [beq_eq_false_iff_ne]; omega
    go_enter Try.func54, Try.ntmps54
    go_wp2_with (at_make; refine wpList_make_full _ rfl (.tmp 5) (.tmp 5) 25 rfl 0 27 i0 (.agg #[.int .i64 0, .int .i64 0, .string ⟨#[]⟩, .slice none 0 0]) 4 Try.underlying25 hi hz0 hz1 .i64 .i64 n n n rfl rfl rfl rfl (by rw [hz2]; omega) (by unfold maxLen; omega) (Nat.zero_le _) ?_; intro w1 hown hg)
    have hf : RoomPost w n (.returned (.slice (some ⟨w.heap.size, 0, none⟩) n n)) w1 := by
      refine ⟨_, _, w.heap.size, rfl, .inr ⟨n, rfl, Nat.le_refl _, by unfold maxLen; omega⟩, fun _ => ⟨?_, Nat.le_refl _⟩, (Below.refl _ _).grown hg (Nat.le_refl _) (fun k hk => by cases hk)⟩
      obtain ⟨_, h | ⟨g, cap, cur, hv, _, h2, _, _, h6, _⟩⟩ := hown
      · omega
      · simp at hv
        obtain ⟨rfl, rfl⟩ := hv
        exact ⟨cur, h2, h6⟩
    have HF := Lib.hid hf
    clear hown hg hf
    go_wp2
    go_ret
    exact HF.out
theorem clone_is (s : ByteArray) (w : World) (hs : s.size ≤ 281474976710656) : Calls Try.prog 60 #[.string s] w fun e w' => e = .returned (.string s) ∧ Below w.heap.size w w' := by
  go_enter Try.func60, Try.ntmps60
  go_wp2_with fail
  refine (Try.stringslite_Clone s _ hs).mono ?_
  rintro e w' ⟨rfl, hb⟩
  have HB := Lib.hid hb
  clear hb
  go_wp2
  go_ret
  exact ⟨rfl, HB.out⟩

/-- the part that is copied, at hand -/
structure PartAt (B o : Nat) (k n : Int) (s : ByteArray) (ad : Option Addr) (a c : Nat) (w : World) : Prop where
  p0 : w.cell? ⟨B, o, none⟩ = some (.int .i64 k)
  p1 : w.cell? ⟨B, o + 1, none⟩ = some (.int .i64 n)
  p2 : w.cell? ⟨B, o + 2, none⟩ = some (.string s)
  p3 : w.cell? ⟨B, o + 3, none⟩ = some (.slice ad a c)
theorem part_far {w : World} {B G p j : Nat} {u a b c d : Value} (h : B ≠ G) (hc : w.cell? ⟨B, j, none⟩ = some u) : ((((w.setCell ⟨G, p, none⟩ a).setCell ⟨G, p + 1, none⟩ b).setCell ⟨G, p + 2, none⟩ c).setCell ⟨G, p + 3, none⟩ d).cell? ⟨B, j, none⟩ = some u := by
  rw [set_cell_ne h, set_cell_ne h, set_cell_ne h, set_cell_ne h]
  exact hc
/-- the place that comes next may be written -/
structure PlaceAt (G p : Nat) (w : World) : Prop where
  q0 : ∃ u, w.cell? ⟨G, p, none⟩ = some u
  q1 : ∃ u, w.cell? ⟨G, p + 1, none⟩ = some u
  q2 : ∃ u, w.cell? ⟨G, p + 2, none⟩ = some u
  q3 : ∃ u, w.cell? ⟨G, p + 3, none⟩ = some u
  fr : ∀ o, w.frozen? ⟨G, o, none⟩ = false

set_option maxRecDepth 100000 in
set_option maxHeartbeats 4000000 in
theorem fill_region (q B o G p : Nat) (k n : Int) (s : ByteArray) (ad : Option Addr) (a c : Nat) (dv : Value) (w0 : World) (R : Ending → World → Prop) (P1 P2 : World → Prop)
    (h0 : PartAt B o k n s ad a c w0) (hB : B ≠ G)
    (C1 : ∀ d, Calls Try.prog 47 #[.pointer (some ⟨q, 0, none⟩)] (w0.drewN d) fun e w => e = .returned (.pointer (some ⟨G, p, none⟩)) ∧ Hid (P1 w) ∧ PartAt B o k n s ad a c w)
    (C2 : ∀ w, Hid (P1 w) → Calls Try.prog 60 #[.string s] w fun e w' => e = .returned (.string s) ∧ Hid (P2 w') ∧ PartAt B o k n s ad a c w')
    (C3 : ∀ w, Hid (P2 w) → Calls Try.prog 54 #[.int .i64 a] w fun e w' => ∃ (ad' : Option Addr) (c' : Nat), e = .returned (.slice ad' a c') ∧ PartAt B o k n s ad a c w' ∧ PlaceAt G p w' ∧ Hid (R (.returned (.bool true)) (set4 w' G p (.int .i64 k) (.int .i64 n) (.string s) (.slice ad' a c')))) :
    Calls Try.prog 55 #[.pointer (some ⟨q, 0, none⟩), .pointer (some ⟨B, o, none⟩), dv] w0 R := by
  have H1 := Lib.hid C1
  have H2 := Lib.hid C2
  have H3 := Lib.hid C3
  have hf := h0
  clear C1 C2 C3 h0
  go_enter Try.func55, Try.ntmps55
  go_wp2_with fail
  go_region_held3 (fun w' => w'.cell? ⟨B, o, none⟩ = some (.int .i64 k) ∧ w'.cell? ⟨B, o + 1, none⟩ = some (.int .i64 n) ∧ w'.cell? ⟨B, o + 2, none⟩ = some (.string s) ∧ w'.cell? ⟨B, o + 3, none⟩ = some (.slice ad a c))
    (first | exact ⟨hf.p0, hf.p1, hf.p2, hf.p3⟩ | exact ⟨part_far hB hf.p0, part_far hB hf.p1, part_far hB hf.p2, part_far hB hf.p3⟩)
    (first | (go_at_call 47; refine (H1.out 1).mono ?_; rintro _ w1 ⟨rfl, hp1, hf⟩) | (go_at_call 60; refine (H2.out _ hp1).mono ?_; rintro _ w2 ⟨rfl, hp2, hf⟩) | (go_at_call 54; refine (H3.out _ hp2).mono ?_; rintro _ w3 ⟨ad', c', rfl, hf, hpl, hr⟩; obtain ⟨⟨u0, v0⟩, ⟨u1, v1⟩, ⟨u2, v2⟩, ⟨u3, v3⟩, fr⟩ := hpl; have f0 := fr p; have f1 := fr (p + 1); have f2 := fr (p + 2); have f3 := fr (p + 3)))
  all_goals
    go_wp2
    exact hr.out

end Go.Proofs.Ytkidcchafdiofaa
