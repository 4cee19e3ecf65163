/- The program's table of operators: Op where it lets nothing, and where it unmakes. Conditions: the listed variables read as the text lays them; the name has at most 2000 bytes; the operators are at most 300. -/
import Derived.Test.YtnnhpjpfmmlimaaDoorOpG
namespace Go.Proofs.YtnnhpjpfmmlimaaDoor
open Go Go.RowKit Go.Maps
open Go.WideMaps Go.WideElems

structure OpPost (w : World) (a m : Nat) (L : List Df) (d : Df) (e : Ending) (w' : World) : Prop where
  ans : e = .returned (.int .i64 (opZ L d).1)
  tab : Tb w' a m (opZ L d).2
  grown : w.grownBy w' (some m)
theorem grown_of {w w' : World} (h : Below w.heap.size w w') (r : Option Nat) : w.grownBy w' r := ⟨h.os, h.tape, h.output, h.size, fun k hk _ => h.block k hk⟩
theorem OpPost.same {w w' : World} {a m : Nat} {L : List Df} {d : Df} {e : Ending} (h : Tb w a m L) (hb : Below w.heap.size w w') (h1 : e = .returned (.int .i64 (opZ L d).1)) (h2 : (opZ L d).2 = L) : OpPost w a m L d e w' :=
  ⟨h1, by rw [h2]; exact h.on hb, grown_of hb _⟩

/-- Op's arguments are let -/
structure ArgOK (p t : Int) (n : ByteArray) : Prop where
  p0 : 0 ≤ p
  p1 : p ≤ 1200
  t0 : 1 ≤ t
  t1 : t ≤ 7
  n0 : n.size ≤ 1000
theorem arg_ok {p t : Int} {n : ByteArray} (h : argB p t n = false) : ArgOK p t n := by
  unfold argB at h
  simp at h
  exact ⟨by omega, by omega, by omega, by omega, by omega⟩

set_option maxHeartbeats 800000 in
theorem op_arg (a : Nat) (p t : Int) (n : ByteArray) (w : World) (h : argB p t n = true) :
    Calls Tryd.prog 10 #[.pointer (some ⟨a, 0, none⟩), .int .i64 p, .int .i64 t, .string n] w fun e w' => e = .returned (.int .i64 2) ∧ w' = w := by
  unfold argB at h
  simp only [Bool.or_eq_true, decide_eq_true_eq] at h
  by_cases h1 : p < 0
  · clear h
    go_enter Tryd.func10, Tryd.ntmps10
    go_wp2_with fail
    go_ret
    exact ⟨rfl, rfl⟩
  by_cases h2 : 1200 < p
  · clear h
    go_enter Tryd.func10, Tryd.ntmps10
    go_wp2_with fail
    go_ret
    exact ⟨rfl, rfl⟩
  by_cases h3 : t < 1
  · clear h
    go_enter Tryd.func10, Tryd.ntmps10
    go_wp2_with fail
    go_ret
    exact ⟨rfl, rfl⟩
  by_cases h4 : 7 < t
  · clear h
    go_enter Tryd.func10, Tryd.ntmps10
    go_wp2_with fail
    go_ret
    exact ⟨rfl, rfl⟩
  have h5 : 1000 < n.size := by
    rcases h with (((h | h) | h) | h) | h
    · exact absurd h h1
    · exact absurd h h2
    · exact absurd h h3
    · exact absurd h h4
    · exact h
  have h6 : decide ((1000 : Int) < (n.size : Int)) = true := by simp; omega
  clear h
  go_enter Tryd.func10, Tryd.ntmps10
  go_wp2_with fail
  go_ret
  exact ⟨rfl, rfl⟩

set_option maxHeartbeats 800000 in
theorem op_fixed (a : Nat) (p t : Int) (n : ByteArray) (w : World) (h : ArgOK p t n) (hf : fixedB n = true) :
    Calls Tryd.prog 10 #[.pointer (some ⟨a, 0, none⟩), .int .i64 p, .int .i64 t, .string n] w fun e w' => e = .returned (.int .i64 15) ∧ w' = w := by
  have h1 : ¬ p < 0 := by have := h.p0; omega
  have h2 : ¬ 1200 < p := by have := h.p1; omega
  have h3 : ¬ t < 1 := by have := h.t0; omega
  have h4 : ¬ 7 < t := by have := h.t1; omega
  have h5 : ¬ 1000 < n.size := by have := h.n0; omega
  have h6 : decide ((1000 : Int) < (n.size : Int)) = false := by simp; omega
  have F := fixed_is n w
  rw [show (n.toList == [44] || n.toList == [124] || n.toList == [91, 93] || n.toList == [123, 125]) = true from hf] at F
  have HF := Lib.hid F
  clear F hf h
  go_enter Tryd.func10, Tryd.ntmps10
  go_wp2_with fail
  refine HF.out.mono ?_
  rintro e w' ⟨rfl, hw⟩
  obtain rfl := hw.symm
  go_wp2_with fail
  go_ret
  exact ⟨rfl, rfl⟩

theorem op_nil (p t : Int) (n : ByteArray) (w : World) :
    Calls Tryd.prog 10 #[.pointer none, .int .i64 p, .int .i64 t, .string n] w fun e w' => e = .returned (.int .i64 1) ∧ w' = w := by
  go_enter Tryd.func10, Tryd.ntmps10
  go_wp2_with fail
  go_ret
  exact ⟨rfl, rfl⟩

/-- what is needed at Op's key -/
structure KeyIn (w W : World) (n : ByteArray) (s : Int) : Prop where
  row : W.heap[w.heap.size]? = some (.cells #[.string n, .int .i64 s] 71 (0, 0))
  below : Below w.heap.size w W
theorem sort_cell {w : World} (hl : Lay w) {k : Nat} (h1 : 1 ≤ k) (h7 : k ≤ 7) : w.cell? ⟨0, k * 3, none⟩ = some (.int .i64 (srt k)) := by
  obtain rfl | rfl | rfl | rfl | rfl | rfl | rfl : k = 1 ∨ k = 2 ∨ k = 3 ∨ k = 4 ∨ k = 5 ∨ k = 6 ∨ k = 7 := by omega
  all_goals exact hl.sh _ _ rfl

set_option maxRecDepth 100000 in
set_option maxHeartbeats 1600000 in
theorem op_zero (a m : Nat) (L : List Df) (t : Int) (n : ByteArray) (w : World) (hl : Lay w) (hT : Tb w a m L) (h : ArgOK 0 t n) (hf : fixedB n = false) :
    Calls Tryd.prog 10 #[.pointer (some ⟨a, 0, none⟩), .int .i64 0, .int .i64 t, .string n] w fun e w' => e = .returned (.int .i64 0) ∧ Tb w' a m (rmv L n (srt t)) ∧ w.grownBy w' (some m) := by
  obtain ⟨k, rfl⟩ := Int.eq_ofNat_of_zero_le (by have := h.t0; omega : 0 ≤ t)
  have h3 : ¬ (k : Int) < 1 := by have := h.t0; omega
  have h4 : ¬ 7 < (k : Int) := by have := h.t1; omega
  have h5 : ¬ 1000 < n.size := by have := h.n0; omega
  have h6 : decide ((1000 : Int) < (n.size : Int)) = false := by simp; omega
  have i0 : (0 : Int) ≤ (k : Int) := by omega
  have i1 : (k : Int) < 8 := by omega
  have F := fixed_is n w
  rw [show (n.toList == [44] || n.toList == [124] || n.toList == [91, 93] || n.toList == [123, 125]) = false from hf] at F
  have HF := Lib.hid F
  have s0 := sort_cell hl (k := k) (by omega) (by omega)
  obtain ⟨s, hs⟩ : ∃ s, srt (k : Int) = s := ⟨_, rfl⟩
  have hs4 := srt4 (k : Int)
  rw [hs] at s0 hs4 ⊢
  have hW : Below w.heap.size w (w.alloc (.cells #[.string n, .int .i64 s] 71)) := (Below.refl _ _).alloc (Nat.le_refl _) _
  have e0 : (w.alloc (.cells #[.string n, .int .i64 s] 71)).heap[w.heap.size]? = some (.cells #[.string n, .int .i64 s] 71 (0, 0)) := new_at _ _ rfl
  have t1 := hT.on hW
  obtain ⟨W1, hW1⟩ : ∃ W1, w.alloc (.cells #[.string n, .int .i64 s] 71) = W1 := ⟨_, rfl⟩
  rw [hW1] at hW e0 t1
  have HW1 := Lib.hid hW1
  have hkey := keyOf_kl (n := n) (s := s) (small (by omega)) hs4
  have HK := Lib.hid hkey
  obtain ⟨c0, c1, _, _⟩ := two_facts e0
  have q0 := t1.cells.1
  have G1 := Lib.hid (grown_of hW (some m))
  have FIN := Lib.hid (fun w2 (D : DataW Unit) (hr : Rel D L) (n' : Nat) (ho : w2.ownsMap Tryd.prog 71 dfR m n' (D.del (kl n s))) (hg : W1.grownBy w2 (some m)) => show Tb w2 a m (rmv L n s) from
    ⟨(hg.block a t1.lt.1 (by simpa using t1.ne.symm)).trans t1.row, ⟨_, own_tight ho, hr.del t1.wf (small (by omega)) hs4⟩, t1.wf.rmv _ _, t1.ne⟩)
  obtain ⟨D, ho, hr⟩ := t1.own
  have OWN := Lib.hid ho
  have HR := Lib.hid hr
  clear F hf h hW1 hW e0 t1 hT hl hs hkey ho hr hs4
  go_enter Tryd.func10, Tryd.ntmps10
  go_wp2_with fail
  refine HF.out.mono ?_
  rintro e w' ⟨rfl, hw⟩
  obtain rfl := hw.symm
  go_wp2_with fail
  rw [HW1.out]
  go_still_tail 5, (by kernel_rfl)
  refine wpList_delete_own W1.drew rfl _ _ 53 71 rfl 45 keyLaw Tryd.underlying53 dfR m _ D rfl OWN.out _ _ rfl HK.out ?_
  intro w2 h2 t2
  have G2 : W1.grownBy w2 (some m) := undrew t2.grown
  have FF := FIN.out w2 D HR.out _ h2 G2
  have GG := G1.out.trans G2
  go_wp2_with fail
  go_ret
  exact ⟨rfl, FF, GG⟩

end Go.Proofs.YtnnhpjpfmmlimaaDoor
