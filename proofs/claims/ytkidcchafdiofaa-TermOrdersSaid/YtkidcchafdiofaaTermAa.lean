/- The document's examples: alive answers true. Conditions: none. -/
import Derived.Test.YtkidcchafdiofaaTermZ
namespace Go.Proofs.Ytkidcchafdiofaa
open Go Go.RowKit

def v4 (n : Int) : List Value := [.int .i64 1, .int .i64 n, .string ⟨#[]⟩, .slice none 0 0]
/-- what stands while alive asks: the example's term -/
structure AL (w w' : World) : Prop where
  size : w.heap.size + 1 + 1 + 1 + 1 + 1 + 1 + 1 < w'.heap.size
  var : w'.heap[w.heap.size + 1 + 1 + 1 + 1 + 1 + 1 + 1]? = some (.cells #[.int .i64 4, .int .i64 0, .string ⟨#[102]⟩, .slice (some ⟨w.heap.size + 1 + 1 + 1 + 1 + 1, 0, none⟩) 2 2] 27 (0, 0))
  mem : (exT (w.heap.size + 1 + 1 + 1) (w.heap.size + 1 + 1 + 1 + 1 + 1) 7 2 7).mem w'
  below : Below w.heap.size w w'
theorem AL.next {w w1 w2 : World} (h : AL w w1) (hb : Below w1.heap.size w1 w2) : AL w w2 :=
  ⟨Nat.lt_of_lt_of_le h.size hb.size, (hb.block _ h.size).trans h.var, AT.mem_below hb (AT.ins_size _ h.mem) h.mem, h.below.trans (hb.mono h.below.size)⟩
theorem AL.cells {w w' : World} (h : AL w w') : w'.cell? ⟨w.heap.size + 1 + 1 + 1 + 1 + 1 + 1 + 1, 0, none⟩ = some (.int .i64 4) ∧ w'.cell? ⟨w.heap.size + 1 + 1 + 1 + 1 + 1 + 1 + 1, 1, none⟩ = some (.int .i64 0) ∧ w'.cell? ⟨w.heap.size + 1 + 1 + 1 + 1 + 1 + 1 + 1, 2, none⟩ = some (.string ⟨#[102]⟩) ∧ w'.cell? ⟨w.heap.size + 1 + 1 + 1 + 1 + 1 + 1 + 1, 3, none⟩ = some (.slice (some ⟨w.heap.size + 1 + 1 + 1 + 1 + 1, 0, none⟩) 2 2) :=
  ⟨cell_of_heap h.var rfl, cell_of_heap h.var rfl, cell_of_heap h.var rfl, cell_of_heap h.var rfl⟩
def exW (w : World) : World :=
  (((((((w.alloc (.cells #[.int .i64 1, .int .i64 7, .string ⟨#[]⟩, .slice none 0 0] 27)).alloc (.cells #[.int .i64 1, .int .i64 2, .string ⟨#[]⟩, .slice none 0 0] 27)).alloc (.cells #[.int .i64 1, .int .i64 7, .string ⟨#[]⟩, .slice none 0 0] 27)).alloc
    (.cells #[.int .i64 1, .int .i64 2, .string ⟨#[]⟩, .slice none 0 0, .int .i64 1, .int .i64 7, .string ⟨#[]⟩, .slice none 0 0] 27)).alloc (.cells #[.int .i64 4, .int .i64 0, .string ⟨#[103]⟩, .slice (some ⟨w.heap.size + 1 + 1 + 1, 0, none⟩) 2 2] 27)).alloc
    (.cells #[.int .i64 1, .int .i64 7, .string ⟨#[]⟩, .slice none 0 0, .int .i64 4, .int .i64 0, .string ⟨#[103]⟩, .slice (some ⟨w.heap.size + 1 + 1 + 1, 0, none⟩) 2 2] 27)).alloc (.cells #[.int .i64 4, .int .i64 0, .string ⟨#[102]⟩, .slice (some ⟨w.heap.size + 1 + 1 + 1 + 1 + 1, 0, none⟩) 2 2] 27)).alloc
    (.cells #[.int .i64 4, .int .i64 0, .string ⟨#[102]⟩, .slice (some ⟨w.heap.size + 1 + 1 + 1 + 1 + 1, 0, none⟩) 2 2] 27)
theorem al_start (w : World) : AL w (exW w) := by
  refine ⟨by simp [exW], new_at _ _ (by simp), ex_mem (T := 27) ?_ ?_, ?_⟩
  · unfold exW
    rw [Below.heap_alloc _ _ _ (by simp <;> omega), Below.heap_alloc _ _ _ (by simp <;> omega), Below.heap_alloc _ _ _ (by simp <;> omega), Below.heap_alloc _ _ _ (by simp <;> omega)]
    exact new_at _ _ (by simp)
  · unfold exW
    rw [Below.heap_alloc _ _ _ (by simp <;> omega), Below.heap_alloc _ _ _ (by simp <;> omega)]
    exact new_at _ _ (by simp)
  · refine (((((((below3.alloc ?_ _).alloc ?_ _).alloc ?_ _).alloc ?_ _).alloc ?_ _)))
    all_goals
      simp
      try omega

theorem row2 {w : World} {v x y : Value} (h : w.ownsRow 0 2 1 v [x, y].length [x, y]) : ∃ g cap, v = .slice (some ⟨g, 0, none⟩) 2 cap ∧ 2 ≤ cap ∧ cap ≤ 9223372036854775807 ∧ g < w.heap.size ∧ w.cell? ⟨g, 0, none⟩ = some x ∧ w.cell? ⟨g, 1, none⟩ = some y := by
  obtain ⟨_, h | ⟨g, cap, cur, hv, _, h2, h3, h4, h5, h6⟩⟩ := h
  · simp at h
  · have hk : ∀ j, j < 2 → cur[j]? = [x, y][j]? := fun j hj => by
      rw [← h6, List.getElem?_take, if_pos (by simpa using hj)]
      simp
    exact ⟨g, cap, hv, h3, by unfold maxLen at h4; omega, (Array.getElem?_eq_some_iff.1 h2).1, cell_of_heap h2 (hk 0 (by omega)), cell_of_heap h2 (hk 1 (by omega))⟩
theorem below7 {w : World} {a b c d e f g : Obj} : Below w.heap.size w (((((((w.alloc a).alloc b).alloc c).alloc d).alloc e).alloc f).alloc g) := by
  refine ((((below3.alloc ?_ _).alloc ?_ _).alloc ?_ _).alloc ?_ _)
  all_goals
    simp
    try omega
set_option maxRecDepth 100000 in
set_option maxHeartbeats 4000000 in
theorem alive_is (w : World) : Calls Try.prog 9 #[] w fun e w' => e = .returned (.bool true) ∧ Below w.heap.size w w' := by
  have A0 := Lib.hid (al_start w)
  unfold exW at A0
  have CV := Lib.hid (fun w' (h : AL w w') => show Calls Try.prog 19 #[.agg #[.int .i64 4, .int .i64 0, .string ⟨#[102]⟩, .slice (some ⟨w.heap.size + 1 + 1 + 1 + 1 + 1, 0, none⟩) 2 2]] w' (VarsPost w' [7, 2]) from vars_is (exT (w.heap.size + 1 + 1 + 1) (w.heap.size + 1 + 1 + 1 + 1 + 1) 7 2 7) w' h.mem (by rw [ex_nodes]; omega) (ex_n _ _))
  have CN := Lib.hid (fun w' (h : AL w w') => show Calls Try.prog 25 #[.agg #[.int .i64 4, .int .i64 0, .string ⟨#[102]⟩, .slice (some ⟨w.heap.size + 1 + 1 + 1 + 1 + 1, 0, none⟩) 2 2]] w' (MendPost w' ((exT (w.heap.size + 1 + 1 + 1) (w.heap.size + 1 + 1 + 1 + 1 + 1) 7 2 7).erase.ren [7, 2])) from numberT_is (exT (w.heap.size + 1 + 1 + 1) (w.heap.size + 1 + 1 + 1 + 1 + 1) 7 2 7) w' h.mem (by rw [ex_nodes]; omega) (ex_n _ _) (ex_s _ _))
  have CC := Lib.hid (fun w' (h : AL w w') => show Calls Try.prog 12 #[.agg #[.int .i64 4, .int .i64 0, .string ⟨#[102]⟩, .slice (some ⟨w.heap.size + 1 + 1 + 1 + 1 + 1, 0, none⟩) 2 2]] w' (fun e w2 => e = .returned (.int .i64 0) ∧ Below w'.heap.size w' w2) from (checkT_is (exT (w.heap.size + 1 + 1 + 1) (w.heap.size + 1 + 1 + 1 + 1 + 1) 7 2 7) w' h.mem (by rw [ex_nodes]; omega)).mono fun e w2 hp => by
    obtain ⟨p, d, b, rfl, hb, hpd, hbl⟩ := hp
    rw [ex_ok] at hb
    have hb2 : b = false := hb
    subst hb2
    obtain ⟨rfl, rfl⟩ := hpd rfl
    rw [ex_nodes, ex_deep]
    exact ⟨rfl, hbl⟩)
  have CS := Lib.hid (fun w' (h : AL w w') => show Calls Try.prog 14 #[.agg #[.int .i64 4, .int .i64 0, .string ⟨#[102]⟩, .slice (some ⟨w.heap.size + 1 + 1 + 1 + 1 + 1, 0, none⟩) 2 2]] w' (fun e w2 => e = .returned (.int .i64 5) ∧ Below w'.heap.size w' w2) from size_is (exT (w.heap.size + 1 + 1 + 1) (w.heap.size + 1 + 1 + 1 + 1 + 1) 7 2 7) w' h.mem (by rw [ex_nodes]; omega))
  have CD := Lib.hid (fun w' (h : AL w w') => show Calls Try.prog 16 #[.agg #[.int .i64 4, .int .i64 0, .string ⟨#[102]⟩, .slice (some ⟨w.heap.size + 1 + 1 + 1 + 1 + 1, 0, none⟩) 2 2]] w' (fun e w2 => e = .returned (.int .i64 3) ∧ Below w'.heap.size w' w2) from (deep_is (exT (w.heap.size + 1 + 1 + 1) (w.heap.size + 1 + 1 + 1 + 1 + 1) 7 2 7) w' h.mem (by rw [ex_nodes]; omega)).mono fun e w2 hp => by
    rw [ex_nodes, ex_deep] at hp
    exact hp)
  have CCmp := Lib.hid (fun (w' : World) (b c : Nat) (h1 : w'.heap[b]? = some (.cells #[.int .i64 3, .int .i64 0, .string ⟨#[97]⟩, .slice none 0 0, .int .i64 3, .int .i64 0, .string ⟨#[98]⟩, .slice none 0 0] 27 (0, 0))) (h2 : w'.heap[c]? = some (.cells #[.int .i64 3, .int .i64 0, .string ⟨#[99]⟩, .slice none 0 0] 27 (0, 0))) =>
    show Calls Try.prog 21 #[.agg #[.int .i64 4, .int .i64 0, .string ⟨#[102]⟩, .slice (some ⟨b, 0, none⟩) 2 2], .agg #[.int .i64 4, .int .i64 0, .string ⟨#[103]⟩, .slice (some ⟨c, 0, none⟩) 1 1]] w' (fun e w2 => e = .returned (.int .i64 1) ∧ Below w'.heap.size w' w2) from
      compare_is (fT ⟨#[102]⟩ b [aT ⟨#[97]⟩, aT ⟨#[98]⟩]) (fT ⟨#[103]⟩ c [aT ⟨#[99]⟩]) w' (f_mem h1 (by simp) (fun t ht => by simp at ht; rcases ht with rfl | rfl <;> exact a_mem _ _)) (f_mem h2 (by simp) (fun t ht => by simp at ht; subst ht; exact a_mem _ _)) (by show 3 ≤ 800000; omega) (by show 2 ≤ 800000; omega))
  go_enter Try.func9, Try.ntmps9
  go_wp2_with (first | (go_at_call 31; refine (v_is _ _).mono ?_; rintro _ _ ⟨rfl, rfl⟩) | (go_at_call 30; refine (f_is _ _ _ _ _).mono ?_; rintro _ _ ⟨rfl, rfl⟩))
  refine (CV.out _ A0.out).mono ?_
  rintro e w1 ⟨v, rfl, o1, hb1, _⟩
  obtain ⟨g, cap, rfl, hc1, hc2, hg, y0, y1⟩ := row2 o1
  have A1 := Lib.hid (A0.out.next hb1)
  have Y := Lib.hid (And.intro hg (And.intro y0 y1))
  clear o1 hb1 hg y0 y1 CV A0
  go_wp2_with (first | (go_at_call 32; refine (a_is _ _).mono ?_; rintro _ _ ⟨rfl, rfl⟩) | (go_at_call 30; refine (f_is _ _ _ _ _).mono ?_; rintro _ _ ⟨rfl, rfl⟩))
  refine (CCmp.out _ (w1.heap.size + 1 + 1) (w1.heap.size + 1 + 1 + 1 + 1 + 1) ?_ ?_).mono ?_
  · rw [Below.heap_alloc _ _ _ (by simp <;> omega), Below.heap_alloc _ _ _ (by simp <;> omega), Below.heap_alloc _ _ _ (by simp <;> omega), Below.heap_alloc _ _ _ (by simp <;> omega)]
    exact new_at _ _ (by simp)
  · rw [Below.heap_alloc _ _ _ (by simp <;> omega)]
    exact new_at _ _ (by simp)
  rintro e w2 ⟨rfl, hb2⟩
  have hb2' : Below w1.heap.size w1 w2 := below7.trans (hb2.mono (by simp; omega))
  have A2 := Lib.hid (A1.out.next hb2')
  have y0 := (hb2'.cell (p := ⟨g, 0, none⟩) Y.out.1).trans Y.out.2.1
  have y1 := (hb2'.cell (p := ⟨g, 1, none⟩) Y.out.1).trans Y.out.2.2
  obtain ⟨t0, t1, t2, t3⟩ := A2.out.cells
  have hT := A2.out.size
  clear hb2 hb2' A1 Y CCmp
  go_wp2_with fail
  refine (CN.out _ A2.out).mono ?_
  rintro e w3 ⟨u, rfl, u1, u2, u3, hb3⟩
  obtain ⟨ux, uy, usv, _⟩ := sv_form (AT.mem_mk.1 u2).1
  have A3 := Lib.hid (A2.out.next hb3)
  have CSame := Lib.hid (fun (w' : World) (b c : Nat) (hb : Below w3.heap.size w3 w') h1 h2 => same_is u.nodes u (exT b c 0 1 0) w' (Nat.le_refl _) (AT.mem_below hb (AT.ins_size _ u2) u2) (ex_mem (T := 27) h1 h2) (by rw [ex_nodes]; omega) (by rw [← AT.nodes_erase, u1]; show 5 ≤ 800000; omega))
  have HE := Lib.hid (fun b c => AT.same_erase u (exT b c 0 1 0) (u1.trans (ex_ren _ _ b c)))
  have HSV := Lib.hid usv
  rw [usv]
  clear u1 u2 u3 hb3 usv y0 y1 t0 t1 t2 t3 hT A2 CN
  go_wp2_with (first | (go_at_call 31; refine (v_is _ _).mono ?_; rintro _ _ ⟨rfl, rfl⟩) | (go_at_call 30; refine (f_is _ _ _ _ _).mono ?_; rintro _ _ ⟨rfl, rfl⟩))
  have CS1 := CSame.out (((((((w3.alloc (.cells #[.int .i64 1, .int .i64 0, .string ⟨#[]⟩, .slice none 0 0] 27)).alloc (.cells #[.int .i64 1, .int .i64 1, .string ⟨#[]⟩, .slice none 0 0] 27)).alloc (.cells #[.int .i64 1, .int .i64 0, .string ⟨#[]⟩, .slice none 0 0] 27)).alloc
    (.cells #[.int .i64 1, .int .i64 1, .string ⟨#[]⟩, .slice none 0 0, .int .i64 1, .int .i64 0, .string ⟨#[]⟩, .slice none 0 0] 27)).alloc (.cells #[.int .i64 4, .int .i64 0, .string ⟨#[103]⟩, .slice (some ⟨w3.heap.size + 1 + 1 + 1, 0, none⟩) 2 2] 27)).alloc
    (.cells #[.int .i64 1, .int .i64 0, .string ⟨#[]⟩, .slice none 0 0, .int .i64 4, .int .i64 0, .string ⟨#[103]⟩, .slice (some ⟨w3.heap.size + 1 + 1 + 1, 0, none⟩) 2 2] 27)).alloc (.cells #[.int .i64 4, .int .i64 0, .string ⟨#[102]⟩, .slice (some ⟨w3.heap.size + 1 + 1 + 1 + 1 + 1, 0, none⟩) 2 2] 27))
    (w3.heap.size + 1 + 1 + 1) (w3.heap.size + 1 + 1 + 1 + 1 + 1) below7
    (by
      rw [Below.heap_alloc _ _ _ (by simp <;> omega), Below.heap_alloc _ _ _ (by simp <;> omega), Below.heap_alloc _ _ _ (by simp <;> omega)]
      exact new_at _ _ (by simp))
    (by
      rw [Below.heap_alloc _ _ _ (by simp <;> omega)]
      exact new_at _ _ (by simp))
  rw [HE.out, AT.val, HSV.out] at CS1
  refine CS1.mono ?_
  rintro e w4 ⟨rfl, hb4⟩
  have A4 := Lib.hid (A3.out.next (below7.trans (hb4.mono (by simp; omega))))
  obtain ⟨t0, t1, t2, t3⟩ := A4.out.cells
  have hT := A4.out.size
  clear hb4 CS1 CSame HE HSV A3
  go_wp2_with fail
  refine (CC.out _ A4.out).mono ?_
  rintro e w5 ⟨rfl, hb5⟩
  have A5 := Lib.hid (A4.out.next hb5)
  clear hb5 t0 t1 t2 t3 hT A4
  obtain ⟨t0, t1, t2, t3⟩ := A5.out.cells
  have hT := A5.out.size
  go_wp2_with fail
  refine (CS.out _ A5.out).mono ?_
  rintro e w6 ⟨rfl, hb6⟩
  have A6 := Lib.hid (A5.out.next hb6)
  clear hb6 t0 t1 t2 t3 hT A5
  obtain ⟨t0, t1, t2, t3⟩ := A6.out.cells
  have hT := A6.out.size
  go_wp2_with fail
  refine (CD.out _ A6.out).mono ?_
  rintro e w7 ⟨rfl, hb7⟩
  have A7 := Lib.hid (A6.out.next hb7)
  clear hb7 t0 t1 t2 t3 hT A6
  go_wp2
  go_ret
  exact ⟨rfl, A7.out.below⟩

end Go.Proofs.Ytkidcchafdiofaa
