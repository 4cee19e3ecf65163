/- Joined texts: OpG OpH OpI OpJ OpK. Conditions: as each states. -/
import Derived.Test.YtkplokfcjjcpcaaGreatDoorRk15
section
namespace Go.Proofs.YtkplokfcjjcpcaaGreatDoor.Ops
open Go Go.RowKit Go.Maps
open Go.WideMaps Go.WideElems
def fixedB (n : ByteArray) : Bool := n.toList == [44] || n.toList == [124] || n.toList == [91, 93] || n.toList == [123, 125]
def rivZ (s : Int) : Int := if s = 2 then 3 else if s = 3 then 2 else 0
def argB (p t : Int) (n : ByteArray) : Bool := decide (p < 0) || decide (1200 < p) || decide (t < 1) || decide (7 < t) || decide (1000 < n.size)
def opZ (L : List Df) (d : Df) : Int × List Df :=
  if argB d.pri d.typ d.name then (2, L)
  else if fixedB d.name then (15, L)
  else if d.pri = 0 then (0, rmv L d.name (srt d.typ))
  else if (fnd L d.name (rivZ (srt d.typ))).isSome then (15, L)
  else if 256 ≤ L.length ∧ (fnd L d.name (srt d.typ)).isSome = false then (9, L)
  else (0, ins L d)
theorem rmv_len (L : List Df) (n : ByteArray) (s : Int) : (rmv L n s).length ≤ L.length := List.length_filter_le _ _
theorem ins_there {L : List Df} {d : Df} (h : (fnd L d.name (srt d.typ)).isSome = true) : (ins L d).length ≤ L.length := by
  obtain ⟨x, hx⟩ := Option.isSome_iff_exists.1 h
  have hm := fnd_mem hx
  unfold ins rmv
  rw [List.length_append, List.length_singleton]
  have : (L.filter fun y => !y.is d.name (srt d.typ)).length < L.length := by
    rw [List.length_filter_lt_length_iff_exists]
    exact ⟨x, hm.1, by simp [is_iff.2 hm.2]⟩
  omega
theorem op_small {L : List Df} {d : Df} (hw : Wf L) (hL : L.length ≤ 256) : Wf (opZ L d).2 ∧ (opZ L d).2.length ≤ 256 := by
  unfold opZ
  split
  · exact ⟨hw, hL⟩
  · rename_i ha
    split
    · exact ⟨hw, hL⟩
    · split
      · exact ⟨hw.rmv _ _, Nat.le_trans (rmv_len _ _ _) hL⟩
      · rename_i hp
        split
        · exact ⟨hw, hL⟩
        · split
          · exact ⟨hw, hL⟩
          · rename_i hf
            unfold argB at ha
            simp at ha
            refine ⟨hw.ins ⟨by omega, by omega, by omega, by omega, by omega⟩, ?_⟩
            cases hs : (fnd L d.name (srt d.typ)).isSome
            · have : ¬ 256 ≤ L.length := fun h => hf ⟨h, hs⟩
              unfold ins
              have := rmv_len L d.name (srt d.typ)
              simp
              omega
            · exact Nat.le_trans (ins_there hs) hL
theorem two_facts {w : World} {b : Nat} {T : TypeId} {x0 x1 : Value} (h : w.heap[b]? = some (.cells #[x0, x1] T (0, 0))) : w.cell? ⟨b, 0, none⟩ = some x0 ∧ w.cell? ⟨b, 1, none⟩ = some x1 ∧ w.frozen? ⟨b, 0, none⟩ = false ∧ w.frozen? ⟨b, 1, none⟩ = false :=
  ⟨cell_of_heap h rfl, cell_of_heap h rfl, free_of_heap h, free_of_heap h⟩
theorem two_cells {w : World} {b : Nat} {T : TypeId} {x0 x1 : Value} (h : w.heap[b]? = some (.cells #[x0, x1] T (0, 0))) (n : ByteArray) :
    (w.setCell ⟨b, 0, none⟩ (.string n)).cell? ⟨b, 0, none⟩ = some (.string n) ∧ ∀ k : Int, ((w.setCell ⟨b, 0, none⟩ (.string n)).setCell ⟨b, 1, none⟩ (.int .i64 k)).cell? ⟨b, 1, none⟩ = some (.int .i64 k) :=
  ⟨cell_of_heap (heap_set (o := 0) h _) rfl, fun _ => cell_of_heap (heap_set (o := 1) (heap_set (o := 0) h _) _) rfl⟩
set_option maxRecDepth 100000 in
set_option maxHeartbeats 1600000 in
theorem rival_is (n : ByteArray) (s : Int) (w : World) (hl : Lay rivalsL w) (hs : s = 1 ∨ s = 2 ∨ s = 3) :
    Calls Tryz.prog 62 #[.agg #[.string n, .int .i64 s]] w fun e w' => e = .returned (.agg #[.string n, .int .i64 (rivZ s)]) ∧ Below w.heap.size w w' := by
  have hW : Hid (Below w.heap.size w ((w.alloc (.cells #[.string n, .int .i64 s] 134)).alloc (.cells #[.string ⟨#[]⟩, .int .i64 0] 134))) := ((Below.refl _ _).alloc (Nat.le_refl _) _).alloc (by simp) _
  have e0 : ((w.alloc (.cells #[.string n, .int .i64 s] 134)).alloc (.cells #[.string ⟨#[]⟩, .int .i64 0] 134)).heap[w.heap.size]? = some (.cells #[.string n, .int .i64 s] 134 (0, 0)) := by
    rw [Below.heap_alloc _ _ _ (by simp)]
    exact new_at _ _ rfl
  have e1 : ((w.alloc (.cells #[.string n, .int .i64 s] 134)).alloc (.cells #[.string ⟨#[]⟩, .int .i64 0] 134)).heap[w.heap.size + 1]? = some (.cells #[.string ⟨#[]⟩, .int .i64 0] 134 (0, 0)) := new_at _ _ (by simp)
  have hl2 := hl.on hW
  obtain ⟨W1, hW1⟩ : ∃ W1, ((w.alloc (.cells #[.string n, .int .i64 s] 134)).alloc (.cells #[.string ⟨#[]⟩, .int .i64 0] 134)) = W1 := ⟨_, rfl⟩
  rw [hW1] at hW e0 e1 hl2
  have HW1 := Lib.hid hW1
  have c0 := cell_of_heap (o := 0) e0 rfl
  have c1 := cell_of_heap (o := 1) e0 rfl
  have d0 := cell_of_heap (o := 0) e1 rfl
  have d1 := cell_of_heap (o := 1) e1 rfl
  have z0 := free_of_heap (o := 0) e1
  have z1 := free_of_heap (o := 1) e1
  simp only [List.getElem_toArray, List.getElem_cons_zero, List.getElem_cons_succ] at c0 c1 d0 d1
  have E1 := Lib.hid e1
  clear hW1 e0 e1 hl d0 d1 z0 z1
  rcases hs with rfl | rfl | rfl
  all_goals
    have r1 := hl2.rv 1 _ rfl
    have r2 := hl2.rv 2 _ rfl
    have r3 := hl2.rv 3 _ rfl
    clear hl2
    go_enter Tryz.func62, Tryz.ntmps62
    go_wp2_with fail
    rw [HW1.out]
    go_still_tail 7, (by kernel_rfl)
    change wpList _ _ _ _ _ W1.drew
    have e2 : W1.drew.heap[w.heap.size + 1]? = some (.cells #[.string ⟨#[]⟩, .int .i64 0] 134 (0, 0)) := E1.out
    have b2 : Below w.heap.size w W1.drew := hW.out.drew
    clear c0 c1 r1 r2 r3 hW HW1 E1
    obtain ⟨W2, hW2⟩ : ∃ W2, W1.drew = W2 := ⟨_, rfl⟩
    rw [hW2] at e2 b2 ⊢
    obtain ⟨d0, d1, z0, z1⟩ := two_facts e2
    obtain ⟨y0, y1⟩ := two_cells e2 n
    have B2 := Lib.hid b2
    clear e2 b2 hW2
    go_wp2_with fail
    first
      | refine bodyPost_ret (v := .agg #[.string n, .int .i64 0]) (by simp [results, Tryz.results62, go_sem, y0, y1]) rfl ⟨rfl, ?_⟩
      | refine bodyPost_ret (v := .agg #[.string n, .int .i64 3]) (by simp [results, Tryz.results62, go_sem, y0, y1]) rfl ⟨rfl, ?_⟩
      | refine bodyPost_ret (v := .agg #[.string n, .int .i64 2]) (by simp [results, Tryz.results62, go_sem, y0, y1]) rfl ⟨rfl, ?_⟩
    exact (B2.out.setCell (p := ⟨w.heap.size + 1, 0, none⟩) (by show w.heap.size ≤ w.heap.size + 1; omega) _).setCell (p := ⟨w.heap.size + 1, 1, none⟩) (by show w.heap.size ≤ w.heap.size + 1; omega) _
end Go.Proofs.YtkplokfcjjcpcaaGreatDoor.Ops
end
section
namespace Go.Proofs.YtkplokfcjjcpcaaGreatDoor.Ops
open Go Go.RowKit Go.Maps
open Go.WideMaps Go.WideElems
structure OpPost (w : World) (a m : Nat) (L : List Df) (d : Df) (e : Ending) (w' : World) : Prop where
  ans : e = .returned (.int .i64 (opZ L d).1)
  tab : Tb w' a m (opZ L d).2
  grown : w.grownBy w' (some m)
theorem grown_of {w w' : World} (h : Below w.heap.size w w') (r : Option Nat) : w.grownBy w' r := ⟨h.os, h.tape, h.output, h.size, fun k hk _ => h.block k hk⟩
theorem OpPost.same {w w' : World} {a m : Nat} {L : List Df} {d : Df} {e : Ending} (h : Tb w a m L) (hb : Below w.heap.size w w') (h1 : e = .returned (.int .i64 (opZ L d).1)) (h2 : (opZ L d).2 = L) : OpPost w a m L d e w' :=
  ⟨h1, by rw [h2]; exact h.on hb, grown_of hb _⟩
structure ArgOK (p t : Int) (n : ByteArray) : Prop where
  p0 : 0 ≤ p
  p1 : p ≤ 1200
  t0 : 1 ≤ t
  t1 : t ≤ 7
  n0 : n.size ≤ 1000
theorem arg_ok {p t : Int} {n : ByteArray} (h : argB p t n = false) : ArgOK p t n := by
  unfold argB at h
  simp at h
  exact ⟨by omega, by omega, by omega, by omega, by omega⟩
set_option maxHeartbeats 800000 in
theorem op_arg (a : Nat) (p t : Int) (n : ByteArray) (w : World) (h : argB p t n = true) :
    Calls Tryz.prog 23 #[.pointer (some ⟨a, 0, none⟩), .int .i64 p, .int .i64 t, .string n] w fun e w' => e = .returned (.int .i64 2) ∧ w' = w := by
  unfold argB at h
  simp only [Bool.or_eq_true, decide_eq_true_eq] at h
  by_cases h1 : p < 0
  · clear h
    go_enter Tryz.func23, Tryz.ntmps23
    go_wp2_with fail
    go_ret
    exact ⟨rfl, rfl⟩
  by_cases h2 : 1200 < p
  · clear h
    go_enter Tryz.func23, Tryz.ntmps23
    go_wp2_with fail
    go_ret
    exact ⟨rfl, rfl⟩
  by_cases h3 : t < 1
  · clear h
    go_enter Tryz.func23, Tryz.ntmps23
    go_wp2_with fail
    go_ret
    exact ⟨rfl, rfl⟩
  by_cases h4 : 7 < t
  · clear h
    go_enter Tryz.func23, Tryz.ntmps23
    go_wp2_with fail
    go_ret
    exact ⟨rfl, rfl⟩
  have h5 : 1000 < n.size := by
    rcases h with (((h | h) | h) | h) | h
    · exact absurd h h1
    · exact absurd h h2
    · exact absurd h h3
    · exact absurd h h4
    · exact h
  have h6 : decide ((1000 : Int) < (n.size : Int)) = true := by simp; omega
  clear h
  go_enter Tryz.func23, Tryz.ntmps23
  go_wp2_with fail
  go_ret
  exact ⟨rfl, rfl⟩
set_option maxHeartbeats 800000 in
theorem op_fixed (a : Nat) (p t : Int) (n : ByteArray) (w : World) (h : ArgOK p t n) (hf : fixedB n = true) :
    Calls Tryz.prog 23 #[.pointer (some ⟨a, 0, none⟩), .int .i64 p, .int .i64 t, .string n] w fun e w' => e = .returned (.int .i64 15) ∧ w' = w := by
  have h1 : ¬ p < 0 := by have := h.p0; omega
  have h2 : ¬ 1200 < p := by have := h.p1; omega
  have h3 : ¬ t < 1 := by have := h.t0; omega
  have h4 : ¬ 7 < t := by have := h.t1; omega
  have h5 : ¬ 1000 < n.size := by have := h.n0; omega
  have h6 : decide ((1000 : Int) < (n.size : Int)) = false := by simp; omega
  have F := fixed_is n w
  rw [show (n.toList == [44] || n.toList == [124] || n.toList == [91, 93] || n.toList == [123, 125]) = true from hf] at F
  have HF := Lib.hid F
  clear F hf h
  go_enter Tryz.func23, Tryz.ntmps23
  go_wp2_with fail
  refine HF.out.mono ?_
  rintro e w' ⟨rfl, hw⟩
  obtain rfl := hw.symm
  go_wp2_with fail
  go_ret
  exact ⟨rfl, rfl⟩
structure KeyIn (w W : World) (n : ByteArray) (s : Int) : Prop where
  row : W.heap[w.heap.size]? = some (.cells #[.string n, .int .i64 s] 134 (0, 0))
  below : Below w.heap.size w W
theorem sort_cell {w : World} (hl : Lay rivalsL w) {k : Nat} (h1 : 1 ≤ k) (h7 : k ≤ 7) : w.cell? ⟨0, k * 3, none⟩ = some (.int .i64 (srt k)) := by
  obtain rfl | rfl | rfl | rfl | rfl | rfl | rfl : k = 1 ∨ k = 2 ∨ k = 3 ∨ k = 4 ∨ k = 5 ∨ k = 6 ∨ k = 7 := by omega
  all_goals exact hl.sh _ _ rfl
set_option maxRecDepth 100000 in
set_option maxHeartbeats 1600000 in
theorem op_zero (a m : Nat) (L : List Df) (t : Int) (n : ByteArray) (w : World) (hl : Lay rivalsL w) (hT : Tb w a m L) (h : ArgOK 0 t n) (hf : fixedB n = false) :
    Calls Tryz.prog 23 #[.pointer (some ⟨a, 0, none⟩), .int .i64 0, .int .i64 t, .string n] w fun e w' => e = .returned (.int .i64 0) ∧ Tb w' a m (rmv L n (srt t)) ∧ w.grownBy w' (some m) := by
  obtain ⟨k, rfl⟩ := Int.eq_ofNat_of_zero_le (by have := h.t0; omega : 0 ≤ t)
  have h3 : ¬ (k : Int) < 1 := by have := h.t0; omega
  have h4 : ¬ 7 < (k : Int) := by have := h.t1; omega
  have h5 : ¬ 1000 < n.size := by have := h.n0; omega
  have h6 : decide ((1000 : Int) < (n.size : Int)) = false := by simp; omega
  have i0 : (0 : Int) ≤ (k : Int) := by omega
  have i1 : (k : Int) < 8 := by omega
  have F := fixed_is n w
  rw [show (n.toList == [44] || n.toList == [124] || n.toList == [91, 93] || n.toList == [123, 125]) = false from hf] at F
  have HF := Lib.hid F
  have s0 := sort_cell hl (k := k) (by omega) (by omega)
  obtain ⟨s, hs⟩ : ∃ s, srt (k : Int) = s := ⟨_, rfl⟩
  have hs4 := srt4 (k : Int)
  rw [hs] at s0 hs4 ⊢
  have hW : Below w.heap.size w (w.alloc (.cells #[.string n, .int .i64 s] 134)) := (Below.refl _ _).alloc (Nat.le_refl _) _
  have e0 : (w.alloc (.cells #[.string n, .int .i64 s] 134)).heap[w.heap.size]? = some (.cells #[.string n, .int .i64 s] 134 (0, 0)) := new_at _ _ rfl
  have t1 := hT.on hW
  obtain ⟨W1, hW1⟩ : ∃ W1, w.alloc (.cells #[.string n, .int .i64 s] 134) = W1 := ⟨_, rfl⟩
  rw [hW1] at hW e0 t1
  have HW1 := Lib.hid hW1
  have hkey := keyOf_kl (n := n) (s := s) (small (by omega)) hs4
  have HK := Lib.hid hkey
  obtain ⟨c0, c1, _, _⟩ := two_facts e0
  have q0 := t1.cells.1
  have G1 := Lib.hid (grown_of hW (some m))
  have FIN := Lib.hid (fun w2 (D : DataW Unit) (hr : Rel D L) (n' : Nat) (ho : w2.ownsMap Tryz.prog 134 dfR m n' (D.del (kl n s))) (hg : W1.grownBy w2 (some m)) => show Tb w2 a m (rmv L n s) from
    ⟨(hg.block a t1.lt.1 (by simpa using t1.ne.symm)).trans t1.row, ⟨_, own_tight ho, hr.del t1.wf (small (by omega)) hs4⟩, t1.wf.rmv _ _, t1.ne⟩)
  obtain ⟨D, ho, hr⟩ := t1.own
  have OWN := Lib.hid ho
  have HR := Lib.hid hr
  clear F hf h hW1 hW e0 t1 hT hl hs hkey ho hr hs4
  go_enter Tryz.func23, Tryz.ntmps23
  go_wp2_with fail
  refine HF.out.mono ?_
  rintro e w' ⟨rfl, hw⟩
  obtain rfl := hw.symm
  go_wp2_with fail
  rw [HW1.out]
  go_still_tail 5, (by kernel_rfl)
  refine wpList_delete_own W1.drew rfl _ _ 119 134 rfl 129 keyLaw Tryz.underlying119 dfR m _ D rfl OWN.out _ _ rfl HK.out ?_
  intro w2 h2 t2
  have G2 : W1.grownBy w2 (some m) := undrew t2.grown
  have FF := FIN.out w2 D HR.out _ h2 G2
  have GG := G1.out.trans G2
  go_wp2_with fail
  go_ret
  exact ⟨rfl, FF, GG⟩
end Go.Proofs.YtkplokfcjjcpcaaGreatDoor.Ops
end
section
namespace Go.Proofs.YtkplokfcjjcpcaaGreatDoor.Ops
open Go Go.RowKit Go.Maps
open Go.WideMaps Go.WideElems
structure OpIn (w W1 : World) (a m : Nat) (L : List Df) (n : ByteArray) (s : Int) : Prop where
  box : w.alloc (.cells #[.string n, .int .i64 s] 134) = W1
  below : Below w.heap.size w W1
  tab : Tb W1 a m L
  lay : Lay rivalsL W1
  row : W1.heap[w.heap.size]? = some (.cells #[.string n, .int .i64 s] 134 (0, 0))
theorem op_in {a m : Nat} {L : List Df} (n : ByteArray) (s : Int) {w : World} (hl : Lay rivalsL w) (hT : Tb w a m L) : ∃ W1, OpIn w W1 a m L n s := by
  have hW : Below w.heap.size w (w.alloc (.cells #[.string n, .int .i64 s] 134)) := (Below.refl _ _).alloc (Nat.le_refl _) _
  exact ⟨_, rfl, hW, hT.on hW, hl.on hW, new_at _ _ rfl⟩
set_option maxRecDepth 100000 in
set_option maxHeartbeats 1600000 in
theorem op_rival (a m : Nat) (L : List Df) (p t : Int) (n : ByteArray) (w : World) (hl : Lay rivalsL w) (hT : Tb w a m L) (h : ArgOK p t n) (hf : fixedB n = false) (hp : ¬ p = 0) (hr : (fnd L n (rivZ (srt t))).isSome = true) :
    Calls Tryz.prog 23 #[.pointer (some ⟨a, 0, none⟩), .int .i64 p, .int .i64 t, .string n] w fun e w' => e = .returned (.int .i64 15) ∧ Below w.heap.size w w' := by
  obtain ⟨k, rfl⟩ := Int.eq_ofNat_of_zero_le (by have := h.t0; omega : 0 ≤ t)
  obtain ⟨j, rfl⟩ := Int.eq_ofNat_of_zero_le h.p0
  have h1 : ¬ 1200 < (j : Int) := by have := h.p1; omega
  have h3 : ¬ (k : Int) < 1 := by have := h.t0; omega
  have h4 : ¬ 7 < (k : Int) := by have := h.t1; omega
  have h5 : ¬ 1000 < n.size := by have := h.n0; omega
  have h6 : decide ((1000 : Int) < (n.size : Int)) = false := by simp; omega
  have h7 : ((j : Int) == 0) = false := by rw [beq_eq_false_iff_ne]; exact hp
  have i0 : (0 : Int) ≤ (k : Int) := by omega
  have i1 : (k : Int) < 8 := by omega
  have F := fixed_is n w
  rw [show (n.toList == [44] || n.toList == [124] || n.toList == [91, 93] || n.toList == [123, 125]) = false from hf] at F
  have HF := Lib.hid F
  have s0 := sort_cell hl (k := k) (by omega) (by omega)
  obtain ⟨s, hs⟩ : ∃ s, srt (k : Int) = s := ⟨_, rfl⟩
  have hs3 := srt_in (k : Int)
  rw [hs] at s0 hs3 hr
  obtain ⟨W1, X⟩ := op_in n s hl hT
  have RV := Lib.hid (rival_is n s W1 X.lay hs3)
  have HAS := Lib.hid (fun w2 (b : Below W1.heap.size W1 w2) => by
    have := has_is a m L n (rivZ s) w2 (X.tab.on b) (small (by omega)) (by rcases hs3 with rfl | rfl | rfl <;> decide)
    rwa [hr] at this)
  have HW1 := Lib.hid X.box
  have HB := Lib.hid X.below
  obtain ⟨c0, c1, _, _⟩ := two_facts X.row
  obtain ⟨rv, hrv⟩ : ∃ rv, rivZ s = rv := ⟨_, rfl⟩
  rw [hrv] at RV HAS
  clear F hf h hl hT hs hs3 X hr hrv
  go_enter Tryz.func23, Tryz.ntmps23
  go_wp2_with fail
  refine HF.out.mono ?_
  rintro e w' ⟨rfl, hw⟩
  obtain rfl := hw.symm
  go_wp2_with fail
  rw [HW1.out]
  refine RV.out.mono ?_
  rintro e w2 ⟨rfl, b2⟩
  have B2 := Lib.hid b2
  clear b2
  go_wp2_with fail
  refine (HAS.out _ B2.out).mono ?_
  rintro e w3 ⟨rfl, b3⟩
  have B3 := Lib.hid (HB.out.trans ((bt B2.out b3).mono HB.out.size))
  clear b3
  go_wp2_with fail
  go_ret
  exact ⟨rfl, B3.out⟩
end Go.Proofs.YtkplokfcjjcpcaaGreatDoor.Ops
end
section
namespace Go.Proofs.YtkplokfcjjcpcaaGreatDoor.Ops
open Go Go.RowKit Go.Maps
open Go.WideMaps Go.WideElems
theorem Tb.len {w : World} {a m : Nat} {L : List Df} (h : Tb w a m L) (ty : TypeId) : (Builtin.len_ #[119] ty #[.map (some m)]).run Tryz.prog w = .ok (.int .i64 (L.length : Int)) w := by
  obtain ⟨D, ho, hr⟩ := h.own
  have := ho.len Tryz.underlying119 ty
  rwa [hr.size] at this
set_option maxRecDepth 100000 in
set_option maxHeartbeats 1600000 in
theorem op_full (a m : Nat) (L : List Df) (p t : Int) (n : ByteArray) (w : World) (hl : Lay rivalsL w) (hT : Tb w a m L) (h : ArgOK p t n) (hf : fixedB n = false) (hp : ¬ p = 0) (hr : (fnd L n (rivZ (srt t))).isSome = false) (hL : 256 ≤ L.length) (hn : (fnd L n (srt t)).isSome = false) :
    Calls Tryz.prog 23 #[.pointer (some ⟨a, 0, none⟩), .int .i64 p, .int .i64 t, .string n] w fun e w' => e = .returned (.int .i64 9) ∧ Below w.heap.size w w' := by
  have harg := h
  obtain ⟨k, rfl⟩ := Int.eq_ofNat_of_zero_le (by have := h.t0; omega : 0 ≤ t)
  obtain ⟨j, rfl⟩ := Int.eq_ofNat_of_zero_le h.p0
  have h1 : ¬ 1200 < (j : Int) := by have := h.p1; omega
  have h3 : ¬ (k : Int) < 1 := by have := h.t0; omega
  have h4 : ¬ 7 < (k : Int) := by have := h.t1; omega
  have h5 : ¬ 1000 < n.size := by have := h.n0; omega
  have h6 : decide ((1000 : Int) < (n.size : Int)) = false := by simp; omega
  have h7 : ((j : Int) == 0) = false := by rw [beq_eq_false_iff_ne]; exact hp
  have i0 : (0 : Int) ≤ (k : Int) := by omega
  have i1 : (k : Int) < 8 := by omega
  have F := fixed_is n w
  rw [show (n.toList == [44] || n.toList == [124] || n.toList == [91, 93] || n.toList == [123, 125]) = false from hf] at F
  have HF := Lib.hid F
  have s0 := sort_cell hl (k := k) (by omega) (by omega)
  obtain ⟨s, hs⟩ : ∃ s, srt (k : Int) = s := ⟨_, rfl⟩
  have hs3 := srt_in (k : Int)
  have HS := Lib.hid hs
  rw [hs] at s0 hs3 hr hn
  obtain ⟨W1, X⟩ := op_in n s hl hT
  have RV := Lib.hid (rival_is n s W1 X.lay hs3)
  have HAS := Lib.hid (fun w2 (b : Below W1.heap.size W1 w2) => by
    have := has_is a m L n (rivZ s) w2 (X.tab.on b) (small (by omega)) (by rcases hs3 with rfl | rfl | rfl <;> decide)
    rwa [hr] at this)
  have LEN := Lib.hid (fun w2 (b : Below W1.heap.size W1 w2) => (X.tab.on b).len)
  have ROW := Lib.hid (fun w2 (b : Below W1.heap.size W1 w2) => (b.block _ (heap_lt X.row)).trans X.row)
  have TAB := Lib.hid (fun w2 (b : Below W1.heap.size W1 w2) => X.tab.on b)
  have HA2 := Lib.hid (fun w2 (b : Below W1.heap.size W1 w2) => by
    have := has_is a m L n s w2 (X.tab.on b) (small (by omega)) (by rcases hs3 with rfl | rfl | rfl <;> decide)
    rwa [hn] at this)
  have HW1 := Lib.hid X.box
  have HB := Lib.hid X.below
  obtain ⟨c0, c1, _, _⟩ := two_facts X.row
  obtain ⟨rv, hrv⟩ : ∃ rv, rivZ s = rv := ⟨_, rfl⟩
  rw [hrv] at RV HAS
  obtain ⟨nn, hnn⟩ : ∃ nn, L.length = nn := ⟨_, rfl⟩
  rw [hnn] at hL LEN
  clear F hf h hl hT hs hs3 X hr hrv hnn
  go_enter Tryz.func23, Tryz.ntmps23
  go_wp2_with fail
  refine HF.out.mono ?_
  rintro e w' ⟨rfl, hw⟩
  obtain rfl := hw.symm
  go_wp2_with fail
  rw [HW1.out]
  refine RV.out.mono ?_
  rintro e w2 ⟨rfl, b2⟩
  have B2 := Lib.hid b2
  clear b2
  go_wp2_with fail
  refine (HAS.out _ B2.out).mono ?_
  rintro e w3 ⟨rfl, b3⟩
  have B3 := Lib.hid (bt B2.out b3)
  clear b3
  have q0 := (TAB.out _ B3.out).cells.1
  have LE := LEN.out _ B3.out
  obtain ⟨k0, k1, _, _⟩ := two_facts (ROW.out _ B3.out)
  have l1 : decide ((256 : Int) ≤ (nn : Int)) = true := by simp; omega
  go_wp2_with fail
  refine (HA2.out _ B3.out).mono ?_
  rintro e w4 ⟨rfl, b4⟩
  have B4 := Lib.hid (HB.out.trans ((bt B3.out b4).mono HB.out.size))
  clear b4
  go_wp2_with fail
  go_ret
  exact ⟨rfl, B4.out⟩
set_option maxRecDepth 100000 in
set_option maxHeartbeats 1600000 in
theorem op_put (a m : Nat) (L : List Df) (p t : Int) (n : ByteArray) (w : World) (hl : Lay rivalsL w) (hT : Tb w a m L) (h : ArgOK p t n) (hf : fixedB n = false) (hp : ¬ p = 0) (hr : (fnd L n (rivZ (srt t))).isSome = false) (hL : L.length < 256) :
    Calls Tryz.prog 23 #[.pointer (some ⟨a, 0, none⟩), .int .i64 p, .int .i64 t, .string n] w fun e w' => e = .returned (.int .i64 0) ∧ Tb w' a m (ins L ⟨p, t, n⟩) ∧ w.grownBy w' (some m) := by
  have harg := h
  obtain ⟨k, rfl⟩ := Int.eq_ofNat_of_zero_le (by have := h.t0; omega : 0 ≤ t)
  obtain ⟨j, rfl⟩ := Int.eq_ofNat_of_zero_le h.p0
  have h1 : ¬ 1200 < (j : Int) := by have := h.p1; omega
  have h3 : ¬ (k : Int) < 1 := by have := h.t0; omega
  have h4 : ¬ 7 < (k : Int) := by have := h.t1; omega
  have h5 : ¬ 1000 < n.size := by have := h.n0; omega
  have h6 : decide ((1000 : Int) < (n.size : Int)) = false := by simp; omega
  have h7 : ((j : Int) == 0) = false := by rw [beq_eq_false_iff_ne]; exact hp
  have i0 : (0 : Int) ≤ (k : Int) := by omega
  have i1 : (k : Int) < 8 := by omega
  have F := fixed_is n w
  rw [show (n.toList == [44] || n.toList == [124] || n.toList == [91, 93] || n.toList == [123, 125]) = false from hf] at F
  have HF := Lib.hid F
  have s0 := sort_cell hl (k := k) (by omega) (by omega)
  obtain ⟨s, hs⟩ : ∃ s, srt (k : Int) = s := ⟨_, rfl⟩
  have hs3 := srt_in (k : Int)
  have HS := Lib.hid hs
  rw [hs] at s0 hs3 hr
  obtain ⟨W1, X⟩ := op_in n s hl hT
  have RV := Lib.hid (rival_is n s W1 X.lay hs3)
  have HAS := Lib.hid (fun w2 (b : Below W1.heap.size W1 w2) => by
    have := has_is a m L n (rivZ s) w2 (X.tab.on b) (small (by omega)) (by rcases hs3 with rfl | rfl | rfl <;> decide)
    rwa [hr] at this)
  have LEN := Lib.hid (fun w2 (b : Below W1.heap.size W1 w2) => (X.tab.on b).len)
  have ROW := Lib.hid (fun w2 (b : Below W1.heap.size W1 w2) => (b.block _ (heap_lt X.row)).trans X.row)
  have TAB := Lib.hid (fun w2 (b : Below W1.heap.size W1 w2) => X.tab.on b)
  have CL := Lib.hid (fun w => clone_is n w (by omega))
  have PUT := Lib.hid (fun w2 (b : Below W1.heap.size W1 w2) => put_is a m L ⟨(j : Int), (k : Int), n⟩ w2 (X.lay.on b) (X.tab.on b) ⟨by show 1 ≤ (j : Int); omega, by show (j : Int) ≤ 1200; omega, by show 1 ≤ (k : Int); omega, by show (k : Int) ≤ 7; omega, by show n.size ≤ 1000; omega⟩ (by omega))
  have HW1 := Lib.hid X.box
  have HB := Lib.hid X.below
  obtain ⟨c0, c1, _, _⟩ := two_facts X.row
  obtain ⟨rv, hrv⟩ : ∃ rv, rivZ s = rv := ⟨_, rfl⟩
  rw [hrv] at RV HAS
  obtain ⟨nn, hnn⟩ : ∃ nn, L.length = nn := ⟨_, rfl⟩
  rw [hnn] at hL LEN
  clear F hf h hl hT hs hs3 X hr hrv hnn
  go_enter Tryz.func23, Tryz.ntmps23
  go_wp2_with fail
  refine HF.out.mono ?_
  rintro e w' ⟨rfl, hw⟩
  obtain rfl := hw.symm
  go_wp2_with fail
  rw [HW1.out]
  refine RV.out.mono ?_
  rintro e w2 ⟨rfl, b2⟩
  have B2 := Lib.hid b2
  clear b2
  go_wp2_with fail
  refine (HAS.out _ B2.out).mono ?_
  rintro e w3 ⟨rfl, b3⟩
  have B3 := Lib.hid (bt B2.out b3)
  clear b3
  have q0 := (TAB.out _ B3.out).cells.1
  have LE := LEN.out _ B3.out
  obtain ⟨k0, k1, _, _⟩ := two_facts (ROW.out _ B3.out)
  have l1 : decide ((256 : Int) ≤ (nn : Int)) = false := by simp; omega
  go_wp2_with fail
  refine (CL.out _).mono ?_
  rintro e w5 ⟨rfl, b5⟩
  have B5 := Lib.hid (bt B3.out b5)
  clear b5
  go_wp2_with fail
  refine (PUT.out _ B5.out).mono ?_
  rintro e w6 ⟨rfl, t6, g6⟩
  have GG := (grown_of (HB.out.trans (B5.out.mono HB.out.size)) (some m)).trans g6
  clear g6
  go_wp2_with fail
  go_ret
  exact ⟨rfl, t6, GG⟩
set_option maxRecDepth 100000 in
set_option maxHeartbeats 1600000 in
theorem op_over (a m : Nat) (L : List Df) (p t : Int) (n : ByteArray) (w : World) (hl : Lay rivalsL w) (hT : Tb w a m L) (h : ArgOK p t n) (hf : fixedB n = false) (hp : ¬ p = 0) (hr : (fnd L n (rivZ (srt t))).isSome = false) (hL : L.length = 256) (hn : (fnd L n (srt t)).isSome = true) :
    Calls Tryz.prog 23 #[.pointer (some ⟨a, 0, none⟩), .int .i64 p, .int .i64 t, .string n] w fun e w' => e = .returned (.int .i64 0) ∧ Tb w' a m (ins L ⟨p, t, n⟩) ∧ w.grownBy w' (some m) := by
  have harg := h
  obtain ⟨k, rfl⟩ := Int.eq_ofNat_of_zero_le (by have := h.t0; omega : 0 ≤ t)
  obtain ⟨j, rfl⟩ := Int.eq_ofNat_of_zero_le h.p0
  have h1 : ¬ 1200 < (j : Int) := by have := h.p1; omega
  have h3 : ¬ (k : Int) < 1 := by have := h.t0; omega
  have h4 : ¬ 7 < (k : Int) := by have := h.t1; omega
  have h5 : ¬ 1000 < n.size := by have := h.n0; omega
  have h6 : decide ((1000 : Int) < (n.size : Int)) = false := by simp; omega
  have h7 : ((j : Int) == 0) = false := by rw [beq_eq_false_iff_ne]; exact hp
  have i0 : (0 : Int) ≤ (k : Int) := by omega
  have i1 : (k : Int) < 8 := by omega
  have F := fixed_is n w
  rw [show (n.toList == [44] || n.toList == [124] || n.toList == [91, 93] || n.toList == [123, 125]) = false from hf] at F
  have HF := Lib.hid F
  have s0 := sort_cell hl (k := k) (by omega) (by omega)
  obtain ⟨s, hs⟩ : ∃ s, srt (k : Int) = s := ⟨_, rfl⟩
  have hs3 := srt_in (k : Int)
  have HS := Lib.hid hs
  rw [hs] at s0 hs3 hr hn
  obtain ⟨W1, X⟩ := op_in n s hl hT
  have RV := Lib.hid (rival_is n s W1 X.lay hs3)
  have HAS := Lib.hid (fun w2 (b : Below W1.heap.size W1 w2) => by
    have := has_is a m L n (rivZ s) w2 (X.tab.on b) (small (by omega)) (by rcases hs3 with rfl | rfl | rfl <;> decide)
    rwa [hr] at this)
  have LEN := Lib.hid (fun w2 (b : Below W1.heap.size W1 w2) => (X.tab.on b).len)
  have ROW := Lib.hid (fun w2 (b : Below W1.heap.size W1 w2) => (b.block _ (heap_lt X.row)).trans X.row)
  have TAB := Lib.hid (fun w2 (b : Below W1.heap.size W1 w2) => X.tab.on b)
  have CL := Lib.hid (fun w => clone_is n w (by omega))
  have PUT := Lib.hid (fun w2 (b : Below W1.heap.size W1 w2) => put_is a m L ⟨(j : Int), (k : Int), n⟩ w2 (X.lay.on b) (X.tab.on b) ⟨by show 1 ≤ (j : Int); omega, by show (j : Int) ≤ 1200; omega, by show 1 ≤ (k : Int); omega, by show (k : Int) ≤ 7; omega, by show n.size ≤ 1000; omega⟩ (by omega))
  have HA2 := Lib.hid (fun w2 (b : Below W1.heap.size W1 w2) => by
    have := has_is a m L n s w2 (X.tab.on b) (small (by omega)) (by rcases hs3 with rfl | rfl | rfl <;> decide)
    rwa [hn] at this)
  have HW1 := Lib.hid X.box
  have HB := Lib.hid X.below
  obtain ⟨c0, c1, _, _⟩ := two_facts X.row
  obtain ⟨rv, hrv⟩ : ∃ rv, rivZ s = rv := ⟨_, rfl⟩
  rw [hrv] at RV HAS
  obtain ⟨nn, hnn⟩ : ∃ nn, L.length = nn := ⟨_, rfl⟩
  rw [hnn] at hL LEN
  clear F hf h hl hT hs hs3 X hr hrv hnn
  go_enter Tryz.func23, Tryz.ntmps23
  go_wp2_with fail
  refine HF.out.mono ?_
  rintro e w' ⟨rfl, hw⟩
  obtain rfl := hw.symm
  go_wp2_with fail
  rw [HW1.out]
  refine RV.out.mono ?_
  rintro e w2 ⟨rfl, b2⟩
  have B2 := Lib.hid b2
  clear b2
  go_wp2_with fail
  refine (HAS.out _ B2.out).mono ?_
  rintro e w3 ⟨rfl, b3⟩
  have B3 := Lib.hid (bt B2.out b3)
  clear b3
  have q0 := (TAB.out _ B3.out).cells.1
  have LE := LEN.out _ B3.out
  obtain ⟨k0, k1, _, _⟩ := two_facts (ROW.out _ B3.out)
  have l1 : decide ((256 : Int) ≤ (nn : Int)) = true := by simp; omega
  clear hL
  go_wp2_with fail
  refine (HA2.out _ B3.out).mono ?_
  rintro e w4 ⟨rfl, b4⟩
  have B4 := Lib.hid (bt B3.out b4)
  clear b4
  go_wp2_with fail
  refine (CL.out _).mono ?_
  rintro e w5 ⟨rfl, b5⟩
  have B5 := Lib.hid (bt B4.out b5)
  clear b5
  go_wp2_with fail
  refine (PUT.out _ B5.out).mono ?_
  rintro e w6 ⟨rfl, t6, g6⟩
  have GG := (grown_of (HB.out.trans (B5.out.mono HB.out.size)) (some m)).trans g6
  clear g6
  go_wp2_with fail
  go_ret
  exact ⟨rfl, t6, GG⟩
theorem op_is (a m : Nat) (L : List Df) (d : Df) (w : World) (hl : Lay rivalsL w) (hT : Tb w a m L) (hL : L.length ≤ 256) :
    Calls Tryz.prog 23 #[.pointer (some ⟨a, 0, none⟩), .int .i64 d.pri, .int .i64 d.typ, .string d.name] w (OpPost w a m L d) := by
  obtain ⟨p, t, n⟩ := d
  cases ha : argB p t n with
  | true =>
    refine (op_arg a p t n w ha).mono ?_
    rintro e w' ⟨rfl, hw⟩
    have h : opZ L ⟨p, t, n⟩ = (2, L) := by unfold opZ; rw [if_pos ha]
    rw [hw]
    exact OpPost.same hT (Below.refl _ _) (by rw [h]) (by rw [h])
  | false =>
    have hok := arg_ok ha
    have n1 : ¬ argB p t n = true := by rw [ha]; simp
    cases hf : fixedB n with
    | true =>
      refine (op_fixed a p t n w hok hf).mono ?_
      rintro e w' ⟨rfl, hw⟩
      have h : opZ L ⟨p, t, n⟩ = (15, L) := by unfold opZ; rw [if_neg n1, if_pos hf]
      rw [hw]
      exact OpPost.same hT (Below.refl _ _) (by rw [h]) (by rw [h])
    | false =>
      have n2 : ¬ fixedB n = true := by rw [hf]; simp
      by_cases hp : p = 0
      · subst hp
        refine (op_zero a m L t n w hl hT hok hf).mono ?_
        rintro e w' ⟨rfl, h1, h2⟩
        have h : opZ L ⟨0, t, n⟩ = (0, rmv L n (srt t)) := by unfold opZ; rw [if_neg n1, if_neg n2, if_pos rfl]
        exact ⟨by rw [h], by rw [h]; exact h1, h2⟩
      · cases hr : (fnd L n (rivZ (srt t))).isSome with
        | true =>
          refine (op_rival a m L p t n w hl hT hok hf hp hr).mono ?_
          rintro e w' ⟨rfl, h1⟩
          have h : opZ L ⟨p, t, n⟩ = (15, L) := by unfold opZ; rw [if_neg n1, if_neg n2, if_neg hp, if_pos hr]
          exact OpPost.same hT h1 (by rw [h]) (by rw [h])
        | false =>
          have n3 : ¬ (fnd L n (rivZ (srt t))).isSome = true := by rw [hr]; simp
          by_cases h256 : 256 ≤ L.length
          · cases hs : (fnd L n (srt t)).isSome with
            | false =>
              refine (op_full a m L p t n w hl hT hok hf hp hr h256 hs).mono ?_
              rintro e w' ⟨rfl, h1⟩
              have h : opZ L ⟨p, t, n⟩ = (9, L) := by unfold opZ; rw [if_neg n1, if_neg n2, if_neg hp, if_neg n3, if_pos ⟨h256, hs⟩]
              exact OpPost.same hT h1 (by rw [h]) (by rw [h])
            | true =>
              refine (op_over a m L p t n w hl hT hok hf hp hr (by omega) hs).mono ?_
              rintro e w' ⟨rfl, h1, h2⟩
              have h : opZ L ⟨p, t, n⟩ = (0, ins L ⟨p, t, n⟩) := by unfold opZ; rw [if_neg n1, if_neg n2, if_neg hp, if_neg n3, if_neg (by simp only; rw [hs]; simp)]
              exact ⟨by rw [h], by rw [h]; exact h1, h2⟩
          · refine (op_put a m L p t n w hl hT hok hf hp hr (by omega)).mono ?_
            rintro e w' ⟨rfl, h1, h2⟩
            have h : opZ L ⟨p, t, n⟩ = (0, ins L ⟨p, t, n⟩) := by unfold opZ; rw [if_neg n1, if_neg n2, if_neg hp, if_neg n3, if_neg (fun hh => h256 hh.1)]
            exact ⟨by rw [h], by rw [h]; exact h1, h2⟩
end Go.Proofs.YtkplokfcjjcpcaaGreatDoor.Ops
end
section
namespace Go.Proofs.YtkplokfcjjcpcaaGreatDoor.Ops
open Go Go.RowKit Go.Maps
open Go.WideMaps Go.WideElems
def firstN : List (Int × Int × List (List UInt8)) := [(1200, 1, [[58, 45], [45, 45, 62]]), (1200, 4, [[58, 45], [63, 45]]), (1150, 4, [[100, 121, 110, 97, 109, 105, 99]]), (1100, 2, [[59]]), (1050, 2, [[45, 62]]), (1000, 2, [[44]]), (900, 5, [[92, 43]]), (700, 1, [[61], [92, 61], [61, 61], [92, 61, 61], [64, 60], [64, 62], [64, 61, 60], [64, 62, 61], [61, 46, 46], [105, 115], [61, 58, 61], [61, 92, 61], [60], [62], [61, 60], [62, 61]]), (500, 3, [[43], [45], [47, 92], [92, 47], [120, 111, 114]]), (400, 3, [[42], [47], [47, 47], [114, 101, 109], [109, 111, 100], [100, 105, 118], [60, 60], [62, 62]]), (200, 1, [[42, 42]]), (200, 2, [[94]]), (200, 5, [[45], [43], [92]])]
def textsN : List (List UInt8) := [[58, 45, 32, 45, 45, 62], [58, 45, 32, 63, 45], [100, 121, 110, 97, 109, 105, 99], [59], [45, 62], [44], [92, 43], [61, 32, 92, 61, 32, 61, 61, 32, 92, 61, 61, 32, 64, 60, 32, 64, 62, 32, 64, 61, 60, 32, 64, 62, 61, 32, 61, 46, 46, 32, 105, 115, 32, 61, 58, 61, 32, 61, 92, 61, 32, 60, 32, 62, 32, 61, 60, 32, 62, 61], [43, 32, 45, 32, 47, 92, 32, 92, 47, 32, 120, 111, 114], [42, 32, 47, 32, 47, 47, 32, 114, 101, 109, 32, 109, 111, 100, 32, 100, 105, 118, 32, 60, 60, 32, 62, 62], [42, 42], [94], [45, 32, 43, 32, 92]]
def mkD (r : Int × Int × List (List UInt8)) (n : List UInt8) : Df := ⟨r.1, r.2.1, ⟨n.toArray⟩⟩
def rowD (r : Int × Int × List (List UInt8)) : List Df := r.2.2.map (mkD r)
def firstL : List Df := firstN.flatMap rowD
theorem first_len : firstL.length = 43 := by decide +kernel
def pairsN : List (List UInt8 × Int) := firstN.flatMap fun r => r.2.2.map fun n => (n, srt r.2.1)
theorem pairs_apart : pairsN.Pairwise (fun a b => a ≠ b) := by decide +kernel
theorem pairs_of : firstL.map (fun d => (d.name.data.toList, srt d.typ)) = pairsN := by
  unfold firstL pairsN
  rw [List.map_flatMap]
  congr 1
  funext r
  unfold rowD
  rw [List.map_map]
  rfl
theorem first_one : firstL.Pairwise fun a b => ¬ (a.name = b.name ∧ srt a.typ = srt b.typ) := by
  have h := pairs_apart
  rw [← pairs_of, List.pairwise_map] at h
  exact h.imp fun {a b} hne hh => hne (by rw [hh.1, hh.2])
theorem fitN : ∀ r ∈ firstN, (1 ≤ r.1 ∧ r.1 ≤ 1200 ∧ 1 ≤ r.2.1 ∧ r.2.1 ≤ 7) ∧ ∀ n ∈ r.2.2, n.length ≤ 1000 := by decide +kernel
theorem fit_mk {r : Int × Int × List (List UInt8)} (hr : r ∈ firstN) {n : List UInt8} (hn : n ∈ r.2.2) : FitD (mkD r n) := by
  obtain ⟨⟨h1, h2, h3, h4⟩, h5⟩ := fitN r hr
  exact ⟨h1, h2, h3, h4, by have := h5 n hn; simpa [mkD, ByteArray.size] using this⟩
theorem first_wf : Wf firstL := by
  refine ⟨first_one, fun d hd => ?_⟩
  unfold firstL rowD at hd
  rw [List.mem_flatMap] at hd
  obtain ⟨r, hr, hd⟩ := hd
  obtain ⟨n, hn, rfl⟩ := List.mem_map.1 hd
  exact fit_mk hr hn
theorem ins_fresh {L : List Df} {d : Df} (h : (L ++ [d]).Pairwise fun a b => ¬ (a.name = b.name ∧ srt a.typ = srt b.typ)) : ins L d = L ++ [d] := by
  unfold ins rmv
  congr 1
  refine List.filter_eq_self.2 fun a ha => ?_
  have := (List.pairwise_append.1 h).2.2 a ha d (List.mem_singleton_self d)
  cases hh : a.is d.name (srt d.typ)
  · rfl
  · exact absurd (is_iff.1 hh) this
def upTo (i j : Nat) : List Df := (firstN.take i).flatMap rowD ++ ((firstN[i]?.map fun r => (rowD r).take j).getD [])
theorem upTo_next {i j : Nat} {r : Int × Int × List (List UInt8)} {n : List UInt8} (hr : firstN[i]? = some r) (hn : r.2.2[j]? = some n) : ins (upTo i j) (mkD r n) = upTo i (j + 1) := by
  have e : upTo i j ++ [mkD r n] = upTo i (j + 1) := by
    unfold upTo
    rw [hr]
    have : (rowD r)[j]? = some (mkD r n) := by unfold rowD; rw [List.getElem?_map, hn]; rfl
    simp only [Option.map_some, Option.getD_some]
    rw [List.append_assoc, List.take_add_one, this]
    rfl
  rw [← e]
  refine ins_fresh ?_
  rw [e]
  have hp : upTo i (j + 1) <+: firstL := by
    unfold upTo firstL
    rw [hr]
    simp only [Option.map_some, Option.getD_some]
    have h1 : firstN = firstN.take i ++ r :: firstN.drop (i + 1) := by
      obtain ⟨hi, he⟩ := List.getElem?_eq_some_iff.1 hr
      rw [← he, ← List.drop_eq_getElem_cons hi, List.take_append_drop]
    conv => rhs; rw [h1]
    rw [List.flatMap_append, List.flatMap_cons]
    exact (List.prefix_append_right_inj _).2 ((List.take_prefix _ _).trans (List.prefix_append _ _))
  exact first_one.sublist hp.sublist
theorem upTo_row {i : Nat} {r : Int × Int × List (List UInt8)} (hr : firstN[i]? = some r) : upTo i r.2.2.length = upTo (i + 1) 0 := by
  unfold upTo
  rw [hr, List.take_add_one, hr]
  simp only [Option.map_some, Option.getD_some, Option.toList_some, List.flatMap_append, List.flatMap_singleton]
  have ht : (rowD r).take r.2.2.length = rowD r := List.take_of_length_le (by unfold rowD; simp)
  rw [ht]
  cases firstN[i + 1]? <;> simp
theorem upTo_end : upTo 13 0 = firstL := by
  unfold upTo firstL
  rw [List.take_of_length_le (by decide)]
  rfl
theorem upTo_len (i j : Nat) : (upTo i j).length ≤ 100 := by
  unfold upTo
  rw [List.length_append]
  have h1 : ((firstN.take i).flatMap rowD).length ≤ firstL.length := by
    have h : firstL = (firstN.take i).flatMap rowD ++ (firstN.drop i).flatMap rowD := by rw [← List.flatMap_append, List.take_append_drop]; rfl
    rw [h, List.length_append]
    omega
  rw [first_len] at h1
  have h2 : ((firstN[i]?.map fun r => (rowD r).take j).getD []).length ≤ 16 := by
    cases h : firstN[i]? with
    | none => simp
    | some r =>
      simp only [Option.map_some, Option.getD_some]
      have : ∀ r ∈ firstN, r.2.2.length ≤ 16 := by decide +kernel
      have := this r (List.mem_of_getElem? h)
      unfold rowD
      simp
      omega
  omega
def rowV (i : Nat) : List Value := match firstN[i]?, textsN[i]? with
  | some r, some t => [.int .i64 r.1, .int .i64 r.2.1, .string ⟨t.toArray⟩]
  | _, _ => []
def rowsV : List Value := (List.range 13).flatMap rowV
set_option maxRecDepth 100000 in
set_option maxHeartbeats 1600000 in
theorem first_is (w : World) : Calls Tryz.prog 57 #[] w fun e w' => e = .returned (.slice (some ⟨w.heap.size, 0, none⟩) 13 13) ∧ w' = w.alloc (.cells rowsV.toArray 125) := by
  go_enter Tryz.func57, Tryz.ntmps57
  go_wp2_with fail
  go_ret
  exact ⟨rfl, rfl⟩
theorem fields_row (i : Nat) (r : Int × Int × List (List UInt8)) (t : List UInt8) (hr : firstN[i]? = some r) (ht : textsN[i]? = some t) : Lib.fields t = r.2.2 := by
  have : ∀ p ∈ firstN.zip textsN, Lib.fields p.2 = p.1.2.2 := by decide +kernel
  refine this (r, t) ?_
  have : (firstN.zip textsN)[i]? = some (r, t) := by rw [List.getElem?_zip_eq_some]; exact ⟨hr, ht⟩
  exact List.mem_of_getElem? this
theorem texts_ascii : ∀ t ∈ textsN, t.length ≤ 100 ∧ ∀ b ∈ t, b.toNat < 128 := by decide +kernel
end Go.Proofs.YtkplokfcjjcpcaaGreatDoor.Ops
end
