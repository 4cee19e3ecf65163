/- The program's table of operators: Op. Conditions: the listed variables read as the text lays them; the name has at most 2000 bytes; the operators are at most 300. -/
import Derived.Test.YtnnhpjpfmmlimaaDoorOpF
namespace Go.Proofs.YtnnhpjpfmmlimaaDoor
open Go Go.RowKit Go.Maps
open Go.WideMaps Go.WideElems

def fixedB (n : ByteArray) : Bool := n.toList == [44] || n.toList == [124] || n.toList == [91, 93] || n.toList == [123, 125]
def rivZ (s : Int) : Int := if s = 2 then 3 else if s = 3 then 2 else 0
def argB (p t : Int) (n : ByteArray) : Bool := decide (p < 0) || decide (1200 < p) || decide (t < 1) || decide (7 < t) || decide (1000 < n.size)
/-- what Op answers, and what operators there are behind it -/
def opZ (L : List Df) (d : Df) : Int × List Df :=
  if argB d.pri d.typ d.name then (2, L)
  else if fixedB d.name then (15, L)
  else if d.pri = 0 then (0, rmv L d.name (srt d.typ))
  else if (fnd L d.name (rivZ (srt d.typ))).isSome then (15, L)
  else if 256 ≤ L.length ∧ (fnd L d.name (srt d.typ)).isSome = false then (9, L)
  else (0, ins L d)

theorem rmv_len (L : List Df) (n : ByteArray) (s : Int) : (rmv L n s).length ≤ L.length := List.length_filter_le _ _
theorem ins_there {L : List Df} {d : Df} (h : (fnd L d.name (srt d.typ)).isSome = true) : (ins L d).length ≤ L.length := by
  obtain ⟨x, hx⟩ := Option.isSome_iff_exists.1 h
  have hm := fnd_mem hx
  unfold ins rmv
  rw [List.length_append, List.length_singleton]
  have : (L.filter fun y => !y.is d.name (srt d.typ)).length < L.length := by
    rw [List.length_filter_lt_length_iff_exists]
    exact ⟨x, hm.1, by simp [is_iff.2 hm.2]⟩
  omega
theorem op_small {L : List Df} {d : Df} (hw : Wf L) (hL : L.length ≤ 256) : Wf (opZ L d).2 ∧ (opZ L d).2.length ≤ 256 := by
  unfold opZ
  split
  · exact ⟨hw, hL⟩
  · rename_i ha
    split
    · exact ⟨hw, hL⟩
    · split
      · exact ⟨hw.rmv _ _, Nat.le_trans (rmv_len _ _ _) hL⟩
      · rename_i hp
        split
        · exact ⟨hw, hL⟩
        · split
          · exact ⟨hw, hL⟩
          · rename_i hf
            unfold argB at ha
            simp at ha
            refine ⟨hw.ins ⟨by omega, by omega, by omega, by omega, by omega⟩, ?_⟩
            cases hs : (fnd L d.name (srt d.typ)).isSome
            · have : ¬ 256 ≤ L.length := fun h => hf ⟨h, hs⟩
              unfold ins
              have := rmv_len L d.name (srt d.typ)
              simp
              omega
            · exact Nat.le_trans (ins_there hs) hL

theorem two_facts {w : World} {b : Nat} {T : TypeId} {x0 x1 : Value} (h : w.heap[b]? = some (.cells #[x0, x1] T (0, 0))) : w.cell? ⟨b, 0, none⟩ = some x0 ∧ w.cell? ⟨b, 1, none⟩ = some x1 ∧ w.frozen? ⟨b, 0, none⟩ = false ∧ w.frozen? ⟨b, 1, none⟩ = false :=
  ⟨cell_of_heap h rfl, cell_of_heap h rfl, free_of_heap h, free_of_heap h⟩
theorem two_cells {w : World} {b : Nat} {T : TypeId} {x0 x1 : Value} (h : w.heap[b]? = some (.cells #[x0, x1] T (0, 0))) (n : ByteArray) :
    (w.setCell ⟨b, 0, none⟩ (.string n)).cell? ⟨b, 0, none⟩ = some (.string n) ∧ ∀ k : Int, ((w.setCell ⟨b, 0, none⟩ (.string n)).setCell ⟨b, 1, none⟩ (.int .i64 k)).cell? ⟨b, 1, none⟩ = some (.int .i64 k) :=
  ⟨cell_of_heap (heap_set (o := 0) h _) rfl, fun _ => cell_of_heap (heap_set (o := 1) (heap_set (o := 0) h _) _) rfl⟩

set_option maxRecDepth 100000 in
set_option maxHeartbeats 1600000 in
theorem rival_is (n : ByteArray) (s : Int) (w : World) (hl : Lay w) (hs : s = 1 ∨ s = 2 ∨ s = 3) :
    Calls Tryd.prog 32 #[.agg #[.string n, .int .i64 s]] w fun e w' => e = .returned (.agg #[.string n, .int .i64 (rivZ s)]) ∧ Below w.heap.size w w' := by
  have hW : Hid (Below w.heap.size w ((w.alloc (.cells #[.string n, .int .i64 s] 71)).alloc (.cells #[.string ⟨#[]⟩, .int .i64 0] 71))) := ((Below.refl _ _).alloc (Nat.le_refl _) _).alloc (by simp) _
  have e0 : ((w.alloc (.cells #[.string n, .int .i64 s] 71)).alloc (.cells #[.string ⟨#[]⟩, .int .i64 0] 71)).heap[w.heap.size]? = some (.cells #[.string n, .int .i64 s] 71 (0, 0)) := by
    rw [Below.heap_alloc _ _ _ (by simp)]
    exact new_at _ _ rfl
  have e1 : ((w.alloc (.cells #[.string n, .int .i64 s] 71)).alloc (.cells #[.string ⟨#[]⟩, .int .i64 0] 71)).heap[w.heap.size + 1]? = some (.cells #[.string ⟨#[]⟩, .int .i64 0] 71 (0, 0)) := new_at _ _ (by simp)
  have hl2 := hl.on hW
  obtain ⟨W1, hW1⟩ : ∃ W1, ((w.alloc (.cells #[.string n, .int .i64 s] 71)).alloc (.cells #[.string ⟨#[]⟩, .int .i64 0] 71)) = W1 := ⟨_, rfl⟩
  rw [hW1] at hW e0 e1 hl2
  have HW1 := Lib.hid hW1
  have c0 := cell_of_heap (o := 0) e0 rfl
  have c1 := cell_of_heap (o := 1) e0 rfl
  have d0 := cell_of_heap (o := 0) e1 rfl
  have d1 := cell_of_heap (o := 1) e1 rfl
  have z0 := free_of_heap (o := 0) e1
  have z1 := free_of_heap (o := 1) e1
  simp only [List.getElem_toArray, List.getElem_cons_zero, List.getElem_cons_succ] at c0 c1 d0 d1
  have E1 := Lib.hid e1
  clear hW1 e0 e1 hl d0 d1 z0 z1
  rcases hs with rfl | rfl | rfl
  all_goals
    have r1 := hl2.rv 1 _ rfl
    have r2 := hl2.rv 2 _ rfl
    have r3 := hl2.rv 3 _ rfl
    clear hl2
    go_enter Tryd.func32, Tryd.ntmps32
    go_wp2_with fail
    rw [HW1.out]
    go_still_tail 7, (by kernel_rfl)
    change wpList _ _ _ _ _ W1.drew
    have e2 : W1.drew.heap[w.heap.size + 1]? = some (.cells #[.string ⟨#[]⟩, .int .i64 0] 71 (0, 0)) := E1.out
    have b2 : Below w.heap.size w W1.drew := hW.out.drew
    clear c0 c1 r1 r2 r3 hW HW1 E1
    obtain ⟨W2, hW2⟩ : ∃ W2, W1.drew = W2 := ⟨_, rfl⟩
    rw [hW2] at e2 b2 ⊢
    obtain ⟨d0, d1, z0, z1⟩ := two_facts e2
    obtain ⟨y0, y1⟩ := two_cells e2 n
    have B2 := Lib.hid b2
    clear e2 b2 hW2
    go_wp2_with fail
    first
      | refine bodyPost_ret (v := .agg #[.string n, .int .i64 0]) (by simp [results, Tryd.results32, go_sem, y0, y1]) rfl ⟨rfl, ?_⟩
      | refine bodyPost_ret (v := .agg #[.string n, .int .i64 3]) (by simp [results, Tryd.results32, go_sem, y0, y1]) rfl ⟨rfl, ?_⟩
      | refine bodyPost_ret (v := .agg #[.string n, .int .i64 2]) (by simp [results, Tryd.results32, go_sem, y0, y1]) rfl ⟨rfl, ?_⟩
    exact (B2.out.setCell (p := ⟨w.heap.size + 1, 0, none⟩) (by show w.heap.size ≤ w.heap.size + 1; omega) _).setCell (p := ⟨w.heap.size + 1, 1, none⟩) (by show w.heap.size ≤ w.heap.size + 1; omega) _

end Go.Proofs.YtnnhpjpfmmlimaaDoor
