/- Joined texts: ReadS ReadT ReadZF. Conditions: as each states. -/
import Derived.Test.YtkplokfcjjcpcaaGreatDoorRk26
import Derived.Deep.Cut
section
namespace Go.Proofs.YtkplokfcjjcpcaaGreatDoor
open Go Go.RowKit Go.Maps Trm
attribute [local go_sem ↓] Go.wp_at_zero Go.wp_at_succ
structure ArgsSt (w0 : Base) (w8 : World) (R : Nat) (tv : Value) (a : Nat) (σ : Ms) (c : Rc) (fr : List FrA) (so : AT) (rb lb ab : Nat) (al : AlA) (g cap : Nat) (ls : List AT) : Prop where
  st : StX w0 w8 R tv a σ [g] c fr so
  row : w8.ownsRow w0.heap.size 34 4 (.slice (some ⟨g, 0, none⟩) ls.length cap) ls.length (headCells ls)
  held : ∀ t ∈ ls, Held w8 (ownL R c fr [g]) t
  orb : One w8 rb 102 (pt R)
  oab : One w8 ab 258 (al.val R)
  olb : One w8 lb 32 (.slice (some ⟨g, 0, none⟩) ls.length cap)
  srb : Still w8 (ownL R c fr [g]) rb
  sab : Still w8 (ownL R c fr [g]) ab
  mal : al.mem w8 R (Still w8 (ownL R c fr [g]))
  lbR : lb ≠ R
theorem ArgsSt.R {w0 : Base} {w8 w9 : World} {R : Nat} {tv : Value} {a : Nat} {σ τ : Ms} {c d : Rc} {fr : List FrA} {so : AT} {rb lb ab : Nat} {al : AlA} {g cap : Nat} {ls : List AT} (h : ArgsSt w0 w8 R tv a σ c fr so rb lb ab al g cap ls) (k : Keeps (fun j => j = R) w8 w9) (h9 : StX w0 w9 R tv a τ [g] d fr so) (e : ownL R d fr [g] = ownL R c fr [g]) : ArgsSt w0 w9 R tv a τ d fr so rb lb ab al g cap ls := by
  have hR : R ∈ ownL R c fr [g] := mem_ownL.2 (.inl rfl)
  have hS : ∀ j, Still w8 (ownL R c fr [g]) j → ¬ j = R := fun j hj e => hj.2 (e ▸ hR)
  have hgR : g ≠ R := fun e => by
    have h1 := h.st.mem.nodup
    rw [ownL_app] at h1
    exact (List.nodup_append.1 h1).2.2 R (mem_ownL.2 (.inl rfl)) g (by simp) e.symm
  refine ⟨h9, row_keeps h.row k fun g' hg' => by simp [Value.ownBlock] at hg'; omega, fun t ht => by rw [e]; exact (h.held t ht).R k, h.orb.keeps k (hS _ h.srb), h.oab.keeps k (hS _ h.sab), h.olb.keeps k h.lbR, by rw [e]; exact h.srb.keeps k.size, by rw [e]; exact h.sab.keeps k.size, ?_, h.lbR⟩
  rw [e]
  exact AlA.mem_keeps h.mal k hS fun _ hj => hj.keeps k.size
theorem args_fin {w0 : Base} {w w7 w8 : World} {R : Nat} {tv : Value} {a : Nat} {σ : Ms} {c : Rc} {fr : List FrA} {so : AT} {rb lb ab g cap : Nat} {v : Value} {ls : List AT} {al : AlA} {x : AT} (h : StX w0 w R tv a σ (lb :: v.ownBlock.toList) c fr so) (hk : (KtA.args rb lb ab v ls al).mem w0.heap.size w R (Still w (ownL R c fr (lb :: v.ownBlock.toList)))) (hx : Held w (ownL R c fr (lb :: v.ownBlock.toList)) x)
    {o1 o2 : Obj} {z : List Value} (hown : w7.ownsRow w0.heap.size 34 4 (.slice (some ⟨g, 0, none⟩) (ls.length + 1) cap) (ls.length + 1) (headCells ls ++ z)) (hgrow : (((w.alloc o1).alloc o2).drew).grownBy w7 v.ownBlock) (hat : v.ownBlock = some g ∨ g = w.heap.size + 1 + 1)
    (h8g : ∀ cur, w7.heap[g]? = some (.cells cur 34 (0, 0)) → w8.heap[g]? = some (.cells ((((cur.setIfInBounds (ls.length * 4) (.int .i64 x.k)).setIfInBounds (ls.length * 4 + 1) (.int .i64 x.n)).setIfInBounds (ls.length * 4 + 2) (.string x.s)).setIfInBounds (ls.length * 4 + 3) x.sv) 34 (0, 0)))
    (h8l : w8.heap[lb]? = some (.cells #[.slice (some ⟨g, 0, none⟩) (ls.length + 1) cap] 32 (0, 0))) (h8 : Keeps (fun j => j = g ∨ j = lb) w7 w8) : ArgsSt w0 w8 R tv a σ c fr so rb lb ab al g cap (ls ++ [x]) := by
  obtain ⟨k1, k2, k3, o1', o2', o3, o4, o5⟩ := hk
  have hsz : (((w.alloc o1).alloc o2).drew).heap.size = w.heap.size + 2 := by simp
  have hgs : g ∈ lb :: v.ownBlock.toList ∨ w.heap.size ≤ g := by
    rcases hat with h1 | h1
    · exact .inl (by simp [h1])
    · exact .inr (by omega)
  have hlen : (ls ++ [x]).length = ls.length + 1 := by simp
  have K : Keeps (fun j => j ∈ lb :: v.ownBlock.toList ∨ w.heap.size ≤ j) w w8 := by
    have K1 : Keeps (fun j => j ∈ lb :: v.ownBlock.toList ∨ w.heap.size ≤ j) w w7 := (((Keeps.refl _ w).alloc o1).alloc o2).drew.grown hgrow fun k hk => .inl (.inl (by simp [hk]))
    refine K1.trans h8 fun j hj => ?_
    rcases hj with rfl | rfl
    · exact .inl hgs
    · exact .inl (.inl (by simp))
  have hlb := o3.lt
  have hg8 : g < w8.heap.size := Nat.lt_of_lt_of_le (hown.lt g rfl).2 h8.size
  have hst := h.mine (E' := [g]) K (fun j hj => hj) (by simp) (fun j hj => by
    obtain rfl := List.mem_singleton.1 hj
    rcases hgs with h1 | h1
    · exact .inl h1
    · exact .inr ⟨h1, hg8⟩)
  have hS : ∀ j, Still w (ownL R c fr (lb :: v.ownBlock.toList)) j → ¬ (j ∈ lb :: v.ownBlock.toList ∨ w.heap.size ≤ j) := fun j hj hF => by
    rcases hF with h1 | h1
    · exact hj.2 (by rw [ownL_app]; exact List.mem_append_right _ h1)
    · have := hj.1; omega
  have hS' : ∀ j, Still w (ownL R c fr (lb :: v.ownBlock.toList)) j → Still w8 (ownL R c fr [g]) j := fun j hj => ⟨Nat.lt_of_lt_of_le hj.1 K.size, fun hm => by
    rw [ownL_app] at hm
    rcases List.mem_append.1 hm with h1 | h1
    · exact hj.2 (by rw [ownL_app]; exact List.mem_append_left _ h1)
    · obtain rfl := List.mem_singleton.1 h1
      rcases hgs with h2 | h2
      · exact hj.2 (by rw [ownL_app]; exact List.mem_append_right _ h2)
      · have := hj.1; omega⟩
  have hH : ∀ t, Held w (ownL R c fr (lb :: v.ownBlock.toList)) t → Held w8 (ownL R c fr [g]) t := fun t ht => ⟨AT.mem_keeps K ht.ins hS ht.mem, AT.ins_mono hS' t ht.ins⟩
  have hgl : g ≠ lb := fun e => by
    rcases hat with h1 | h1
    · have hnd := h.mem.nodup
      rw [ownL_app] at hnd
      have := (List.nodup_append.1 hnd).2.1
      rw [h1] at this
      simp at this
      exact this e.symm
    · have := o3.lt; omega
  refine ⟨hst, ?_, fun t ht => ?_, o1'.keeps K (hS _ k1), o2'.keeps K (hS _ k2), by rw [hlen]; exact h8l, hS' _ k1, hS' _ k2, AlA.mem_keeps k3 K hS hS', fun e => ?_⟩
  · rw [hlen, headCells_app]
    exact row_last hown (headCells_len ls) _ _ _ _ (by simp [headCells]) h8g
  · rcases List.mem_append.1 ht with ht | ht
    · exact hH t ⟨(o5 t ht).1, (o5 t ht).2⟩
    · obtain rfl := List.mem_singleton.1 ht
      exact hH _ hx
  · have hnd := h.mem.nodup
    rw [ownL_app] at hnd
    exact (List.nodup_append.1 hnd).2.2 R (mem_ownL.2 (.inl rfl)) lb (by simp) e.symm
end Go.Proofs.YtkplokfcjjcpcaaGreatDoor
end
section
namespace Go.Proofs.YtkplokfcjjcpcaaGreatDoor
open Go Go.RowKit Go.Maps Trm
attribute [local go_sem ↓] Go.wp_at_zero Go.wp_at_succ
def Al.fit : Al → Prop
  | .comp s => s.size ≤ 5000
  | .items => True
theorem zero_cells {w : World} {b g n cap : Nat} {xs : List Value} (h : w.ownsRow b 34 4 (.slice (some ⟨g, 0, none⟩) (n + 1) cap) (n + 1) (xs ++ [.int .i64 0, .int .i64 0, .string ⟨#[]⟩, .slice none 0 0])) (hx : xs.length = n * 4) :
    (w.cell? ⟨g, n * 4, none⟩ = some (.int .i64 0) ∧ w.cell? ⟨g, n * 4 + 1, none⟩ = some (.int .i64 0) ∧ w.cell? ⟨g, n * 4 + 2, none⟩ = some (.string ⟨#[]⟩) ∧ w.cell? ⟨g, n * 4 + 3, none⟩ = some (.slice none 0 0)) ∧ (∀ o, w.frozen? ⟨g, o, none⟩ = false) ∧ n + 1 ≤ cap ∧ cap ≤ 9223372036854775807 := by
  obtain ⟨h0, ⟨h1, h2⟩ | ⟨g', cap', cur, hv, h2, h3, h4, h5, h6, h7⟩⟩ := h
  · simp at h1
  · simp at hv
    obtain ⟨rfl, rfl⟩ := hv
    have key : ∀ j v, j < 4 → [Value.int .i64 0, .int .i64 0, .string ⟨#[]⟩, .slice none 0 0][j]? = some v → cur[n * 4 + j]? = some v := fun j v hj hv => by
      have h8 := congrArg (fun l => l[n * 4 + j]?) h7
      simp only [List.getElem?_take] at h8
      rw [if_pos (by omega), List.getElem?_append_right (by omega), hx, show n * 4 + j - n * 4 = j from by omega, hv] at h8
      simpa using h8
    refine ⟨⟨cell_of_heap h3 (key 0 _ (by omega) rfl), cell_of_heap h3 (key 1 _ (by omega) rfl), cell_of_heap h3 (key 2 _ (by omega) rfl), cell_of_heap h3 (key 3 _ (by omega) rfl)⟩, fun o => free_of_heap h3, h4, by unfold maxLen at h5; omega⟩
theorem five_a {w : World} {g lb n : Nat} {T U : TypeId} {v y0 y1 y2 y3 u : Value} (hne : g ≠ lb) (hl : w.heap[lb]? = some (.cells #[v] U (0, 0))) :
    (∀ cur, w.heap[g]? = some (.cells cur T (0, 0)) → (((((w.setCell ⟨g, n * 4, none⟩ y0).setCell ⟨g, n * 4 + 1, none⟩ y1).setCell ⟨g, n * 4 + 2, none⟩ y2).setCell ⟨g, n * 4 + 3, none⟩ y3).setCell ⟨lb, 0, none⟩ u).heap[g]? = some (.cells ((((cur.setIfInBounds (n * 4) y0).setIfInBounds (n * 4 + 1) y1).setIfInBounds (n * 4 + 2) y2).setIfInBounds (n * 4 + 3) y3) T (0, 0))) ∧
    (((((w.setCell ⟨g, n * 4, none⟩ y0).setCell ⟨g, n * 4 + 1, none⟩ y1).setCell ⟨g, n * 4 + 2, none⟩ y2).setCell ⟨g, n * 4 + 3, none⟩ y3).setCell ⟨lb, 0, none⟩ u).heap[lb]? = some (.cells #[u] U (0, 0)) ∧
    Keeps (fun j => j = g ∨ j = lb) w (((((w.setCell ⟨g, n * 4, none⟩ y0).setCell ⟨g, n * 4 + 1, none⟩ y1).setCell ⟨g, n * 4 + 2, none⟩ y2).setCell ⟨g, n * 4 + 3, none⟩ y3).setCell ⟨lb, 0, none⟩ u) := by
  refine ⟨fun cur hc => ?_, ?_, (((((Keeps.refl _ w).setCell (p := ⟨g, n * 4, none⟩) (.inl (.inl rfl)) _).setCell (p := ⟨g, n * 4 + 1, none⟩) (.inl (.inl rfl)) _).setCell (p := ⟨g, n * 4 + 2, none⟩) (.inl (.inl rfl)) _).setCell (p := ⟨g, n * 4 + 3, none⟩) (.inl (.inl rfl)) _).setCell (p := ⟨lb, 0, none⟩) (.inl (.inr rfl)) _⟩
  · rw [heap_set_ne hne]
    exact heap_set (heap_set (heap_set (heap_set hc _) _) _) _
  · have h4 : ((((w.setCell ⟨g, n * 4, none⟩ y0).setCell ⟨g, n * 4 + 1, none⟩ y1).setCell ⟨g, n * 4 + 2, none⟩ y2).setCell ⟨g, n * 4 + 3, none⟩ y3).heap[lb]? = some (.cells #[v] U (0, 0)) := by
      rw [heap_set_ne hne.symm, heap_set_ne hne.symm, heap_set_ne hne.symm, heap_set_ne hne.symm]
      exact hl
    exact heap_set h4 _
theorem five_b {w : World} {g lb n : Nat} {T U : TypeId} {v y0 y1 y2 y3 u : Value} (hne : g ≠ lb) (hl : w.heap[lb]? = some (.cells #[v] U (0, 0))) :
    (∀ cur, w.heap[g]? = some (.cells cur T (0, 0)) → (((((w.setCell ⟨lb, 0, none⟩ u).setCell ⟨g, n * 4, none⟩ y0).setCell ⟨g, n * 4 + 1, none⟩ y1).setCell ⟨g, n * 4 + 2, none⟩ y2).setCell ⟨g, n * 4 + 3, none⟩ y3).heap[g]? = some (.cells ((((cur.setIfInBounds (n * 4) y0).setIfInBounds (n * 4 + 1) y1).setIfInBounds (n * 4 + 2) y2).setIfInBounds (n * 4 + 3) y3) T (0, 0))) ∧
    (((((w.setCell ⟨lb, 0, none⟩ u).setCell ⟨g, n * 4, none⟩ y0).setCell ⟨g, n * 4 + 1, none⟩ y1).setCell ⟨g, n * 4 + 2, none⟩ y2).setCell ⟨g, n * 4 + 3, none⟩ y3).heap[lb]? = some (.cells #[u] U (0, 0)) ∧
    Keeps (fun j => j = g ∨ j = lb) w (((((w.setCell ⟨lb, 0, none⟩ u).setCell ⟨g, n * 4, none⟩ y0).setCell ⟨g, n * 4 + 1, none⟩ y1).setCell ⟨g, n * 4 + 2, none⟩ y2).setCell ⟨g, n * 4 + 3, none⟩ y3) := by
  refine ⟨fun cur hc => ?_, ?_, (((((Keeps.refl _ w).setCell (p := ⟨lb, 0, none⟩) (.inl (.inr rfl)) _).setCell (p := ⟨g, n * 4, none⟩) (.inl (.inl rfl)) _).setCell (p := ⟨g, n * 4 + 1, none⟩) (.inl (.inl rfl)) _).setCell (p := ⟨g, n * 4 + 2, none⟩) (.inl (.inl rfl)) _).setCell (p := ⟨g, n * 4 + 3, none⟩) (.inl (.inl rfl)) _⟩
  · exact heap_set (heap_set (heap_set (heap_set ((heap_set_ne hne _).trans hc) _) _) _) _
  · rw [heap_set_ne hne.symm, heap_set_ne hne.symm, heap_set_ne hne.symm, heap_set_ne hne.symm]
    exact heap_set hl _
theorem ArgsSt.own {w0 : Base} {w8 : World} {R : Nat} {tv : Value} {a : Nat} {σ : Ms} {c : Rc} {fr : List FrA} {so : AT} {rb lb ab : Nat} {al : AlA} {g cap : Nat} {ls : List AT} (h : ArgsSt w0 w8 R tv a σ c fr so rb lb ab al g cap ls) (hl : ls ≠ []) : LRow w8 (ownL R c fr []) (.slice (some ⟨g, 0, none⟩) ls.length cap) g ls := by
  have hS : ∀ j, Still w8 (ownL R c fr [g]) j → Still w8 (ownL R c fr []) j := fun j hj => hj.less fun _ h => by cases h
  obtain ⟨G, g1, g2, g3⟩ := row_mem h.row rfl fun t ht => (h.held t ht).mem
  have hg : G = g := by have := g3 hl; simp [Value.ownBlock] at this; exact this.symm
  subst hg
  have hnd := h.st.mem.nodup
  have hlow := h.st.mem.low G (mem_ownL.2 (.inr (.inr (.inr (.inr (.inr (by simp)))))))
  rw [ownL_app] at hnd
  exact ⟨g1, g2, fun _ => ⟨hlow.2, fun hm => (List.nodup_append.1 hnd).2.2 _ hm G (by simp) rfl⟩, ins_list fun t ht => AT.ins_mono hS t (h.held t ht).ins⟩
set_option maxRecDepth 100000 in
set_option maxHeartbeats 6400000 in
theorem args1_is {w0 : Base} {w : World} {a m : Nat} {L : List Ops.Df} {R : Nat} {tv : Value} {l : List Tok} {σ : Ms} {c : Rc} {fr : List FrA} {so : AT} (rb lb ab : Nat) (v : Value) (ls : List AT) (al : AlA) (h : StX w0 w R tv a σ (lb :: v.ownBlock.toList) c fr so) (hC : Ctx w0 a m L tv l) (hi : σ.i ≤ 10000) (hst : σ.stk.length ≤ 100000) (hk : (KtA.args rb lb ab v ls al).mem w0.heap.size w R (Still w (ownL R c fr (lb :: v.ownBlock.toList)))) (hn : ls.length ≤ 9000) (x : AT) (hx : Held w (ownL R c fr (lb :: v.ownBlock.toList)) x) (hal : al.al.fit) :
    Calls Tryz.prog 224 #[x.val, .pointer (some ⟨lb, 0, none⟩), .pointer (some ⟨rb, 0, none⟩), .pointer (some ⟨ab, 0, none⟩)] w (POut w0 R tv a (thenZ l σ x.erase (.args (ATs.erase ls) al.al))) := by
  obtain ⟨i0, hii, hz0, _, hz1, hz2⟩ := info_some (show (Tryz.prog.info? 34).map (fun i => (i.zero, i.size, i.bytes)) = some (some (.agg #[.int .i64 0, .int .i64 0, .string ⟨#[]⟩, .slice none 0 0]), 4, 56) by kernel_rfl)
  have hK := hk
  obtain ⟨k1, k2, k3, o1, o2, o3, o4, o5⟩ := hk
  obtain ⟨va, vk, hv⟩ := owns_slice2 o4
  obtain ⟨xa, xn, xk, xsv⟩ := AT.sv_slice hx.mem
  have hO : ∀ j ∈ ownL R c fr (lb :: v.ownBlock.toList), j < w.heap.size := fun j hj => (h.mem.low j hj).2
  have hlbv : v.ownBlock ≠ some lb := fun e => by
    have hnd := h.mem.nodup
    rw [ownL_app] at hnd
    have := (List.nodup_append.1 hnd).2.1
    rw [e] at this
    simp at this
  have hlb := o3.lt
  have hws := h.below.size
  obtain ⟨n, hnn⟩ : ∃ n, ls.length = n := ⟨_, rfl⟩
  obtain ⟨W0, hW0⟩ : ∃ W0, w.alloc (.cells #[.int .i64 x.k, .int .i64 x.n, .string x.s, .slice xa xn xk] 34) = W0 := ⟨_, rfl⟩
  have bW : Below w.heap.size w W0 := by rw [← hW0]; exact (Below.refl _ _).alloc (Nat.le_refl _) _
  have hzW : W0.heap.size = w.heap.size + 1 := by rw [← hW0]; simp
  have hbx : W0.heap[w.heap.size]? = some (.cells #[.int .i64 x.k, .int .i64 x.n, .string x.s, .slice xa xn xk] 34 (0, 0)) := by rw [← hW0]; exact new_at _ _ rfl
  have hl0 : W0.heap[lb]? = some (.cells #[v] 32 (0, 0)) := (bW.block _ hlb).trans o3
  have OWN := Lib.hid (fun o => show (W0.alloc o).drew.ownsRow w0.heap.size 34 4 v ls.length (headCells ls) from row_keeps (F := fun _ => False) (row_keeps (F := fun _ => False) o4 (keeps_below bW) (fun _ _ h => h)) (((Keeps.refl _ W0).alloc o).drew) (fun _ _ h => h))
  have NEWS := Lib.hid (show ∀ j u, [Value.int .i64 0, .int .i64 0, .string ⟨#[]⟩, .slice none 0 0][j]? = some u → (W0.alloc (.cells #[.int .i64 0, .int .i64 0, .string ⟨#[]⟩, .slice none 0 0] 34)).drew.cell? ((⟨W0.heap.size, 0, none⟩ : Addr).add j) = some u from World.news_of_block (w := (W0.alloc (.cells #[.int .i64 0, .int .i64 0, .string ⟨#[]⟩, .slice none 0 0] 34)).drew) (heap_alloc_new W0 _))
  have ONE : Hid (∀ u ∈ [Value.int .i64 0, .int .i64 0, .string ⟨#[]⟩, .slice none 0 0], u.oneCell' = true) := by
    show ∀ u ∈ [Value.int .i64 0, .int .i64 0, .string ⟨#[]⟩, .slice none 0 0], u.oneCell' = true
    intro u hu
    simp at hu
    rcases hu with rfl | rfl | rfl | rfl <;> rfl
  have T7 := Lib.hid (fun w7 g cap (hown : w7.ownsRow w0.heap.size 34 4 (.slice (some ⟨g, 0, none⟩) (ls.length + 1) cap) (ls.length + 1) (headCells ls ++ [.int .i64 0, .int .i64 0, .string ⟨#[]⟩, .slice none 0 0])) (hgrow : ((W0.alloc (.cells #[.int .i64 0, .int .i64 0, .string ⟨#[]⟩, .slice none 0 0] 34)).drew).grownBy w7 v.ownBlock) (hat : v.ownBlock = some g ∨ g = W0.heap.size + 1) =>
    show (g ≠ lb ∧ lb ≠ g ∧ g ≠ w.heap.size ∧ w.heap.size ≠ g) ∧ Hid (w7.heap[lb]? = some (.cells #[v] 32 (0, 0))) ∧ (w7.cell? ⟨lb, 0, none⟩ = some v ∧ w7.frozen? ⟨lb, 0, none⟩ = false) ∧ (w7.cell? ⟨w.heap.size, 0, none⟩ = some (.int .i64 x.k) ∧ w7.cell? ⟨w.heap.size, 1, none⟩ = some (.int .i64 x.n) ∧ w7.cell? ⟨w.heap.size, 2, none⟩ = some (.string x.s) ∧ w7.cell? ⟨w.heap.size, 3, none⟩ = some (.slice xa xn xk)) ∧ _ by
      have hgl : g ≠ lb := fun e => by
        rcases hat with hh | hh
        · exact hlbv (by rw [hh, e])
        · omega
      have e1 : w7.heap[lb]? = some (.cells #[v] 32 (0, 0)) := by
        rw [hgrow.block lb (by simp; omega) (fun e => hlbv e.symm)]
        exact (Below.heap_alloc _ _ _ (by omega)).trans hl0
      have e2 : w7.heap[w.heap.size]? = some (.cells #[.int .i64 x.k, .int .i64 x.n, .string x.s, .slice xa xn xk] 34 (0, 0)) := by
        rw [hgrow.block _ (by simp; omega) (fun e => by have := hO w.heap.size (by rw [ownL_app]; exact List.mem_append_right _ (by simp [← e])); omega)]
        exact (Below.heap_alloc _ _ _ (by omega)).trans hbx
      have hgw : g ≠ w.heap.size := fun e => by
        rcases hat with hh | hh
        · have := hO g (by rw [ownL_app]; exact List.mem_append_right _ (by simp [hh])); omega
        · omega
      exact ⟨⟨hgl, hgl.symm, hgw, hgw.symm⟩, e1, ⟨cell_of_heap e1 rfl, free_of_heap e1⟩, ⟨cell_of_heap e2 rfl, cell_of_heap e2 rfl, cell_of_heap e2 rfl, cell_of_heap e2 rfl⟩, zero_cells hown (headCells_len ls)⟩)
  have FA := Lib.hid (fun w7 g cap (hown : w7.ownsRow w0.heap.size 34 4 (.slice (some ⟨g, 0, none⟩) (ls.length + 1) cap) (ls.length + 1) (headCells ls ++ [.int .i64 0, .int .i64 0, .string ⟨#[]⟩, .slice none 0 0])) (hgrow : ((W0.alloc (.cells #[.int .i64 0, .int .i64 0, .string ⟨#[]⟩, .slice none 0 0] 34)).drew).grownBy w7 v.ownBlock) (hat : v.ownBlock = some g ∨ g = W0.heap.size + 1) (ne1 : g ≠ lb) (HL7 : Hid (w7.heap[lb]? = some (.cells #[v] 32 (0, 0)))) =>
    show ∃ g1 c1, Hid (ArgsSt w0 (((((w7.setCell ⟨g, ls.length * 4, none⟩ (.int .i64 x.k)).setCell ⟨g, ls.length * 4 + 1, none⟩ (.int .i64 x.n)).setCell ⟨g, ls.length * 4 + 2, none⟩ (.string x.s)).setCell ⟨g, ls.length * 4 + 3, none⟩ (.slice xa xn xk)).setCell ⟨lb, 0, none⟩ (.slice (some ⟨g, 0, none⟩) (ls.length + 1) cap)) R tv a σ c fr so rb lb ab al g1 c1 (ls ++ [x])) by
      have q := five_a (n := ls.length) (T := 34) (U := 32) (y0 := .int .i64 x.k) (y1 := .int .i64 x.n) (y2 := .string x.s) (y3 := .slice xa xn xk) (u := .slice (some ⟨g, 0, none⟩) (ls.length + 1) cap) ne1 HL7
      refine ⟨g, cap, args_fin (o1 := .cells #[.int .i64 x.k, .int .i64 x.n, .string x.s, .slice xa xn xk] 34) (o2 := .cells #[.int .i64 0, .int .i64 0, .string ⟨#[]⟩, .slice none 0 0] 34) h hK hx hown (by rw [hW0]; exact hgrow) (by rw [← hzW]; exact hat) (by rw [xsv]; exact q.1) q.2.1 q.2.2⟩)
  have FB := Lib.hid (fun w7 g cap (hown : w7.ownsRow w0.heap.size 34 4 (.slice (some ⟨g, 0, none⟩) (ls.length + 1) cap) (ls.length + 1) (headCells ls ++ [.int .i64 0, .int .i64 0, .string ⟨#[]⟩, .slice none 0 0])) (hgrow : ((W0.alloc (.cells #[.int .i64 0, .int .i64 0, .string ⟨#[]⟩, .slice none 0 0] 34)).drew).grownBy w7 v.ownBlock) (hat : v.ownBlock = some g ∨ g = W0.heap.size + 1) (ne1 : g ≠ lb) (HL7 : Hid (w7.heap[lb]? = some (.cells #[v] 32 (0, 0)))) =>
    show ∃ g1 c1, Hid (ArgsSt w0 (((((w7.setCell ⟨lb, 0, none⟩ (.slice (some ⟨g, 0, none⟩) (ls.length + 1) cap)).setCell ⟨g, ls.length * 4, none⟩ (.int .i64 x.k)).setCell ⟨g, ls.length * 4 + 1, none⟩ (.int .i64 x.n)).setCell ⟨g, ls.length * 4 + 2, none⟩ (.string x.s)).setCell ⟨g, ls.length * 4 + 3, none⟩ (.slice xa xn xk)) R tv a σ c fr so rb lb ab al g1 c1 (ls ++ [x])) by
      have q := five_b (n := ls.length) (T := 34) (U := 32) (y0 := .int .i64 x.k) (y1 := .int .i64 x.n) (y2 := .string x.s) (y3 := .slice xa xn xk) (u := .slice (some ⟨g, 0, none⟩) (ls.length + 1) cap) ne1 HL7
      refine ⟨g, cap, args_fin (o1 := .cells #[.int .i64 x.k, .int .i64 x.n, .string x.s, .slice xa xn xk] 34) (o2 := .cells #[.int .i64 0, .int .i64 0, .string ⟨#[]⟩, .slice none 0 0] 34) h hK hx hown (by rw [hW0]; exact hgrow) (by rw [← hzW]; exact hat) (by rw [xsv]; exact q.1) q.2.1 q.2.2⟩)
  have q0 : W0.cell? ⟨lb, 0, none⟩ = some v := cell_of_heap hl0 rfl
  have q1 : W0.cell? ⟨w.heap.size, 0, none⟩ = some (.int .i64 x.k) := cell_of_heap hbx rfl
  have q2 : W0.cell? ⟨w.heap.size, 1, none⟩ = some (.int .i64 x.n) := cell_of_heap hbx rfl
  have q3 : W0.cell? ⟨w.heap.size, 2, none⟩ = some (.string x.s) := cell_of_heap hbx rfl
  have q4 : W0.cell? ⟨w.heap.size, 3, none⟩ = some (.slice xa xn xk) := cell_of_heap hbx rfl
  have hbxA : (W0.alloc (.cells #[.int .i64 0, .int .i64 0, .string ⟨#[]⟩, .slice none 0 0] 34)).heap[w.heap.size]? = some (.cells #[.int .i64 x.k, .int .i64 x.n, .string x.s, .slice xa xn xk] 34 (0, 0)) := (Below.heap_alloc _ _ _ (by omega)).trans hbx
  have hlA : (W0.alloc (.cells #[.int .i64 0, .int .i64 0, .string ⟨#[]⟩, .slice none 0 0] 34)).heap[lb]? = some (.cells #[v] 32 (0, 0)) := (Below.heap_alloc _ _ _ (by omega)).trans hl0
  have r0 := cell_of_heap (o := 0) hlA rfl
  have r1 := cell_of_heap (o := 0) hbxA rfl
  have r2 := cell_of_heap (o := 1) hbxA rfl
  have r3 := cell_of_heap (o := 2) hbxA rfl
  have r4 := cell_of_heap (o := 3) hbxA rfl
  have XSV := Lib.hid xsv
  have HN := Lib.hid hnn
  have HV := Lib.hid hv
  unfold AT.val
  rw [xsv]
  rw [hv] at q0 r0 OWN T7 FA FB
  rw [hnn] at q0 r0 OWN T7 hn FA FB
  have HZ := Lib.hid hzW
  have nb1 : w.heap.size ≠ lb := by omega
  have nb2 : lb ≠ w.heap.size := by omega
  have bnd : (n : Int) < (n : Int) + 1 := by omega
  have hbs : w0.heap.size ≤ W0.heap.size := by omega
  clear h hK k1 k2 k3 o1 o2 o3 o4 o5 hx hO hlbv hbx hl0 hbxA hlA bW hv hzW hws
  obtain ⟨o, ho0⟩ : ∃ o, thenZ l σ x.erase (.args (ATs.erase ls) al.al) = o := ⟨_, rfl⟩
  rw [ho0]
  go_enter Tryz.func224, Tryz.ntmps224
  go_wp2_with fail
  try rw [hW0]
  go_cut [] from 5 (fun wc => ∃ g cap, Hid (ArgsSt w0 wc R tv a σ c fr so rb lb ab al g cap (ls ++ [x])))
  case first =>
    go_region_law ((refine step_append_lies _ (by rfl) (.tmp 5) (.tmp 8) 32 (by rfl) w0.heap.size 34 i0 (.agg #[.int .i64 0, .int .i64 0, .string ⟨#[]⟩, .slice none 0 0]) 4 56 Tryz.underlying32 hii hz0 hz1 hz2 (by rfl) (by decide) (.slice va n vk) n (headCells ls) (by rfl) (OWN.out _) ⟨W0.heap.size, 0, none⟩ 1 1 [.int .i64 0, .int .i64 0, .string ⟨#[]⟩, .slice none 0 0] (by rfl) (by rfl) NEWS.out ONE.out (by omega) (by unfold maxLen; omega) (by omega) (by simp; omega) (W0.heap.size + 1) (by simp) ?_; intro g cap w7 hown hgrow hat hlt2; obtain ⟨⟨ne1, ne2, ne3, ne4⟩, HL7, ⟨t1, t2⟩, ⟨t3, t4, t5, t6⟩, ⟨t7, t8, t9, t10⟩, tf, tc1, tc2⟩ := T7.out w7 g cap hown hgrow hat; have tf0 := tf (n * 4); have tf1 := tf (n * 4 + 1); have tf2 := tf (n * 4 + 2); have tf3 := tf (n * 4 + 3)))
    all_goals
      have GA := Lib.hid (FA.out w7 g cap hown hgrow hat ne1 HL7)
      have GB := Lib.hid (FB.out w7 g cap hown hgrow hat ne1 HL7)
      clear hown hgrow hat hlt2 T7 FA FB t1 t2 t3 t4 t5 t6 t7 t8 t9 t10 tf tf0 tf1 tf2 tf3 tc1 tc2 ne1 ne2 ne3 ne4 HL7 NEWS OWN ONE q0 q1 q2 q3 q4 r0 r1 r2 r3 r4 hW0
      go_wp2_with fail
      go_meet
      case rel =>
        first
        | with_reducible exact GA.out
        | with_reducible exact GB.out
  case rest =>
    obtain ⟨g, cap, AS⟩ := hcut
    clear FA FB T7 NEWS ONE OWN q0 q1 q2 q3 q4 r0 r1 r2 r3 r4
    have hz := AS.out.srb.1
    have p1 := AS.out.orb.cell
    have TK := Lib.hid (fun b hb => takesS AS.out.st hC ⟨#[44]⟩ b hb hi)
    have HER : Hid (ATs.erase (ls ++ [x]) = ATs.erase ls ++ [x.erase]) := by
      show ATs.erase (ls ++ [x]) = _
      rw [erase_app]
      rfl
    simp only [thenZ] at ho0
    rw [← HER.out] at ho0
    have hne : ls ++ [x] ≠ [] := by simp
    obtain ⟨m2, hm2⟩ : ∃ k, (ls ++ [x]).length = k := ⟨_, rfl⟩
    cases hb : isP l σ.i [44]
    · have E1 := Lib.hid (TK.out false hb)
      rw [hb, if_neg (by simp)] at ho0
      have ho := ho0
      clear TK ho0
      have CALL := Lib.hid (fun w9 (k9 : Keeps (fun j => j = R) wc w9) (h9 : StX w0 w9 R tv a σ [g] c fr so) => show w9.cell? ⟨lb, 0, none⟩ = some (.slice (some ⟨g, 0, none⟩) (ls ++ [x]).length cap) ∧ w9.cell? ⟨ab, 0, none⟩ = some (al.val R) ∧ StX w0 w9 R tv a σ [] c fr so ∧ LRow w9 (ownL R c fr []) (.slice (some ⟨g, 0, none⟩) (ls ++ [x]).length cap) g (ls ++ [x]) ∧ al.mem w9 R (Still w9 (ownL R c fr [])) by
        have AS9 := AS.out.R k9 h9 rfl
        have LR := AS9.own hne
        have H0 := AS9.st.fewer (E' := []) (List.nil_sublist _)
        exact ⟨AS9.olb.cell, AS9.oab.cell, H0, LR, AlA.mem_keeps AS9.mal (Keeps.refl (fun _ => False) w9) (fun _ _ h => h) fun _ hj => hj.less fun _ h => by cases h⟩)
      have hn2 : (ls ++ [x]).length ≤ 10000 := by rw [List.length_append, HN.out]; simp; omega
      rw [hm2] at CALL
      cases al with
      | comp rb' nb' s' =>
        have CC := Lib.hid (fun w9 (H0 : StX w0 w9 R tv a σ [] c fr so) (LR : LRow w9 (ownL R c fr []) (.slice (some ⟨g, 0, none⟩) (ls ++ [x]).length cap) g (ls ++ [x])) mal => compound1_is H0 hC hi rb' nb' s' mal hal (.slice (some ⟨g, 0, none⟩) (ls ++ [x]).length cap) g (ls ++ [x]) ⟨⟨LR.sv, LR.mem⟩, ⟨LR.G, LR.ins⟩⟩)
        simp only [AlA.al] at ho
        rw [ho, hm2] at CC
        unfold AlA.val pt at CALL
        clear AS
        cases o
        · go_wp2_with fail
          refine E1.out.mono ?_
          rintro e w9 ⟨rfl, k9, _, h9⟩
          obtain ⟨p2, p3, H0, LR, mal⟩ := CALL.out w9 k9 (h9 trivial)
          have C9 := Lib.hid (CC.out w9 H0 LR mal)
          clear k9 h9 E1 H0 LR mal CALL CC
          go_wp2_with fail
          refine C9.out.mono ?_
          rintro e w10 ⟨rfl, hs⟩
          have HS := Lib.hid hs
          clear hs C9
          go_wp2_with fail
          first | go_end0 | refine bodyPost_ret (results_none rfl _ _ _) rfl ?_
          exact ⟨rfl, HS.out⟩
        · go_wp2_with fail
          refine E1.out.mono ?_
          rintro e w9 ⟨rfl, k9, _, h9⟩
          obtain ⟨p2, p3, H0, LR, mal⟩ := CALL.out w9 k9 (h9 trivial)
          have C9 := Lib.hid (CC.out w9 H0 LR mal)
          clear k9 h9 E1 H0 LR mal CALL CC
          go_wp2_with fail
          refine C9.out.mono ?_
          rintro e w10 ⟨rfl, hs⟩
          have HS := Lib.hid hs
          clear hs C9
          unfold stuckE
          go_wp2_with fail
          exact ⟨rfl, rfl, HS.out⟩
      | items =>
        have CC := Lib.hid (fun w9 (H0 : StX w0 w9 R tv a σ [] c fr so) (LR : LRow w9 (ownL R c fr []) (.slice (some ⟨g, 0, none⟩) (ls ++ [x]).length cap) g (ls ++ [x])) => items_is H0 hC hi hst g (.slice (some ⟨g, 0, none⟩) (ls ++ [x]).length cap) (ls ++ [x]) LR hn2)
        simp only [AlA.al] at ho
        rw [ho, hm2] at CC
        unfold AlA.val pt at CALL
        clear AS
        cases o
        · go_wp2_with fail
          refine E1.out.mono ?_
          rintro e w9 ⟨rfl, k9, _, h9⟩
          obtain ⟨p2, p3, H0, LR, mal⟩ := CALL.out w9 k9 (h9 trivial)
          have C9 := Lib.hid (CC.out w9 H0 LR)
          clear k9 h9 E1 H0 LR mal CALL CC
          go_wp2_with fail
          refine C9.out.mono ?_
          rintro e w10 ⟨rfl, hs⟩
          have HS := Lib.hid hs
          clear hs C9
          go_wp2_with fail
          first | go_end0 | refine bodyPost_ret (results_none rfl _ _ _) rfl ?_
          exact ⟨rfl, HS.out⟩
        · go_wp2_with fail
          refine E1.out.mono ?_
          rintro e w9 ⟨rfl, k9, _, h9⟩
          obtain ⟨p2, p3, H0, LR, mal⟩ := CALL.out w9 k9 (h9 trivial)
          have C9 := Lib.hid (CC.out w9 H0 LR)
          clear k9 h9 E1 H0 LR mal CALL CC
          go_wp2_with fail
          refine C9.out.mono ?_
          rintro e w10 ⟨rfl, hs⟩
          have HS := Lib.hid hs
          clear hs C9
          unfold stuckE
          go_wp2_with fail
          exact ⟨rfl, rfl, HS.out⟩
    · have E1 := Lib.hid (TK.out true hb)
      rw [hb, if_pos rfl] at ho0
      subst ho0
      clear TK
      go_wp2_with fail
      refine E1.out.mono ?_
      rintro e w9 ⟨rfl, k9, h9, _⟩
      have AS9 := Lib.hid (AS.out.R k9 (h9 trivial) rfl)
      have p1 := AS9.out.orb.cell
      have p2 := AS9.out.olb.cell
      have p3 := AS9.out.oab.cell
      have AR := Lib.hid (arguments_is (.slice (some ⟨g, 0, none⟩) (ls ++ [x]).length cap) AS9.out.st hst (ls ++ [x]) AS9.out.row AS9.out.held al AS9.out.mal)
      rw [hm2] at p2 AR
      clear k9 h9 E1 AS9 AS
      go_wp2_with fail
      refine AR.out.mono ?_
      rintro e w10 ⟨rfl, hs⟩
      have HS := Lib.hid hs
      clear hs AR
      go_wp2_with fail
      first | go_end0 | refine bodyPost_ret (results_none rfl _ _ _) rfl ?_
      exact ⟨rfl, HS.out⟩
end Go.Proofs.YtkplokfcjjcpcaaGreatDoor
end
section
namespace Go.Proofs.YtkplokfcjjcpcaaGreatDoor
open Go Go.RowKit Go.Maps Trm
attribute [local go_sem ↓] Go.wp_at_zero Go.wp_at_succ
theorem StX.pop {w0 : Base} {w : World} {R : Nat} {tv : Value} {a : Nat} {σ : Ms} {c : Rc} {f : FrA} {fr : List FrA} {so : AT} (h : StX w0 w R tv a σ [] c (f :: fr) so) :
    ∃ g cap, c.wv = .slice (some ⟨g, 0, none⟩) (fr.length + 1) cap ∧ fr.length + 1 ≤ cap ∧ cap ≤ 9223372036854775807 ∧ w.cell? ⟨g, fr.length * 2 + 1, none⟩ = some (f.k.val R) ∧
      StX w0 (w.setCell ⟨R, 7, none⟩ (.slice (some ⟨g, 0, none⟩) fr.length cap)) R tv a { σ with stk := fr.map FrA.fr } f.k.own { c with wv := .slice (some ⟨g, 0, none⟩) fr.length cap } fr so ∧
      f.k.mem w0.heap.size (w.setCell ⟨R, 7, none⟩ (.slice (some ⟨g, 0, none⟩) fr.length cap)) R (Still (w.setCell ⟨R, 7, none⟩ (.slice (some ⟨g, 0, none⟩) fr.length cap)) (ownL R { c with wv := .slice (some ⟨g, 0, none⟩) fr.length cap } fr f.k.own)) := by
  obtain ⟨g, cap, h1, h2, h3, _, _, _, h7, M, K⟩ := h.mem.pop
  have hk : Keeps (fun j => j = R) w (w.setCell ⟨R, 7, none⟩ (.slice (some ⟨g, 0, none⟩) fr.length cap)) := (Keeps.refl (fun j => j = R) w).setCell (p := ⟨R, 7, none⟩) (.inl rfl) _
  have hst : ∀ j, Still w (ownL R c (f :: fr) []) j → Still (w.setCell ⟨R, 7, none⟩ (.slice (some ⟨g, 0, none⟩) fr.length cap)) (ownL R { c with wv := .slice (some ⟨g, 0, none⟩) fr.length cap } fr f.k.own) j := fun j hj => ⟨Nat.lt_of_lt_of_le hj.1 hk.size, fun hm => by
    refine hj.2 ?_
    rcases mem_ownL.1 hm with e | e | e | e | ⟨f', e, e'⟩ | e
    · exact mem_ownL.2 (.inl e)
    · exact mem_ownL.2 (.inr (.inl e))
    · exact mem_ownL.2 (.inr (.inr (.inl e)))
    · refine mem_ownL.2 (.inr (.inr (.inr (.inl ?_))))
      rw [h1]
      exact e
    · exact mem_ownL.2 (.inr (.inr (.inr (.inr (.inl ⟨f', by simp [e], e'⟩)))))
    · exact mem_ownL.2 (.inr (.inr (.inr (.inr (.inl ⟨f, by simp, e⟩)))))⟩
  exact ⟨g, cap, h1, h2, h3, h7, ⟨M, h.belowK hk, h.tv, h.a, h.prims.same (hk.block _ h.pS.1 h.P_ne), hst _ h.pS, h.i, h.cnt, rfl, h.so, h.p, h.bg, h.sf.keeps hk (fun j hj e => hj.2 (mem_ownL.2 (.inl e))) hst⟩, K⟩
def Kt.fits : Kt → Prop
  | .args L al => L.length ≤ 9000 ∧ al.fit
  | .tail L => L.length ≤ 10000
  | .pre s _ => s.size ≤ 5000
  | .inf s _ _ => s.size ≤ 5000
  | _ => True
theorem erase_len : ∀ l : List AT, (ATs.erase l).length = l.length
  | [] => rfl
  | _ :: r => by
    show (ATs.erase r).length + 1 = r.length + 1
    rw [erase_len r]
def ThenC (w : World) (R : Nat) (so : Value) (Q : Ending → World → Prop) : KtA → Prop
  | .stop => Calls Tryz.prog 94 #[pt R, so] w Q
  | .round => Calls Tryz.prog 183 #[pt R, so] w Q
  | .braces => Calls Tryz.prog 187 #[pt R, so] w Q
  | .args rb lb ab _ _ _ => Calls Tryz.prog 224 #[so, pt lb, pt rb, pt ab] w Q
  | .tail rb lb _ _ _ => Calls Tryz.prog 225 #[so, pt rb, pt lb] w Q
  | .pre rb nb pb _ _ => Calls Tryz.prog 229 #[so, pt rb, pt nb, pt pb] w Q
  | .inf rb nb sb pb _ _ _ => Calls Tryz.prog 231 #[so, pt rb, pt nb, pt sb, pt pb] w Q
theorem then_is {w0 : Base} {w : World} {a m : Nat} {L : List Ops.Df} {R : Nat} {tv : Value} {l : List Tok} {σ : Ms} {k : KtA} {c : Rc} {fr : List FrA} {so : AT} (h : StX w0 w R tv a σ k.own c fr so) (hk : k.mem w0.heap.size w R (Still w (ownL R c fr k.own))) (hf : k.kt.fits) (hC : Ctx w0 a m L tv l) (hi : σ.i ≤ 10000) (hst : σ.stk.length ≤ 90000) :
    ThenC w R so.val (POut w0 R tv a (thenZ l σ σ.so k.kt)) k := by
  have hse := h.so
  cases k with
  | stop => rw [← hse]; exact stopped_is h hC hi so ⟨h.mem.som, h.mem.soi⟩
  | round => rw [← hse]; exact inRound_is h hC hi so ⟨h.mem.som, h.mem.soi⟩
  | braces => rw [← hse]; exact inBraces_is h hC hi so ⟨h.mem.som, h.mem.soi⟩
  | args rb lb ab v ls al =>
    obtain ⟨f1, f2⟩ := hf
    rw [erase_len] at f1
    rw [← hse]
    exact args1_is rb lb ab v ls al h hC hi (by omega) hk f1 so ⟨h.mem.som, h.mem.soi⟩ f2
  | tail rb lb G v ls =>
    have f1 : (ATs.erase ls).length ≤ 10000 := hf
    rw [erase_len] at f1
    obtain ⟨k1, k2, o1, o2, s1, s2, s3, s4⟩ := hk
    rw [← hse]
    exact items1_is h hC hi rb lb G v ls k1 k2 o1 o2 ⟨s1, s2, s3, s4⟩ f1 so ⟨h.mem.som, h.mem.soi⟩
  | pre rb nb pb s p => rw [← hse]; exact prefix1_is h rb nb pb s p hk hf so ⟨h.mem.som, h.mem.soi⟩
  | inf rb nb sb pb s y p => rw [← hse]; exact infix1_is h rb nb sb pb s y p hk hf so ⟨h.mem.som, h.mem.soi⟩
set_option maxRecDepth 100000 in
set_option maxHeartbeats 3200000 in
theorem end_is {w0 : Base} {w : World} {a m : Nat} {L : List Ops.Df} {R : Nat} {tv : Value} {l : List Tok} {σ : Ms} {c : Rc} {fr : List FrA} {so : AT} (h : StX w0 w R tv a σ [] c fr so) (hC : Ctx w0 a m L tv l) (hi : σ.i ≤ 10000) (hst : σ.stk.length ≤ 90000) (hne : σ.stk ≠ []) (hft : ∀ f ∈ σ.stk, f.k.fits) :
    Calls Tryz.prog 194 #[.pointer (some ⟨R, 0, none⟩)] w (POut w0 R tv a (endZ l σ)) := by
  have hR := h.mem.rd.lt
  have hsk := h.stk
  cases fr with
  | nil => exact absurd hsk.symm (by simpa using hne)
  | cons f r =>
    obtain ⟨g, cap, hwv, i2, i3, hkv, H, K⟩ := h.pop
    have hl : r.length ≤ 90000 := by rw [← hsk] at hst; simp at hst; omega
    have hff : f.k.kt.fits := hft f.fr (by rw [← hsk]; simp)
    have T := Lib.hid (then_is H K hff hC hi (by show (r.map FrA.fr).length ≤ 90000; simpa using hl))
    have he : endZ l σ = thenZ l { σ with stk := r.map FrA.fr } σ.so f.k.kt := by
      unfold endZ
      rw [← hsk]
      rfl
    rw [he]
    obtain ⟨o, ho⟩ : ∃ o, thenZ l { σ with stk := r.map FrA.fr } σ.so f.k.kt = o := ⟨_, rfl⟩
    rw [show thenZ l { σ with stk := r.map FrA.fr } ({ σ with stk := r.map FrA.fr } : Ms).so f.k.kt = o from ho] at T
    rw [ho]
    have c7 := h.mem.rd.c_wv
    rw [hwv] at c7
    have z7 := h.mem.rd.free 7
    obtain ⟨xa, xn, xk, xsv⟩ := AT.sv_slice h.mem.som
    have d1 := H.mem.rd.c_k
    have d2 := H.mem.rd.c_n
    have d3 := H.mem.rd.c_s
    have d4 := H.mem.rd.c_sv
    rw [H.mem.k] at d1
    rw [H.mem.n] at d2
    rw [H.mem.s] at d3
    rw [H.mem.sv, xsv] at d4
    unfold AT.val at T
    rw [xsv] at T
    obtain ⟨n, hn⟩ : ∃ n, r.length = n := ⟨_, rfl⟩
    rw [hn] at c7 hkv d1 d2 d3 d4 T i2
    have j0 : (((n + 1 : Nat) : Int) - 1) = (n : Int) := by omega
    have j1 : (0 : Int) ≤ (n : Int) := by omega
    have j2 : (n : Int) < ((n + 1 : Nat) : Int) := by omega
    have j3 : (n : Int) ≤ (cap : Int) := by omega
    obtain ⟨k, hk⟩ : ∃ k, f.k = k := ⟨_, rfl⟩
    rw [hk] at hkv T
    clear h H K he ho hff hwv hsk hft hk
    cases k
    all_goals
      unfold ThenC at T
      unfold KtA.val at hkv
      unfold pt at hkv T
      cases o
    all_goals
      go_enter Tryz.func194, Tryz.ntmps194
      go_wp2_with fail
      refine T.out.mono ?_
      rintro e w3 ⟨rfl, hs⟩
      have HS := Lib.hid hs
      clear hs T
      first | (go_wp2_with fail; (first | go_end0 | refine bodyPost_ret (results_none rfl _ _ _) rfl ?_); exact ⟨rfl, HS.out⟩) | (unfold stuckE; go_wp2_with fail; exact ⟨rfl, rfl, HS.out⟩)
end Go.Proofs.YtkplokfcjjcpcaaGreatDoor
end
