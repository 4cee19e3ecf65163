/- The document's table of operators: List. Conditions: the operators are at most 256. -/
import Derived.Test.YtnnhpjpfmmlimaaDoorOpZB
namespace Go.Proofs.YtnnhpjpfmmlimaaDoor
open Go Go.RowKit Go.Maps
open Go.WideMaps Go.WideElems

/-- e stands behind d -/
def gtD (e d : Df) : Bool := (!(Op.bytesLess e.name.toList d.name.toList || (e.name.toList == d.name.toList))) || ((e.name.toList == d.name.toList) && decide (d.typ < e.typ))
theorem gt_iff (e d : Df) : gtD e d = true ↔ cmpD d e < 0 := by
  rw [def_neg e d]
  unfold gtD cmpD cmpS
  rw [← cmpB_is]
  by_cases h1 : Op.bytesLess e.name.toList d.name.toList = true
  · by_cases h2 : e.name.toList = d.name.toList
    · exfalso
      have := cmpB_is e.name.toList d.name.toList
      rw [if_pos h1, h2, bytes_self] at this
      cases this
    · have h3 : (e.name.toList == d.name.toList) = false := by simpa using h2
      simp [h1, h3]
  · by_cases h2 : e.name.toList = d.name.toList
    · have h3 : (e.name.toList == d.name.toList) = true := by simpa using h2
      rw [if_neg h1, if_pos h3, h3]
      unfold Lib.compareInt
      simp
      split
      · simp; omega
      · split <;> simp <;> omega
    · have h3 : (e.name.toList == d.name.toList) = false := by simpa using h2
      simp [h1, h3]
theorem app0 {w : World} {base n : Nat} {e t ty : TypeId} {i : TypeInfo} {size : Nat} {v : Value} {xs : List Value} (ht : Tryd.prog.underlying t = some (.slice e)) (hi : Tryd.prog.info? e = some i) (hown : w.ownsRow base e size v n xs) (ax : Option Addr) (cx : Nat) :
    (Builtin.append_ #[t, t] ty #[v, .slice ax 0 cx]).run Tryd.prog w = .ok v w := by
  rcases hown.2 with ⟨rfl, rfl⟩ | ⟨g, cap, cur, rfl, _, _, hnc, _⟩
  · cases ax <;> simp [Builtin.append_, run_underlying ht, sizeOf, typeInfo, hi, Builtin.lenOf, Builtin.firstCells, loadCells, loadCellsFrom]
  · cases ax <;> simp [Builtin.append_, run_underlying ht, sizeOf, typeInfo, hi, Builtin.lenOf, Builtin.firstCells, hnc, storeCells, loadCells, loadCellsFrom]

theorem wp_append0 {o : Oper} {a : Act} {w : World} {K : Act → World → Prop} {Q : Exit → Act → World → Prop} (s x : Operand) (t : TypeId) (ho : o.op = .call { callee := .builtin .append, args := #[s, x], argTypes := #[t, t] })
    {base n : Nat} {e : TypeId} {i : TypeInfo} {size : Nat} {v : Value} {xs : List Value} (ht : Tryd.prog.underlying t = some (.slice e)) (hi : Tryd.prog.info? e = some i) (hs : a.eval s = v) (hown : w.ownsRow base e size v n xs) (ax : Option Addr) (cx : Nat) (hx : a.eval x = .slice ax 0 cx)
    (h : K (a.put o.dst v) w) : o.wp Tryd.prog a w K Q := by
  have hrun := app0 (t := t) (ty := o.type) ht hi hown ax cx
  unfold Oper.wp
  simp [execOp, ho, resolve, invoke, builtin, hs, hx, hrun, Result.andThen]
  exact h
theorem wpList_append0 {ops : Array Oper} {rest : List Oper} {o : Oper} {a : Act} {w : World} {Q : Exit → Act → World → Prop} (hgd : o.guard = none) (s x : Operand) (t : TypeId) (ho : o.op = .call { callee := .builtin .append, args := #[s, x], argTypes := #[t, t] })
    {base n : Nat} {e : TypeId} {i : TypeInfo} {size : Nat} {v : Value} {xs : List Value} (ht : Tryd.prog.underlying t = some (.slice e)) (hi : Tryd.prog.info? e = some i) (hs : a.eval s = v) (hown : w.ownsRow base e size v n xs) (ax : Option Addr) (cx : Nat) (hx : a.eval x = .slice ax 0 cx)
    (h : wpList Tryd.prog ops Q rest (a.put o.dst v) w) : wpList Tryd.prog ops Q (o :: rest) a w :=
  wpList_plain hgd fun _ hK => wp_append0 s x t ho ht hi hs hown ax cx hx (hK _ _ h)
theorem step_append0 {ops : Array Oper} {o : Oper} {a : Act} {w : World} {K : Act → World → Prop} {Q : Exit → Act → World → Prop} {E : Prop} (hgd : o.guard = none) (s x : Operand) (t : TypeId) (ho : o.op = .call { callee := .builtin .append, args := #[s, x], argTypes := #[t, t] })
    {base n : Nat} {e : TypeId} {i : TypeInfo} {size : Nat} {v : Value} {xs : List Value} (ht : Tryd.prog.underlying t = some (.slice e)) (hi : Tryd.prog.info? e = some i) (hs : a.eval s = v) (hown : w.ownsRow base e size v n xs) (ax : Option Addr) (cx : Nat) (hx : a.eval x = .slice ax 0 cx)
    (h : K (a.put o.dst v) w) : if Region.wanted o (yielded ops a.tmps) = true then Oper.wp Tryd.prog o a w K Q else E := by
  have hw : Region.wanted o (yielded ops a.tmps) = true := by simp [Region.wanted, hgd]
  rw [if_pos hw]
  exact wp_append0 s x t ho ht hi hs hown ax cx hx h
theorem own_lower {w : World} {b b' n : Nat} {e : TypeId} {size : Nat} {v : Value} {xs : List Value} (h : w.ownsRow b' e size v n xs) (hb : b ≤ b') : w.ownsRow b e size v n xs := by
  obtain ⟨h1, h2 | ⟨g, cap, cur, hv, h3, r⟩⟩ := h
  · exact ⟨h1, .inl h2⟩
  · exact ⟨h1, .inr ⟨g, cap, cur, hv, Nat.le_trans hb h3, r⟩⟩
theorem own_none (w : World) : (w.alloc (.cells #[] 29)).ownsRow w.heap.size 29 3 (.slice (some ⟨w.heap.size, 0, none⟩) 0 0) 0 (cellsD []) :=
  World.ownsRow_lit w #[] 0 (Nat.le_refl _) (by unfold maxLen; omega) rfl
/-- the cells of a row from its a-th operator on -/
theorem row_news {w : World} {ad : Option Addr} {n cap B : Nat} {l : List Df} (h : ArgRow w ad n cap B 0 l) (a : Nat) : ∀ j u, (cellsD (l.drop a))[j]? = some u → w.cell? ((⟨B, a * 3, none⟩ : Addr).add j) = some u := by
  intro j u hu
  obtain ⟨k, c, rfl, hc, _, _⟩ := three_of (t := j)
  have hlt := (List.getElem?_eq_some_iff.1 hu).1
  rw [cellsD_len, List.length_drop] at hlt
  obtain ⟨d, hd⟩ : ∃ d, l[a + k]? = some d := ⟨_, List.getElem?_eq_getElem (by omega)⟩
  obtain ⟨m0, m1, m2⟩ := h.mem _ _ hd
  obtain ⟨n0, n1, n2⟩ := cellsD_at (l.drop a) k d (by rw [List.getElem?_drop]; exact hd)
  simp only [Nat.zero_add] at m0 m1 m2
  have hadd : ∀ y, (⟨B, a * 3, none⟩ : Addr).add y = ⟨B, a * 3 + y, none⟩ := fun y => by
    unfold Addr.add
    split
    · rename_i h; rw [h, Nat.add_zero]
    · rfl
  rw [hadd]
  have hcc : c = 0 ∨ c = 1 ∨ c = 2 := by omega
  rcases hcc with rfl | rfl | rfl
  · rw [Nat.add_zero, n0] at hu
    rw [← hu, ← m0]
    congr 2
    omega
  · rw [n1] at hu
    rw [← hu, ← m1]
    congr 2
    omega
  · rw [n2] at hu
    rw [← hu, ← m2]
    congr 2
    omega

/-- d put in its place -/
theorem put_sorted {S : List Df} {d : Df} {a : Nat} (hs : Sorted S) (h1 : ∀ j e, a ≤ j → S[j]? = some e → cmpD d e < 0) (h2 : a = 0 ∨ ∃ e, S[a - 1]? = some e ∧ 0 ≤ cmpD d e) : Sorted (S.take a ++ d :: S.drop a) := by
  unfold Sorted at *
  rw [List.pairwise_append]
  refine ⟨hs.sublist (List.take_sublist _ _), List.pairwise_cons.2 ⟨fun y hy => ?_, hs.sublist (List.drop_sublist _ _)⟩, fun x hx y hy => ?_⟩
  · obtain ⟨j, hj⟩ := List.getElem?_of_mem hy
    rw [List.getElem?_drop] at hj
    have := h1 (a + j) y (by omega) hj
    rw [def_neg]
    omega
  · obtain ⟨i, hi⟩ := List.getElem?_of_mem hx
    rw [List.getElem?_take] at hi
    have hia : i < a := by
      by_cases h : i < a
      · exact h
      · rw [if_neg h] at hi; cases hi
    rw [if_pos hia] at hi
    have hxd : ¬ cmpD d x < 0 := by
      rcases h2 with h0 | ⟨e, he, hde⟩
      · omega
      · by_cases hie : i = a - 1
        · subst hie
          rw [hi] at he
          cases he
          omega
        · have hlt : i < a - 1 := by omega
          obtain ⟨hi1, hi2⟩ := List.getElem?_eq_some_iff.1 hi
          obtain ⟨he1, he2⟩ := List.getElem?_eq_some_iff.1 he
          have hp := List.pairwise_iff_getElem.1 hs i (a - 1) hi1 he1 hlt
          rw [hi2, he2] at hp
          have t := t3_def x e d
          have e1 : cmpD x e ≤ 0 := by rw [def_neg e x]; omega
          have e2 : cmpD e d ≤ 0 := by rw [def_neg d e]; omega
          have := (t e1 e2).1
          rw [def_neg x d]
          omega
    rcases List.mem_cons.1 hy with rfl | hy
    · exact hxd
    · obtain ⟨j, hj⟩ := List.getElem?_of_mem hy
      rw [List.getElem?_drop] at hj
      obtain ⟨hi1, hi2⟩ := List.getElem?_eq_some_iff.1 hi
      obtain ⟨he1, he2⟩ := List.getElem?_eq_some_iff.1 hj
      have hp := List.pairwise_iff_getElem.1 hs i (a + j) hi1 he1 (by omega)
      rw [hi2, he2] at hp
      exact hp
theorem put_perm {S : List Df} {d : Df} {a : Nat} : (S.take a ++ d :: S.drop a).Perm (S ++ [d]) := by
  have h : (S.take a ++ d :: S.drop a).Perm (d :: (S.take a ++ S.drop a)) := List.perm_middle
  rw [List.take_append_drop] at h
  exact h.trans (List.perm_append_comm (l₁ := [d]) (l₂ := S))

end Go.Proofs.YtnnhpjpfmmlimaaDoor
