/- term.Number: a contract. Conditions: memory holds the term; at most 800000 parts; each N is a whole number of 64 bits, each name has at most 2^48 bytes. -/
import Derived.Test.YtkidcchafdiofaaTermW
namespace Go.Proofs.Ytkidcchafdiofaa
open Go Go.RowKit Go.Maps
open Go.WideMaps Go.WideElems

mutual
theorem AT.flat_B : ∀ (t : AT) (d : Nat), ∀ x ∈ t.flat d, x.B ∈ t.blocks
  | .mk _ _ _ _ G off l, d => fun x hx => by
    rw [AT.blocks, List.mem_append]
    rcases ATs.flat_B l d off G x hx with ⟨h, _⟩ | h
    · left
      cases l with
      | nil => cases hx
      | cons a r => simp [h]
    · exact .inr h
theorem ATs.flat_B : ∀ (l : List AT) (d off G : Nat), ∀ x ∈ ATs.flat G d l off, (x.B = G ∧ off ≤ x.o) ∨ x.B ∈ ATs.blocks l
  | [], _, _, _ => fun x hx => by cases hx
  | t :: r, d, off, G => fun x hx => by
    rw [ATs.flat, List.mem_cons, List.mem_append] at hx
    rw [ATs.blocks, List.mem_append]
    rcases hx with rfl | hx | hx
    · exact .inl ⟨rfl, Nat.le_refl _⟩
    · exact .inr (.inl (AT.flat_B t (d + 1) x hx))
    · rcases ATs.flat_B r d (off + 4) G x hx with ⟨h1, h2⟩ | h
      · exact .inl ⟨h1, by omega⟩
      · exact .inr (.inr h)
end
/-- parts lie apart -/
def Apart (x y : Nd) : Prop := x.B = y.B → x.o + 4 ≤ y.o
mutual
theorem AT.apart : ∀ (t : AT) (d : Nat), t.blocks.Nodup → (t.flat d).Pairwise Apart
  | .mk _ _ _ _ G off l, d, h => by
    cases l with
    | nil => exact List.Pairwise.nil
    | cons a r =>
      rw [AT.blocks] at h
      exact ATs.apart (a :: r) d off G (by simpa using h)
theorem ATs.apart : ∀ (l : List AT) (d off G : Nat), (G :: ATs.blocks l).Nodup → (ATs.flat G d l off).Pairwise Apart
  | [], _, _, _, _ => List.Pairwise.nil
  | t :: r, d, off, G, h => by
    rw [ATs.blocks, List.nodup_cons, List.mem_append, not_or] at h
    obtain ⟨⟨g1, g2⟩, h2⟩ := h
    obtain ⟨n1, n2, n3⟩ := List.nodup_append.1 h2
    rw [ATs.flat, List.pairwise_cons]
    refine ⟨fun y hy => ?_, List.pairwise_append.2 ⟨AT.apart t (d + 1) n1, ATs.apart r d (off + 4) G (List.nodup_cons.2 ⟨g2, n2⟩), fun x hx y hy => ?_⟩⟩
    · intro he
      have he' : G = y.B := he
      rcases List.mem_append.1 hy with hy | hy
      · exact absurd (AT.flat_B t (d + 1) y hy) (by rw [← he']; exact g1)
      · rcases ATs.flat_B r d (off + 4) G y hy with ⟨_, h4⟩ | h4
        · exact h4
        · exact absurd h4 (by rw [← he']; exact g2)
    · intro he
      have hx1 := AT.flat_B t (d + 1) x hx
      rcases ATs.flat_B r d (off + 4) G y hy with ⟨h4, _⟩ | h4
      · exact absurd hx1 (by rw [he, h4]; exact g1)
      · exact absurd rfl (n3 _ hx1 _ (by rw [he]; exact h4))
end

mutual
/-- the term with its variables' places for their numbers -/
def AT.ren (vs : List Int) : AT → AT
  | .mk k n s sv G off l => .mk k (if k = 1 then (vs.idxOf n : Int) else n) s sv G off (ATs.ren vs l)
def ATs.ren (vs : List Int) : List AT → List AT
  | [] => []
  | t :: r => AT.ren vs t :: ATs.ren vs r
end
mutual
def Tm.ren (vs : List Int) : Tm → Tm
  | .mk k n s l => .mk k (if k = 1 then (vs.idxOf n : Int) else n) s (Tms.ren vs l)
def Tms.ren (vs : List Int) : List Tm → List Tm
  | [] => []
  | t :: r => Tm.ren vs t :: Tms.ren vs r
end
theorem ren_mk {vs : List Int} {t : AT} : t.ren vs = .mk t.k (newN vs t) t.s t.sv t.G t.off (ATs.ren vs t.l) := by cases t; rfl
theorem ren_len (vs : List Int) (l : List AT) : (ATs.ren vs l).length = l.length := by
  induction l with
  | nil => rfl
  | cons t r ih => rw [ATs.ren, List.length_cons, List.length_cons, ih]
mutual
theorem AT.ren_erase (vs : List Int) : ∀ t : AT, (t.ren vs).erase = t.erase.ren vs
  | .mk k n s sv G off l => by rw [AT.ren, AT.erase, AT.erase, Tm.ren, ATs.ren_erase vs l]
theorem ATs.ren_erase (vs : List Int) : ∀ l : List AT, ATs.erase (ATs.ren vs l) = Tms.ren vs (ATs.erase l)
  | [] => rfl
  | t :: r => by rw [ATs.ren, ATs.erase, ATs.erase, Tms.ren, AT.ren_erase vs t, ATs.ren_erase vs r]
end
mutual
theorem AT.ren_ins (vs : List Int) {S : Nat → Prop} : ∀ t : AT, t.ins S → (t.ren vs).ins S
  | .mk k n s sv G off l, h => ⟨fun hl => h.1 (fun h2 => hl (by rw [h2]; rfl)), ATs.ren_ins vs l h.2⟩
theorem ATs.ren_ins (vs : List Int) {S : Nat → Prop} : ∀ l : List AT, ATs.ins S l → ATs.ins S (ATs.ren vs l)
  | [], _ => trivial
  | t :: r, h => ⟨AT.ren_ins vs t h.1, ATs.ren_ins vs r h.2⟩
end
/-- a part with another number -/
def RowN (w : World) (x : Nd) (n : Int) : Prop :=
  Plain w x.B ∧ w.cell? ⟨x.B, x.o, none⟩ = some (.int .i64 x.t.k) ∧ w.cell? ⟨x.B, x.o + 1, none⟩ = some (.int .i64 n) ∧ w.cell? ⟨x.B, x.o + 2, none⟩ = some (.string x.t.s) ∧ w.cell? ⟨x.B, x.o + 3, none⟩ = some x.t.sv ∧ SvOk x.t.sv x.t.G x.t.off x.t.l.length
theorem ren_sv {vs : List Int} {t : AT} : (t.ren vs).sv = t.sv ∧ (t.ren vs).G = t.G ∧ (t.ren vs).off = t.off ∧ (t.ren vs).l = ATs.ren vs t.l ∧ (t.ren vs).k = t.k ∧ (t.ren vs).n = newN vs t ∧ (t.ren vs).s = t.s := by cases t; exact ⟨rfl, rfl, rfl, rfl, rfl, rfl, rfl⟩
mutual
theorem AT.ren_mem {w : World} (vs : List Int) : ∀ (t : AT) (d : Nat), SvOk t.sv t.G t.off t.l.length → (∀ x ∈ t.flat d, RowN w x (newN vs x.t)) → (t.ren vs).mem w
  | .mk k n s sv G off l, d, hs, h => ⟨by rw [ren_len]; exact hs, ATs.ren_mem vs l d off G h⟩
theorem ATs.ren_mem {w : World} (vs : List Int) : ∀ (l : List AT) (d off G : Nat), (∀ x ∈ ATs.flat G d l off, RowN w x (newN vs x.t)) → ATs.mem w G (ATs.ren vs l) off
  | [], _, _, _, _ => trivial
  | t :: r, d, off, G, h => by
    rw [ATs.flat] at h
    obtain ⟨h0, h1, h2, h3, h4, h5⟩ := h ⟨G, off, d, t⟩ (by simp)
    obtain ⟨r1, r2, r3, r4, r5, r6, r7⟩ := ren_sv (vs := vs) (t := t)
    exact ⟨⟨h0, by rw [r5]; exact h1, by rw [r6]; exact h2, by rw [r7]; exact h3, by rw [r1]; exact h4⟩, AT.ren_mem vs t (d + 1) h5 (fun x hx => h x (by simp [hx])), ATs.ren_mem vs r d (off + 4) G (fun x hx => h x (by simp [hx]))⟩
end

theorem foldl_ext (l : List AT) : ∀ vs : List Int, ∃ e, l.foldl meetV vs = vs ++ e := by
  induction l with
  | nil => intro vs; exact ⟨[], by simp⟩
  | cons t r ih =>
    intro vs
    obtain ⟨e, he⟩ := ih (meetV vs t)
    rw [List.foldl_cons, he]
    unfold meetV
    split
    · exact ⟨[t.n] ++ e, by simp⟩
    · exact ⟨e, rfl⟩
theorem newN_all {L : List Nd} {i : Nat} {x : Nd} (hx : L[i]? = some x) : newN (meetV (varsL (L.take i)) x.t) x.t = newN (varsL L) x.t := by
  unfold newN
  split
  · rename_i hk
    have hs : varsL L = ((L.drop (i + 1)).map Nd.t).foldl meetV (varsL (L.take (i + 1))) := by
      unfold varsL
      rw [← List.foldl_append, ← List.map_append, List.take_append_drop]
    obtain ⟨e, he⟩ := foldl_ext ((L.drop (i + 1)).map Nd.t) (varsL (L.take (i + 1)))
    rw [hs, he, varsL_succ hx, List.idxOf_append, if_pos (meet_mem hk)]
  · rfl

structure NumSt (q bm : Nat) (L : List Nd) (i : Nat) (w : World) (F : Nat → Prop) (v : Value) : Prop where
  F : ∀ j, F j ↔ ((j = q ∨ j = bm ∨ v.ownBlock = some j) ∨ ∃ x ∈ L, x.B = j)
  va : VarsAt w q bm v (varsL (L.take i))
  sep : ∀ x ∈ L, ¬ (x.B = q ∨ x.B = bm ∨ v.ownBlock = some x.B)
  rows : ∀ m x, L[m]? = some x → RowN w x (if m < i then newN (varsL L) x.t else x.t.n)
theorem row_same {w w' : World} {x : Nd} {n : Int} (h : RowN w x n) (hh : w'.heap[x.B]? = w.heap[x.B]?) : RowN w' x n :=
  ⟨h.1.same hh, (World.cell?_of_block hh).trans h.2.1, (World.cell?_of_block hh).trans h.2.2.1, (World.cell?_of_block hh).trans h.2.2.2.1, (World.cell?_of_block hh).trans h.2.2.2.2.1, h.2.2.2.2.2⟩
theorem row_off {w : World} {x : Nd} {n : Int} {p : Nat} {v : Value} (h : RowN w x n) (hp : p < x.o ∨ x.o + 4 ≤ p) : RowN (w.setCell ⟨x.B, p, none⟩ v) x n :=
  ⟨h.1.setCell _ _, (set_cell_off (by omega) v).trans h.2.1, (set_cell_off (by omega) v).trans h.2.2.1, (set_cell_off (by omega) v).trans h.2.2.2.1, (set_cell_off (by omega) v).trans h.2.2.2.2.1, h.2.2.2.2.2⟩
theorem row_set {w : World} {x : Nd} {n z : Int} (h : RowN w x n) : RowN (w.setCell ⟨x.B, x.o + 1, none⟩ (.int .i64 z)) x z :=
  ⟨h.1.setCell _ _, (set_cell_off (by omega) _).trans h.2.1, World.cell?_setCell_same _ _ _ h.2.2.1, (set_cell_off (by omega) _).trans h.2.2.2.1, (set_cell_off (by omega) _).trans h.2.2.2.2.1, h.2.2.2.2.2⟩

theorem num_cb {q bm H0 : Nat} {L : List Nd} (hl : L.length ≤ 800000) (hr : ∀ x ∈ L, R64 x.t.n) (hd : L.Pairwise Apart) (hH : ∀ x ∈ L, x.B < H0) : CB 45 (.pointer (some ⟨q, 0, none⟩)) L H0 (fun i w F => ∃ v, NumSt q bm L i w F v) (fun _ => true) where
  lt := fun i w F ⟨v, h⟩ j hj => by
    obtain ⟨l1, l2, l3⟩ := vars_lt h.va
    rcases (h.F j).1 hj with (rfl | rfl | hk) | ⟨x, hx, rfl⟩
    · exact l1
    · exact l2
    · exact l3 j hk
    · obtain ⟨m, hm, rfl⟩ := List.getElem_of_mem hx
      exact (h.rows m _ (List.getElem?_eq_getElem hm)).1.lt
  ok := fun i w F ⟨v, h⟩ x hx => by
    obtain ⟨m, hm, rfl⟩ := List.getElem_of_mem hx
    have := h.rows m _ (List.getElem?_eq_getElem hm)
    exact ⟨⟨this.1, this.2.2.2.2.1, this.2.2.2.2.2⟩, hH _ hx⟩
  stay := fun i w w' F G ⟨v, h⟩ hk hG => by
    obtain ⟨l1, l2, l3⟩ := vars_lt h.va
    refine ⟨v, h.F, vars_same h.va (fun k hk2 => hk.block k ?_ (fun hg => (hG k hg).1 ((h.F k).2 (.inl hk2)))), h.sep, fun m x hx => row_same (h.rows m x hx) (hk.block _ (h.rows m x hx).1.lt (fun hg => (hG _ hg).1 ((h.F _).2 (.inr ⟨x, List.mem_of_getElem? hx, rfl⟩))))⟩
    rcases hk2 with rfl | rfl | hk2
    · exact l1
    · exact l2
    · exact l3 k hk2
  call := fun i w F x ⟨v, h⟩ _ hx => by
    have hxm := List.mem_of_getElem? hx
    have hrow := h.rows i x hx
    rw [if_neg (by omega)] at hrow
    have hlen := varsL_len (L.take i)
    have hlt : (L.take i).length ≤ L.length := by rw [List.length_take]; omega
    refine (number_is q bm x.B x.o v _ _ x.t w h.va hrow.2.1 hrow.2.2.1 (hrow.1.free _) (hr x hxm) (by omega) (h.sep x hxm)).mono ?_
    rintro e w' ⟨rfl, v', w1, a1, a2, a3, d, rfl⟩
    have hnew := newN_all hx
    rw [hnew]
    have hsep1 : ∀ y ∈ L, ¬ (y.B = q ∨ y.B = bm ∨ v'.ownBlock = some y.B) := fun y hy hh => by
      obtain ⟨m, hm, rfl⟩ := List.getElem_of_mem hy
      have hyl := (h.rows m _ (List.getElem?_eq_getElem hm)).1.lt
      rcases hh with hh | hh | hh
      · exact h.sep _ hy (.inl hh)
      · exact h.sep _ hy (.inr (.inl hh))
      · rcases a2 _ hh with h5 | h5
        · exact h.sep _ hy (.inr (.inr h5))
        · omega
    have hrow1 : ∀ m y, L[m]? = some y → RowN w1 y (if m < i then newN (varsL L) y.t else y.t.n) := fun m y hy => row_same (h.rows m y hy) (a3.block _ (h.rows m y hy).1.lt (h.sep y (List.mem_of_getElem? hy)))
    have hkeep : Keeps F w w1 := a3.wide (fun j hj => .inl ((h.F j).2 (.inl hj)))
    refine ⟨rfl, fun j => ((j = q ∨ j = bm ∨ v'.ownBlock = some j) ∨ ∃ x ∈ L, x.B = j), ⟨v', fun j => Iff.rfl, ?_, hsep1, fun m y hy => ?_⟩, ?_, fun j hj => ?_⟩
    · rw [varsL_succ hx]
      split
      · exact vars_same (w := w1) a1 (fun k hk => heap_set_ne (fun e => hsep1 x hxm (by rw [← e]; exact hk)) _)
      · exact a1
    · have h1 := hrow1 m y hy
      split
      · by_cases hmi : m = i
        · subst hmi
          obtain rfl : x = y := by rw [hx] at hy; exact Option.some.inj hy
          rw [if_pos (by omega)]
          exact row_set (w := w1) h1
        · have h2 : (if m < i + 1 then newN (varsL L) y.t else y.t.n) = (if m < i then newN (varsL L) y.t else y.t.n) := by
            by_cases hlt : m < i
            · rw [if_pos hlt, if_pos (by omega)]
            · rw [if_neg hlt, if_neg (by omega)]
          rw [h2]
          by_cases hB : y.B = x.B
          · have hap : x.o + 1 < y.o ∨ y.o + 4 ≤ x.o + 1 := by
              have hi2 := (List.getElem?_eq_some_iff.1 hx)
              have hm2 := (List.getElem?_eq_some_iff.1 hy)
              obtain ⟨i1, i2⟩ := hi2
              obtain ⟨m1, m2⟩ := hm2
              have hp := List.pairwise_iff_getElem.1 hd
              rcases Nat.lt_or_ge m i with hlt | hge
              · have := hp m i m1 i1 hlt
                rw [i2, m2] at this
                have := this hB
                omega
              · have := hp i m i1 m1 (by omega)
                rw [i2, m2] at this
                have := this hB.symm
                omega
            have h3 := row_off (w := w1) (v := .int .i64 (newN (varsL L) x.t)) h1 hap
            rw [hB] at h3
            exact h3
          · exact row_same (w := w1) h1 (heap_set_ne hB _)
      · rename_i hk
        by_cases hmi : m = i
        · subst hmi
          obtain rfl : x = y := by rw [hx] at hy; exact Option.some.inj hy
          rw [if_pos (by omega)]
          rw [if_neg (by omega)] at h1
          unfold newN
          rw [if_neg hk]
          exact h1
        · have h2 : (if m < i + 1 then newN (varsL L) y.t else y.t.n) = (if m < i then newN (varsL L) y.t else y.t.n) := by
            by_cases hlt : m < i
            · rw [if_pos hlt, if_pos (by omega)]
            · rw [if_neg hlt, if_neg (by omega)]
          rw [h2]
          exact h1
    · split
      · exact (hkeep.setCell (p := ⟨x.B, x.o + 1, none⟩) (.inl ((h.F _).2 (.inr ⟨x, hxm, rfl⟩))) _).drewN d
      · exact hkeep.drewN d
    · rcases hj with (rfl | rfl | hj) | hj
      · exact .inl ((h.F _).2 (.inl (.inl rfl)))
      · exact .inl ((h.F _).2 (.inl (.inr (.inl rfl))))
      · rcases a2 j hj with h5 | h5
        · exact .inl ((h.F _).2 (.inl (.inr (.inr h5))))
        · exact .inr h5
      · exact .inl ((h.F _).2 (.inr hj))

end Go.Proofs.Ytkidcchafdiofaa
