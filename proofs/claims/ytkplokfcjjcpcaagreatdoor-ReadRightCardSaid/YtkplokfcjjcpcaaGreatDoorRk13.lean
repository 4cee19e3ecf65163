/- Joined texts: TermK TermP TermQ TermR TermS TermT TermU TermV TermW TermX TermY TermZ TermAb. Conditions: as each states. -/
import Derived.Test.YtkplokfcjjcpcaaGreatDoorPk12
import Derived.Test.YtkplokfcjjcpcaaGreatDoorPk11
import Derived.Maps.OwnOps
import Derived.Maps.OwnSet
import Derived.Maps.Views
section
namespace Go.Proofs.YtkplokfcjjcpcaaGreatDoor.Trm
open Go Go.RowKit
mutual
def AT.parts : AT → List AT
  | .mk _ _ _ _ _ _ l => ATs.parts l
def ATs.parts : List AT → List AT
  | [] => []
  | t :: r => t :: (AT.parts t ++ ATs.parts r)
end
mutual
theorem AT.flat_parts : ∀ (t : AT) (d : Nat), (t.flat d).map Nd.t = t.parts
  | .mk _ _ _ _ G off l, d => ATs.flat_parts l d off G
theorem ATs.flat_parts : ∀ (l : List AT) (d off G : Nat), (ATs.flat G d l off).map Nd.t = ATs.parts l
  | [], _, _, _ => rfl
  | t :: r, d, off, G => by
    rw [ATs.flat, ATs.parts, List.map_cons, List.map_append, AT.flat_parts t (d + 1), ATs.flat_parts r d (off + 4) G]
end
def cmpP : List AT → List AT → Int
  | x :: l, y :: m => if cmpRow x y ≠ 0 then cmpRow x y else cmpP l m
  | _, _ => 0
end Go.Proofs.YtkplokfcjjcpcaaGreatDoor.Trm
end
section
namespace Go.Proofs.YtkplokfcjjcpcaaGreatDoor.Trm
open Go Go.RowKit Go.Maps
open Go.WideMaps Go.WideElems
attribute [local go_sem ↓] Go.wp_at_zero Go.wp_at_succ
theorem i64Key : Keyed Tryz.prog 2 := int_keyed Tryz.underlying2
def R64 (n : Int) : Prop := -9223372036854775808 ≤ n ∧ n ≤ 9223372036854775807
theorem wf_64 {n : Int} (h : R64 n) : (Lit.int .i64 n).wf = true := by
  obtain ⟨h1, h2⟩ := h
  go_wf
theorem keyOf_64 {n : Int} (h : R64 n) : keyOf Tryz.prog 2 (.int .i64 n) = some (.int .i64 n) := keyOf_int_mk Tryz.underlying2 (wf_64 h)
def OM (w : World) (b n : Nat) (D : DataW Unit) : Prop := w.ownsMap Tryz.prog 2 (plainElem (H := Unit) Tryz.prog 2) b n D
theorem look_64 {w : World} {b n : Nat} {D : DataW Unit} (h : OM w b n D) (c v : Int) (ok : Bool) (h0 : R64 c)
    (hv : D.atKey (.int .i64 c) (.lit (.int .i64 0)) = .lit (.int .i64 v)) (hok : Maps.has D (.int .i64 c) = ok) :
    (Instr.lookup 142 (.map (some b)) (.int .i64 c) true).run Tryz.prog w = .ok (.tuple #[.int .i64 v, .bool ok]) w := by
  obtain ⟨x, ps, hrun, hx⟩ := World.ownsMap.look_ok h i64Key Tryz.underlying142 (z := .int .i64 0) (by kernel_rfl) (plainElem_int Tryz.underlying2 (by decide)) (keyOf_64 h0)
  obtain ⟨y, rfl, hy, _⟩ := plainElem_int_inv Tryz.underlying2 hx
  rw [hv] at hy
  cases hy
  rw [hrun, hok]
def MapIs (D : DataW Unit) (vs : List Int) : Prop := Maps.IsMap D ∧ ∀ x, (x ∈ vs → Maps.has D (.int .i64 x) = true ∧ D.atKey (.int .i64 x) (.lit (.int .i64 0)) = .lit (.int .i64 (vs.idxOf x))) ∧ (x ∉ vs → Maps.has D (.int .i64 x) = false)
theorem mapIs_nil : MapIs (.map []) [] := ⟨Maps.isMap_empty, fun x => ⟨fun h => (by cases h), fun _ => rfl⟩⟩
theorem mapIs_put {D : DataW Unit} {vs : List Int} (h : MapIs D vs) {n : Int} (hn : n ∉ vs) (hr : R64 n) : MapIs (D.put (.int .i64 n) (.lit (.int .i64 (vs.length : Int)))) (vs ++ [n]) := by
  have hk : WideAt.IsKeyLit (.int .i64 n) := by first | exact trivial | exact ⟨_, _, rfl, wf_64 hr⟩ | simp [WideAt.IsKeyLit]
  refine ⟨h.1.put _ _, fun x => ?_⟩
  by_cases hx : x = n
  · subst hx
    refine ⟨fun _ => ⟨Maps.has_put_same h.1 hk _, ?_⟩, fun hne => absurd (by simp) hne⟩
    rw [Maps.atKey_put_same h.1 hk, List.idxOf_append, if_neg hn]
    simp
  · have hne : (Lit.int .i64 x) ≠ .int .i64 n := fun h => hx (by cases h; rfl)
    rw [Maps.has_put_other hne, Maps.atKey_put_other hne]
    refine ⟨fun hm => ?_, fun hm => (h.2 x).2 (fun h2 => hm (by simp [h2]))⟩
    have hm2 : x ∈ vs := by simpa [hx] using hm
    rw [List.idxOf_append, if_pos hm2]
    exact (h.2 x).1 hm2
def meetV (vs : List Int) (t : AT) : List Int := if t.k = 1 ∧ t.n ∉ vs then vs ++ [t.n] else vs
def varsL (L : List Nd) : List Int := (L.map Nd.t).foldl meetV []
theorem varsL_succ {L : List Nd} {i : Nat} {x : Nd} (h : L[i]? = some x) : varsL (L.take (i + 1)) = meetV (varsL (L.take i)) x.t := by
  unfold varsL
  rw [List.take_add_one, h]
  simp
def VarsAt (w : World) (q bm : Nat) (v : Value) (vs : List Int) : Prop :=
  ∃ D, w.heap[q]? = some (.cells #[v, .map (some bm)] 144 (0, 0)) ∧ OM w bm vs.length D ∧ MapIs D vs ∧ w.ownsRow 0 2 1 v vs.length (vs.map (Value.int .i64)) ∧ bm ≠ q ∧ v.ownBlock ≠ some q ∧ v.ownBlock ≠ some bm
def MeetPost (w : World) (q bm : Nat) (v : Value) (vs : List Int) (t : AT) (e : Ending) (w' : World) : Prop :=
  e = .returned (.bool true) ∧ ∃ v', VarsAt w' q bm v' (meetV vs t) ∧ (∀ k, v'.ownBlock = some k → v.ownBlock = some k ∨ w.heap.size ≤ k) ∧ Keeps (fun j => j = q ∨ j = bm ∨ v.ownBlock = some j) w w'
theorem vars_lt {w : World} {q bm : Nat} {v : Value} {vs : List Int} (h : VarsAt w q bm v vs) : q < w.heap.size ∧ bm < w.heap.size ∧ ∀ k, v.ownBlock = some k → k < w.heap.size := by
  obtain ⟨D, h1, h2, h3, h4, _⟩ := h
  exact ⟨(Array.getElem?_eq_some_iff.1 h1).1, World.ownsMap.lt h2, fun k hk => (h4.lt k hk).2⟩
theorem vars_same {w w' : World} {q bm : Nat} {v : Value} {vs : List Int} (h : VarsAt w q bm v vs) (hh : ∀ k, (k = q ∨ k = bm ∨ v.ownBlock = some k) → w'.heap[k]? = w.heap[k]?) : VarsAt w' q bm v vs := by
  obtain ⟨D, h1, ⟨es, clock, hb, r⟩, h3, h4, h5⟩ := h
  exact ⟨D, (hh q (.inl rfl)).trans h1, ⟨es, clock, (hh bm (.inr (.inl rfl))).trans hb, r⟩, h3, owns_same h4 (fun g hg => hh g (.inr (.inr hg))), h5⟩
set_option maxRecDepth 100000 in
set_option maxHeartbeats 1600000 in
theorem meet_old (q bm B o : Nat) (v dv : Value) (vs : List Int) (t : AT) (w : World) (h : VarsAt w q bm v vs) (h0 : w.cell? ⟨B, o, none⟩ = some (.int .i64 t.k)) (h1 : w.cell? ⟨B, o + 1, none⟩ = some (.int .i64 t.n)) (hr : R64 t.n) (hm : t.k ≠ 1 ∨ t.n ∈ vs) :
    Calls Tryz.prog 66 #[.pointer (some ⟨q, 0, none⟩), .pointer (some ⟨B, o, none⟩), dv] w (MeetPost w q bm v vs t) := by
  have hmv : meetV vs t = vs := by
    unfold meetV
    rw [if_neg]
    rintro ⟨a, b⟩
    rcases hm with h | h
    · exact h a
    · exact b h
  have fin : ∀ d, MeetPost w q bm v vs t (.returned (.bool true)) (w.drewN d) := fun d => ⟨rfl, v, by rw [hmv]; exact vars_same h (fun _ _ => rfl), fun k hk => .inl hk, (Keeps.refl _ _).drewN d⟩
  have FIN := Lib.hid fin
  obtain ⟨k, hk⟩ : ∃ k, t.k = k := ⟨_, rfl⟩
  obtain ⟨n, hn⟩ : ∃ k, t.n = k := ⟨_, rfl⟩
  rw [hk] at h0 hm
  rw [hn] at h1 hm hr
  by_cases hk1 : k = 1
  · subst hk1
    have hin : n ∈ vs := by rcases hm with h | h; exact absurd rfl h; exact h
    obtain ⟨D, a1, a2, a3, a4, a5⟩ := h
    have c1 : w.cell? ⟨q, 1, none⟩ = some (.map (some bm)) := cell_of_heap a1 rfl
    have hl : ∀ d : Nat, (Instr.lookup 142 (.map (some bm)) (.int .i64 n) true).run Tryz.prog (w.drewN d) = .ok (.tuple #[.int .i64 (vs.idxOf n), .bool true]) (w.drewN d) := fun d => look_64 (w := w.drewN d) a2 n _ true hr ((a3.2 n).1 hin).2 ((a3.2 n).1 hin).1
    clear fin hmv hm a1 a2 a3 a4 a5 hin hk hn
    go_enter Tryz.func66, Tryz.ntmps66
    go_wp2
    go_quiet (fail)
    go_wp2
    go_ret
    exact FIN.out _
  · have hkb : (k != 1) = true := by rw [bne_iff_ne]; exact hk1
    clear fin hmv hm h hk hn hk1
    go_enter Tryz.func66, Tryz.ntmps66
    go_wp2
    go_ret
    exact FIN.out 0
theorem int_news (W : World) (n : Int) (H : Nat) (h : W.heap.size = H) : ∀ j u, [Value.int .i64 n][j]? = some u → (W.alloc (.cells #[.int .i64 n] 2)).cell? ((⟨H, 0, none⟩ : Addr).add j) = some u := by
  subst h
  exact World.news_of_block (heap_alloc_new W _)
theorem int_one (n : Int) : ∀ u ∈ [Value.int .i64 n], u.oneCell' = true := by
  intro u hu
  simp at hu
  subst hu
  rfl
theorem meet_close {w w1 w7 : World} {q bm g cap' : Nat} {v : Value} {vs : List Int} {t : AT} {o : Obj} {D : DataW Unit} (hk : t.k = 1) (hn : t.n ∉ vs) (hr : R64 t.n) (a1 : w.heap[q]? = some (.cells #[v, .map (some bm)] 144 (0, 0))) (a3 : MapIs D vs) (a5 : bm ≠ q ∧ v.ownBlock ≠ some q ∧ v.ownBlock ≠ some bm) (hbm : bm < w.heap.size)
    (u1 : OM w1 bm (vs.length + 1) (D.put (.int .i64 t.n) (.lit (.int .i64 (vs.length : Int))))) (u2 : w.grownBy w1 (some bm)) (hown : w7.ownsRow 0 2 1 (.slice (some ⟨g, 0, none⟩) (vs.length + 1) cap') (vs.length + 1) (vs.map (Value.int .i64) ++ [.int .i64 t.n])) (hgrow : (w1.alloc o).grownBy w7 v.ownBlock) (hat : v.ownBlock = some g ∨ g = w1.heap.size + 1) :
    MeetPost w q bm v vs t (.returned (.bool true)) (w7.setCell ⟨q, 0, none⟩ (.slice (some ⟨g, 0, none⟩) (vs.length + 1) cap')) := by
  have hmv : meetV vs t = vs ++ [t.n] := by unfold meetV; rw [if_pos ⟨hk, hn⟩]
  have hql := (Array.getElem?_eq_some_iff.1 a1).1
  have hs := u2.size
  have K1 : Keeps (fun j => j = q ∨ j = bm ∨ v.ownBlock = some j) w w1 := (Keeps.refl _ _).grown u2 (fun k hk => by cases hk; exact .inl (.inr (.inl rfl)))
  have K7 : Keeps (fun j => j = q ∨ j = bm ∨ v.ownBlock = some j) w w7 := (K1.alloc o).grown hgrow (fun k hk => .inl (.inr (.inr hk)))
  have hg : g ≠ q ∧ g ≠ bm := by
    rcases hat with h | h
    · exact ⟨fun e => a5.2.1 (by rw [h, e]), fun e => a5.2.2 (by rw [h, e])⟩
    · exact ⟨by omega, by omega⟩
  have hq7 : w7.heap[q]? = some (.cells #[v, .map (some bm)] 144 (0, 0)) := by
    rw [hgrow.block q (by simp; omega) (fun h => a5.2.1 h.symm), Below.heap_alloc _ _ _ (by omega), u2.block q hql (by simp; exact fun h => a5.1 h.symm)]
    exact a1
  obtain ⟨es, clock, hb, r⟩ := u1
  refine ⟨rfl, .slice (some ⟨g, 0, none⟩) (vs.length + 1) cap', ?_, fun k hk => ?_, K7.setCell (p := ⟨q, 0, none⟩) (.inl (.inl rfl)) _⟩
  · rw [hmv]
    refine ⟨_, ?_, ⟨es, clock, ?_, by rw [List.length_append]; exact r⟩, mapIs_put a3 hn hr, ?_, a5.1, by simp [Value.ownBlock]; exact hg.1, by simp [Value.ownBlock]; exact hg.2⟩
    · rw [heap_set hq7]; rfl
    · rw [heap_set_ne a5.1, hgrow.block bm (by simp; omega) (fun h => a5.2.2 h.symm), Below.heap_alloc _ _ _ (by omega)]
      exact hb
    · rw [List.length_append, List.map_append]
      refine owns_same hown (fun k hk => ?_)
      obtain rfl : g = k := by simpa [Value.ownBlock] using hk
      exact heap_set_ne hg.1 _
  · obtain rfl : g = k := by simpa [Value.ownBlock] using hk
    rcases hat with h | h
    · exact .inl h
    · right; omega
set_option maxRecDepth 100000 in
set_option maxHeartbeats 4000000 in
theorem meet_new (q bm B o : Nat) (v dv : Value) (vs : List Int) (t : AT) (w : World) (h : VarsAt w q bm v vs) (h0 : w.cell? ⟨B, o, none⟩ = some (.int .i64 t.k)) (h1 : w.cell? ⟨B, o + 1, none⟩ = some (.int .i64 t.n)) (hr : R64 t.n) (hk : t.k = 1) (hn : t.n ∉ vs) (hlen : vs.length ≤ 900000) (hB : B ≠ bm) :
    Calls Tryz.prog 66 #[.pointer (some ⟨q, 0, none⟩), .pointer (some ⟨B, o, none⟩), dv] w (MeetPost w q bm v vs t) := by
  obtain ⟨i0, hi, hz0, hz1, hz2⟩ := info_parts (show (Tryz.prog.info? 2).map (fun i => (i.zero, i.size, i.bytes)) = some (some (.int .i64 0), 1, 8) by kernel_rfl)
  have hlt := vars_lt h
  obtain ⟨D, a1, a2, a3, a4, a5⟩ := h
  obtain ⟨m, hm⟩ : ∃ m, vs.length = m := ⟨_, rfl⟩
  obtain ⟨n, hnn⟩ : ∃ k, t.n = k := ⟨_, rfl⟩
  have hv : ∃ x z, v = .slice x m z ∧ z ≤ maxLen ∧ m ≤ z := by
    rcases a4.2 with ⟨h, h2⟩ | ⟨g, c, _, h, _, _, h2, h3, _⟩
    · exact ⟨_, 0, by rw [h, ← hm, h2], by unfold maxLen; omega, by omega⟩
    · exact ⟨_, c, by rw [h, hm], h3, by omega⟩
  obtain ⟨vx, vz, rfl, hz, hmz⟩ := hv
  have c0 : w.cell? ⟨q, 0, none⟩ = some (.slice vx m vz) := cell_of_heap a1 rfl
  have c1 : w.cell? ⟨q, 1, none⟩ = some (.map (some bm)) := cell_of_heap a1 rfl
  have hl : ∀ d : Nat, (Instr.lookup 142 (.map (some bm)) (.int .i64 n) true).run Tryz.prog (w.drewN d) = .ok (.tuple #[.int .i64 0, .bool false]) (w.drewN d) := fun d => by
    rw [← hnn]
    exact look_64 (w := w.drewN d) a2 t.n 0 false hr (Maps.atKey_of_not_has ((a3.2 t.n).2 hn) _) ((a3.2 t.n).2 hn)
  have hu : ∀ d : Nat, ∃ w', (Instr.mapUpdate 142 (.map (some bm)) (.int .i64 n) (.int .i64 (m : Int))).run Tryz.prog (w.drewN d) = .ok () w' ∧ OM w' bm (vs.length + 1) (D.put (.int .i64 t.n) (.lit (.int .i64 (vs.length : Int)))) ∧ (w.drewN d).grownBy w' (some bm) := fun d => by
    rw [← hnn, ← hm]
    exact World.ownsMap.update (w := w.drewN d) a2 i64Key Tryz.underlying142 (by unfold maxLen; omega) (keyOf_64 hr) (plainElem_int Tryz.underlying2 (wf_64 ⟨by omega, by omega⟩))
  obtain ⟨W, hW⟩ := Classical.axiomOfChoice hu
  have hW1 := fun d => (hW d).1
  have hW2 : ∀ d, w.grownBy (W d) (some bm) := fun d => ⟨(hW d).2.2.os, (hW d).2.2.tape, (hW d).2.2.output, (hW d).2.2.size, (hW d).2.2.block⟩
  have e0 : ∀ d, (W d).cell? ⟨q, 0, none⟩ = some (.slice vx m vz) := fun d => (hW2 d).cell c0 (by simp; exact fun h => a5.1 h.symm)
  have e1 : ∀ d, (W d).cell? ⟨B, o + 1, none⟩ = some (.int .i64 n) := fun d => by rw [← hnn]; exact (hW2 d).cell h1 (by simp; exact hB)
  have ez : ∀ d, (W d).frozen? ⟨q, 0, none⟩ = false := fun d => by
    rw [World.frozen?_of_block ((hW2 d).block q hlt.1 (by simp; exact fun h => a5.1 h.symm))]
    exact free_of_heap a1
  have el : ∀ d, q < (W d).heap.size := fun d => Nat.lt_of_lt_of_le hlt.1 (hW2 d).size
  have own1 : ∀ d, (W d).ownsRow 0 2 1 (.slice vx m vz) m (vs.map (Value.int .i64)) := fun d => World.ownsRow.kept (by rw [hm] at a4; exact a4) (hW2 d) (Or.inr a5.2.2)
  have OWN := Lib.hid (fun d o => show ((W d).alloc o).drew.ownsRow 0 2 1 (.slice vx m vz) m (vs.map (Value.int .i64)) from (own1 d).alloc o)
  have NEWS := Lib.hid (fun d => show ∀ j u, [Value.int .i64 n][j]? = some u → ((W d).alloc (.cells #[.int .i64 n] 2)).drew.cell? ((⟨(W d).heap.size, 0, none⟩ : Addr).add j) = some u from int_news (W d) n _ rfl)
  clear own1
  have hnk : (t.k != 1) = false := by rw [hk]; rfl
  have FIN := Lib.hid (fun d w7 g cap' o hown (hgrow : ((W d).alloc o).drew.grownBy w7 (Value.slice vx m vz).ownBlock) (hat : (Value.slice vx m vz).ownBlock = some g ∨ g = ((W d).alloc o).drew.heap.size) => meet_close (w7 := w7) (g := g) (cap' := cap') (o := o) hk hn hr a1 a3 a5 hlt.2.1 (hW d).2.1 (hW2 d) hown ⟨hgrow.os, hgrow.tape, hgrow.output, hgrow.size, hgrow.block⟩ (by simpa using hat))
  have far7 : ∀ d o w7, ((W d).alloc o).drew.grownBy w7 (Value.slice vx m vz).ownBlock → w7.heap[q]? = (W d).heap[q]? := fun d o w7 hg => by
    rw [hg.block q (by simp; have := el d; omega) (fun h => a5.2.1 h.symm)]
    exact Below.heap_alloc _ _ _ (el d)
  have T7 := Lib.hid (fun d o w7 hg => (World.cell?_of_block (a := ⟨q, 0, none⟩) (far7 d o w7 hg)).trans (e0 d))
  have F7 := Lib.hid (fun d o w7 hg => (World.frozen?_of_block (a := ⟨q, 0, none⟩) (far7 d o w7 hg)).trans (ez d))
  clear far7
  have HM := Lib.hid hm
  have HN := Lib.hid hnn
  rw [hk] at h0
  rw [hnn] at h1
  rw [hm] at hlen
  unfold maxLen at hz
  clear a1 a2 a3 a4 a5 hW hW2 hm hnn hk hn hnk hlt
  go_enter Tryz.func66, Tryz.ntmps66
  go_wp2
  go_quiet (fail)
  go_wp2
  go_region
  go_wp2
  go_region_law (refine step_append_lies _ (by rfl) (.tmp 45) (.tmp 50) 60 (by rfl) 0 2 i0 (.int .i64 0) 1 8 Tryz.underlying60 hi hz0 hz1 hz2 (by rfl) (by decide) (.slice vx m vz) m (vs.map (Value.int .i64)) (by rfl) (OWN.out _ _) ⟨(W _).heap.size, 0, none⟩ 1 1 [.int .i64 n] (by rfl) (by rfl) (NEWS.out _) (int_one n) (by omega) (by unfold maxLen; omega) (by omega) (Nat.zero_le _) _ rfl ?_; intro g' cap' w7 hown hgrow hat hlt2; have t7 := T7.out _ _ _ hgrow; have f7 := F7.out _ _ _ hgrow)
  all_goals
    have END := Lib.hid (FIN.out _ _ _ _ _ (by rw [HM.out, HN.out]; exact hown) hgrow hat)
    rw [HM.out] at END
    clear hown hgrow hat hlt2
    go_wp2
    go_ret
    exact END.out
end Go.Proofs.YtkplokfcjjcpcaaGreatDoor.Trm
end
section
namespace Go.Proofs.YtkplokfcjjcpcaaGreatDoor.Trm
open Go Go.RowKit Go.Maps
open Go.WideMaps Go.WideElems
theorem meetV_len (vs : List Int) (t : AT) : (meetV vs t).length ≤ vs.length + 1 := by
  unfold meetV
  split
  · simp
  · omega
theorem varsL_len (L : List Nd) : (varsL L).length ≤ L.length := by
  unfold varsL
  have h : ∀ (l : List AT) (vs : List Int), (l.foldl meetV vs).length ≤ vs.length + l.length := by
    intro l
    induction l with
    | nil => intro vs; simp
    | cons t r ih =>
      intro vs
      rw [List.foldl_cons]
      have h1 := ih (meetV vs t)
      have h2 := meetV_len vs t
      rw [List.length_cons]
      omega
  simpa using h (L.map Nd.t) []
def VarsS (q bm : Nat) (L : List Nd) (i : Nat) (w : World) (F : Nat → Prop) : Prop :=
  ∃ v, (∀ j, F j ↔ (j = q ∨ j = bm ∨ v.ownBlock = some j)) ∧ VarsAt w q bm v (varsL (L.take i))
theorem varsS_own {q bm H0 : Nat} {L : List Nd} : Own H0 (VarsS q bm L) where
  lt := fun i w F h j hj => by
    obtain ⟨v, h1, h2⟩ := h
    obtain ⟨l1, l2, l3⟩ := vars_lt h2
    rcases (h1 j).1 hj with rfl | rfl | h
    · exact l1
    · exact l2
    · exact l3 j h
  stay := fun i w w' F h _ hj => by
    obtain ⟨v, h1, h2⟩ := h
    exact ⟨v, h1, vars_same h2 (fun k hk => hj k (.inl ((h1 k).2 hk)))⟩
theorem meet_any (q bm B o : Nat) (v dv : Value) (vs : List Int) (t : AT) (w : World) (h : VarsAt w q bm v vs) (h0 : w.cell? ⟨B, o, none⟩ = some (.int .i64 t.k)) (h1 : w.cell? ⟨B, o + 1, none⟩ = some (.int .i64 t.n)) (hr : R64 t.n) (hlen : vs.length ≤ 900000) (hB : B ≠ bm) :
    Calls Tryz.prog 66 #[.pointer (some ⟨q, 0, none⟩), .pointer (some ⟨B, o, none⟩), dv] w (MeetPost w q bm v vs t) := by
  by_cases hm : t.k = 1 ∧ t.n ∉ vs
  · exact meet_new q bm B o v dv vs t w h h0 h1 hr hm.1 hm.2 hlen hB
  · refine meet_old q bm B o v dv vs t w h h0 h1 hr ?_
    by_cases hk : t.k = 1
    · right
      by_cases hn : t.n ∈ vs
      · exact hn
      · exact absurd ⟨hk, hn⟩ hm
    · exact .inl hk
theorem meet_cb {q bm : Nat} {L : List Nd} (hl : L.length ≤ 800000) (hr : ∀ x ∈ L, R64 x.t.n) : ∀ i w F x, VarsS q bm L i w F → (∀ y ∈ L, FullOk w y ∧ ¬ F y.B) → L[i]? = some x → Calls Tryz.prog 66 #[.pointer (some ⟨q, 0, none⟩), .pointer (some ⟨x.B, x.o, none⟩), .int .i64 x.d] w (CBPost (VarsS q bm L) (fun _ => true) i w F) := by
  rintro i w F x ⟨v, h1, h2⟩ hf hx
  have hxm := List.mem_of_getElem? hx
  have hlen := varsL_len (L.take i)
  have hlt : (L.take i).length ≤ L.length := by rw [List.length_take]; omega
  refine (meet_any q bm x.B x.o v _ _ x.t w h2 (hf x hxm).1.1.2.1 (hf x hxm).1.1.2.2.1 (hr x hxm) (by omega) (fun h => (hf x hxm).2 ((h1 _).2 (.inr (.inl h))))).mono ?_
  rintro e w' ⟨rfl, v', a1, a2, a3⟩
  refine ⟨rfl, fun j => j = q ∨ j = bm ∨ v'.ownBlock = some j, ⟨v', fun j => Iff.rfl, ?_⟩, a3.wide (fun j hj => .inl ((h1 j).2 hj)), fun j hj => ?_⟩
  · rw [varsL_succ hx]; exact a1
  · rcases hj with rfl | rfl | h
    · exact .inl ((h1 _).2 (.inl rfl))
    · exact .inl ((h1 _).2 (.inr (.inl rfl)))
    · rcases a2 j h with h | h
      · exact .inl ((h1 _).2 (.inr (.inr h)))
      · exact .inr h
def varsT (t : AT) : List Int := (t :: t.parts).foldl meetV []
theorem varsL_arg (b : Nat) (t : AT) : varsL (argL b t) = varsT t := by
  unfold varsL varsT
  rw [argL_is, List.map_cons, AT.flat_parts]
def varsW (t : AT) (w : World) : World :=
  (((w.alloc (.cells #[.int .i64 t.k, .int .i64 t.n, .string t.s, t.sv] 34)).alloc (.map #[] 0)).alloc (.cells #[.slice none 0 0, .map (some (w.heap.size + 1))] 144)).alloc (.cells #[.int .i64 t.k, .int .i64 t.n, .string t.s, t.sv] 34)
theorem vars_start (w : World) (o1 o4 : Obj) : VarsAt ((((w.alloc o1).alloc (.map #[] 0)).alloc (.cells #[.slice none 0 0, .map (some (w.heap.size + 1))] 144)).alloc o4) (w.heap.size + 1 + 1) (w.heap.size + 1) (.slice none 0 0) [] := by
  have h1 := World.ownsMap_made (w.alloc o1) Tryz.prog 2 (plainElem (H := Unit) Tryz.prog 2)
  have hs : (w.alloc o1).heap.size = w.heap.size + 1 := by simp
  rw [hs] at h1
  obtain ⟨es, clock, hb, r⟩ := h1
  refine ⟨.map [], ?_, ⟨es, clock, ?_, r⟩, mapIs_nil, ⟨rfl, .inl ⟨rfl, rfl⟩⟩, by omega, by simp [Value.ownBlock], by simp [Value.ownBlock]⟩
  · rw [Below.heap_alloc _ _ _ (by simp)]
    exact new_at _ _ (by simp)
  · rw [Below.heap_alloc _ _ _ (by simp <;> omega), Below.heap_alloc _ _ _ (by simp)]
    exact hb
def VarsDone (w : World) (q : Nat) (vs : List Int) (e : Ending) (w' : World) : Prop := e = .returned (.tuple #[]) ∧ ∃ v bm, VarsAt w' q bm v vs ∧ Below w.heap.size w w' ∧ ∀ k, v.ownBlock = some k → w.heap.size ≤ k
theorem vars_arg (t : AT) (w : World) (hm : t.mem w) (hn : t.nodes ≤ 800000) (hr : ∀ u ∈ t :: t.parts, R64 u.n) :
    Calls Tryz.prog 64 #[.func (.func 66) #[.pointer (some ⟨w.heap.size + 1 + 1, 0, none⟩)] #[], .slice (some ⟨w.heap.size + 1 + 1 + 1, 0, none⟩) 1 1] (varsW t w) (VarsDone w (w.heap.size + 1 + 1) (varsT t)) := by
  have hsz : (varsW t w).heap.size = w.heap.size + 4 := by simp [varsW]
  have hB : Below w.heap.size w (varsW t w) := by
    refine ((((Below.refl _ _).alloc (Nat.le_refl _) _).alloc ?_ _).alloc ?_ _).alloc ?_ _
    all_goals
      simp
      try omega
  have h3 : (varsW t w).heap[w.heap.size + 1 + 1 + 1]? = some (.cells #[.int .i64 t.k, .int .i64 t.n, .string t.s, t.sv] 34 (0, 0)) := new_at _ _ (by simp)
  have hlen := argL_len (w.heap.size + 1 + 1 + 1) t
  have hrr : ∀ x ∈ argL (w.heap.size + 1 + 1 + 1) t, R64 x.t.n := fun x hx => by
    have : x.t ∈ (argL (w.heap.size + 1 + 1 + 1) t).map Nd.t := List.mem_map.2 ⟨x, hx, rfl⟩
    rw [argL_is, List.map_cons, AT.flat_parts] at this
    exact hr _ this
  refine (through_arg _ (.inr (.inr (.inl rfl))) _ t _ w (varsW t w) (VarsS (w.heap.size + 1 + 1) (w.heap.size + 1) (argL (w.heap.size + 1 + 1 + 1) t)) (fun _ => true) (fun j => j = w.heap.size + 1 + 1 ∨ j = w.heap.size + 1 ∨ (Value.slice none 0 0).ownBlock = some j) hm hn hB h3 (fun j hj => ?_) ?_ varsS_own
    (fun i w2 F x hs hf _ _ hx => meet_cb (by omega) hrr i w2 F x hs hf hx) ⟨.slice none 0 0, fun j => Iff.rfl, vars_start w _ _⟩).mono ?_
  · simp [Value.ownBlock] at hj; omega
  · simp [Value.ownBlock]
    omega
  · rintro e w' ⟨rfl, n, F, a1, a2, a3, a4, a5, a6⟩
    have hnm : n = t.nodes := by
      rcases Nat.lt_or_ge n t.nodes with h | h
      · have := (a3 h).2; cases this
      · omega
    subst hnm
    obtain ⟨_, _, v, s1, s2⟩ := a4
    rw [List.take_of_length_le (by omega), varsL_arg] at s2
    refine ⟨rfl, v, _, s2, hB.trans (a5.below (fun j hj => ?_) hB.size), fun k hk => ?_⟩
    · simp [Value.ownBlock] at hj; omega
    · have := a6 k ((s1 k).2 (.inr (.inr hk)))
      simp [Value.ownBlock] at this
      omega
def VarsPost (w : World) (vs : List Int) (e : Ending) (w' : World) : Prop :=
  ∃ v, e = .returned v ∧ w'.ownsRow 0 2 1 v vs.length (vs.map (Value.int .i64)) ∧ Below w.heap.size w w' ∧ ∀ k, v.ownBlock = some k → w.heap.size ≤ k
set_option maxRecDepth 100000 in
set_option maxHeartbeats 800000 in
theorem vars_is (t : AT) (w : World) (hm : t.mem w) (hn : t.nodes ≤ 800000) (hr : ∀ u ∈ t :: t.parts, R64 u.n) :
    Calls Tryz.prog 25 #[.agg #[.int .i64 t.k, .int .i64 t.n, .string t.s, t.sv]] w (VarsPost w (varsT t)) := by
  have T := vars_arg t w hm hn hr
  unfold varsW at T
  have HT := Lib.hid T
  clear T hm hr
  have hmf : ∀ (fn : Fn) (first cap : Array Value) (w : World), (Instr.makeFunc fn first cap).run Tryz.prog w = .ok (.func fn first cap) w := fun _ _ _ _ => rfl
  have hmm := @run_makeMap Tryz.prog
  go_enter Tryz.func25, Tryz.ntmps25
  go_wp2_with fail
  refine HT.out.mono ?_
  rintro e w' ⟨rfl, v, bm, ⟨D, a1, a2, a3, a4, a5⟩, b1, b2⟩
  have c0 : w'.cell? ⟨w.heap.size + 1 + 1, 0, none⟩ = some v := cell_of_heap a1 rfl
  have HE := Lib.hid (And.intro a4 (And.intro b1 b2))
  clear a1 a2 a3 a4 a5 b1 b2 HT
  go_wp2
  go_ret
  exact ⟨v, rfl, HE.out⟩
end Go.Proofs.YtkplokfcjjcpcaaGreatDoor.Trm
end
section
namespace Go.Proofs.YtkplokfcjjcpcaaGreatDoor.Trm
open Go Go.RowKit
mutual
def AT.blocks : AT → List Nat
  | .mk _ _ _ _ G _ l => (if l.isEmpty then [] else [G]) ++ ATs.blocks l
def ATs.blocks : List AT → List Nat
  | [] => []
  | t :: r => AT.blocks t ++ ATs.blocks r
end
mutual
theorem AT.ins_blocks : ∀ t : AT, t.ins (fun j => j ∈ t.blocks)
  | .mk _ _ _ _ G _ l => by
    refine ⟨fun hl => ?_, ATs.ins_mono (fun j hj => ?_) l (ATs.ins_blocks l)⟩
    · cases l with
      | nil => exact absurd rfl hl
      | cons a r => simp [AT.blocks]
    · simp only [AT.blocks, List.mem_append]; exact .inr hj
theorem ATs.ins_blocks : ∀ l : List AT, ATs.ins (fun j => j ∈ ATs.blocks l) l
  | [] => trivial
  | t :: r => ⟨AT.ins_mono (fun j hj => by simp only [ATs.blocks, List.mem_append]; exact .inl hj) t (AT.ins_blocks t), ATs.ins_mono (fun j hj => by simp only [ATs.blocks, List.mem_append]; exact .inr hj) r (ATs.ins_blocks r)⟩
end
structure MF where
  B : Nat
  o : Nat
  k : Nat
  src : AT
  sv : Value
  G : Nat
  done : List AT
def MF.rf (f : MF) : RF := ⟨f.B, f.o, f.k, f.sv, f.G, 0, f.src.l.length⟩
def MF.gf (f : MF) : GF := ⟨f.B, f.o, f.k, f.src⟩
def MF.st (f : MF) : St := ⟨f.B, f.o, f.k⟩
def MF.at (f : MF) : AT := .mk f.src.k f.src.n f.src.s f.sv f.G 0 f.done
structure MOk (w : World) (f : MF) : Prop where
  pl : Plain w f.B
  c0 : w.cell? ⟨f.B, f.o, none⟩ = some (.int .i64 f.src.k)
  c1 : w.cell? ⟨f.B, f.o + 1, none⟩ = some (.int .i64 f.src.n)
  c2 : w.cell? ⟨f.B, f.o + 2, none⟩ = some (.string f.src.s)
  c3 : w.cell? ⟨f.B, f.o + 3, none⟩ = some f.sv
  sv : SvOk f.sv f.G 0 f.src.l.length
  row : 0 < f.src.l.length → ∃ cur, w.heap[f.G]? = some (.cells cur 34 (0, 0)) ∧ cur.size = f.src.l.length * 4
  mem : ATs.mem w f.G f.done 0
  er : ATs.erase f.done = ATs.erase (f.src.l.take f.done.length)
  le : f.done.length ≤ f.src.l.length
def ZB (w : World) : MF → List MF → Prop
  | _, [] => True
  | e, f :: σ => MOk w f ∧ f.done.length + 1 = f.k ∧ e.B = f.G ∧ e.o = f.done.length * 4 ∧ f.src.l[f.done.length]? = some e.src ∧ ZB w f σ
def Zip (w : World) : List MF → Prop
  | [] => True
  | f :: σ => MOk w f ∧ f.done.length = f.k ∧ ZB w f σ
def MF.fb (f : MF) : List Nat := if f.src.l.isEmpty then [] else [f.G]
def zblocks (σ : List MF) : List Nat := σ.flatMap fun f => f.fb ++ ATs.blocks f.done
def MF.add (f : MF) (t : AT) : MF := { f with done := f.done ++ [t] }
end Go.Proofs.YtkplokfcjjcpcaaGreatDoor.Trm
end
section
namespace Go.Proofs.YtkplokfcjjcpcaaGreatDoor.Trm
open Go Go.RowKit
def RootAt (r : Nat) (σ : List MF) : Prop := ∀ f, σ.getLast? = some f → f.B = r ∧ f.o = 0
end Go.Proofs.YtkplokfcjjcpcaaGreatDoor.Trm
end
section
namespace Go.Proofs.YtkplokfcjjcpcaaGreatDoor.Trm
open Go Go.RowKit
attribute [local go_sem ↓] Go.wp_at_zero Go.wp_at_succ
theorem clone_is (s : ByteArray) (w : World) (hs : s.size ≤ 281474976710656) : Calls Tryz.prog 63 #[.string s] w fun e w' => e = .returned (.string s) ∧ Below w.heap.size w w' := by
  go_enter Tryz.func63, Tryz.ntmps63
  go_wp2_with fail
  refine (Tryz.stringslite_Clone s _ hs).mono ?_
  rintro e w' ⟨rfl, hb⟩
  have HB := Lib.hid hb
  clear hb
  go_wp2
  go_ret
  exact ⟨rfl, HB.out⟩
structure PartAt (B o : Nat) (k n : Int) (s : ByteArray) (ad : Option Addr) (a c : Nat) (w : World) : Prop where
  p0 : w.cell? ⟨B, o, none⟩ = some (.int .i64 k)
  p1 : w.cell? ⟨B, o + 1, none⟩ = some (.int .i64 n)
  p2 : w.cell? ⟨B, o + 2, none⟩ = some (.string s)
  p3 : w.cell? ⟨B, o + 3, none⟩ = some (.slice ad a c)
structure PlaceAt (G p : Nat) (w : World) : Prop where
  q0 : ∃ u, w.cell? ⟨G, p, none⟩ = some u
  q1 : ∃ u, w.cell? ⟨G, p + 1, none⟩ = some u
  q2 : ∃ u, w.cell? ⟨G, p + 2, none⟩ = some u
  q3 : ∃ u, w.cell? ⟨G, p + 3, none⟩ = some u
  fr : ∀ o, w.frozen? ⟨G, o, none⟩ = false
end Go.Proofs.YtkplokfcjjcpcaaGreatDoor.Trm
end
section
namespace Go.Proofs.YtkplokfcjjcpcaaGreatDoor.Trm
open Go Go.RowKit
structure FillSt (q r : Nat) (t0 : AT) (sv : Value) (G0 : Nat) (L : List Nd) (i : Nat) (w : World) (F : Nat → Prop) (σ : List MF) (g : Nat) : Prop where
  F : ∀ j, F j ↔ (j = q ∨ j = g ∨ j ∈ zblocks σ)
  way : WayAt w q 215 [] g (σ.map MF.st)
  zip : Zip w σ
  root : RootAt r σ
  last : ∃ f, σ.getLast? = some f ∧ f.src = t0 ∧ f.sv = sv ∧ f.G = G0
  nd : (zblocks σ).Nodup
  out : r ∉ zblocks σ ∧ q ∉ zblocks σ ∧ g ∉ zblocks σ ∧ r ≠ q ∧ r ≠ g
  lt : ∀ j ∈ zblocks σ, j < w.heap.size
  td : (todo (σ.map MF.gf)).map Nd.t = (L.map Nd.t).drop i
  len : σ.length ≤ i + 1
  sz : ∀ f ∈ σ, f.src.l.length ≤ 900000
end Go.Proofs.YtkplokfcjjcpcaaGreatDoor.Trm
end
section
namespace Go.Proofs.YtkplokfcjjcpcaaGreatDoor.Trm
open Go Go.RowKit
end Go.Proofs.YtkplokfcjjcpcaaGreatDoor.Trm
end
section
namespace Go.Proofs.YtkplokfcjjcpcaaGreatDoor.Trm
open Go Go.RowKit Go.Maps
open Go.WideMaps Go.WideElems
theorem look1_64 {w : World} {b n : Nat} {D : DataW Unit} (h : OM w b n D) (c v : Int) (h0 : R64 c) (hv : D.atKey (.int .i64 c) (.lit (.int .i64 0)) = .lit (.int .i64 v)) :
    (Instr.lookup 142 (.map (some b)) (.int .i64 c) false).run Tryz.prog w = .ok (.int .i64 v) w := by
  obtain ⟨x, hrun, hx, _⟩ := World.ownsMap.lookup_int h i64Key Tryz.underlying142 Tryz.underlying2 (by kernel_rfl) (keyOf_64 h0)
  rw [hv] at hx
  cases hx
  exact hrun
theorem meet_mem {vs : List Int} {t : AT} (h : t.k = 1) : t.n ∈ meetV vs t := by
  unfold meetV
  split
  · simp
  · rename_i hn
    by_cases hm : t.n ∈ vs
    · exact hm
    · exact absurd ⟨h, hm⟩ hn
def newN (vs : List Int) (t : AT) : Int := if t.k = 1 then (vs.idxOf t.n : Int) else t.n
def NumPost (w : World) (q bm B o : Nat) (v : Value) (vs : List Int) (t : AT) (e : Ending) (w' : World) : Prop :=
  e = .returned (.bool true) ∧ ∃ v' w1, VarsAt w1 q bm v' (meetV vs t) ∧ (∀ k, v'.ownBlock = some k → v.ownBlock = some k ∨ w.heap.size ≤ k) ∧ Keeps (fun j => j = q ∨ j = bm ∨ v.ownBlock = some j) w w1 ∧
    ∃ d, w' = (if t.k = 1 then w1.setCell ⟨B, o + 1, none⟩ (.int .i64 (newN (meetV vs t) t)) else w1).drewN d
set_option maxRecDepth 100000 in
set_option maxHeartbeats 1600000 in
theorem number_is (q bm B o : Nat) (v dv : Value) (vs : List Int) (t : AT) (w : World) (h : VarsAt w q bm v vs) (h0 : w.cell? ⟨B, o, none⟩ = some (.int .i64 t.k)) (h1 : w.cell? ⟨B, o + 1, none⟩ = some (.int .i64 t.n)) (hz : w.frozen? ⟨B, o + 1, none⟩ = false) (hr : R64 t.n) (hlen : vs.length ≤ 900000) (hB : ¬ (B = q ∨ B = bm ∨ v.ownBlock = some B)) :
    Calls Tryz.prog 126 #[.pointer (some ⟨q, 0, none⟩), .pointer (some ⟨B, o, none⟩), dv] w (NumPost w q bm B o v vs t) := by
  have M := Lib.hid (meet_any q bm B o v dv vs t w h h0 h1 hr hlen (fun e => hB (.inr (.inl e))))
  have hBl := World.block_lt_of_cell? _ _ h0
  obtain ⟨k, hk⟩ : ∃ k, t.k = k := ⟨_, rfl⟩
  obtain ⟨n, hn⟩ : ∃ k, t.n = k := ⟨_, rfl⟩
  have HKN := Lib.hid (And.intro hk hn)
  rw [hk] at h0
  rw [hn] at h1
  have H0 := Lib.hid h0
  have H1 := Lib.hid h1
  have HZ := Lib.hid hz
  have HB := Lib.hid hB
  clear h h0 h1 hz hB hk hn
  go_enter Tryz.func126, Tryz.ntmps126
  go_wp2_with fail
  refine M.out.mono ?_
  rintro e w1 ⟨rfl, v', a1, a2, a3⟩
  have c0 := a3.cell H0.out HB.out
  have c1 := a3.cell H1.out HB.out
  have z1 : w1.frozen? ⟨B, o + 1, none⟩ = false := by
    rw [World.frozen?_of_block (a3.block B hBl HB.out)]
    exact HZ.out
  by_cases hk : k = 1
  · subst hk
    have hm := meet_mem (vs := vs) HKN.out.1
    obtain ⟨D, b1, b2, b3, b4, b5⟩ := a1
    have d1 : w1.cell? ⟨q, 1, none⟩ = some (.map (some bm)) := cell_of_heap b1 rfl
    have hl : ∀ d : Nat, (Instr.lookup 142 (.map (some bm)) (.int .i64 n) false).run Tryz.prog (w1.drewN d) = .ok (.int .i64 (newN (meetV vs t) t)) (w1.drewN d) := fun d => by
      have h5 := look1_64 (w := w1.drewN d) b2 t.n _ hr ((b3.2 t.n).1 hm).2
      rw [HKN.out.2] at h5
      rw [h5]
      unfold newN
      rw [if_pos HKN.out.1, HKN.out.2]
    have hl1 : (Instr.lookup 142 (.map (some bm)) (.int .i64 n) false).run Tryz.prog w1.drew = .ok (.int .i64 (newN (meetV vs t) t)) w1.drew := hl 1
    clear hl
    have FIN : Hid (∀ d, NumPost w q bm B o v vs t (.returned (.bool true)) ((w1.setCell ⟨B, o + 1, none⟩ (.int .i64 (newN (meetV vs t) t))).drewN d)) := fun d => ⟨rfl, v', w1, ⟨D, b1, b2, b3, b4, b5⟩, a2, a3, d, by rw [if_pos HKN.out.1]⟩
    generalize newN (meetV vs t) t = z at *
    clear a2 a3 b1 b2 b3 b4 b5 hm M
    go_wp2
    go_region
    all_goals
      go_wp2
      first | (go_ret; exact FIN.out 1) | exact FIN.out 1
  · have FIN : Hid (∀ d, NumPost w q bm B o v vs t (.returned (.bool true)) (w1.drewN d)) := fun d => ⟨rfl, v', w1, a1, a2, a3, d, by rw [if_neg (by rw [HKN.out.1]; exact hk)]⟩
    have hkb : (k == 1) = false := beq_eq_false_iff_ne.2 hk
    clear a1 a2 a3 hk M
    go_wp2
    go_ret
    exact FIN.out 0
end Go.Proofs.YtkplokfcjjcpcaaGreatDoor.Trm
end
section
namespace Go.Proofs.YtkplokfcjjcpcaaGreatDoor.Trm
open Go Go.RowKit Go.Maps
open Go.WideMaps Go.WideElems
mutual
theorem AT.flat_B : ∀ (t : AT) (d : Nat), ∀ x ∈ t.flat d, x.B ∈ t.blocks
  | .mk _ _ _ _ G off l, d => fun x hx => by
    rw [AT.blocks, List.mem_append]
    rcases ATs.flat_B l d off G x hx with ⟨h, _⟩ | h
    · left
      cases l with
      | nil => cases hx
      | cons a r => simp [h]
    · exact .inr h
theorem ATs.flat_B : ∀ (l : List AT) (d off G : Nat), ∀ x ∈ ATs.flat G d l off, (x.B = G ∧ off ≤ x.o) ∨ x.B ∈ ATs.blocks l
  | [], _, _, _ => fun x hx => by cases hx
  | t :: r, d, off, G => fun x hx => by
    rw [ATs.flat, List.mem_cons, List.mem_append] at hx
    rw [ATs.blocks, List.mem_append]
    rcases hx with rfl | hx | hx
    · exact .inl ⟨rfl, Nat.le_refl _⟩
    · exact .inr (.inl (AT.flat_B t (d + 1) x hx))
    · rcases ATs.flat_B r d (off + 4) G x hx with ⟨h1, h2⟩ | h
      · exact .inl ⟨h1, by omega⟩
      · exact .inr (.inr h)
end
def Apart (x y : Nd) : Prop := x.B = y.B → x.o + 4 ≤ y.o
mutual
theorem AT.apart : ∀ (t : AT) (d : Nat), t.blocks.Nodup → (t.flat d).Pairwise Apart
  | .mk _ _ _ _ G off l, d, h => by
    cases l with
    | nil => exact List.Pairwise.nil
    | cons a r =>
      rw [AT.blocks] at h
      exact ATs.apart (a :: r) d off G (by simpa using h)
theorem ATs.apart : ∀ (l : List AT) (d off G : Nat), (G :: ATs.blocks l).Nodup → (ATs.flat G d l off).Pairwise Apart
  | [], _, _, _, _ => List.Pairwise.nil
  | t :: r, d, off, G, h => by
    rw [ATs.blocks, List.nodup_cons, List.mem_append, not_or] at h
    obtain ⟨⟨g1, g2⟩, h2⟩ := h
    obtain ⟨n1, n2, n3⟩ := List.nodup_append.1 h2
    rw [ATs.flat, List.pairwise_cons]
    refine ⟨fun y hy => ?_, List.pairwise_append.2 ⟨AT.apart t (d + 1) n1, ATs.apart r d (off + 4) G (List.nodup_cons.2 ⟨g2, n2⟩), fun x hx y hy => ?_⟩⟩
    · intro he
      have he' : G = y.B := he
      rcases List.mem_append.1 hy with hy | hy
      · exact absurd (AT.flat_B t (d + 1) y hy) (by rw [← he']; exact g1)
      · rcases ATs.flat_B r d (off + 4) G y hy with ⟨_, h4⟩ | h4
        · exact h4
        · exact absurd h4 (by rw [← he']; exact g2)
    · intro he
      have hx1 := AT.flat_B t (d + 1) x hx
      rcases ATs.flat_B r d (off + 4) G y hy with ⟨h4, _⟩ | h4
      · exact absurd hx1 (by rw [he, h4]; exact g1)
      · exact absurd rfl (n3 _ hx1 _ (by rw [he]; exact h4))
end
mutual
def AT.ren (vs : List Int) : AT → AT
  | .mk k n s sv G off l => .mk k (if k = 1 then (vs.idxOf n : Int) else n) s sv G off (ATs.ren vs l)
def ATs.ren (vs : List Int) : List AT → List AT
  | [] => []
  | t :: r => AT.ren vs t :: ATs.ren vs r
end
mutual
def Tm.ren (vs : List Int) : Tm → Tm
  | .mk k n s l => .mk k (if k = 1 then (vs.idxOf n : Int) else n) s (Tms.ren vs l)
def Tms.ren (vs : List Int) : List Tm → List Tm
  | [] => []
  | t :: r => Tm.ren vs t :: Tms.ren vs r
end
theorem ren_len (vs : List Int) (l : List AT) : (ATs.ren vs l).length = l.length := by
  induction l with
  | nil => rfl
  | cons t r ih => rw [ATs.ren, List.length_cons, List.length_cons, ih]
mutual
theorem AT.ren_erase (vs : List Int) : ∀ t : AT, (t.ren vs).erase = t.erase.ren vs
  | .mk k n s sv G off l => by rw [AT.ren, AT.erase, AT.erase, Tm.ren, ATs.ren_erase vs l]
theorem ATs.ren_erase (vs : List Int) : ∀ l : List AT, ATs.erase (ATs.ren vs l) = Tms.ren vs (ATs.erase l)
  | [] => rfl
  | t :: r => by rw [ATs.ren, ATs.erase, ATs.erase, Tms.ren, AT.ren_erase vs t, ATs.ren_erase vs r]
end
mutual
theorem AT.ren_ins (vs : List Int) {S : Nat → Prop} : ∀ t : AT, t.ins S → (t.ren vs).ins S
  | .mk k n s sv G off l, h => ⟨fun hl => h.1 (fun h2 => hl (by rw [h2]; rfl)), ATs.ren_ins vs l h.2⟩
theorem ATs.ren_ins (vs : List Int) {S : Nat → Prop} : ∀ l : List AT, ATs.ins S l → ATs.ins S (ATs.ren vs l)
  | [], _ => trivial
  | t :: r, h => ⟨AT.ren_ins vs t h.1, ATs.ren_ins vs r h.2⟩
end
def RowN (w : World) (x : Nd) (n : Int) : Prop :=
  Plain w x.B ∧ w.cell? ⟨x.B, x.o, none⟩ = some (.int .i64 x.t.k) ∧ w.cell? ⟨x.B, x.o + 1, none⟩ = some (.int .i64 n) ∧ w.cell? ⟨x.B, x.o + 2, none⟩ = some (.string x.t.s) ∧ w.cell? ⟨x.B, x.o + 3, none⟩ = some x.t.sv ∧ SvOk x.t.sv x.t.G x.t.off x.t.l.length
theorem ren_sv {vs : List Int} {t : AT} : (t.ren vs).sv = t.sv ∧ (t.ren vs).G = t.G ∧ (t.ren vs).off = t.off ∧ (t.ren vs).l = ATs.ren vs t.l ∧ (t.ren vs).k = t.k ∧ (t.ren vs).n = newN vs t ∧ (t.ren vs).s = t.s := by cases t; exact ⟨rfl, rfl, rfl, rfl, rfl, rfl, rfl⟩
mutual
theorem AT.ren_mem {w : World} (vs : List Int) : ∀ (t : AT) (d : Nat), SvOk t.sv t.G t.off t.l.length → (∀ x ∈ t.flat d, RowN w x (newN vs x.t)) → (t.ren vs).mem w
  | .mk k n s sv G off l, d, hs, h => ⟨by rw [ren_len]; exact hs, ATs.ren_mem vs l d off G h⟩
theorem ATs.ren_mem {w : World} (vs : List Int) : ∀ (l : List AT) (d off G : Nat), (∀ x ∈ ATs.flat G d l off, RowN w x (newN vs x.t)) → ATs.mem w G (ATs.ren vs l) off
  | [], _, _, _, _ => trivial
  | t :: r, d, off, G, h => by
    rw [ATs.flat] at h
    obtain ⟨h0, h1, h2, h3, h4, h5⟩ := h ⟨G, off, d, t⟩ (by simp)
    obtain ⟨r1, r2, r3, r4, r5, r6, r7⟩ := ren_sv (vs := vs) (t := t)
    exact ⟨⟨h0, by rw [r5]; exact h1, by rw [r6]; exact h2, by rw [r7]; exact h3, by rw [r1]; exact h4⟩, AT.ren_mem vs t (d + 1) h5 (fun x hx => h x (by simp [hx])), ATs.ren_mem vs r d (off + 4) G (fun x hx => h x (by simp [hx]))⟩
end
structure NumSt (q bm : Nat) (L : List Nd) (i : Nat) (w : World) (F : Nat → Prop) (v : Value) : Prop where
  F : ∀ j, F j ↔ ((j = q ∨ j = bm ∨ v.ownBlock = some j) ∨ ∃ x ∈ L, x.B = j)
  va : VarsAt w q bm v (varsL (L.take i))
  sep : ∀ x ∈ L, ¬ (x.B = q ∨ x.B = bm ∨ v.ownBlock = some x.B)
  rows : ∀ m x, L[m]? = some x → RowN w x (if m < i then newN (varsL L) x.t else x.t.n)
end Go.Proofs.YtkplokfcjjcpcaaGreatDoor.Trm
end
section
namespace Go.Proofs.YtkplokfcjjcpcaaGreatDoor.Trm
open Go Go.RowKit Go.Maps
open Go.WideMaps Go.WideElems
mutual
def Tm.kn : Tm → List (Int × Int)
  | .mk k n _ l => (k, n) :: Tms.kn l
def Tms.kn : List Tm → List (Int × Int)
  | [] => []
  | t :: r => Tm.kn t ++ Tms.kn r
end
mutual
theorem AT.kn_parts : ∀ t : AT, (t :: t.parts).map (fun u => (u.k, u.n)) = t.erase.kn
  | .mk k n s sv G off l => by
    rw [AT.erase, Tm.kn, List.map_cons, AT.parts, ATs.kn_parts l]; rfl
theorem ATs.kn_parts : ∀ l : List AT, (ATs.parts l).map (fun u => (u.k, u.n)) = Tms.kn (ATs.erase l)
  | [] => rfl
  | t :: r => by
    rw [ATs.parts, ATs.erase, Tms.kn, ← AT.kn_parts t, ← ATs.kn_parts r, ← List.map_append, List.cons_append]
end
end Go.Proofs.YtkplokfcjjcpcaaGreatDoor.Trm
end
section
namespace Go.Proofs.YtkplokfcjjcpcaaGreatDoor.Trm
open Go Go.RowKit
def vT (n : Int) : AT := .mk 1 n ⟨#[]⟩ (.slice none 0 0) 0 0 []
def fT (s : ByteArray) (b : Nat) (l : List AT) : AT := .mk 4 0 s (.slice (some ⟨b, 0, none⟩) l.length l.length) b 0 l
def exT (b1 b2 : Nat) (x y z : Int) : AT := fT ⟨#[102]⟩ b2 [vT x, fT ⟨#[103]⟩ b1 [vT y, vT z]]
theorem may_v {n : Int} (h : 0 ≤ n) : mayB 1 n ⟨#[]⟩ 0 = true := by
  unfold mayB
  have h2 : (⟨#[]⟩ : ByteArray).toList = [] := by rw [ByteArray.toList_eq]
  rw [if_pos rfl, h2]
  simp [h]
theorem ex_ok (b b1 b2 : Nat) : okL (argL b (exT b1 b2 7 2 7)) = true := by
  have h : okL (argL b (exT b1 b2 7 2 7)) = (mayB 4 0 ⟨#[102]⟩ 2 && (mayB 1 7 ⟨#[]⟩ 0 && (mayB 4 0 ⟨#[103]⟩ 2 && (mayB 1 2 ⟨#[]⟩ 0 && (mayB 1 7 ⟨#[]⟩ 0 && true))))) := rfl
  rw [h, may_v (by omega), may_v (by omega)]
  rfl
mutual
theorem AT.same_erase : ∀ (t u : AT), t.erase = u.erase → t.same u = true
  | .mk k n s sv G off l, u, h => by
    rw [AT.erase_mk (t := u), AT.erase] at h
    simp only [Tm.mk.injEq] at h
    obtain ⟨h1, h2, h3, h4⟩ := h
    rw [AT.same, h1, h2, h3, ATs.same_erase l u.l h4]
    have := congrArg List.length h4
    rw [erase_len, erase_len] at this
    simp [this]
theorem ATs.same_erase : ∀ (l m : List AT), ATs.erase l = ATs.erase m → ATs.same l m = true
  | [], _, _ => rfl
  | t :: r, [], h => by simp [ATs.erase] at h
  | t :: r, u :: v, h => by
    simp only [ATs.erase, List.cons.injEq] at h
    rw [ATs.same, AT.same_erase t u h.1, ATs.same_erase r v h.2]; rfl
end
end Go.Proofs.YtkplokfcjjcpcaaGreatDoor.Trm
end
section
namespace Go.Proofs.YtkplokfcjjcpcaaGreatDoor.Trm
open Go Go.RowKit
def T3 (a b d : Int) : Prop := a ≤ 0 → b ≤ 0 → d ≤ 0 ∧ (d = 0 → a = 0 ∧ b = 0)
theorem int_self (x : Int) : Lib.compareInt x x = 0 := by
  unfold Lib.compareInt
  rw [if_neg (by omega), if_neg (by omega)]
def cmpB : List UInt8 → List UInt8 → Int
  | [], [] => 0
  | [], _ :: _ => -1
  | _ :: _, [] => 1
  | a :: x, b :: y => if Lib.compareInt a.toNat b.toNat ≠ 0 then Lib.compareInt a.toNat b.toNat else cmpB x y
theorem cmpB_is : ∀ x y : List UInt8, (if Op.bytesLess x y = true then (-1 : Int) else if (x == y) = true then 0 else 1) = cmpB x y
  | [], [] => rfl
  | [], _ :: _ => rfl
  | _ :: _, [] => rfl
  | a :: x, b :: y => by
    rw [cmpB, ← cmpB_is x y]
    rw [show Op.bytesLess (a :: x) (b :: y) = (decide (a < b) || (a == b && Op.bytesLess x y)) from rfl]
    unfold Lib.compareInt
    rcases Nat.lt_trichotomy a.toNat b.toNat with h | h | h
    · have h1 : a < b := UInt8.lt_iff_toNat_lt.2 h
      have h2 : (a.toNat : Int) < b.toNat := by omega
      simp [h1, h2]
    · have h1 : a = b := UInt8.toNat_inj.1 h
      subst h1
      have h2 : ¬ a < a := fun h2 => by have := UInt8.lt_iff_toNat_lt.1 h2; omega
      simp [h2]
    · have h1 : ¬ a < b := fun h2 => by have := UInt8.lt_iff_toNat_lt.1 h2; omega
      have h2 : ¬ (a.toNat : Int) < b.toNat := by omega
      have h3 : (b.toNat : Int) < a.toNat := by omega
      have h4 : a ≠ b := fun h2 => by subst h2; omega
      simp [h1, h2, h3, h4]
theorem bytes_self : ∀ x : List UInt8, cmpB x x = 0
  | [] => rfl
  | a :: x => by rw [cmpB, int_self, if_neg (by omega), bytes_self x]
theorem cmpS_bytes (x y : ByteArray) : cmpS x y = cmpB x.toList y.toList := cmpB_is _ _
theorem row_eq {x y : AT} (h1 : x.k = y.k) (h2 : x.n = y.n) (h3 : x.l.length = y.l.length) (h4 : x.s = y.s) : cmpRow x y = 0 := by
  unfold cmpRow or4
  rw [h1, h2, h3, h4, int_self, int_self, int_self, cmpS_bytes, bytes_self]
  rfl
def Full : Nat → List AT → Prop
  | n, [] => n = 0
  | n, t :: r => 0 < n ∧ Full (n - 1 + t.l.length) r
mutual
theorem AT.fullP : ∀ (t : AT) (n : Nat) (r : List AT), Full n r → Full (n + t.l.length) (t.parts ++ r)
  | .mk _ _ _ _ _ _ l, n, r, h => ATs.fullP l n r h
theorem ATs.fullP : ∀ (l : List AT) (n : Nat) (r : List AT), Full n r → Full (n + l.length) (ATs.parts l ++ r)
  | [], n, r, h => h
  | t :: l, n, r, h => by
    rw [ATs.parts, List.cons_append, List.append_assoc]
    refine ⟨by simp <;> omega, ?_⟩
    rw [show n + (t :: l).length - 1 + t.l.length = n + l.length + t.l.length from by simp]
    exact AT.fullP t _ _ (ATs.fullP l n r h)
end
mutual
theorem AT.cmp_same : ∀ (t u : AT) (r r' : List AT), cmpP (t :: (t.parts ++ r)) (u :: (u.parts ++ r')) = 0 ↔ (t.same u = true ∧ cmpP r r' = 0)
  | .mk k n s sv G off l, u, r, r' => by
    rw [cmpP]
    by_cases h : cmpRow (.mk k n s sv G off l) u = 0
    · rw [if_neg (by simp [h])]
      obtain ⟨h1, h2, h3, h4⟩ := cmpRow_zero h
      have h3' : l.length = u.l.length := h3
      have := ATs.cmp_same l u.l r r' h3'
      rw [show u.parts = ATs.parts u.l from by cases u; rfl, AT.parts, this, AT.same]
      have h1' : k = u.k := h1
      have h2' : n = u.n := h2
      have h4' : s = u.s := h4
      simp [h1', h2', h3', h4']
    · rw [if_pos h]
      refine ⟨fun h2 => absurd h2 h, fun h2 => absurd ?_ h⟩
      have h3 := h2.1
      rw [AT.same] at h3
      simp only [Bool.and_eq_true, beq_iff_eq] at h3
      obtain ⟨⟨⟨⟨a1, a2⟩, a3⟩, a4⟩, _⟩ := h3
      rw [ByteArray.toList_eq, ByteArray.toList_eq] at a3
      exact row_eq a1 a2 a4 (WideShapes.bytes_inj a3)
theorem ATs.cmp_same : ∀ (l m : List AT) (r r' : List AT), l.length = m.length → (cmpP (ATs.parts l ++ r) (ATs.parts m ++ r') = 0 ↔ (ATs.same l m = true ∧ cmpP r r' = 0))
  | [], [], r, r', _ => by simp [ATs.parts, ATs.same]
  | [], _ :: _, _, _, h => by simp at h
  | _ :: _, [], _, _, h => by simp at h
  | t :: l, u :: m, r, r', h => by
    rw [ATs.parts, ATs.parts, List.cons_append, List.cons_append, List.append_assoc, List.append_assoc, AT.cmp_same t u, ATs.cmp_same l m r r' (by simpa using h), ATs.same, Bool.and_eq_true, and_assoc]
end
theorem Tm.nodes_pos (t : Tm) : 1 ≤ t.nodes := by cases t; rw [Tm.nodes]; omega
mutual
theorem mendT_nodes : ∀ t : Tm, (mendT t).nodes ≤ t.nodes
  | .mk k n s l => by
    have h0 : 1 ≤ (Tm.mk k n s l).nodes := Tm.nodes_pos _
    have h1 := mendL_nodes l
    rw [mendT]
    split
    · exact h0
    · split
      · exact h0
      · split
        · exact h0
        · split
          · exact h0
          · split
            · split
              · exact h0
              · rw [Tm.nodes, Tm.nodes]; omega
            · exact h0
theorem mendL_nodes : ∀ l : List Tm, Tms.nodes (mendL l) ≤ Tms.nodes l
  | [] => Nat.le_refl _
  | t :: r => by
    have h1 := mendT_nodes t
    have h2 := mendL_nodes r
    rw [mendL, Tms.nodes, Tms.nodes]; omega
end
end Go.Proofs.YtkplokfcjjcpcaaGreatDoor.Trm
end
