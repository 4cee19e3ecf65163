/- term.Vars: a contract; what it keeps of the variables that were met. Conditions: memory holds the term; it has at most 800000 parts; each N is a whole number of 64 bits. -/
import Derived.Test.YtkidcchafdiofaaTermO
import Derived.Test.YtkidcchafdiofaaTermK
import Derived.Maps.OwnOps
import Derived.Maps.OwnSet
import Derived.Maps.Views
namespace Go.Proofs.Ytkidcchafdiofaa
open Go Go.RowKit Go.Maps
open Go.WideMaps Go.WideElems
attribute [local go_sem ↓] Go.wp_at_zero Go.wp_at_succ

theorem i64Key : Keyed Try.prog 2 := int_keyed Try.underlying2
def R64 (n : Int) : Prop := -9223372036854775808 ≤ n ∧ n ≤ 9223372036854775807
theorem wf_64 {n : Int} (h : R64 n) : (Lit.int .i64 n).wf = true := by
  obtain ⟨h1, h2⟩ := h
  go_wf
theorem keyOf_64 {n : Int} (h : R64 n) : keyOf Try.prog 2 (.int .i64 n) = some (.int .i64 n) := keyOf_int_mk Try.underlying2 (wf_64 h)
/-- block b is a map of at most n whole numbers to whole numbers that reads as D -/
def OM (w : World) (b n : Nat) (D : DataW Unit) : Prop := w.ownsMap Try.prog 2 (plainElem (H := Unit) Try.prog 2) b n D
theorem look_64 {w : World} {b n : Nat} {D : DataW Unit} (h : OM w b n D) (c v : Int) (ok : Bool) (h0 : R64 c)
    (hv : D.atKey (.int .i64 c) (.lit (.int .i64 0)) = .lit (.int .i64 v)) (hok : Maps.has D (.int .i64 c) = ok) :
    (Instr.lookup 57 (.map (some b)) (.int .i64 c) true).run Try.prog w = .ok (.tuple #[.int .i64 v, .bool ok]) w := by
  obtain ⟨x, ps, hrun, hx⟩ := World.ownsMap.look_ok h i64Key Try.underlying57 (z := .int .i64 0) (by kernel_rfl) (plainElem_int Try.underlying2 (by decide)) (keyOf_64 h0)
  obtain ⟨y, rfl, hy, _⟩ := plainElem_int_inv Try.underlying2 hx
  rw [hv] at hy
  cases hy
  rw [hrun, hok]

/-- the map holds where each stands -/
def MapIs (D : DataW Unit) (vs : List Int) : Prop := Maps.IsMap D ∧ ∀ x, (x ∈ vs → Maps.has D (.int .i64 x) = true ∧ D.atKey (.int .i64 x) (.lit (.int .i64 0)) = .lit (.int .i64 (vs.idxOf x))) ∧ (x ∉ vs → Maps.has D (.int .i64 x) = false)
theorem mapIs_nil : MapIs (.map []) [] := ⟨Maps.isMap_empty, fun x => ⟨fun h => (by cases h), fun _ => rfl⟩⟩
theorem mapIs_put {D : DataW Unit} {vs : List Int} (h : MapIs D vs) {n : Int} (hn : n ∉ vs) (hr : R64 n) : MapIs (D.put (.int .i64 n) (.lit (.int .i64 (vs.length : Int)))) (vs ++ [n]) := by
  have hk : WideAt.IsKeyLit (.int .i64 n) := by first | exact trivial | exact ⟨_, _, rfl, wf_64 hr⟩ | simp [WideAt.IsKeyLit]
  refine ⟨h.1.put _ _, fun x => ?_⟩
  by_cases hx : x = n
  · subst hx
    refine ⟨fun _ => ⟨Maps.has_put_same h.1 hk _, ?_⟩, fun hne => absurd (by simp) hne⟩
    rw [Maps.atKey_put_same h.1 hk, List.idxOf_append, if_neg hn]
    simp
  · have hne : (Lit.int .i64 x) ≠ .int .i64 n := fun h => hx (by cases h; rfl)
    rw [Maps.has_put_other hne, Maps.atKey_put_other hne]
    refine ⟨fun hm => ?_, fun hm => (h.2 x).2 (fun h2 => hm (by simp [h2]))⟩
    have hm2 : x ∈ vs := by simpa [hx] using hm
    rw [List.idxOf_append, if_pos hm2]
    exact (h.2 x).1 hm2

/-- one variable more -/
def meetV (vs : List Int) (t : AT) : List Int := if t.k = 1 ∧ t.n ∉ vs then vs ++ [t.n] else vs
def varsL (L : List Nd) : List Int := (L.map Nd.t).foldl meetV []
theorem varsL_succ {L : List Nd} {i : Nat} {x : Nd} (h : L[i]? = some x) : varsL (L.take (i + 1)) = meetV (varsL (L.take i)) x.t := by
  unfold varsL
  rw [List.take_add_one, h]
  simp

/-- the variables that were met stand at block q: a list, and a map of where each stands in it -/
def VarsAt (w : World) (q bm : Nat) (v : Value) (vs : List Int) : Prop :=
  ∃ D, w.heap[q]? = some (.cells #[v, .map (some bm)] 59 (0, 0)) ∧ OM w bm vs.length D ∧ MapIs D vs ∧ w.ownsRow 0 2 1 v vs.length (vs.map (Value.int .i64)) ∧ bm ≠ q ∧ v.ownBlock ≠ some q ∧ v.ownBlock ≠ some bm
def MeetPost (w : World) (q bm : Nat) (v : Value) (vs : List Int) (t : AT) (e : Ending) (w' : World) : Prop :=
  e = .returned (.bool true) ∧ ∃ v', VarsAt w' q bm v' (meetV vs t) ∧ (∀ k, v'.ownBlock = some k → v.ownBlock = some k ∨ w.heap.size ≤ k) ∧ Keeps (fun j => j = q ∨ j = bm ∨ v.ownBlock = some j) w w'
theorem vars_lt {w : World} {q bm : Nat} {v : Value} {vs : List Int} (h : VarsAt w q bm v vs) : q < w.heap.size ∧ bm < w.heap.size ∧ ∀ k, v.ownBlock = some k → k < w.heap.size := by
  obtain ⟨D, h1, h2, h3, h4, _⟩ := h
  exact ⟨(Array.getElem?_eq_some_iff.1 h1).1, World.ownsMap.lt h2, fun k hk => (h4.lt k hk).2⟩
theorem vars_same {w w' : World} {q bm : Nat} {v : Value} {vs : List Int} (h : VarsAt w q bm v vs) (hh : ∀ k, (k = q ∨ k = bm ∨ v.ownBlock = some k) → w'.heap[k]? = w.heap[k]?) : VarsAt w' q bm v vs := by
  obtain ⟨D, h1, ⟨es, clock, hb, r⟩, h3, h4, h5⟩ := h
  exact ⟨D, (hh q (.inl rfl)).trans h1, ⟨es, clock, (hh bm (.inr (.inl rfl))).trans hb, r⟩, h3, owns_same h4 (fun g hg => hh g (.inr (.inr hg))), h5⟩

set_option maxRecDepth 100000 in
set_option maxHeartbeats 1600000 in
theorem meet_old (q bm B o : Nat) (v dv : Value) (vs : List Int) (t : AT) (w : World) (h : VarsAt w q bm v vs) (h0 : w.cell? ⟨B, o, none⟩ = some (.int .i64 t.k)) (h1 : w.cell? ⟨B, o + 1, none⟩ = some (.int .i64 t.n)) (hr : R64 t.n) (hm : t.k ≠ 1 ∨ t.n ∈ vs) :
    Calls Try.prog 38 #[.pointer (some ⟨q, 0, none⟩), .pointer (some ⟨B, o, none⟩), dv] w (MeetPost w q bm v vs t) := by
  have hmv : meetV vs t = vs := by
    unfold meetV
    rw [if_neg]
    rintro ⟨a, b⟩
    rcases hm with h | h
    · exact h a
    · exact b h
  have fin : ∀ d, MeetPost w q bm v vs t (.returned (.bool true)) (w.drewN d) := fun d => ⟨rfl, v, by rw [hmv]; exact vars_same h (fun _ _ => rfl), fun k hk => .inl hk, (Keeps.refl _ _).drewN d⟩
  have FIN := Lib.hid fin
  obtain ⟨k, hk⟩ : ∃ k, t.k = k := ⟨_, rfl⟩
  obtain ⟨n, hn⟩ : ∃ k, t.n = k := ⟨_, rfl⟩
  rw [hk] at h0 hm
  rw [hn] at h1 hm hr
  by_cases hk1 : k = 1
  · subst hk1
    have hin : n ∈ vs := by rcases hm with h | h; exact absurd rfl h; exact h
    obtain ⟨D, a1, a2, a3, a4, a5⟩ := h
    have c1 : w.cell? ⟨q, 1, none⟩ = some (.map (some bm)) := cell_of_heap a1 rfl
    have hl : ∀ d : Nat, (Instr.lookup 57 (.map (some bm)) (.int .i64 n) true).run Try.prog (w.drewN d) = .ok (.tuple #[.int .i64 (vs.idxOf n), .bool true]) (w.drewN d) := fun d => look_64 (w := w.drewN d) a2 n _ true hr ((a3.2 n).1 hin).2 ((a3.2 n).1 hin).1
    clear fin hmv hm a1 a2 a3 a4 a5 hin hk hn
    go_enter Try.func38, Try.ntmps38
    go_wp2
    go_quiet (fail)
    go_wp2
    go_ret
    exact FIN.out _
  · have hkb : (k != 1) = true := by rw [bne_iff_ne]; exact hk1
    clear fin hmv hm h hk hn hk1
    go_enter Try.func38, Try.ntmps38
    go_wp2
    go_ret
    exact FIN.out 0

theorem int_news (W : World) (n : Int) (H : Nat) (h : W.heap.size = H) : ∀ j u, [Value.int .i64 n][j]? = some u → (W.alloc (.cells #[.int .i64 n] 2)).cell? ((⟨H, 0, none⟩ : Addr).add j) = some u := by
  subst h
  exact World.news_of_block (heap_alloc_new W _)
theorem int_one (n : Int) : ∀ u ∈ [Value.int .i64 n], u.oneCell' = true := by
  intro u hu
  simp at hu
  subst hu
  rfl
theorem meet_close {w w1 w7 : World} {q bm g cap' : Nat} {v : Value} {vs : List Int} {t : AT} {o : Obj} {D : DataW Unit} (hk : t.k = 1) (hn : t.n ∉ vs) (hr : R64 t.n) (a1 : w.heap[q]? = some (.cells #[v, .map (some bm)] 59 (0, 0))) (a3 : MapIs D vs) (a5 : bm ≠ q ∧ v.ownBlock ≠ some q ∧ v.ownBlock ≠ some bm) (hbm : bm < w.heap.size)
    (u1 : OM w1 bm (vs.length + 1) (D.put (.int .i64 t.n) (.lit (.int .i64 (vs.length : Int))))) (u2 : w.grownBy w1 (some bm)) (hown : w7.ownsRow 0 2 1 (.slice (some ⟨g, 0, none⟩) (vs.length + 1) cap') (vs.length + 1) (vs.map (Value.int .i64) ++ [.int .i64 t.n])) (hgrow : (w1.alloc o).grownBy w7 v.ownBlock) (hat : v.ownBlock = some g ∨ g = w1.heap.size + 1) :
    MeetPost w q bm v vs t (.returned (.bool true)) (w7.setCell ⟨q, 0, none⟩ (.slice (some ⟨g, 0, none⟩) (vs.length + 1) cap')) := by
  have hmv : meetV vs t = vs ++ [t.n] := by unfold meetV; rw [if_pos ⟨hk, hn⟩]
  have hql := (Array.getElem?_eq_some_iff.1 a1).1
  have hs := u2.size
  have K1 : Keeps (fun j => j = q ∨ j = bm ∨ v.ownBlock = some j) w w1 := (Keeps.refl _ _).grown u2 (fun k hk => by cases hk; exact .inl (.inr (.inl rfl)))
  have K7 : Keeps (fun j => j = q ∨ j = bm ∨ v.ownBlock = some j) w w7 := (K1.alloc o).grown hgrow (fun k hk => .inl (.inr (.inr hk)))
  have hg : g ≠ q ∧ g ≠ bm := by
    rcases hat with h | h
    · exact ⟨fun e => a5.2.1 (by rw [h, e]), fun e => a5.2.2 (by rw [h, e])⟩
    · exact ⟨by omega, by omega⟩
  have hq7 : w7.heap[q]? = some (.cells #[v, .map (some bm)] 59 (0, 0)) := by
    rw [hgrow.block q (by simp; omega) (fun h => a5.2.1 h.symm), Below.heap_alloc _ _ _ (by omega), u2.block q hql (by simp; exact fun h => a5.1 h.symm)]
    exact a1
  obtain ⟨es, clock, hb, r⟩ := u1
  refine ⟨rfl, .slice (some ⟨g, 0, none⟩) (vs.length + 1) cap', ?_, fun k hk => ?_, K7.setCell (p := ⟨q, 0, none⟩) (.inl (.inl rfl)) _⟩
  · rw [hmv]
    refine ⟨_, ?_, ⟨es, clock, ?_, by rw [List.length_append]; exact r⟩, mapIs_put a3 hn hr, ?_, a5.1, by simp [Value.ownBlock]; exact hg.1, by simp [Value.ownBlock]; exact hg.2⟩
    · rw [heap_set hq7]; rfl
    · rw [heap_set_ne a5.1, hgrow.block bm (by simp; omega) (fun h => a5.2.2 h.symm), Below.heap_alloc _ _ _ (by omega)]
      exact hb
    · rw [List.length_append, List.map_append]
      refine owns_same hown (fun k hk => ?_)
      obtain rfl : g = k := by simpa [Value.ownBlock] using hk
      exact heap_set_ne hg.1 _
  · obtain rfl : g = k := by simpa [Value.ownBlock] using hk
    rcases hat with h | h
    · exact .inl h
    · right; omega

set_option maxRecDepth 100000 in
set_option maxHeartbeats 4000000 in
theorem meet_new (q bm B o : Nat) (v dv : Value) (vs : List Int) (t : AT) (w : World) (h : VarsAt w q bm v vs) (h0 : w.cell? ⟨B, o, none⟩ = some (.int .i64 t.k)) (h1 : w.cell? ⟨B, o + 1, none⟩ = some (.int .i64 t.n)) (hr : R64 t.n) (hk : t.k = 1) (hn : t.n ∉ vs) (hlen : vs.length ≤ 900000) (hB : B ≠ bm) :
    Calls Try.prog 38 #[.pointer (some ⟨q, 0, none⟩), .pointer (some ⟨B, o, none⟩), dv] w (MeetPost w q bm v vs t) := by
  obtain ⟨i0, hi, hz0, hz1, hz2⟩ := info_parts (show (Try.prog.info? 2).map (fun i => (i.zero, i.size, i.bytes)) = some (some (.int .i64 0), 1, 8) by kernel_rfl)
  have hlt := vars_lt h
  obtain ⟨D, a1, a2, a3, a4, a5⟩ := h
  obtain ⟨m, hm⟩ : ∃ m, vs.length = m := ⟨_, rfl⟩
  obtain ⟨n, hnn⟩ : ∃ k, t.n = k := ⟨_, rfl⟩
  have hv : ∃ x z, v = .slice x m z ∧ z ≤ maxLen ∧ m ≤ z := by
    rcases a4.2 with ⟨h, h2⟩ | ⟨g, c, _, h, _, _, h2, h3, _⟩
    · exact ⟨_, 0, by rw [h, ← hm, h2], by unfold maxLen; omega, by omega⟩
    · exact ⟨_, c, by rw [h, hm], h3, by omega⟩
  obtain ⟨vx, vz, rfl, hz, hmz⟩ := hv
  have c0 : w.cell? ⟨q, 0, none⟩ = some (.slice vx m vz) := cell_of_heap a1 rfl
  have c1 : w.cell? ⟨q, 1, none⟩ = some (.map (some bm)) := cell_of_heap a1 rfl
  have hl : ∀ d : Nat, (Instr.lookup 57 (.map (some bm)) (.int .i64 n) true).run Try.prog (w.drewN d) = .ok (.tuple #[.int .i64 0, .bool false]) (w.drewN d) := fun d => by
    rw [← hnn]
    exact look_64 (w := w.drewN d) a2 t.n 0 false hr (Maps.atKey_of_not_has ((a3.2 t.n).2 hn) _) ((a3.2 t.n).2 hn)
  have hu : ∀ d : Nat, ∃ w', (Instr.mapUpdate 57 (.map (some bm)) (.int .i64 n) (.int .i64 (m : Int))).run Try.prog (w.drewN d) = .ok () w' ∧ OM w' bm (vs.length + 1) (D.put (.int .i64 t.n) (.lit (.int .i64 (vs.length : Int)))) ∧ (w.drewN d).grownBy w' (some bm) := fun d => by
    rw [← hnn, ← hm]
    exact World.ownsMap.update (w := w.drewN d) a2 i64Key Try.underlying57 (by unfold maxLen; omega) (keyOf_64 hr) (plainElem_int Try.underlying2 (wf_64 ⟨by omega, by omega⟩))
  obtain ⟨W, hW⟩ := Classical.axiomOfChoice hu
  have hW1 := fun d => (hW d).1
  have hW2 : ∀ d, w.grownBy (W d) (some bm) := fun d => ⟨(hW d).2.2.os, (hW d).2.2.tape, (hW d).2.2.output, (hW d).2.2.size, (hW d).2.2.block⟩
  have e0 : ∀ d, (W d).cell? ⟨q, 0, none⟩ = some (.slice vx m vz) := fun d => (hW2 d).cell c0 (by simp; exact fun h => a5.1 h.symm)
  have e1 : ∀ d, (W d).cell? ⟨B, o + 1, none⟩ = some (.int .i64 n) := fun d => by rw [← hnn]; exact (hW2 d).cell h1 (by simp; exact hB)
  have ez : ∀ d, (W d).frozen? ⟨q, 0, none⟩ = false := fun d => by
    rw [World.frozen?_of_block ((hW2 d).block q hlt.1 (by simp; exact fun h => a5.1 h.symm))]
    exact free_of_heap a1
  have el : ∀ d, q < (W d).heap.size := fun d => Nat.lt_of_lt_of_le hlt.1 (hW2 d).size
  have own1 : ∀ d, (W d).ownsRow 0 2 1 (.slice vx m vz) m (vs.map (Value.int .i64)) := fun d => World.ownsRow.kept (by rw [hm] at a4; exact a4) (hW2 d) (Or.inr a5.2.2)
  have OWN := Lib.hid (fun d o => show ((W d).alloc o).drew.ownsRow 0 2 1 (.slice vx m vz) m (vs.map (Value.int .i64)) from (own1 d).alloc o)
  have NEWS := Lib.hid (fun d => show ∀ j u, [Value.int .i64 n][j]? = some u → ((W d).alloc (.cells #[.int .i64 n] 2)).drew.cell? ((⟨(W d).heap.size, 0, none⟩ : Addr).add j) = some u from int_news (W d) n _ rfl)
  clear own1
  have hnk : (t.k != 1) = false := by rw [hk]; rfl
  have FIN := Lib.hid (fun d w7 g cap' o hown (hgrow : ((W d).alloc o).drew.grownBy w7 (Value.slice vx m vz).ownBlock) (hat : (Value.slice vx m vz).ownBlock = some g ∨ g = ((W d).alloc o).drew.heap.size) => meet_close (w7 := w7) (g := g) (cap' := cap') (o := o) hk hn hr a1 a3 a5 hlt.2.1 (hW d).2.1 (hW2 d) hown ⟨hgrow.os, hgrow.tape, hgrow.output, hgrow.size, hgrow.block⟩ (by simpa using hat))
  have far7 : ∀ d o w7, ((W d).alloc o).drew.grownBy w7 (Value.slice vx m vz).ownBlock → w7.heap[q]? = (W d).heap[q]? := fun d o w7 hg => by
    rw [hg.block q (by simp; have := el d; omega) (fun h => a5.2.1 h.symm)]
    exact Below.heap_alloc _ _ _ (el d)
  have T7 := Lib.hid (fun d o w7 hg => (World.cell?_of_block (a := ⟨q, 0, none⟩) (far7 d o w7 hg)).trans (e0 d))
  have F7 := Lib.hid (fun d o w7 hg => (World.frozen?_of_block (a := ⟨q, 0, none⟩) (far7 d o w7 hg)).trans (ez d))
  clear far7
  have HM := Lib.hid hm
  have HN := Lib.hid hnn
  rw [hk] at h0
  rw [hnn] at h1
  rw [hm] at hlen
  unfold maxLen at hz
  clear a1 a2 a3 a4 a5 hW hW2 hm hnn hk hn hnk hlt
  go_enter Try.func38, Try.ntmps38
  go_wp2
  go_quiet (fail)
  go_wp2
  go_region
  go_wp2
  go_region_law (refine step_append_lies _ (by rfl) (.tmp 45) (.tmp 50) 34 (by rfl) 0 2 i0 (.int .i64 0) 1 8 Try.underlying34 hi hz0 hz1 hz2 (by rfl) (by decide) (.slice vx m vz) m (vs.map (Value.int .i64)) (by rfl) (OWN.out _ _) ⟨(W _).heap.size, 0, none⟩ 1 1 [.int .i64 n] (by rfl) (by rfl) (NEWS.out _) (int_one n) (by omega) (by unfold maxLen; omega) (by omega) (Nat.zero_le _) _ rfl ?_; intro g' cap' w7 hown hgrow hat hlt2; have t7 := T7.out _ _ _ hgrow; have f7 := F7.out _ _ _ hgrow)
  all_goals
    have END := Lib.hid (FIN.out _ _ _ _ _ (by rw [HM.out, HN.out]; exact hown) hgrow hat)
    rw [HM.out] at END
    clear hown hgrow hat hlt2
    go_wp2
    go_ret
    exact END.out

end Go.Proofs.Ytkidcchafdiofaa
