/- Joined texts: TermD TermL TermM TermN TermO. Conditions: as each states. -/
import Derived.Test.YtkplokfcjjcpcaaGreatDoorPk10
import Derived.BigGuardPart
import Derived.Deep.RegionHeld3
import Derived.Deep.DrawnRows
import Derived.Deep.RegionLaw
section
namespace Go.Proofs.YtkplokfcjjcpcaaGreatDoor.Trm
open Go Go.RowKit
structure GF where
  B : Nat
  o : Nat
  k : Nat
  t : AT
def GF.rf (f : GF) : RF := ⟨f.B, f.o, f.k, f.t.sv, f.t.G, f.t.off, f.t.l.length⟩
def GF.st (f : GF) : St := ⟨f.B, f.o, f.k⟩
def todo : List GF → List Nd
  | [] => []
  | f :: σ => ATs.flat f.t.G (σ.length + 1) (f.t.l.drop f.k) (f.t.off + f.k * 4) ++ todo σ
def gpop : List GF → List GF
  | [] => []
  | f :: σ => if f.t.l.length ≤ f.k then gpop σ else f :: σ
theorem popped_map (σ : List GF) : popped (σ.map GF.rf) = (gpop σ).map GF.rf := by
  induction σ with
  | nil => rfl
  | cons f σ ih =>
    rw [List.map_cons, popped, gpop, ih]
    show (if f.t.l.length ≤ f.k then _ else _) = _
    split <;> rfl
theorem todo_pop (σ : List GF) : todo (gpop σ) = todo σ := by
  induction σ with
  | nil => rfl
  | cons f σ ih =>
    rw [gpop]
    split
    · rename_i h
      rw [ih, todo, List.drop_eq_nil_of_le h]
      rfl
    · rfl
theorem gpop_head {σ r : List GF} {f : GF} (h : gpop σ = f :: r) : f.k < f.t.l.length := by
  induction σ with
  | nil => cases h
  | cons e σ ih =>
    rw [gpop] at h
    split at h
    · exact ih h
    · obtain ⟨rfl, rfl⟩ := List.cons.inj h
      omega
theorem todo_step {σ r : List GF} {f : GF} (h : gpop σ = f :: r) : ∃ t, f.t.l[f.k]? = some t ∧ todo σ = ⟨f.t.G, f.t.off + f.k * 4, r.length + 1, t⟩ :: todo (⟨f.t.G, f.t.off + f.k * 4, 0, t⟩ :: ⟨f.B, f.o, f.k + 1, f.t⟩ :: r) := by
  have hk := gpop_head h
  refine ⟨f.t.l[f.k], List.getElem?_eq_getElem hk, ?_⟩
  rw [← todo_pop, h, todo, List.drop_eq_getElem_cons hk, ATs.flat, todo, todo, AT.flat_mk]
  simp only [List.drop_zero, List.length_cons, Nat.zero_mul, Nat.add_zero, List.cons_append, List.append_assoc]
  rw [show f.t.off + (f.k + 1) * 4 = f.t.off + f.k * 4 + 4 from by omega]
theorem todo_none {σ : List GF} (h : gpop σ = []) : todo σ = [] := by rw [← todo_pop, h]; rfl
def NdOk (w : World) (x : Nd) : Prop := Plain w x.B ∧ w.cell? ⟨x.B, x.o + 3, none⟩ = some x.t.sv ∧ SvOk x.t.sv x.t.G x.t.off x.t.l.length
theorem NdOk.kept {F : Nat → Prop} {w w' : World} {x : Nd} (h : NdOk w x) (hk : Keeps F w w') (hF : ¬ F x.B) : NdOk w' x :=
  ⟨h.1.kept hk hF, hk.cell h.2.1 hF, h.2.2⟩
mutual
theorem AT.flat_len : ∀ (t : AT) (d : Nat), (t.flat d).length + 1 = t.nodes
  | .mk _ _ _ _ G off l, d => by
    rw [AT.flat, AT.nodes, ATs.flat_len l d off G]
theorem ATs.flat_len : ∀ (l : List AT) (d off G : Nat), (ATs.flat G d l off).length = ATs.nodes l
  | [], _, _, _ => rfl
  | t :: r, d, off, G => by
    rw [ATs.flat, ATs.nodes, List.length_cons, List.length_append, ATs.flat_len r d (off + 4) G, ← AT.flat_len t (d + 1)]
    omega
end
theorem nodes_pos (t : AT) : 1 ≤ t.nodes := by rw [AT.nodes_mk]; omega
theorem nodes_mem {l : List AT} {t : AT} (h : t ∈ l) : t.nodes ≤ ATs.nodes l := by
  induction l with
  | nil => cases h
  | cons e r ih =>
    rw [ATs.nodes]
    rcases List.mem_cons.1 h with rfl | h
    · omega
    · have := ih h; omega
theorem len_nodes (l : List AT) : l.length ≤ ATs.nodes l := by
  induction l with
  | nil => exact Nat.zero_le _
  | cons t r ih => rw [ATs.nodes, List.length_cons]; have := nodes_pos t; omega
def Closed (L : List Nd) : Prop := ∀ x ∈ L, ∀ y ∈ ATs.flat x.t.G (x.d + 1) x.t.l x.t.off, y ∈ L
mutual
theorem AT.closed : ∀ (t : AT) (d : Nat), Closed (t.flat d)
  | .mk _ _ _ _ G off l, d => ATs.closed l d off G
theorem ATs.closed : ∀ (l : List AT) (d off G : Nat), Closed (ATs.flat G d l off)
  | [], _, _, _ => fun x hx => by cases hx
  | t :: r, d, off, G => by
    intro x hx y hy
    rw [ATs.flat, List.mem_cons, List.mem_append] at hx ⊢
    rcases hx with rfl | hx | hx
    · rw [← AT.flat_mk] at hy
      exact .inr (.inl hy)
    · exact .inr (.inl (AT.closed t (d + 1) x hx y hy))
    · exact .inr (.inr (ATs.closed r d (off + 4) G x hx y hy))
end
mutual
theorem AT.flat_nodes : ∀ (t : AT) (d : Nat), ∀ x ∈ t.flat d, x.t.nodes < t.nodes
  | .mk _ _ _ _ G off l, d => fun x hx => by
    have := ATs.flat_nodes l d off G x hx
    rw [AT.nodes]
    omega
theorem ATs.flat_nodes : ∀ (l : List AT) (d off G : Nat), ∀ x ∈ ATs.flat G d l off, x.t.nodes ≤ ATs.nodes l
  | [], _, _, _ => fun x hx => by cases hx
  | t :: r, d, off, G => fun x hx => by
    rw [ATs.flat, List.mem_cons, List.mem_append] at hx
    rw [ATs.nodes]
    rcases hx with rfl | hx | hx
    · simp
    · have := AT.flat_nodes t (d + 1) x hx
      omega
    · have := ATs.flat_nodes r d (off + 4) G x hx
      omega
end
theorem flat_get {l : List AT} {k : Nat} {t : AT} (h : l[k]? = some t) (G d off : Nat) : (⟨G, off + k * 4, d, t⟩ : Nd) ∈ ATs.flat G d l off := by
  induction l generalizing k off with
  | nil => simp at h
  | cons e r ih =>
    rw [ATs.flat, List.mem_cons, List.mem_append]
    cases k with
    | zero =>
      simp at h
      subst h
      left
      simp
    | succ k =>
      simp at h
      have := ih h (off + 4)
      rw [show off + 4 + k * 4 = off + (k + 1) * 4 from by omega] at this
      exact .inr (.inr this)
theorem sv_same {sv : Value} {G off n G' off' n' : Nat} (h1 : SvOk sv G off n) (h2 : SvOk sv G' off' n') : n = n' ∧ (n ≠ 0 → G = G' ∧ off = off') := by
  rcases h1 with ⟨a1, a2⟩ | ⟨c1, a1, _, _⟩ <;> rcases h2 with ⟨b1, b2⟩ | ⟨c2, b1, _, _⟩
  · exact ⟨by omega, fun h => absurd a2 h⟩
  · rw [a1] at b1; cases b1
  · rw [b1] at a1; cases a1
  · rw [a1] at b1
    simp at b1
    exact ⟨b1.2.1, fun _ => b1.1⟩
mutual
theorem AT.uniq {w : World} : ∀ (t u : AT) (d e : Nat), t.sv = u.sv → SvOk t.sv t.G t.off t.l.length → SvOk u.sv u.G u.off u.l.length → (∀ x ∈ t.flat d, NdOk w x) → (∀ x ∈ u.flat e, NdOk w x) → t.nodes = u.nodes
  | .mk _ _ _ sv G off l, u, d, e, hs, h1, h2, h3, h4 => by
    have hs' : sv = u.sv := hs
    have h1' : SvOk sv G off l.length := h1
    rw [hs'] at h1'
    obtain ⟨hl, hG⟩ := sv_same h1' h2
    rw [AT.nodes, AT.nodes_mk]
    rw [AT.flat] at h3
    rw [AT.flat_mk] at h4
    congr 1
    by_cases hn : l = []
    · subst hn
      have hm : u.l = [] := List.length_eq_zero_iff.1 hl.symm
      rw [hm]
    · obtain ⟨g1, g2⟩ := hG (fun h => hn (List.length_eq_zero_iff.1 h))
      subst g1 g2
      exact ATs.uniq l u.l d e u.off u.G hl h3 h4
theorem ATs.uniq {w : World} : ∀ (l m : List AT) (d e off G : Nat), l.length = m.length → (∀ x ∈ ATs.flat G d l off, NdOk w x) → (∀ x ∈ ATs.flat G e m off, NdOk w x) → ATs.nodes l = ATs.nodes m
  | [], m, _, _, _, _, hl, _, _ => by
    have hm : m = [] := List.length_eq_zero_iff.1 hl.symm
    rw [hm]
  | t :: r, m, d, e, off, G, hl, h3, h4 => by
    cases m with
    | nil => simp at hl
    | cons u v =>
      rw [ATs.flat] at h3 h4
      have a := h3 _ (by simp; exact .inl rfl)
      have b := h4 _ (by simp; exact .inl rfl)
      have hs : t.sv = u.sv := by
        have := a.2.1.symm.trans b.2.1
        simpa using this
      rw [ATs.nodes, ATs.nodes, AT.uniq t u (d + 1) (e + 1) hs a.2.2 b.2.2 (fun x hx => h3 x (by simp [hx])) (fun x hx => h4 x (by simp [hx])),
        ATs.uniq r v d e (off + 4) G (by simpa using hl) (fun x hx => h3 x (by simp [hx])) (fun x hx => h4 x (by simp [hx]))]
end
def Steps (L : List Nd) (r : Nat) (t0 : AT) : List GF → Prop
  | [] => True
  | f :: σ => f.k ≤ f.t.l.length ∧ (∀ e ∈ σ, f.t.nodes < e.t.nodes) ∧ ((σ = [] ∧ f.B = r ∧ f.o = 0 ∧ f.t = t0) ∨ (∃ d, (⟨f.B, f.o, d, f.t⟩ : Nd) ∈ L)) ∧ Steps L r t0 σ
theorem Steps.mem {L : List Nd} {r : Nat} {t0 : AT} {σ : List GF} (h : Steps L r t0 σ) : ∀ f ∈ σ, f.k ≤ f.t.l.length ∧ ((f.B = r ∧ f.o = 0 ∧ f.t = t0) ∨ (∃ d, (⟨f.B, f.o, d, f.t⟩ : Nd) ∈ L)) := by
  induction σ with
  | nil => intro f hf; cases hf
  | cons e σ ih =>
    obtain ⟨h1, h2, h3, h4⟩ := h
    intro f hf
    rcases List.mem_cons.1 hf with rfl | hf
    · exact ⟨h1, h3.imp (fun h => h.2) id⟩
    · exact ih h4 f hf
theorem Steps.pop {L : List Nd} {r : Nat} {t0 : AT} {σ : List GF} (h : Steps L r t0 σ) : Steps L r t0 (gpop σ) := by
  induction σ with
  | nil => trivial
  | cons e σ ih =>
    rw [gpop]
    split
    · exact ih h.2.2.2
    · exact h
theorem Steps.push {L : List Nd} {r : Nat} {t0 : AT} {σ : List GF} {f : GF} {t : AT} (h : Steps L r t0 (f :: σ)) (hL : Closed L) (h0 : ∃ d, L = ATs.flat t0.G d t0.l t0.off) (ht : f.t.l[f.k]? = some t) :
    Steps L r t0 (⟨f.t.G, f.t.off + f.k * 4, 0, t⟩ :: ⟨f.B, f.o, f.k + 1, f.t⟩ :: σ) := by
  obtain ⟨h1, h2, h3, h4⟩ := h
  have hk := (List.getElem?_eq_some_iff.1 ht).1
  have hlt : t.nodes < f.t.nodes := by
    have := nodes_mem (List.mem_of_getElem? ht)
    rw [AT.nodes_mk (t := f.t)]
    omega
  refine ⟨Nat.zero_le _, ?_, .inr ?_, hk, h2, h3, h4⟩
  · intro e he
    rcases List.mem_cons.1 he with rfl | he
    · exact hlt
    · exact Nat.lt_trans hlt (h2 e he)
  · rcases h3 with ⟨_, _, _, rfl⟩ | ⟨d, hd⟩
    · obtain ⟨d, hd⟩ := h0
      exact ⟨d, by rw [hd]; exact flat_get ht _ _ _⟩
    · exact ⟨d + 1, hL _ hd _ (flat_get ht _ _ _)⟩
theorem Steps.len {L : List Nd} {r : Nat} {t0 : AT} {N : Nat} : ∀ {σ : List GF} {m : Nat}, Steps L r t0 σ → (∀ e ∈ σ, m < e.t.nodes ∧ e.t.nodes ≤ N) → m ≤ N → σ.length + m ≤ N
  | [], m, _, _, h => by simpa using h
  | f :: σ, m, hs, h, hm => by
    obtain ⟨h1, h2, h3, h4⟩ := hs
    have hf := h f (by simp)
    have := Steps.len (m := f.t.nodes) h4 (fun e he => ⟨h2 e he, (h e (by simp [he])).2⟩) hf.2
    rw [List.length_cons]
    omega
theorem Steps.apart {L : List Nd} {r : Nat} {t0 : AT} {σ : List GF} {f : GF} {w : World} (h : Steps L r t0 (f :: σ)) (hok : ∀ x ∈ L, NdOk w x) (hL : Closed L) (hr : ∀ x ∈ L, x.B ≠ r) : ∀ e ∈ σ, ¬ (e.B = f.B ∧ e.o = f.o) := by
  obtain ⟨h1, h2, h3, h4⟩ := h
  rintro e he ⟨hB, ho⟩
  have hn := h2 e he
  have hf : ∃ d, (⟨f.B, f.o, d, f.t⟩ : Nd) ∈ L := by
    rcases h3 with ⟨rfl, _⟩ | h3
    · cases he
    · exact h3
  obtain ⟨d, hd⟩ := hf
  rcases (h4.mem e he).2 with ⟨hr1, _⟩ | ⟨d2, hd2⟩
  · exact hr _ hd (by rw [← hB]; exact hr1)
  · have a := hok _ hd
    have b := hok _ hd2
    have hs : f.t.sv = e.t.sv := by
      have hb := b.2.1
      simp only [hB, ho] at hb
      have := a.2.1.symm.trans hb
      simpa using this
    have := AT.uniq (w := w) f.t e.t (d + 1) (d2 + 1) hs a.2.2 b.2.2 (fun x hx => hok x (hL _ hd x (by rw [← AT.flat_mk]; exact hx))) (fun x hx => hok x (hL _ hd2 x (by rw [← AT.flat_mk]; exact hx)))
    omega
end Go.Proofs.YtkplokfcjjcpcaaGreatDoor.Trm
end
section
namespace Go.Proofs.YtkplokfcjjcpcaaGreatDoor.Trm
open Go Go.RowKit
attribute [local go_sem ↓] Go.wp_at_zero Go.wp_at_succ
mutual
def AT.same : AT → AT → Bool
  | .mk k n s _ _ _ l, u => k == u.k && n == u.n && s.toList == u.s.toList && l.length == u.l.length && ATs.same l u.l
def ATs.same : List AT → List AT → Bool
  | [], _ => true
  | _ :: _, [] => true
  | t :: r, u :: v => AT.same t u && ATs.same r v
end
theorem AT.same_mk {t u : AT} : t.same u = (t.k == u.k && t.n == u.n && t.s.toList == u.s.toList && t.l.length == u.l.length && ATs.same t.l u.l) := by cases t; rfl
theorem same_take : ∀ (i : Nat) (l m : List AT), ATs.same (l.take i) (m.take i) = true → (∀ t u, l[i]? = some t → m[i]? = some u → t.same u = true) → ATs.same (l.take (i + 1)) (m.take (i + 1)) = true
  | _, [], m, _, _ => by simp [ATs.same]
  | _, t :: r, [], _, _ => by simp [ATs.same]
  | 0, t :: r, u :: v, _, h => by
    have := h t u (by simp) (by simp)
    simp [ATs.same, this]
  | i + 1, t :: r, u :: v, h0, h => by
    rw [List.take_succ_cons, List.take_succ_cons, ATs.same, Bool.and_eq_true] at h0 ⊢
    exact ⟨h0.1, same_take i r v h0.2 (fun t' u' h1 h2 => h t' u' (by simpa using h1) (by simpa using h2))⟩
theorem same_no : ∀ (i : Nat) (l m : List AT) (t u : AT), l[i]? = some t → m[i]? = some u → t.same u = false → ATs.same l m = false
  | _, [], m, t, u, h, _, _ => by simp at h
  | _, _ :: _, [], t, u, _, h, _ => by simp at h
  | 0, a :: r, b :: v, t, u, h1, h2, h => by
    simp at h1 h2
    subst h1 h2
    simp [ATs.same, h]
  | i + 1, a :: r, b :: v, t, u, h1, h2, h => by
    rw [ATs.same, same_no i r v t u (by simpa using h1) (by simpa using h2) h, Bool.and_false]
theorem mem_get {w : World} {G : Nat} : ∀ {l : List AT} {off i : Nat} {t : AT}, ATs.mem w G l off → l[i]? = some t → Head w G (off + i * 4) t ∧ t.mem w
  | [], _, _, _, _, h => by simp at h
  | a :: r, off, 0, t, hm, h => by
    simp at h
    subst h
    simpa using ⟨hm.1, hm.2.1⟩
  | a :: r, off, i + 1, t, hm, h => by
    have := mem_get hm.2.2 (i := i) (t := t) (by simpa using h)
    rw [show off + 4 + i * 4 = off + (i + 1) * 4 from by omega] at this
    exact this
theorem sv_form {sv : Value} {G off n : Nat} (h : SvOk sv G off n) : ∃ ad cap, sv = .slice ad n cap ∧ n ≤ cap ∧ cap ≤ maxLen ∧ (0 < n → ad = some ⟨G, off, none⟩) := by
  rcases h with ⟨h1, h2⟩ | ⟨c, h1, h2, h3⟩
  · exact ⟨none, 0, by rw [h1, h2], by omega, by unfold maxLen; omega, fun h => by omega⟩
  · exact ⟨_, c, h1, h2, h3, fun _ => rfl⟩
def SameSt (W : World) (x y : AT) (i : Nat) (w : World) : Prop := Below W.heap.size W w ∧ ATs.same (x.l.take i) (y.l.take i) = true
set_option maxRecDepth 100000 in
set_option maxHeartbeats 4000000 in
theorem same_step (m : Nat) (ih : ∀ (x y : AT) (w : World), x.nodes ≤ m → x.mem w → y.mem w → y.nodes ≤ 800000 → x.nodes ≤ 800000 → Calls Tryz.prog 27 #[x.val, y.val] w fun e w' => e = .returned (.bool (x.same y)) ∧ Below w.heap.size w w')
    (x y : AT) (w : World) (hn : x.nodes ≤ m + 1) (hx : x.mem w) (hy : y.mem w) (hny : y.nodes ≤ 800000) (hnx : x.nodes ≤ 800000) :
    Calls Tryz.prog 27 #[.agg #[.int .i64 x.k, .int .i64 x.n, .string x.s, x.sv], .agg #[.int .i64 y.k, .int .i64 y.n, .string y.s, y.sv]] w fun e w' => e = .returned (.bool (x.same y)) ∧ Below w.heap.size w w' := by
  obtain ⟨hxs, hxm⟩ := AT.mem_mk.1 hx
  obtain ⟨hys, hym⟩ := AT.mem_mk.1 hy
  obtain ⟨ad, cx, ex, lx, mx, ax⟩ := sv_form hxs
  obtain ⟨bd, cy, ey, ly, my, ay⟩ := sv_form hys
  have hlx := len_nodes x.l
  have hly := len_nodes y.l
  have hnx2 := hnx
  have hny2 := hny
  rw [AT.nodes_mk] at hnx2 hny2
  obtain ⟨r, hr⟩ : ∃ r, x.same y = r := ⟨_, rfl⟩
  rw [hr, ex, ey]
  have HR := Lib.hid hr
  have HX := Lib.hid hxm
  have HY := Lib.hid hym
  have HAX := Lib.hid ax
  have HAY := Lib.hid ay
  have HEX := Lib.hid ex
  have HEY := Lib.hid ey
  have HI := Lib.hid ih
  have HN := Lib.hid hn
  have HNX := Lib.hid hnx
  have HNY := Lib.hid hny
  have hl1 : x.l.length ≤ 800000 := by omega
  have hl2 : y.l.length ≤ 800000 := by omega
  obtain ⟨nx, hnx'⟩ : ∃ n, x.l.length = n := ⟨_, rfl⟩
  obtain ⟨ny, hny'⟩ : ∃ n, y.l.length = n := ⟨_, rfl⟩
  rw [hnx'] at lx hl1 HAX HEX ⊢
  rw [hny'] at ly hl2 HAY HEY ⊢
  have HLX := Lib.hid hnx'
  have HLY := Lib.hid hny'
  unfold maxLen at mx my
  clear hr hxm hym ax ay ex ey ih hn hnx hny hx hy hxs hys hlx hly hnx2 hny2 hnx' hny'
  obtain ⟨k1, hk1⟩ : ∃ k, x.k = k := ⟨_, rfl⟩
  obtain ⟨k2, hk2⟩ : ∃ k, y.k = k := ⟨_, rfl⟩
  obtain ⟨n1, hn1⟩ : ∃ k, x.n = k := ⟨_, rfl⟩
  obtain ⟨n2, hn2⟩ : ∃ k, y.n = k := ⟨_, rfl⟩
  obtain ⟨s1, hs1⟩ : ∃ k, x.s = k := ⟨_, rfl⟩
  obtain ⟨s2, hs2⟩ : ∃ k, y.s = k := ⟨_, rfl⟩
  rw [hk1, hk2, hn1, hn2, hs1, hs2]
  have HSM : Hid (r = (k1 == k2 && n1 == n2 && s1.toList == s2.toList && nx == ny && ATs.same x.l y.l)) := by
    show r = _
    rw [← HR.out, AT.same_mk, HLX.out, HLY.out, hk1, hk2, hn1, hn2, hs1, hs2]
  clear hk1 hk2 hn1 hn2 hs1 hs2 HR
  have fin : ∀ A B : Obj, r = false → Ending.returned (Value.bool false) = Ending.returned (Value.bool r) ∧ Below w.heap.size w ((w.alloc A).alloc B) := fun A B h => ⟨by rw [h], ((Below.refl _ _).alloc (Nat.le_refl _) _).alloc (by simp) _⟩
  have FIN := Lib.hid fin
  clear fin
  by_cases hk : k1 = k2
  case neg =>
    have HF : Hid (r = false) := by show r = false; rw [HSM.out, beq_eq_false_iff_ne.2 hk]; simp
    have hk' : (k1 != k2) = true := by rw [bne_iff_ne]; exact hk
    clear hk
    go_enter Tryz.func27, Tryz.ntmps27
    go_wp2
    go_ret
    exact FIN.out _ _ HF.out
  subst hk
  by_cases hn : n1 = n2
  case neg =>
    have HF : Hid (r = false) := by show r = false; rw [HSM.out, beq_eq_false_iff_ne.2 hn]; simp
    have hn' : (n1 != n2) = true := by rw [bne_iff_ne]; exact hn
    clear hn
    go_enter Tryz.func27, Tryz.ntmps27
    go_wp2
    go_ret
    exact FIN.out _ _ HF.out
  subst hn
  by_cases hs : s1 = s2
  case neg =>
    have hs2 : ¬ s1.toList = s2.toList := fun h => hs (by
      rw [ByteArray.toList_eq, ByteArray.toList_eq] at h
      exact WideShapes.bytes_inj h)
    have HF : Hid (r = false) := by show r = false; rw [HSM.out, beq_eq_false_iff_ne.2 hs2]; simp
    clear hs
    go_enter Tryz.func27, Tryz.ntmps27
    go_wp2
    go_ret
    exact FIN.out _ _ HF.out
  subst hs
  by_cases hnn : nx = ny
  case neg =>
    have HF : Hid (r = false) := by show r = false; rw [HSM.out, beq_eq_false_iff_ne.2 hnn]; simp
    have hne : ((nx : Int) != (ny : Int)) = true := by
      rw [bne_iff_ne]
      omega
    clear hnn
    go_enter Tryz.func27, Tryz.ntmps27
    go_wp2
    go_ret
    exact FIN.out _ _ HF.out
  subst hnn
  have HR2 : Hid (r = ATs.same x.l y.l) := by show r = _; rw [HSM.out]; simp
  clear HSM FIN
  go_enter Tryz.func27, Tryz.ntmps27
  go_wp2
  have HW : Hid (Below w.heap.size w ((w.alloc (.cells #[.int .i64 k1, .int .i64 n1, .string s1, .slice ad nx cx] 34)).alloc (.cells #[.int .i64 k1, .int .i64 n1, .string s1, .slice bd nx cy] 34))) := ((Below.refl _ _).alloc (Nat.le_refl _) _).alloc (by simp) _
  have c3 : ((w.alloc (.cells #[.int .i64 k1, .int .i64 n1, .string s1, .slice ad nx cx] 34)).alloc (.cells #[.int .i64 k1, .int .i64 n1, .string s1, .slice bd nx cy] 34)).cell? ⟨w.heap.size, 3, none⟩ = some (.slice ad nx cx) := by go_simp
  have d3 : ((w.alloc (.cells #[.int .i64 k1, .int .i64 n1, .string s1, .slice ad nx cx] 34)).alloc (.cells #[.int .i64 k1, .int .i64 n1, .string s1, .slice bd nx cy] 34)).cell? ⟨w.heap.size + 1, 3, none⟩ = some (.slice bd nx cy) := by go_simp
  have HC3 := Lib.hid c3
  have HD3 := Lib.hid d3
  have hsz : ((w.alloc (.cells #[.int .i64 k1, .int .i64 n1, .string s1, .slice ad nx cx] 34)).alloc (.cells #[.int .i64 k1, .int .i64 n1, .string s1, .slice bd nx cy] 34)).heap.size = w.heap.size + 2 := by simp
  have HSZ := Lib.hid hsz
  clear c3 d3 hsz
  obtain ⟨W2, hW2⟩ : ∃ W2, ((w.alloc (.cells #[.int .i64 k1, .int .i64 n1, .string s1, .slice ad nx cx] 34)).alloc (.cells #[.int .i64 k1, .int .i64 n1, .string s1, .slice bd nx cy] 34)) = W2 := ⟨_, rfl⟩
  rw [hW2] at HW HC3 HD3 HSZ ⊢
  clear hW2
  go_loopw [37] (fun c wr => ∃ i : Nat, c = .int .i64 i ∧ i ≤ nx ∧ Hid (SameSt W2 x y i wr)) (fun c _ => nx - (intOf c).toNat)
  case atStart => exact ⟨0, rfl, Nat.zero_le _, Below.refl _ _, by simp [ATs.same]⟩
  case round =>
    obtain ⟨i, rfl, hi, HSt⟩ := hrel
    by_cases hlt : i < nx
    · obtain ⟨tx, htx⟩ : ∃ t, x.l[i]? = some t := ⟨x.l[i]'(by rw [HLX.out]; exact hlt), List.getElem?_eq_getElem _⟩
      obtain ⟨ty, hty⟩ : ∃ t, y.l[i]? = some t := ⟨y.l[i]'(by rw [HLY.out]; exact hlt), List.getElem?_eq_getElem _⟩
      obtain rfl : ad = some ⟨x.G, x.off, none⟩ := HAX.out (by omega)
      obtain rfl : bd = some ⟨y.G, y.off, none⟩ := HAY.out (by omega)
      obtain ⟨⟨_, e0, e1, e2, e3⟩, em⟩ := mem_get HX.out htx
      obtain ⟨⟨_, f0, f1, f2, f3⟩, fm⟩ := mem_get HY.out hty
      have hbw : Below w.heap.size w wr := HW.out.trans (HSt.out.1.mono (by rw [HSZ.out]; omega))
      have hwl : W2.heap.size ≤ wr.heap.size := HSt.out.1.size
      have HB := Lib.hid hbw
      have keep : ∀ w5, Below wr.heap.size wr w5 → w5.cell? ⟨w.heap.size, 3, none⟩ = some (.slice (some ⟨x.G, x.off, none⟩) nx cx) ∧ w5.cell? ⟨w.heap.size + 1, 3, none⟩ = some (.slice (some ⟨y.G, y.off, none⟩) nx cy) ∧
          w5.cell? ⟨x.G, x.off + i * 4, none⟩ = some (.int .i64 tx.k) ∧ w5.cell? ⟨x.G, x.off + i * 4 + 1, none⟩ = some (.int .i64 tx.n) ∧ w5.cell? ⟨x.G, x.off + i * 4 + 2, none⟩ = some (.string tx.s) ∧ w5.cell? ⟨x.G, x.off + i * 4 + 3, none⟩ = some tx.sv ∧
          w5.cell? ⟨y.G, y.off + i * 4, none⟩ = some (.int .i64 ty.k) ∧ w5.cell? ⟨y.G, y.off + i * 4 + 1, none⟩ = some (.int .i64 ty.n) ∧ w5.cell? ⟨y.G, y.off + i * 4 + 2, none⟩ = some (.string ty.s) ∧ w5.cell? ⟨y.G, y.off + i * 4 + 3, none⟩ = some ty.sv := by
        intro w5 hb5
        have h2 : Below W2.heap.size W2 w5 := HSt.out.1.trans (hb5.mono hwl)
        have hb : Below w.heap.size w w5 := hbw.trans (hb5.mono (by rw [HSZ.out] at hwl; omega))
        refine ⟨(h2.cell (p := ⟨w.heap.size, 3, none⟩) (by rw [HSZ.out]; show w.heap.size < _; omega)).trans HC3.out, (h2.cell (p := ⟨w.heap.size + 1, 3, none⟩) (by rw [HSZ.out]; show w.heap.size + 1 < _; omega)).trans HD3.out, ?_, ?_, ?_, ?_, ?_, ?_, ?_, ?_⟩
        · exact (hb.cell (World.block_lt_of_cell? _ _ e0)).trans e0
        · exact (hb.cell (World.block_lt_of_cell? _ _ e1)).trans e1
        · exact (hb.cell (World.block_lt_of_cell? _ _ e2)).trans e2
        · exact (hb.cell (World.block_lt_of_cell? _ _ e3)).trans e3
        · exact (hb.cell (World.block_lt_of_cell? _ _ f0)).trans f0
        · exact (hb.cell (World.block_lt_of_cell? _ _ f1)).trans f1
        · exact (hb.cell (World.block_lt_of_cell? _ _ f2)).trans f2
        · exact (hb.cell (World.block_lt_of_cell? _ _ f3)).trans f3
      have KEEP := Lib.hid keep
      have hntx := nodes_mem (List.mem_of_getElem? htx)
      have hnty := nodes_mem (List.mem_of_getElem? hty)
      have hN := HN.out
      have hNX := HNX.out
      have hNY := HNY.out
      rw [AT.nodes_mk] at hN hNX hNY
      have C := Lib.hid (fun (w1 : World) (h1 : Below wr.heap.size wr w1) => (HI.out tx ty w1 (by omega) (AT.mem_below (hbw.trans (h1.mono (by rw [HSZ.out] at hwl; omega))) (AT.ins_size _ em) em) (AT.mem_below (hbw.trans (h1.mono (by rw [HSZ.out] at hwl; omega))) (AT.ins_size _ fm) fm) (by omega) (by omega)).mono (R' := fun e w' => e = .returned (.bool (tx.same ty)) ∧ Below wr.heap.size wr w') fun e w' hp => ⟨hp.1, h1.trans (hp.2.mono h1.size)⟩)
      obtain ⟨q0, q1, q2, q3, q4, q5, q6, q7, q8, q9⟩ := keep wr (Below.refl _ _)
      obtain ⟨b, hb⟩ : ∃ b, tx.same ty = b := ⟨_, rfl⟩
      rw [hb] at C
      have HBB := Lib.hid hb
      have HTX := Lib.hid htx
      have HTY := Lib.hid hty
      have i1 : (0 : Int) ≤ (i : Int) := by omega
      have i2 : (i : Int) < (nx : Int) := by omega
      clear hntx hnty hN hNX hNY e0 e1 e2 e3 f0 f1 f2 f3 em fm keep hbw hb htx hty hwl
      have HS1 := Lib.hid (same_take i x.l y.l HSt.out.2)
      have hi1 : i ≤ 800000 := by omega
      go_wp2_with fail
      go_region_held3 (fun w' => w'.cell? ⟨w.heap.size, 3, none⟩ = some (.slice (some ⟨x.G, x.off, none⟩) nx cx) ∧ w'.cell? ⟨w.heap.size + 1, 3, none⟩ = some (.slice (some ⟨y.G, y.off, none⟩) nx cy) ∧
          w'.cell? ⟨x.G, x.off + i * 4, none⟩ = some (.int .i64 tx.k) ∧ w'.cell? ⟨x.G, x.off + i * 4 + 1, none⟩ = some (.int .i64 tx.n) ∧ w'.cell? ⟨x.G, x.off + i * 4 + 2, none⟩ = some (.string tx.s) ∧ w'.cell? ⟨x.G, x.off + i * 4 + 3, none⟩ = some tx.sv ∧
          w'.cell? ⟨y.G, y.off + i * 4, none⟩ = some (.int .i64 ty.k) ∧ w'.cell? ⟨y.G, y.off + i * 4 + 1, none⟩ = some (.int .i64 ty.n) ∧ w'.cell? ⟨y.G, y.off + i * 4 + 2, none⟩ = some (.string ty.s) ∧ w'.cell? ⟨y.G, y.off + i * 4 + 3, none⟩ = some ty.sv)
        (first | exact KEEP.out _ (by assumption) | go_keep)
        (first | (go_at_call 27; refine (C.out _ (by first | exact Below.refl _ _ | exact (Below.refl _ _).drew)).mono ?_; rintro _ w5 ⟨rfl, hb6⟩))
      have HB6 := Lib.hid hb6
      have HW5 : Hid (Below W2.heap.size W2 w5) := HSt.out.1.trans (hb6.mono HSt.out.1.size)
      have HW6 : Hid (Below w.heap.size w w5) := HB.out.trans (hb6.mono HB.out.size)
      clear hb6 q0 q1 q2 q3 q4 q5 q6 q7 q8 q9 C KEEP HSt
      cases b
      · have HE2 : Hid (r = false) := by
          show r = false
          rw [HR2.out, same_no i x.l y.l tx ty HTX.out HTY.out HBB.out]
        go_wp2
        go_ret
        exact ⟨by show Ending.returned (Value.bool false) = _; rw [HE2.out], HW6.out⟩
      · have HS2 := Lib.hid (HS1.out (fun t u h1 h2 => by
          rw [HTX.out] at h1
          rw [HTY.out] at h2
          cases h1
          cases h2
          exact HBB.out))
        go_wp2
        go_roundw
        case rel => exact ⟨i + 1, by go_num, by omega, HW5.out, HS2.out⟩
        case measure => simp [intOf]; omega
    · have hie : i = nx := by omega
      have HE2 : Hid (r = true) := by
        have h1 := HSt.out.2
        rw [List.take_of_length_le (by rw [HLX.out]; omega), List.take_of_length_le (by rw [HLY.out]; omega)] at h1
        show r = true
        rw [HR2.out, h1]
      have hbw : Hid (Below w.heap.size w wr) := HW.out.trans (HSt.out.1.mono (by rw [HSZ.out]; omega))
      clear HSt
      go_wp2
      go_ret
      exact ⟨by show Ending.returned (Value.bool true) = _; rw [HE2.out], hbw.out⟩
theorem same_is : ∀ (m : Nat) (x y : AT) (w : World), x.nodes ≤ m → x.mem w → y.mem w → y.nodes ≤ 800000 → x.nodes ≤ 800000 → Calls Tryz.prog 27 #[x.val, y.val] w fun e w' => e = .returned (.bool (x.same y)) ∧ Below w.heap.size w w'
  | 0, x, _, _, h, _, _, _, _ => by have := nodes_pos x; omega
  | m + 1, x, y, w, h, hx, hy, h1, h2 => same_step m (same_is m) x y w h hx hy h1 h2
end Go.Proofs.YtkplokfcjjcpcaaGreatDoor.Trm
end
section
namespace Go.Proofs.YtkplokfcjjcpcaaGreatDoor.Trm
open Go Go.RowKit
inductive Tm where
  | mk (k n : Int) (s : ByteArray) (l : List Tm)
mutual
def AT.erase : AT → Tm
  | .mk k n s _ _ _ l => .mk k n s (ATs.erase l)
def ATs.erase : List AT → List Tm
  | [] => []
  | t :: r => AT.erase t :: ATs.erase r
end
theorem AT.erase_mk {t : AT} : t.erase = .mk t.k t.n t.s (ATs.erase t.l) := by cases t; rfl
theorem erase_app (l m : List AT) : ATs.erase (l ++ m) = ATs.erase l ++ ATs.erase m := by
  induction l with
  | nil => rfl
  | cons t r ih => rw [List.cons_append, ATs.erase, ATs.erase, ih, List.cons_append]
theorem erase_len (l : List AT) : (ATs.erase l).length = l.length := by
  induction l with
  | nil => rfl
  | cons t r ih => rw [ATs.erase, List.length_cons, List.length_cons, ih]
theorem erase_get : ∀ {l : List AT} {i : Nat} {t : AT}, l[i]? = some t → (ATs.erase l)[i]? = some t.erase
  | [], _, _, h => by simp at h
  | a :: r, 0, t, h => by simp at h; subst h; simp [ATs.erase]
  | a :: r, i + 1, t, h => by
    rw [ATs.erase, List.getElem?_cons_succ]
    exact erase_get (by simpa using h)
mutual
def Tm.nodes : Tm → Nat
  | .mk _ _ _ l => Tms.nodes l + 1
def Tms.nodes : List Tm → Nat
  | [] => 0
  | t :: r => Tm.nodes t + Tms.nodes r
end
mutual
theorem AT.nodes_erase : ∀ t : AT, t.erase.nodes = t.nodes
  | .mk _ _ _ _ _ _ l => by rw [AT.erase, Tm.nodes, AT.nodes, ATs.nodes_erase l]
theorem ATs.nodes_erase : ∀ l : List AT, Tms.nodes (ATs.erase l) = ATs.nodes l
  | [] => rfl
  | t :: r => by rw [ATs.erase, Tms.nodes, ATs.nodes, AT.nodes_erase t, ATs.nodes_erase r]
end
def headCells (l : List AT) : List Value := l.flatMap fun t => [.int .i64 t.k, .int .i64 t.n, .string t.s, t.sv]
theorem headCells_len (l : List AT) : (headCells l).length = l.length * 4 := by
  induction l with
  | nil => rfl
  | cons t r ih => simp only [headCells, List.flatMap_cons, List.length_append, List.length_cons, List.length_nil] at ih ⊢; omega
theorem headCells_app (l m : List AT) : headCells (l ++ m) = headCells l ++ headCells m := by simp [headCells]
theorem mem_row {w : World} {g : Nat} {cur : Array Value} {T : TypeId} (hg : w.heap[g]? = some (.cells cur T (0, 0))) : ∀ (l : List AT) (o : Nat), (∀ j, j < (headCells l).length → cur[o + j]? = (headCells l)[j]?) → (∀ t ∈ l, t.mem w) → ATs.mem w g l o
  | [], _, _, _ => trivial
  | t :: r, o, hc, hm => by
    have hlen := headCells_len r
    have hh : headCells (t :: r) = .int .i64 t.k :: .int .i64 t.n :: .string t.s :: t.sv :: headCells r := by simp [headCells]
    rw [hh] at hc
    refine ⟨⟨⟨_, _, hg⟩, cell_of_heap hg ?_, cell_of_heap hg ?_, cell_of_heap hg ?_, cell_of_heap hg ?_⟩, hm t (by simp), mem_row hg r (o + 4) (fun j hj => ?_) (fun u hu => hm u (by simp [hu]))⟩
    · simpa using hc 0 (by simp)
    · simpa using hc 1 (by simp)
    · simpa using hc 2 (by simp)
    · simpa using hc 3 (by simp)
    · have := hc (j + 4) (by simp; omega)
      rw [show o + (j + 4) = o + 4 + j from by omega] at this
      simpa using this
theorem row_mem {w : World} {b : Nat} {v : Value} {l : List AT} {n : Nat} (h : w.ownsRow b 34 4 v n (headCells l)) (hn : l.length = n) (hm : ∀ t ∈ l, t.mem w) : ∃ G, SvOk v G 0 l.length ∧ ATs.mem w G l 0 ∧ (l ≠ [] → v.ownBlock = some G) := by
  subst hn
  obtain ⟨h0, h1 | ⟨g, cap, cur, hv, hb, hg, h4, h5, h6, h7⟩⟩ := h
  · have hl : l = [] := List.length_eq_zero_iff.1 h1.2
    subst hl
    exact ⟨0, .inl ⟨h1.1, rfl⟩, trivial, fun h => absurd rfl h⟩
  · refine ⟨g, .inr ⟨cap, hv, h4, h5⟩, mem_row hg l 0 (fun j hj => ?_) hm, fun _ => by rw [hv]; rfl⟩
    have hlen := headCells_len l
    rw [Nat.zero_add, ← h7, List.getElem?_take, if_pos (by omega)]
    simp
structure PRow where
  k : Int
  n : Int
  s : ByteArray
  a : Nat
def PMem (w : World) (B off : Nat) (ps : List PRow) : Prop := ∀ i p, ps[i]? = some p →
  w.cell? ⟨B, off + i * 4, none⟩ = some (.int .i64 p.k) ∧ w.cell? ⟨B, off + i * 4 + 1, none⟩ = some (.int .i64 p.n) ∧ w.cell? ⟨B, off + i * 4 + 2, none⟩ = some (.string p.s) ∧ w.cell? ⟨B, off + i * 4 + 3, none⟩ = some (.int .u8 p.a) ∧ p.a ≤ 255
theorem PMem.drop {w : World} {B off : Nat} {ps : List PRow} (h : PMem w B off ps) (k : Nat) : PMem w B (off + k * 4) (ps.drop k) := fun i p hp => by
  rw [List.getElem?_drop] at hp
  have := h (k + i) p hp
  rw [show off + (k + i) * 4 = off + k * 4 + i * 4 from by omega] at this
  exact this
theorem PMem.below {w w' : World} {B off C : Nat} {ps : List PRow} (h : PMem w B off ps) (hb : Below C w w') (hC : w.heap.size ≤ C ∨ B < C) : PMem w' B off ps := fun i p hp => by
  obtain ⟨h0, h1, h2, h3, h4⟩ := h i p hp
  have hl := World.block_lt_of_cell? _ _ h0
  have hlt : B < C := by rcases hC with h | h; exact Nat.lt_of_lt_of_le hl h; exact h
  exact ⟨(hb.cell (p := ⟨B, _, none⟩) hlt).trans h0, (hb.cell (p := ⟨B, _, none⟩) hlt).trans h1, (hb.cell (p := ⟨B, _, none⟩) hlt).trans h2, (hb.cell (p := ⟨B, _, none⟩) hlt).trans h3, h4⟩
def atomA : Tm := .mk 3 0 ⟨#[97]⟩ []
end Go.Proofs.YtkplokfcjjcpcaaGreatDoor.Trm
end
section
namespace Go.Proofs.YtkplokfcjjcpcaaGreatDoor.Trm
open Go Go.RowKit
theorem new_at (w : World) (o : Obj) {H : Nat} (h : w.heap.size = H) : (w.alloc o).heap[H]? = some o := by
  subst h
  exact heap_alloc_new w o
theorem owns_same {w w' : World} {b n : Nat} {e : TypeId} {size : Nat} {v : Value} {xs : List Value} (h : w.ownsRow b e size v n xs) (hh : ∀ g, v.ownBlock = some g → w'.heap[g]? = w.heap[g]?) : w'.ownsRow b e size v n xs := by
  obtain ⟨h1, h2 | ⟨g, cap, cur, hv, h3, h4, r⟩⟩ := h
  · exact ⟨h1, .inl h2⟩
  · exact ⟨h1, .inr ⟨g, cap, cur, hv, h3, by rw [hh g (by rw [hv]; rfl)]; exact h4, r⟩⟩
theorem ins_both {S T U : Nat → Prop} {t : AT} (h1 : t.ins S) (h2 : t.ins T) (h : ∀ j, S j → T j → U j) : t.ins U :=
  AT.ins_mono (S := fun j => S j ∧ T j) (fun j hj => h j hj.1 hj.2) t (AT.mem_keeps.AT.ins_and t h1 h2)
end Go.Proofs.YtkplokfcjjcpcaaGreatDoor.Trm
end
section
namespace Go.Proofs.YtkplokfcjjcpcaaGreatDoor.Trm
open Go Go.RowKit
attribute [local go_sem ↓] Go.wp_at_zero Go.wp_at_succ
mutual
def mendT : Tm → Tm
  | .mk k n s l => if 20 < s.size then atomA else if k = 1 then .mk 1 (max 0 n) ⟨#[]⟩ [] else if k = 2 then .mk 2 n ⟨#[]⟩ [] else if k = 3 then .mk 3 0 s [] else if k = 4 then (if l.length = 0 then atomA else .mk 4 0 s (mendL l)) else atomA
def mendL : List Tm → List Tm
  | [] => []
  | t :: r => mendT t :: mendL r
end
end Go.Proofs.YtkplokfcjjcpcaaGreatDoor.Trm
end
