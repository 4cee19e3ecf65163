/- The way through terms, as lists: which parts come, in which order, how deep. Conditions: what memory holds of the terms' Args. -/
import Derived.Test.YtkidcchafdiofaaTermC
namespace Go.Proofs.Ytkidcchafdiofaa
open Go Go.RowKit

/-- a step of a way through terms -/
structure GF where
  B : Nat
  o : Nat
  k : Nat
  t : AT
def GF.rf (f : GF) : RF := ⟨f.B, f.o, f.k, f.t.sv, f.t.G, f.t.off, f.t.l.length⟩
def GF.st (f : GF) : St := ⟨f.B, f.o, f.k⟩
/-- the parts that are still to come -/
def todo : List GF → List Nd
  | [] => []
  | f :: σ => ATs.flat f.t.G (σ.length + 1) (f.t.l.drop f.k) (f.t.off + f.k * 4) ++ todo σ
def gpop : List GF → List GF
  | [] => []
  | f :: σ => if f.t.l.length ≤ f.k then gpop σ else f :: σ
theorem popped_map (σ : List GF) : popped (σ.map GF.rf) = (gpop σ).map GF.rf := by
  induction σ with
  | nil => rfl
  | cons f σ ih =>
    rw [List.map_cons, popped, gpop, ih]
    show (if f.t.l.length ≤ f.k then _ else _) = _
    split <;> rfl
theorem todo_pop (σ : List GF) : todo (gpop σ) = todo σ := by
  induction σ with
  | nil => rfl
  | cons f σ ih =>
    rw [gpop]
    split
    · rename_i h
      rw [ih, todo, List.drop_eq_nil_of_le h]
      rfl
    · rfl
theorem gpop_head {σ r : List GF} {f : GF} (h : gpop σ = f :: r) : f.k < f.t.l.length := by
  induction σ with
  | nil => cases h
  | cons e σ ih =>
    rw [gpop] at h
    split at h
    · exact ih h
    · obtain ⟨rfl, rfl⟩ := List.cons.inj h
      omega
theorem todo_step {σ r : List GF} {f : GF} (h : gpop σ = f :: r) : ∃ t, f.t.l[f.k]? = some t ∧ todo σ = ⟨f.t.G, f.t.off + f.k * 4, r.length + 1, t⟩ :: todo (⟨f.t.G, f.t.off + f.k * 4, 0, t⟩ :: ⟨f.B, f.o, f.k + 1, f.t⟩ :: r) := by
  have hk := gpop_head h
  refine ⟨f.t.l[f.k], List.getElem?_eq_getElem hk, ?_⟩
  rw [← todo_pop, h, todo, List.drop_eq_getElem_cons hk, ATs.flat, todo, todo, AT.flat_mk]
  simp only [List.drop_zero, List.length_cons, Nat.zero_mul, Nat.add_zero, List.cons_append, List.append_assoc]
  rw [show f.t.off + (f.k + 1) * 4 = f.t.off + f.k * 4 + 4 from by omega]
theorem todo_none {σ : List GF} (h : gpop σ = []) : todo σ = [] := by rw [← todo_pop, h]; rfl

/-- what memory holds of a part, of the ways through it -/
def NdOk (w : World) (x : Nd) : Prop := Plain w x.B ∧ w.cell? ⟨x.B, x.o + 3, none⟩ = some x.t.sv ∧ SvOk x.t.sv x.t.G x.t.off x.t.l.length
theorem NdOk.kept {F : Nat → Prop} {w w' : World} {x : Nd} (h : NdOk w x) (hk : Keeps F w w') (hF : ¬ F x.B) : NdOk w' x :=
  ⟨h.1.kept hk hF, hk.cell h.2.1 hF, h.2.2⟩

mutual
theorem AT.flat_len : ∀ (t : AT) (d : Nat), (t.flat d).length + 1 = t.nodes
  | .mk _ _ _ _ G off l, d => by
    rw [AT.flat, AT.nodes, ATs.flat_len l d off G]
theorem ATs.flat_len : ∀ (l : List AT) (d off G : Nat), (ATs.flat G d l off).length = ATs.nodes l
  | [], _, _, _ => rfl
  | t :: r, d, off, G => by
    rw [ATs.flat, ATs.nodes, List.length_cons, List.length_append, ATs.flat_len r d (off + 4) G, ← AT.flat_len t (d + 1)]
    omega
end
theorem nodes_pos (t : AT) : 1 ≤ t.nodes := by rw [AT.nodes_mk]; omega
theorem nodes_mem {l : List AT} {t : AT} (h : t ∈ l) : t.nodes ≤ ATs.nodes l := by
  induction l with
  | nil => cases h
  | cons e r ih =>
    rw [ATs.nodes]
    rcases List.mem_cons.1 h with rfl | h
    · omega
    · have := ih h; omega
theorem len_nodes (l : List AT) : l.length ≤ ATs.nodes l := by
  induction l with
  | nil => exact Nat.zero_le _
  | cons t r ih => rw [ATs.nodes, List.length_cons]; have := nodes_pos t; omega

/-- the list of parts holds, of each part, those of its Args -/
def Closed (L : List Nd) : Prop := ∀ x ∈ L, ∀ y ∈ ATs.flat x.t.G (x.d + 1) x.t.l x.t.off, y ∈ L
mutual
theorem AT.closed : ∀ (t : AT) (d : Nat), Closed (t.flat d)
  | .mk _ _ _ _ G off l, d => ATs.closed l d off G
theorem ATs.closed : ∀ (l : List AT) (d off G : Nat), Closed (ATs.flat G d l off)
  | [], _, _, _ => fun x hx => by cases hx
  | t :: r, d, off, G => by
    intro x hx y hy
    rw [ATs.flat, List.mem_cons, List.mem_append] at hx ⊢
    rcases hx with rfl | hx | hx
    · rw [← AT.flat_mk] at hy
      exact .inr (.inl hy)
    · exact .inr (.inl (AT.closed t (d + 1) x hx y hy))
    · exact .inr (.inr (ATs.closed r d (off + 4) G x hx y hy))
end
mutual
theorem AT.flat_nodes : ∀ (t : AT) (d : Nat), ∀ x ∈ t.flat d, x.t.nodes < t.nodes
  | .mk _ _ _ _ G off l, d => fun x hx => by
    have := ATs.flat_nodes l d off G x hx
    rw [AT.nodes]
    omega
theorem ATs.flat_nodes : ∀ (l : List AT) (d off G : Nat), ∀ x ∈ ATs.flat G d l off, x.t.nodes ≤ ATs.nodes l
  | [], _, _, _ => fun x hx => by cases hx
  | t :: r, d, off, G => fun x hx => by
    rw [ATs.flat, List.mem_cons, List.mem_append] at hx
    rw [ATs.nodes]
    rcases hx with rfl | hx | hx
    · simp
    · have := AT.flat_nodes t (d + 1) x hx
      omega
    · have := ATs.flat_nodes r d (off + 4) G x hx
      omega
end
theorem flat_get {l : List AT} {k : Nat} {t : AT} (h : l[k]? = some t) (G d off : Nat) : (⟨G, off + k * 4, d, t⟩ : Nd) ∈ ATs.flat G d l off := by
  induction l generalizing k off with
  | nil => simp at h
  | cons e r ih =>
    rw [ATs.flat, List.mem_cons, List.mem_append]
    cases k with
    | zero =>
      simp at h
      subst h
      left
      simp
    | succ k =>
      simp at h
      have := ih h (off + 4)
      rw [show off + 4 + k * 4 = off + (k + 1) * 4 from by omega] at this
      exact .inr (.inr this)

theorem sv_same {sv : Value} {G off n G' off' n' : Nat} (h1 : SvOk sv G off n) (h2 : SvOk sv G' off' n') : n = n' ∧ (n ≠ 0 → G = G' ∧ off = off') := by
  rcases h1 with ⟨a1, a2⟩ | ⟨c1, a1, _, _⟩ <;> rcases h2 with ⟨b1, b2⟩ | ⟨c2, b1, _, _⟩
  · exact ⟨by omega, fun h => absurd a2 h⟩
  · rw [a1] at b1; cases b1
  · rw [b1] at a1; cases a1
  · rw [a1] at b1
    simp at b1
    exact ⟨b1.2.1, fun _ => b1.1⟩
mutual
theorem AT.uniq {w : World} : ∀ (t u : AT) (d e : Nat), t.sv = u.sv → SvOk t.sv t.G t.off t.l.length → SvOk u.sv u.G u.off u.l.length → (∀ x ∈ t.flat d, NdOk w x) → (∀ x ∈ u.flat e, NdOk w x) → t.nodes = u.nodes
  | .mk _ _ _ sv G off l, u, d, e, hs, h1, h2, h3, h4 => by
    have hs' : sv = u.sv := hs
    have h1' : SvOk sv G off l.length := h1
    rw [hs'] at h1'
    obtain ⟨hl, hG⟩ := sv_same h1' h2
    rw [AT.nodes, AT.nodes_mk]
    rw [AT.flat] at h3
    rw [AT.flat_mk] at h4
    congr 1
    by_cases hn : l = []
    · subst hn
      have hm : u.l = [] := List.length_eq_zero_iff.1 hl.symm
      rw [hm]
    · obtain ⟨g1, g2⟩ := hG (fun h => hn (List.length_eq_zero_iff.1 h))
      subst g1 g2
      exact ATs.uniq l u.l d e u.off u.G hl h3 h4
theorem ATs.uniq {w : World} : ∀ (l m : List AT) (d e off G : Nat), l.length = m.length → (∀ x ∈ ATs.flat G d l off, NdOk w x) → (∀ x ∈ ATs.flat G e m off, NdOk w x) → ATs.nodes l = ATs.nodes m
  | [], m, _, _, _, _, hl, _, _ => by
    have hm : m = [] := List.length_eq_zero_iff.1 hl.symm
    rw [hm]
  | t :: r, m, d, e, off, G, hl, h3, h4 => by
    cases m with
    | nil => simp at hl
    | cons u v =>
      rw [ATs.flat] at h3 h4
      have a := h3 _ (by simp; exact .inl rfl)
      have b := h4 _ (by simp; exact .inl rfl)
      have hs : t.sv = u.sv := by
        have := a.2.1.symm.trans b.2.1
        simpa using this
      rw [ATs.nodes, ATs.nodes, AT.uniq t u (d + 1) (e + 1) hs a.2.2 b.2.2 (fun x hx => h3 x (by simp [hx])) (fun x hx => h4 x (by simp [hx])),
        ATs.uniq r v d e (off + 4) G (by simpa using hl) (fun x hx => h3 x (by simp [hx])) (fun x hx => h4 x (by simp [hx]))]
end

/-- the steps that a way through the list L can stand at: the last one is the root's, at block r -/
def Steps (L : List Nd) (r : Nat) (t0 : AT) : List GF → Prop
  | [] => True
  | f :: σ => f.k ≤ f.t.l.length ∧ (∀ e ∈ σ, f.t.nodes < e.t.nodes) ∧ ((σ = [] ∧ f.B = r ∧ f.o = 0 ∧ f.t = t0) ∨ (∃ d, (⟨f.B, f.o, d, f.t⟩ : Nd) ∈ L)) ∧ Steps L r t0 σ
theorem Steps.mem {L : List Nd} {r : Nat} {t0 : AT} {σ : List GF} (h : Steps L r t0 σ) : ∀ f ∈ σ, f.k ≤ f.t.l.length ∧ ((f.B = r ∧ f.o = 0 ∧ f.t = t0) ∨ (∃ d, (⟨f.B, f.o, d, f.t⟩ : Nd) ∈ L)) := by
  induction σ with
  | nil => intro f hf; cases hf
  | cons e σ ih =>
    obtain ⟨h1, h2, h3, h4⟩ := h
    intro f hf
    rcases List.mem_cons.1 hf with rfl | hf
    · exact ⟨h1, h3.imp (fun h => h.2) id⟩
    · exact ih h4 f hf
theorem Steps.pop {L : List Nd} {r : Nat} {t0 : AT} {σ : List GF} (h : Steps L r t0 σ) : Steps L r t0 (gpop σ) := by
  induction σ with
  | nil => trivial
  | cons e σ ih =>
    rw [gpop]
    split
    · exact ih h.2.2.2
    · exact h
theorem Steps.push {L : List Nd} {r : Nat} {t0 : AT} {σ : List GF} {f : GF} {t : AT} (h : Steps L r t0 (f :: σ)) (hL : Closed L) (h0 : ∃ d, L = ATs.flat t0.G d t0.l t0.off) (ht : f.t.l[f.k]? = some t) :
    Steps L r t0 (⟨f.t.G, f.t.off + f.k * 4, 0, t⟩ :: ⟨f.B, f.o, f.k + 1, f.t⟩ :: σ) := by
  obtain ⟨h1, h2, h3, h4⟩ := h
  have hk := (List.getElem?_eq_some_iff.1 ht).1
  have hlt : t.nodes < f.t.nodes := by
    have := nodes_mem (List.mem_of_getElem? ht)
    rw [AT.nodes_mk (t := f.t)]
    omega
  refine ⟨Nat.zero_le _, ?_, .inr ?_, hk, h2, h3, h4⟩
  · intro e he
    rcases List.mem_cons.1 he with rfl | he
    · exact hlt
    · exact Nat.lt_trans hlt (h2 e he)
  · rcases h3 with ⟨_, _, _, rfl⟩ | ⟨d, hd⟩
    · obtain ⟨d, hd⟩ := h0
      exact ⟨d, by rw [hd]; exact flat_get ht _ _ _⟩
    · exact ⟨d + 1, hL _ hd _ (flat_get ht _ _ _)⟩
theorem Steps.len {L : List Nd} {r : Nat} {t0 : AT} {N : Nat} : ∀ {σ : List GF} {m : Nat}, Steps L r t0 σ → (∀ e ∈ σ, m < e.t.nodes ∧ e.t.nodes ≤ N) → m ≤ N → σ.length + m ≤ N
  | [], m, _, _, h => by simpa using h
  | f :: σ, m, hs, h, hm => by
    obtain ⟨h1, h2, h3, h4⟩ := hs
    have hf := h f (by simp)
    have := Steps.len (m := f.t.nodes) h4 (fun e he => ⟨h2 e he, (h e (by simp [he])).2⟩) hf.2
    rw [List.length_cons]
    omega
/-- the last step's part lies elsewhere than those of the steps ahead of it -/
theorem Steps.apart {L : List Nd} {r : Nat} {t0 : AT} {σ : List GF} {f : GF} {w : World} (h : Steps L r t0 (f :: σ)) (hok : ∀ x ∈ L, NdOk w x) (hL : Closed L) (hr : ∀ x ∈ L, x.B ≠ r) : ∀ e ∈ σ, ¬ (e.B = f.B ∧ e.o = f.o) := by
  obtain ⟨h1, h2, h3, h4⟩ := h
  rintro e he ⟨hB, ho⟩
  have hn := h2 e he
  have hf : ∃ d, (⟨f.B, f.o, d, f.t⟩ : Nd) ∈ L := by
    rcases h3 with ⟨rfl, _⟩ | h3
    · cases he
    · exact h3
  obtain ⟨d, hd⟩ := hf
  rcases (h4.mem e he).2 with ⟨hr1, _⟩ | ⟨d2, hd2⟩
  · exact hr _ hd (by rw [← hB]; exact hr1)
  · have a := hok _ hd
    have b := hok _ hd2
    have hs : f.t.sv = e.t.sv := by
      have hb := b.2.1
      simp only [hB, ho] at hb
      have := a.2.1.symm.trans hb
      simpa using this
    have := AT.uniq (w := w) f.t e.t (d + 1) (d2 + 1) hs a.2.2 b.2.2 (fun x hx => hok x (hL _ hd x (by rw [← AT.flat_mk]; exact hx))) (fun x hx => hok x (hL _ hd2 x (by rw [← AT.flat_mk]; exact hx)))
    omega

end Go.Proofs.Ytkidcchafdiofaa
