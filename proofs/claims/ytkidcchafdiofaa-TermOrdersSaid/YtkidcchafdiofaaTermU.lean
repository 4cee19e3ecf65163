/- term.copies: a contract. Conditions: memory holds the terms; at most 800000 parts; each name has at most 2^48 bytes. -/
import Derived.Test.YtkidcchafdiofaaTermT
namespace Go.Proofs.Ytkidcchafdiofaa
open Go Go.RowKit

theorem zb_k {w : World} : ∀ (e : MF) (σ : List MF), ZB w e σ → ∀ f ∈ σ, f.k ≤ f.src.l.length
  | _, [], _, f, hf => by cases hf
  | e, f :: σ, ⟨h1, h2, h3, h4, h5, h6⟩, g, hg => by
    rcases List.mem_cons.1 hg with rfl | hg
    · have := (List.getElem?_eq_some_iff.1 h5).1; omega
    · exact zb_k f σ h6 g hg
theorem zip_k {w : World} {σ : List MF} (h : Zip w σ) : ∀ f ∈ σ, f.k ≤ f.src.l.length := by
  cases σ with
  | nil => intro f hf; cases hf
  | cons f σ =>
    intro g hg
    rcases List.mem_cons.1 hg with rfl | hg
    · have := h.1.le; have := h.2.1; omega
    · exact zb_k f σ h.2.2 g hg
theorem zb_ok {w : World} : ∀ (e : MF) (σ : List MF), ZB w e σ → ∀ f ∈ σ, MOk w f
  | _, [], _, f, hf => by cases hf
  | e, f :: σ, h, g, hg => by
    rcases List.mem_cons.1 hg with rfl | hg
    · exact h.1
    · exact zb_ok f σ h.2.2.2.2.2 g hg
theorem zip_ok {w : World} {σ : List MF} (h : Zip w σ) : ∀ f ∈ σ, MOk w f := by
  cases σ with
  | nil => intro f hf; cases hf
  | cons f σ =>
    intro g hg
    rcases List.mem_cons.1 hg with rfl | hg
    · exact h.1
    · exact zb_ok f σ h.2.2 g hg
/-- where the frames' parts lie: in a row of another frame, or at the root's block -/
theorem zb_B {w : World} {r : Nat} : ∀ (e : MF) (σ : List MF), RootAt r (e :: σ) → ZB w e σ → ∀ f ∈ e :: σ, f.B = r ∨ f.B ∈ zblocks (e :: σ)
  | e, [], ho, _, f, hf => by
    rcases List.mem_cons.1 hf with rfl | hf
    · exact .inl (ho f rfl).1
    · cases hf
  | e, f :: σ, ho, hb, g, hg => by
    obtain ⟨h1, h2, h3, h4, h5, h6⟩ := hb
    have hlt := (List.getElem?_eq_some_iff.1 h5).1
    rcases List.mem_cons.1 hg with rfl | hg
    · right
      rw [h3]
      simp only [zblocks, List.flatMap_cons, List.mem_append]
      exact .inr (.inl (.inl (pos_in (by omega))))
    · rcases zb_B f σ (fun a ha => ho a (by rw [List.getLast?_cons_cons]; exact ha)) h6 g hg with h | h
      · exact .inl h
      · right
        unfold zblocks at h ⊢
        simp only [List.flatMap_cons, List.mem_append] at h ⊢
        exact .inr h
theorem root_pop {r : Nat} {t : AT} {sv : Value} {G : Nat} : ∀ (n : Nat) (σ : List MF), σ.length ≤ n → mpop σ ≠ [] → RootAt r σ → (∃ f, σ.getLast? = some f ∧ f.src = t ∧ f.sv = sv ∧ f.G = G) → RootAt r (mpop σ) ∧ ∃ f, (mpop σ).getLast? = some f ∧ f.src = t ∧ f.sv = sv ∧ f.G = G
  | _, [], _, h, _, _ => by simp [mpop] at h
  | 0, _ :: _, h, _, _, _ => by simp at h
  | n + 1, [f], _, hne, ho, hl => by
    rw [mpop] at hne ⊢
    split
    · rename_i h; rw [if_pos h] at hne; exact absurd rfl hne
    · exact ⟨ho, hl⟩
  | n + 1, f :: f2 :: σ, h, hne, ho, hl => by
    rw [mpop] at hne ⊢
    split
    · rename_i hd
      rw [if_pos hd] at hne
      refine root_pop n _ (by simp at h ⊢; omega) hne (fun g hg => ?_) ?_
      · cases σ with
        | nil =>
          simp at hg
          subst hg
          exact ho f2 (by simp)
        | cons e σ => exact ho g (by rw [List.getLast?_cons_cons, List.getLast?_cons_cons]; rw [List.getLast?_cons_cons] at hg; exact hg)
      · obtain ⟨g, hg, hr⟩ := hl
        cases σ with
        | nil =>
          simp at hg
          subst hg
          exact ⟨f2.add f.at, by simp, hr⟩
        | cons e σ => exact ⟨g, by rw [List.getLast?_cons_cons, List.getLast?_cons_cons] at hg; rw [List.getLast?_cons_cons]; exact hg, hr⟩
    · exact ⟨ho, hl⟩
theorem mpop_len : ∀ (n : Nat) (σ : List MF), σ.length ≤ n → (mpop σ).length ≤ σ.length
  | _, [], _ => by simp [mpop]
  | 0, _ :: _, h => by simp at h
  | n + 1, [f], _ => by
    rw [mpop]
    split
    · simp
    · simp
  | n + 1, f :: f2 :: σ, h => by
    rw [mpop]
    split
    · have := mpop_len n (f2.add f.at :: σ) (by simp at h ⊢; omega)
      simp at this ⊢
      omega
    · simp

theorem mpop_sz : ∀ (n : Nat) (σ : List MF), σ.length ≤ n → (∀ f ∈ σ, f.src.l.length ≤ 900000) → ∀ f ∈ mpop σ, f.src.l.length ≤ 900000
  | _, [], _, _ => fun f hf => by simp [mpop] at hf
  | 0, _ :: _, h, _ => by simp at h
  | n + 1, [f], _, hs => by
    rw [mpop]
    split
    · intro g hg; cases hg
    · exact hs
  | n + 1, f :: f2 :: σ, h, hs => by
    rw [mpop]
    split
    · refine mpop_sz n _ (by simp at h ⊢; omega) (fun g hg => ?_)
      rcases List.mem_cons.1 hg with rfl | hg
      · exact hs f2 (by simp)
      · exact hs g (by simp [hg])
    · exact hs
/-- the state of the copies: one part more of the made terms for each part that was found -/
structure FillSt (q r : Nat) (t0 : AT) (sv : Value) (G0 : Nat) (L : List Nd) (i : Nat) (w : World) (F : Nat → Prop) (σ : List MF) (g : Nat) : Prop where
  F : ∀ j, F j ↔ (j = q ∨ j = g ∨ j ∈ zblocks σ)
  way : WayAt w q 84 [] g (σ.map MF.st)
  zip : Zip w σ
  root : RootAt r σ
  last : ∃ f, σ.getLast? = some f ∧ f.src = t0 ∧ f.sv = sv ∧ f.G = G0
  nd : (zblocks σ).Nodup
  out : r ∉ zblocks σ ∧ q ∉ zblocks σ ∧ g ∉ zblocks σ ∧ r ≠ q ∧ r ≠ g
  lt : ∀ j ∈ zblocks σ, j < w.heap.size
  td : (todo (σ.map MF.gf)).map Nd.t = (L.map Nd.t).drop i
  len : σ.length ≤ i + 1
  sz : ∀ f ∈ σ, f.src.l.length ≤ 900000
def FillS (q r : Nat) (t0 : AT) (sv : Value) (G0 : Nat) (L : List Nd) (i : Nat) (w : World) (F : Nat → Prop) : Prop := ∃ σ g, FillSt q r t0 sv G0 L i w F σ g
theorem fillS_own {q r H0 G0 : Nat} {t0 : AT} {sv : Value} {L : List Nd} (hr : r < H0) : Own H0 (FillS q r t0 sv G0 L) where
  lt := fun i w F h j hj => by
    obtain ⟨σ, g, h⟩ := h
    have := way_lt h.way
    rcases (h.F j).1 hj with rfl | rfl | hz
    · exact this.1
    · exact this.2
    · exact h.lt j hz
  stay := fun i w w' F h hs hj => by
    obtain ⟨σ, g, h⟩ := h
    obtain ⟨cap, cur, a1, a2, a3⟩ := h.way
    exact ⟨σ, g, h.F, ⟨cap, cur, (hj q (.inl ((h.F q).2 (.inl rfl)))).trans a1, (hj g (.inl ((h.F g).2 (.inr (.inl rfl))))).trans a2, a3⟩,
      zip_same (S := fun j => F j ∨ j < H0) hj (.inr hr) h.root (fun j hz => .inl ((h.F j).2 (.inr (.inr hz)))) h.zip, h.root, h.last, h.nd, h.out, fun j hz => Nat.lt_of_lt_of_le (h.lt j hz) hs, h.td, h.len, h.sz⟩

theorem mok_rf {w : World} {f : MF} (h : MOk w f) : f.rf.ok w := ⟨h.c3, h.sv⟩
theorem map_st (σ : List MF) : (σ.map MF.rf).map RF.st = σ.map MF.st := by rw [List.map_map]; rfl
theorem gpop_one {f : GF} {r σ : List GF} (h : gpop σ = f :: r) : gpop (f :: r) = f :: r := by
  have hk := gpop_head h
  rw [gpop, if_neg (by omega)]

theorem set4_keeps {w : World} {G p : Nat} {a b c d : Value} : Keeps (fun j => j = G) w (set4 w G p a b c d) :=
  ((((Keeps.refl (fun j => j = G) w).setCell (p := ⟨G, p, none⟩) (.inl rfl) _).setCell (p := ⟨G, p + 1, none⟩) (.inl rfl) _).setCell (p := ⟨G, p + 2, none⟩) (.inl rfl) _).setCell (p := ⟨G, p + 3, none⟩) (.inl rfl) _
theorem set4_size {w : World} {G p : Nat} {a b c d : Value} : (set4 w G p a b c d).heap.size = w.heap.size := by simp [set4, World.setCell]
theorem zb_new {f : MF} {σ : List MF} {B o G' : Nat} {x : AT} {sv : Value} : zblocks (⟨B, o, 0, x, sv, G', []⟩ :: { f with k := f.k + 1 } :: σ) = (if x.l.isEmpty then [] else [G']) ++ zblocks (f :: σ) := by
  simp [zblocks, MF.fb, ATs.blocks]
/-- one part is copied -/
theorem fill_cb {q r G0 : Nat} {t0 : AT} {sv : Value} {L : List Nd} (hL : L.length ≤ 800000) (hS : ∀ x ∈ L, x.t.s.size ≤ 281474976710656 ∧ x.t.l.length ≤ 800000) (hrq : r < q) : ∀ i w F x, FillS q r t0 sv G0 L i w F → (∀ y ∈ L, FullOk w y ∧ ¬ F y.B) → L[i]? = some x →
      Calls Try.prog 55 #[.pointer (some ⟨q, 0, none⟩), .pointer (some ⟨x.B, x.o, none⟩), .int .i64 x.d] w (CBPost (FillS q r t0 sv G0 L) (fun _ => true) i w F) := by
  rintro i w F x ⟨σ, g, h⟩ hf hx
  have hi : i < L.length := (List.getElem?_eq_some_iff.1 hx).1
  have hxm := List.mem_of_getElem? hx
  obtain ⟨hxf, hxF⟩ := hf x hxm
  have hmp := mpop_gf σ.length σ (Nat.le_refl _)
  have hpr := mpop_rf σ.length σ (Nat.le_refl _)
  have hne : mpop σ ≠ [] := by
    intro h0
    rw [h0] at hmp
    have h1 := todo_none hmp.symm
    have h2 := h.td
    rw [h1] at h2
    have := List.drop_eq_nil_iff.1 h2.symm
    simp at this
    omega
  obtain ⟨hro, hla⟩ := root_pop σ.length σ (Nat.le_refl _) hne h.root h.last
  have hzp := zip_pop σ.length σ (Nat.le_refl _) h.zip
  have hzb := zb_pop σ.length σ (Nat.le_refl _) h.zip hne
  have hln := mpop_len σ.length σ (Nat.le_refl _)
  have hszs : ∀ f ∈ mpop σ, f.src.l.length ≤ 900000 := fun f hf => mpop_sz σ.length σ (Nat.le_refl _) h.sz f hf
  cases hσ : mpop σ with
  | nil => exact absurd hσ hne
  | cons f σ' =>
    rw [hσ] at hmp hpr hro hla hzp hzb hln hszs
    rw [List.map_cons] at hmp hpr
    have hgp := gpop_head hmp.symm
    obtain ⟨t, ht, hst⟩ := todo_step hmp.symm
    have ht' : f.src.l[f.k]? = some t := ht
    have htd := h.td
    rw [hst, List.map_cons] at htd
    have hxt : (L.map Nd.t)[i]? = some t := by
      have := congrArg List.head? htd
      rw [List.head?_drop] at this
      exact this.symm
    have htx : t = x.t := by
      rw [List.getElem?_map, hx] at hxt
      simpa using hxt.symm
    subst htx
    have hfk : f.k < f.src.l.length := hgp
    have hfG : f.G ∈ f.fb := pos_in (by omega)
    have hGz : f.G ∈ zblocks (f :: σ') := by simp only [zblocks, List.flatMap_cons, List.mem_append]; exact .inl (.inl hfG)
    have hGz0 : f.G ∈ zblocks σ := hzb.mem_iff.1 hGz
    have hnd' : (zblocks (f :: σ')).Nodup := hzb.nodup_iff.2 h.nd
    have hwl := way_lt h.way
    have hwn := way_ne h.way
    have hoks := zip_ok h.zip
    have hks := zip_k h.zip
    have hBq : ∀ e ∈ σ, e.B ≠ q ∧ e.B ≠ g := fun e he => by
      cases σ with
      | nil => cases he
      | cons a b =>
        rcases zb_B a b h.root h.zip.2.2 e he with hb | hb
        · rw [hb]; exact ⟨h.out.2.2.2.1, h.out.2.2.2.2⟩
        · exact ⟨fun e2 => h.out.2.1 (by rw [← e2]; exact hb), fun e2 => h.out.2.2.1 (by rw [← e2]; exact hb)⟩
    obtain ⟨ad, c, p3, _⟩ := hxf.row.a
    have hB : x.B ≠ f.G := fun e => hxF ((h.F _).2 (.inr (.inr (by rw [e]; exact hGz0))))
    have kx : ¬ (x.B = q ∨ x.B = g) := fun e => hxF ((h.F _).2 (by rcases e with e | e; exact .inl e; exact .inr (.inl e)))
    have hpart : ∀ w', Keeps (fun j => j = q ∨ j = g) w w' → PartAt x.B x.o x.t.k x.t.n x.t.s ad x.t.l.length c w' := fun w' hk => ⟨hk.cell hxf.1.2.1 kx, hk.cell hxf.1.2.2.1 kx, hk.cell hxf.1.2.2.2.1 kx, hk.cell p3 kx⟩
    refine fill_region q x.B x.o f.G (f.k * 4) x.t.k x.t.n x.t.s ad x.t.l.length c _ w _
      (fun w1 => ∃ g', (g' = g ∨ w.heap.size ≤ g') ∧ WayAt w1 q 84 [] g' (⟨f.G, f.k * 4, 0⟩ :: ⟨f.B, f.o, f.k + 1⟩ :: σ'.map MF.st) ∧ Keeps (fun j => j = q ∨ j = g) w w1)
      (fun w1 => ∃ g', (g' = g ∨ w.heap.size ≤ g') ∧ WayAt w1 q 84 [] g' (⟨f.G, f.k * 4, 0⟩ :: ⟨f.B, f.o, f.k + 1⟩ :: σ'.map MF.st) ∧ Keeps (fun j => j = q ∨ j = g) w w1)
      (hpart w (Keeps.refl _ _)) hB (fun d => ?_) (fun w1 h1 => ?_) (fun w2 h2 => ?_)
    · have hnx := next_is q 84 [] g (σ.map MF.rf) (w.drewN d) (by rw [map_st]; exact h.way) (fun a ha => by
          obtain ⟨e, he, rfl⟩ := List.mem_map.1 ha
          have h1 := mok_rf (hoks e he)
          exact ⟨h1.1, h1.2⟩) (fun a ha => by
          obtain ⟨e, he, rfl⟩ := List.mem_map.1 ha
          exact hBq e he) (by rw [List.length_map]; have := h.len; omega) (fun a ha => by
          obtain ⟨e, he, rfl⟩ := List.mem_map.1 ha
          have h1 := hks e he
          have h2 := h.sz e he
          exact ⟨by show e.k ≤ _; omega, by show e.src.l.length ≤ _; omega⟩)
      refine hnx.mono ?_
      intro e w1 hp
      unfold NextPost at hp
      rw [← hpr] at hp
      obtain ⟨e1, g', e2, e3, e4⟩ := hp
      have hk : Keeps (fun j => j = q ∨ j = g) w w1 := ⟨e4.os, e4.tape, e4.output, e4.size, e4.block⟩
      refine ⟨?_, ⟨g', e2, ?_, hk⟩, hpart w1 hk⟩
      · rw [e1]
        show Ending.returned (.pointer (some ⟨f.G, 0 + f.k * 4, none⟩)) = _
        rw [Nat.zero_add]
      · rw [map_st] at e3
        have e5 : WayAt w1 q 84 [] g' (⟨f.G, 0 + f.k * 4, 0⟩ :: ⟨f.B, f.o, f.k + 1⟩ :: σ'.map MF.st) := e3
        rw [Nat.zero_add] at e5
        exact e5
    · obtain ⟨g', e2, e3, e4⟩ := h1
      refine (clone_is x.t.s w1 (hS x hxm).1).mono ?_
      rintro e w2 ⟨rfl, hb⟩
      have hk2 : Keeps (fun j => j = q ∨ j = g) w w2 := e4.trans (Keeps.of_below (F := fun _ => False) hb (fun j hj => .inr hj)) (fun j hj => hj.elim)
      have hw1 := way_lt e3
      refine ⟨rfl, ⟨g', e2, way_kept e3 (Keeps.of_below (F := fun _ => False) hb (fun j hj => .inr hj)) (fun hj => hj) (fun hj => hj), hk2⟩, hpart w2 hk2⟩
    · obtain ⟨g', e2, e3, e4⟩ := h2
      refine (room_is x.t.l.length w2 (by have := (hS x hxm).2; omega)).mono ?_
      rintro e w3 ⟨ad', c', G', rfl, m1, m2, hb⟩
      have hk23 : Keeps (fun _ => False) w2 w3 := Keeps.of_below hb (fun j hj => .inr hj)
      have hk3 : Keeps (fun j => j = q ∨ j = g) w w3 := e4.trans hk23 (fun j hj => hj.elim)
      have hway3 : WayAt w3 q 84 [] g' (⟨f.G, f.k * 4, 0⟩ :: ⟨f.B, f.o, f.k + 1⟩ :: σ'.map MF.st) := way_kept e3 hk23 (fun hj => hj) (fun hj => hj)
      have hzq : ∀ j, (j = r ∨ j ∈ zblocks (f :: σ')) → j < w.heap.size ∧ ¬ (j = q ∨ j = g) := fun j hj => by
        rcases hj with rfl | hj
        · exact ⟨by omega, fun e => by rcases e with e | e; exact h.out.2.2.2.1 e; exact h.out.2.2.2.2 e⟩
        · have hj0 := hzb.mem_iff.1 hj
          exact ⟨h.lt j hj0, fun e => by rcases e with rfl | rfl; exact h.out.2.1 hj0; exact h.out.2.2.1 hj0⟩
      have hz3 : Zip w3 (f :: σ') := zip_same (S := fun j => j = r ∨ j ∈ zblocks (f :: σ')) (fun j hj => hk3.block j (hzq j hj).1 (hzq j hj).2) (.inl rfl) hro (fun j hj => .inr hj) hzp
      have hs2 : w.heap.size ≤ w2.heap.size := e4.size
      have hGlt : f.G < w.heap.size := h.lt _ hGz0
      obtain ⟨cur, c1, c2⟩ := hz3.1.row (by omega)
      have hcell : ∀ j, j < cur.size → ∃ u, w3.cell? ⟨f.G, j, none⟩ = some u := fun j hj => ⟨cur[j], cell_of_heap c1 (Array.getElem?_eq_getElem hj)⟩
      have hpush := zip_push hz3 hro hnd' (fun e => h.out.1 (hzb.mem_iff.1 e)) ht' m1 (fun hp => (m2 hp).1) (fun hp e => by have := (m2 hp).2; omega)
      refine ⟨ad', c', rfl, hpart w3 hk3, ⟨hcell _ (by omega), hcell _ (by omega), hcell _ (by omega), hcell _ (by omega), fun o => free_of_heap c1⟩, rfl, (fun j => j = q ∨ j = g' ∨ j ∈ zblocks (⟨f.G, f.k * 4, 0, x.t, .slice ad' x.t.l.length c', G', []⟩ :: { f with k := f.k + 1 } :: σ')), ⟨_, g', fun j => Iff.rfl, ?_, hpush, ?_, ?_, ?_, ?_, ?_, ?_, ?_, ?_⟩, ?_, ?_⟩
      · have hg'n : f.G ≠ g' := fun e => by
          rcases e2 with e2 | e2
          · exact (hzq f.G (.inr hGz)).2 (.inr (by rw [e, e2]))
          · omega
        have hqn : f.G ≠ q := fun e => (hzq f.G (.inr hGz)).2 (.inl e)
        have hk4 : Keeps (fun j => j = f.G) w3 (set4 w3 f.G (f.k * 4) (.int .i64 x.t.k) (.int .i64 x.t.n) (.string x.t.s) (.slice ad' x.t.l.length c')) := set4_keeps
        exact way_kept hway3 hk4 (fun e => hqn e.symm) (fun e => hg'n e.symm)
      · intro e he
        rw [List.getLast?_cons_cons] at he
        cases σ' with
        | nil =>
          simp at he
          subst he
          exact hro f rfl
        | cons a b => exact hro e (by rw [List.getLast?_cons_cons] at he ⊢; exact he)
      · obtain ⟨a, b1, b2⟩ := hla
        cases σ' with
        | nil =>
          simp at b1
          subst b1
          exact ⟨{ f with k := f.k + 1 }, by simp, b2⟩
        | cons e y => exact ⟨a, by rw [List.getLast?_cons_cons] at b1; rw [List.getLast?_cons_cons, List.getLast?_cons_cons]; exact b1, b2⟩
      · rw [zb_new]
        refine List.nodup_append.2 ⟨?_, hnd', ?_⟩
        · split <;> simp
        · intro a ha b hb he
          subst he
          split at ha
          · cases ha
          · rename_i hne2
            obtain rfl := List.mem_singleton.1 ha
            have := (m2 (by cases hl : x.t.l with | nil => rw [hl] at hne2; simp at hne2 | cons u v => simp)).2
            have := (hzq a (.inr hb)).1
            omega
      · have hout : ∀ j, (j = r ∨ j = q ∨ j = g') → j ∉ zblocks (⟨f.G, f.k * 4, 0, x.t, .slice ad' x.t.l.length c', G', []⟩ :: { f with k := f.k + 1 } :: σ') := fun j hj hm => by
          rw [zb_new, List.mem_append] at hm
          have hjw : j < w2.heap.size := by
            have := way_lt e3
            rcases hj with rfl | rfl | rfl
            · have := (hzq j (.inl rfl)).1; omega
            · exact this.1
            · exact this.2
          rcases hm with hm | hm
          · split at hm
            · cases hm
            · rename_i hne2
              obtain rfl := List.mem_singleton.1 hm
              have := (m2 (by cases hl : x.t.l with | nil => rw [hl] at hne2; simp at hne2 | cons u v => simp)).2
              omega
          · have h5 := hzb.mem_iff.1 hm
            rcases hj with rfl | rfl | rfl
            · exact h.out.1 h5
            · exact h.out.2.1 h5
            · rcases e2 with e2 | e2
              · rw [e2] at h5; exact h.out.2.2.1 h5
              · have := h.lt _ h5; omega
        refine ⟨hout r (.inl rfl), hout q (.inr (.inl rfl)), hout g' (.inr (.inr rfl)), h.out.2.2.2.1, fun e => ?_⟩
        rcases e2 with e2 | e2
        · exact h.out.2.2.2.2 (by rw [e, e2])
        · have := (hzq r (.inl rfl)).1; omega
      · intro j hj
        rw [zb_new, List.mem_append] at hj
        show j < (set4 w3 f.G (f.k * 4) _ _ _ _).heap.size
        rw [set4_size]
        have hs3 := hb.size
        rcases hj with hj | hj
        · split at hj
          · cases hj
          · rename_i hne2
            obtain rfl := List.mem_singleton.1 hj
            obtain ⟨⟨c3, d3, _⟩, _⟩ := m2 (by cases hl : x.t.l with | nil => rw [hl] at hne2; simp at hne2 | cons u v => simp)
            exact (Array.getElem?_eq_some_iff.1 d3).1
        · have := (hzq j (.inr hj)).1; omega
      · have h7 := congrArg List.tail htd
        rw [List.tail_cons, List.tail_drop] at h7
        exact h7
      · have := h.len
        simp at hln ⊢
        omega
      · intro e he
        rcases List.mem_cons.1 he with rfl | he
        · have := (hS x hxm).2; show x.t.l.length ≤ 900000; omega
        · rcases List.mem_cons.1 he with rfl | he
          · exact hszs f (by simp)
          · exact hszs e (by simp [he])
      · have hk4 : Keeps (fun j => j = f.G) w3 (set4 w3 f.G (f.k * 4) (.int .i64 x.t.k) (.int .i64 x.t.n) (.string x.t.s) (.slice ad' x.t.l.length c')) := set4_keeps
        exact (hk3.wide (G := F) (fun j hj => .inl ((h.F j).2 (by rcases hj with hj | hj; exact .inl hj; exact .inr (.inl hj))))).trans hk4 (fun j hj => .inl ((h.F j).2 (.inr (.inr (by rw [hj]; exact hGz0)))))
      · intro j hj
        rcases hj with rfl | rfl | hj
        · exact .inl ((h.F _).2 (.inl rfl))
        · rcases e2 with e2 | e2
          · exact .inl ((h.F _).2 (.inr (.inl e2)))
          · exact .inr e2
        · rw [zb_new, List.mem_append] at hj
          rcases hj with hj | hj
          · split at hj
            · cases hj
            · rename_i hne2
              obtain rfl := List.mem_singleton.1 hj
              have := (m2 (by cases hl : x.t.l with | nil => rw [hl] at hne2; simp at hne2 | cons u v => simp)).2
              right; omega
          · exact .inl ((h.F _).2 (.inr (.inr (hzb.mem_iff.1 hj))))

end Go.Proofs.Ytkidcchafdiofaa
