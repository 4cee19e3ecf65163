/- Terms that are being copied: one part more, and the end. Conditions: none. -/
import Derived.Test.YtkidcchafdiofaaTermR
namespace Go.Proofs.Ytkidcchafdiofaa
open Go Go.RowKit

theorem done_in {w : World} {f : MF} (h : MOk w f) (hd : f.done ≠ []) : f.G ∈ f.fb := by
  have h1 := h.le
  have h2 : 0 < f.done.length := List.length_pos_iff.2 hd
  unfold MF.fb
  cases hs : f.src.l with
  | nil => rw [hs] at h1; simp only [List.length_nil] at h1; omega
  | cons a r => simp
theorem pos_in {f : MF} (h : 0 < f.src.l.length) : f.G ∈ f.fb := by
  unfold MF.fb
  cases hs : f.src.l with
  | nil => rw [hs] at h; simp at h
  | cons a r => simp
theorem mok_same {S : Nat → Prop} {w w' : World} (h : ∀ j, S j → w'.heap[j]? = w.heap[j]?) {f : MF} (hB : S f.B) (hG : ∀ j ∈ f.fb, S j) (hd : ∀ j ∈ ATs.blocks f.done, S j) (hm : MOk w f) : MOk w' f := by
  have hc := h _ hB
  refine ⟨hm.pl.same hc, (World.cell?_of_block hc).trans hm.c0, (World.cell?_of_block hc).trans hm.c1, (World.cell?_of_block hc).trans hm.c2, (World.cell?_of_block hc).trans hm.c3, hm.sv, fun hp => ?_, ?_, hm.er, hm.le⟩
  · obtain ⟨cur, h1, h2⟩ := hm.row hp
    exact ⟨cur, (h _ (hG _ (pos_in hp))).trans h1, h2⟩
  · by_cases hn : f.done = []
    · rw [hn]; trivial
    · exact ATs.mem_same h f.done 0 f.G (hG _ (done_in hm hn)) (ATs.ins_mono (fun j hj => hd j hj) _ (ATs.ins_blocks f.done)) hm.mem
/-- the last frame is the root's, at block r -/
def RootAt (r : Nat) (σ : List MF) : Prop := ∀ f, σ.getLast? = some f → f.B = r ∧ f.o = 0
theorem zb_same {S : Nat → Prop} {w w' : World} {r : Nat} (h : ∀ j, S j → w'.heap[j]? = w.heap[j]?) (hr : S r) : ∀ (e : MF) (σ : List MF), RootAt r (e :: σ) → (∀ j ∈ zblocks σ, S j) → ZB w e σ → ZB w' e σ
  | _, [], _, _, _ => trivial
  | e, f :: σ, ho, hz, hb => by
    obtain ⟨h3, h4, h5, h6, h7, h8⟩ := hb
    have hz1 : ∀ j ∈ f.fb, S j := fun j hj => hz j (by simp only [zblocks, List.flatMap_cons, List.mem_append]; exact .inl (.inl hj))
    have hz2 : ∀ j ∈ ATs.blocks f.done, S j := fun j hj => hz j (by simp only [zblocks, List.flatMap_cons, List.mem_append]; exact .inl (.inr hj))
    have hz3 : ∀ j ∈ zblocks σ, S j := fun j hj => hz j (by unfold zblocks at hj ⊢; simp only [List.flatMap_cons, List.mem_append]; exact .inr hj)
    have ho2 : RootAt r (f :: σ) := fun g hg => ho g (by rw [List.getLast?_cons_cons]; exact hg)
    have hB : S f.B := by
      cases σ with
      | nil => rw [(ho2 f rfl).1]; exact hr
      | cons g σ =>
        obtain ⟨_, _, g5, _, g7, _⟩ := h8
        rw [g5]
        exact hz3 _ (by simp only [zblocks, List.flatMap_cons, List.mem_append]; exact .inl (.inl (pos_in (by have := (List.getElem?_eq_some_iff.1 g7).1; omega))))
    exact ⟨mok_same h hB hz1 hz2 h3, h4, h5, h6, h7, zb_same h hr f σ ho2 hz3 h8⟩
theorem zip_same {S : Nat → Prop} {w w' : World} {r : Nat} (h : ∀ j, S j → w'.heap[j]? = w.heap[j]?) (hr : S r) {σ : List MF} (ho : RootAt r σ) (hz : ∀ j ∈ zblocks σ, S j) (hb : Zip w σ) : Zip w' σ := by
  cases σ with
  | nil => trivial
  | cons f σ =>
    obtain ⟨h1, h2, h3⟩ := hb
    have hz3 : ∀ j ∈ zblocks σ, S j := fun j hj => hz j (by unfold zblocks at hj ⊢; simp only [List.flatMap_cons, List.mem_append]; exact .inr hj)
    have hB : S f.B := by
      cases σ with
      | nil => rw [(ho f rfl).1]; exact hr
      | cons g σ =>
        obtain ⟨_, _, g5, _, g7, _⟩ := h3
        rw [g5]
        exact hz3 _ (by simp only [zblocks, List.flatMap_cons, List.mem_append]; exact .inl (.inl (pos_in (by have := (List.getElem?_eq_some_iff.1 g7).1; omega))))
    exact ⟨mok_same h hB (fun j hj => hz j (by simp only [zblocks, List.flatMap_cons, List.mem_append]; exact .inl (.inl hj))) (fun j hj => hz j (by simp only [zblocks, List.flatMap_cons, List.mem_append]; exact .inl (.inr hj))) h1, h2, zb_same h hr f σ ho hz3 h3⟩

/-- four cells are written -/
def set4 (w : World) (G p : Nat) (a b c d : Value) : World := (((w.setCell ⟨G, p, none⟩ a).setCell ⟨G, p + 1, none⟩ b).setCell ⟨G, p + 2, none⟩ c).setCell ⟨G, p + 3, none⟩ d
theorem set4_ne {w : World} {G p k : Nat} {a b c d : Value} (hk : k ≠ G) : (set4 w G p a b c d).heap[k]? = w.heap[k]? := by
  unfold set4
  rw [heap_set_ne hk, heap_set_ne hk, heap_set_ne hk, heap_set_ne hk]
theorem set4_row {w : World} {G p : Nat} {a b c d : Value} {cur : Array Value} {T : TypeId} (h : w.heap[G]? = some (.cells cur T (0, 0))) (hp : p + 4 ≤ cur.size) :
    ∃ cur', (set4 w G p a b c d).heap[G]? = some (.cells cur' T (0, 0)) ∧ cur'.size = cur.size ∧ cur'[p]? = some a ∧ cur'[p + 1]? = some b ∧ cur'[p + 2]? = some c ∧ cur'[p + 3]? = some d := by
  refine ⟨_, heap_set (heap_set (heap_set (heap_set h a) b) c) d, by simp, ?_, ?_, ?_, ?_⟩
  all_goals
    simp [Array.getElem?_setIfInBounds]
    try omega
theorem mem_set4 {w : World} {G p : Nat} {a b c d : Value} (l : List AT) (hm : ATs.mem w G l 0) (hp : l.length * 4 ≤ p) (hi : ATs.ins (fun j => j ≠ G) l) : ATs.mem (set4 w G p a b c d) G l 0 :=
  mem_store l 0 (mem_store l 0 (mem_store l 0 (mem_store l 0 hm (by omega) hi) (by omega) hi) (by omega) hi) (by omega) hi

/-- one part more is made -/
theorem zip_push {w : World} {r G' : Nat} {f : MF} {σ : List MF} {x : AT} {sv' : Value} (hz : Zip w (f :: σ)) (ho : RootAt r (f :: σ)) (hnd : (zblocks (f :: σ)).Nodup) (hr : r ∉ zblocks (f :: σ)) (hx : f.src.l[f.k]? = some x) (hsv : SvOk sv' G' 0 x.l.length)
    (hrow : 0 < x.l.length → ∃ cur, w.heap[G']? = some (.cells cur 27 (0, 0)) ∧ cur.size = x.l.length * 4) (hG : 0 < x.l.length → G' ≠ f.G) :
    Zip (set4 w f.G (f.k * 4) (.int .i64 x.k) (.int .i64 x.n) (.string x.s) sv') (⟨f.G, f.k * 4, 0, x, sv', G', []⟩ :: { f with k := f.k + 1 } :: σ) := by
  obtain ⟨h1, h2, h3⟩ := hz
  have hlt := (List.getElem?_eq_some_iff.1 hx).1
  obtain ⟨cur, r1, r2⟩ := h1.row (by omega)
  obtain ⟨cur', s1, s2, q0, q1, q2, q3⟩ := set4_row (a := .int .i64 x.k) (b := .int .i64 x.n) (c := .string x.s) (d := sv') r1 (p := f.k * 4) (by omega)
  have hfG : f.G ∈ f.fb := pos_in (by omega)
  have hz1 : zblocks (f :: σ) = f.fb ++ ATs.blocks f.done ++ zblocks σ := by simp [zblocks]
  rw [hz1] at hnd hr
  have hfb : f.fb = [f.G] := by
    unfold MF.fb at hfG ⊢
    split
    · rename_i h; rw [if_pos h] at hfG; cases hfG
    · rfl
  rw [hfb] at hnd hr
  simp only [List.mem_append, not_or, List.mem_singleton] at hr
  have hn1 : f.G ∉ ATs.blocks f.done ∧ f.G ∉ zblocks σ := by
    rw [List.append_assoc, List.singleton_append, List.nodup_cons, List.mem_append, not_or] at hnd
    exact hnd.1
  have hB : f.B ≠ f.G := by
    cases σ with
    | nil => rw [(ho f rfl).1]; exact hr.1.1
    | cons g σ =>
      obtain ⟨_, _, g5, _, g7, _⟩ := h3
      rw [g5]
      intro he
      exact hn1.2 (by rw [← he]; simp only [zblocks, List.flatMap_cons, List.mem_append]; exact .inl (.inl (pos_in (by have := (List.getElem?_eq_some_iff.1 g7).1; omega))))
  have hcB : ∀ o, (set4 w f.G (f.k * 4) (.int .i64 x.k) (.int .i64 x.n) (.string x.s) sv').cell? ⟨f.B, o, none⟩ = w.cell? ⟨f.B, o, none⟩ := fun o => World.cell?_of_block (set4_ne hB)
  have ho2 : RootAt r ({ f with k := f.k + 1 } :: σ) := fun g hg => by
    cases σ with
    | nil =>
      simp at hg
      subst hg
      exact ho f rfl
    | cons e σ => exact ho g (by rw [List.getLast?_cons_cons] at hg ⊢; exact hg)
  refine ⟨⟨⟨_, _, s1⟩, cell_of_heap s1 q0, cell_of_heap s1 q1, cell_of_heap s1 q2, cell_of_heap s1 q3, hsv, fun hp => ?_, trivial, rfl, Nat.zero_le _⟩, rfl, ⟨h1.pl.same (set4_ne hB), (hcB _).trans h1.c0, (hcB _).trans h1.c1, (hcB _).trans h1.c2, (hcB _).trans h1.c3, h1.sv, fun _ => ⟨cur', s1, by rw [s2, r2]⟩, ?_, h1.er, h1.le⟩, ?_, rfl, ?_, ?_, ?_⟩
  · obtain ⟨c, t1, t2⟩ := hrow hp
    exact ⟨c, (set4_ne (hG hp)).trans t1, t2⟩
  · exact mem_set4 f.done h1.mem (by omega) (ATs.ins_mono (S' := fun j => j ≠ f.G) (fun j hj he => hn1.1 (by rw [← he]; exact hj)) _ (ATs.ins_blocks f.done))
  · show f.done.length + 1 = f.k + 1; omega
  · show f.k * 4 = f.done.length * 4; rw [h2]
  · show f.src.l[f.done.length]? = some x; rw [h2]; exact hx
  · have hb2 : ZB w { f with k := f.k + 1 } σ := by
      cases σ with
      | nil => trivial
      | cons g σ => exact h3
    exact zb_same (S := fun j => j ≠ f.G) (fun j hj => set4_ne hj) (fun h => hr.1.1 h) _ σ ho2 (fun j hj he => hn1.2 (by rw [← he]; exact hj)) hb2

/-- the root, when nothing is left -/
def mroot : List MF → Option MF
  | [] => none
  | [f] => some f
  | f :: f2 :: σ => mroot (f2.add f.at :: σ)
termination_by l => l.length
theorem zip_root {w : World} {r : Nat} : ∀ (n : Nat) (σ : List MF), σ.length ≤ n → σ ≠ [] → Zip w σ → RootAt r σ → (∀ f ∈ σ, f.src.l.length ≤ f.k) → ∃ f g, σ.getLast? = some g ∧ f.src = g.src ∧ f.sv = g.sv ∧ f.G = g.G ∧ f.B = r ∧ MOk w f ∧ f.done.length = f.src.l.length ∧ (f.fb ++ ATs.blocks f.done).Perm (zblocks σ)
  | _, [], _, h, _, _, _ => absurd rfl h
  | 0, _ :: _, h, _, _, _, _ => by simp at h
  | n + 1, [f], _, _, hz, ho, hk => by
    have h1 := hk f (by simp)
    have h2 := hz.2.1
    have h3 := hz.1.le
    exact ⟨f, f, rfl, rfl, rfl, rfl, (ho f rfl).1, hz.1, by omega, by simp [zblocks]⟩
  | n + 1, f :: f2 :: σ, h, _, hz, ho, hk => by
    have hkf := hk f (by simp)
    have hl : f.done.length = f.src.l.length := by have := hz.1.le; have := hz.2.1; omega
    have ho2 : RootAt r (f2.add f.at :: σ) := fun g hg => by
      cases σ with
      | nil =>
        simp at hg
        subst hg
        exact ho f2 (by simp)
      | cons e σ => exact ho g (by rw [List.getLast?_cons_cons, List.getLast?_cons_cons]; rw [List.getLast?_cons_cons] at hg; exact hg)
    obtain ⟨a, b, hb, c⟩ := zip_root n (f2.add f.at :: σ) (by simp at h ⊢; omega) (by simp) (zip_add hz hkf) ho2 (fun g hg => by
      rcases List.mem_cons.1 hg with rfl | hg
      · exact hk f2 (by simp)
      · exact hk g (by simp [hg]))
    obtain ⟨c1, c2, c3, c4, c5, c6, c7⟩ := c
    cases σ with
    | nil =>
      simp at hb
      subst hb
      exact ⟨a, f2, by simp, c1, c2, c3, c4, c5, c6, c7.trans (zb_add hl)⟩
    | cons e σ => exact ⟨a, b, by rw [List.getLast?_cons_cons, List.getLast?_cons_cons]; rw [List.getLast?_cons_cons] at hb; exact hb, c1, c2, c3, c4, c5, c6, c7.trans (zb_add hl)⟩

end Go.Proofs.Ytkidcchafdiofaa
