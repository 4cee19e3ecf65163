/- Terms that are being copied: what of them is made, and where the rest will stand. Conditions: none. -/
import Derived.Test.YtkidcchafdiofaaTermQ
namespace Go.Proofs.Ytkidcchafdiofaa
open Go Go.RowKit

mutual
/-- the blocks of all Args -/
def AT.blocks : AT → List Nat
  | .mk _ _ _ _ G _ l => (if l.isEmpty then [] else [G]) ++ ATs.blocks l
def ATs.blocks : List AT → List Nat
  | [] => []
  | t :: r => AT.blocks t ++ ATs.blocks r
end
theorem blocks_app (l m : List AT) : ATs.blocks (l ++ m) = ATs.blocks l ++ ATs.blocks m := by
  induction l with
  | nil => rfl
  | cons t r ih => rw [List.cons_append, ATs.blocks, ATs.blocks, ih, List.append_assoc]
mutual
theorem AT.ins_blocks : ∀ t : AT, t.ins (fun j => j ∈ t.blocks)
  | .mk _ _ _ _ G _ l => by
    refine ⟨fun hl => ?_, ATs.ins_mono (fun j hj => ?_) l (ATs.ins_blocks l)⟩
    · cases l with
      | nil => exact absurd rfl hl
      | cons a r => simp [AT.blocks]
    · simp only [AT.blocks, List.mem_append]; exact .inr hj
theorem ATs.ins_blocks : ∀ l : List AT, ATs.ins (fun j => j ∈ ATs.blocks l) l
  | [] => trivial
  | t :: r => ⟨AT.ins_mono (fun j hj => by simp only [ATs.blocks, List.mem_append]; exact .inl hj) t (AT.ins_blocks t), ATs.ins_mono (fun j hj => by simp only [ATs.blocks, List.mem_append]; exact .inr hj) r (ATs.ins_blocks r)⟩
end
theorem mem_app {w : World} {G : Nat} : ∀ (l : List AT) (off : Nat) (t : AT), ATs.mem w G l off → Head w G (off + l.length * 4) t → t.mem w → ATs.mem w G (l ++ [t]) off
  | [], off, t, _, h, hm => ⟨by simpa using h, hm, trivial⟩
  | a :: r, off, t, hl, h, hm => ⟨hl.1, hl.2.1, mem_app r (off + 4) t hl.2.2 (by rw [show off + 4 + r.length * 4 = off + (a :: r).length * 4 from by simp; omega]; exact h) hm⟩
theorem set_cell_off {w : World} {b i j : Nat} (h : j ≠ i) (v : Value) : (w.setCell ⟨b, i, none⟩ v).cell? ⟨b, j, none⟩ = w.cell? ⟨b, j, none⟩ := by
  simp only [World.cell?, World.setCell, Array.getElem?_modify, if_true]
  cases w.heap[b]? with
  | none => rfl
  | some o => cases o <;> simp [h.symm]
/-- what lies ahead of a store stays -/
theorem mem_store {w : World} {G p : Nat} {v : Value} : ∀ (l : List AT) (off : Nat), ATs.mem w G l off → off + l.length * 4 ≤ p → ATs.ins (fun j => j ≠ G) l → ATs.mem (w.setCell ⟨G, p, none⟩ v) G l off
  | [], _, _, _, _ => trivial
  | t :: r, off, hm, hp, hi => by
    obtain ⟨⟨h0, h1, h2, h3, h4⟩, ht, hr⟩ := hm
    rw [List.length_cons] at hp
    have hc : ∀ (j : Nat) (u : Value), j < p → w.cell? ⟨G, j, none⟩ = some u → (w.setCell ⟨G, p, none⟩ v).cell? ⟨G, j, none⟩ = some u := fun j u hj hu => by
      rw [set_cell_off (by omega)]; exact hu
    exact ⟨⟨h0.setCell _ _, hc _ _ (by omega) h1, hc _ _ (by omega) h2, hc _ _ (by omega) h3, hc _ _ (by omega) h4⟩, AT.mem_same (S := fun j => j ≠ G) (fun j hj => heap_set_ne hj _) t hi.1 ht, mem_store r (off + 4) hr (by omega) hi.2⟩

/-- a term that is being copied -/
structure MF where
  B : Nat
  o : Nat
  k : Nat
  src : AT
  sv : Value
  G : Nat
  done : List AT
def MF.rf (f : MF) : RF := ⟨f.B, f.o, f.k, f.sv, f.G, 0, f.src.l.length⟩
def MF.gf (f : MF) : GF := ⟨f.B, f.o, f.k, f.src⟩
def MF.st (f : MF) : St := ⟨f.B, f.o, f.k⟩
/-- what comes of it -/
def MF.at (f : MF) : AT := .mk f.src.k f.src.n f.src.s f.sv f.G 0 f.done
/-- its part, and those of its Args that are made -/
structure MOk (w : World) (f : MF) : Prop where
  pl : Plain w f.B
  c0 : w.cell? ⟨f.B, f.o, none⟩ = some (.int .i64 f.src.k)
  c1 : w.cell? ⟨f.B, f.o + 1, none⟩ = some (.int .i64 f.src.n)
  c2 : w.cell? ⟨f.B, f.o + 2, none⟩ = some (.string f.src.s)
  c3 : w.cell? ⟨f.B, f.o + 3, none⟩ = some f.sv
  sv : SvOk f.sv f.G 0 f.src.l.length
  row : 0 < f.src.l.length → ∃ cur, w.heap[f.G]? = some (.cells cur 27 (0, 0)) ∧ cur.size = f.src.l.length * 4
  mem : ATs.mem w f.G f.done 0
  er : ATs.erase f.done = ATs.erase (f.src.l.take f.done.length)
  le : f.done.length ≤ f.src.l.length
/-- the terms around the one that comes next -/
def ZB (w : World) : MF → List MF → Prop
  | _, [] => True
  | e, f :: σ => MOk w f ∧ f.done.length + 1 = f.k ∧ e.B = f.G ∧ e.o = f.done.length * 4 ∧ f.src.l[f.done.length]? = some e.src ∧ ZB w f σ
def Zip (w : World) : List MF → Prop
  | [] => True
  | f :: σ => MOk w f ∧ f.done.length = f.k ∧ ZB w f σ
def MF.fb (f : MF) : List Nat := if f.src.l.isEmpty then [] else [f.G]
def zblocks (σ : List MF) : List Nat := σ.flatMap fun f => f.fb ++ ATs.blocks f.done
/-- a term whose Args are all made is one of those of the term around it -/
def MF.add (f : MF) (t : AT) : MF := { f with done := f.done ++ [t] }
def mpop : List MF → List MF
  | [] => []
  | [f] => if f.src.l.length ≤ f.k then [] else [f]
  | f :: f2 :: σ => if f.src.l.length ≤ f.k then mpop (f2.add f.at :: σ) else f :: f2 :: σ
termination_by l => l.length

theorem mpop_rf : ∀ (n : Nat) (σ : List MF), σ.length ≤ n → (mpop σ).map MF.rf = popped (σ.map MF.rf)
  | _, [], _ => by simp [mpop, popped]
  | 0, _ :: _, h => by simp at h
  | n + 1, [f], _ => by
    rw [mpop, List.map_cons, popped]
    show _ = if f.src.l.length ≤ f.k then _ else _
    split <;> simp [popped]
  | n + 1, f :: f2 :: σ, h => by
    rw [mpop, List.map_cons, popped]
    show _ = if f.src.l.length ≤ f.k then _ else _
    split
    · rw [mpop_rf n _ (by simp at h ⊢; omega)]; rfl
    · rfl
theorem mpop_gf : ∀ (n : Nat) (σ : List MF), σ.length ≤ n → (mpop σ).map MF.gf = gpop (σ.map MF.gf)
  | _, [], _ => by simp [mpop, gpop]
  | 0, _ :: _, h => by simp at h
  | n + 1, [f], _ => by
    rw [mpop, List.map_cons, gpop]
    show _ = if f.src.l.length ≤ f.k then _ else _
    split <;> simp [gpop]
  | n + 1, f :: f2 :: σ, h => by
    rw [mpop, List.map_cons, gpop]
    show _ = if f.src.l.length ≤ f.k then _ else _
    split
    · rw [mpop_gf n _ (by simp at h ⊢; omega)]; rfl
    · rfl
theorem zip_full {w : World} {f : MF} (h : MOk w f) (hd : f.src.l.length ≤ f.done.length) : f.at.erase = f.src.erase ∧ f.at.mem w ∧ Head w f.B f.o f.at := by
  have hl : f.done.length = f.src.l.length := by have := h.le; omega
  refine ⟨?_, ⟨by rw [hl]; exact h.sv, h.mem⟩, h.pl, h.c0, h.c1, h.c2, h.c3⟩
  rw [MF.at, AT.erase, AT.erase_mk, h.er, hl, List.take_of_length_le (Nat.le_refl _)]
theorem zip_add {w : World} {f f2 : MF} {σ : List MF} (h : Zip w (f :: f2 :: σ)) (hd : f.src.l.length ≤ f.k) : Zip w (f2.add f.at :: σ) := by
  obtain ⟨h1, h2, h3, h4, h5, h6, h7, h8⟩ := h
  obtain ⟨e1, e2, e3⟩ := zip_full h1 (by omega)
  refine ⟨⟨h3.pl, h3.c0, h3.c1, h3.c2, h3.c3, h3.sv, h3.row, ?_, ?_, ?_⟩, by simp [MF.add]; omega, ?_⟩
  · have e4 : Head w f2.G (0 + f2.done.length * 4) f.at := by rw [Nat.zero_add, ← h6, ← h5]; exact e3
    exact mem_app f2.done 0 f.at h3.mem e4 e2
  · have hlt := (List.getElem?_eq_some_iff.1 h7).1
    rw [MF.add, erase_app, h3.er, List.length_append, List.length_cons, List.length_nil, Nat.zero_add, List.take_add_one, h7, erase_app]
    simp only [Option.toList_some, ATs.erase, e1]
  · have hlt := (List.getElem?_eq_some_iff.1 h7).1
    simp [MF.add]; omega
  · cases σ with
    | nil => trivial
    | cons g σ => exact h8
theorem zip_pop {w : World} : ∀ (n : Nat) (σ : List MF), σ.length ≤ n → Zip w σ → Zip w (mpop σ)
  | _, [], _, _ => by simp [mpop, Zip]
  | 0, _ :: _, h, _ => by simp at h
  | n + 1, [f], _, h => by
    rw [mpop]
    split
    · trivial
    · exact h
  | n + 1, f :: f2 :: σ, h, hz => by
    rw [mpop]
    split
    · exact zip_pop n _ (by simp at h ⊢; omega) (zip_add hz (by assumption))
    · exact hz
theorem blocks_at (f : MF) (hl : f.done.length = f.src.l.length) : f.at.blocks = f.fb ++ ATs.blocks f.done := by
  have he : f.done.isEmpty = f.src.l.isEmpty := by
    cases hd : f.done <;> cases hs : f.src.l <;> simp_all
  rw [MF.at, AT.blocks, MF.fb, he]
theorem zb_add {f f2 : MF} {σ : List MF} (hl : f.done.length = f.src.l.length) : (zblocks (f2.add f.at :: σ)).Perm (zblocks (f :: f2 :: σ)) := by
  have h1 : (f2.add f.at).fb = f2.fb := rfl
  simp only [zblocks, List.flatMap_cons, h1]
  rw [show (f2.add f.at).done = f2.done ++ [f.at] from rfl, blocks_app, ATs.blocks, ATs.blocks, List.append_nil, blocks_at f hl]
  generalize f.fb ++ ATs.blocks f.done = A
  generalize ATs.blocks f2.done = C
  generalize List.flatMap (fun f => f.fb ++ ATs.blocks f.done) σ = D
  rw [← List.append_assoc, ← List.append_assoc, ← List.append_assoc]
  refine List.Perm.append_right D ?_
  rw [List.append_assoc A]
  exact List.perm_append_comm
theorem zb_pop {w : World} : ∀ (n : Nat) (σ : List MF), σ.length ≤ n → Zip w σ → mpop σ ≠ [] → (zblocks (mpop σ)).Perm (zblocks σ)
  | _, [], _, _, h => by simp [mpop] at h
  | 0, _ :: _, h, _, _ => by simp at h
  | n + 1, [f], _, _, hne => by
    rw [mpop] at hne ⊢
    split
    · rename_i h; rw [if_pos h] at hne; exact absurd rfl hne
    · exact List.Perm.refl _
  | n + 1, f :: f2 :: σ, h, hz, hne => by
    rw [mpop] at hne ⊢
    split
    · rename_i hd
      rw [if_pos hd] at hne
      have hl : f.done.length = f.src.l.length := by have := hz.1.le; have := hz.2.1; omega
      exact (zb_pop n _ (by simp at h ⊢; omega) (zip_add hz hd) hne).trans (zb_add hl)
    · exact List.Perm.refl _

end Go.Proofs.Ytkidcchafdiofaa
