/- Joined texts: ReadL ReadM ReadN. Conditions: as each states. -/
import Derived.Test.YtkplokfcjjcpcaaGreatDoorRk22
import Derived.Deep.RegionHeld3
import Derived.Deep.DrawnRows
section
namespace Go.Proofs.YtkplokfcjjcpcaaGreatDoor
open Go Go.RowKit Go.Maps Trm
theorem MemX.on {B : Nat} {w w' : World} {R : Nat} {c : Rc} {fr : List FrA} {so : AT} {vs : List (ByteArray × Int)} {E : List Nat} (h : MemX B w R c fr so vs E) (b : Below w.heap.size w w') : MemX B w' R c fr so vs E :=
  h.keep (F := fun _ => False) (keeps_below b) (fun _ hj => hj.elim) (h.rd.on b) rfl rfl rfl rfl rfl rfl rfl
theorem MemX.fewer {B : Nat} {w : World} {R : Nat} {c : Rc} {fr : List FrA} {so : AT} {vs : List (ByteArray × Int)} {E E' : List Nat} (h : MemX B w R c fr so vs E) (hE : E'.Sublist E) : MemX B w R c fr so vs E' := by
  refine h.other (F := fun _ => False) (Keeps.refl _ w) (fun _ hj => hj.elim) h.rd rfl rfl rfl h.k h.n h.s h.sv h.som ?_ hE
  refine AT.ins_mono (fun j hj => ⟨hj.1, fun hm => hj.2 ?_⟩) so h.soi
  rcases mem_ownL.1 hm with h1 | h1 | h1 | h1 | h1 | h1
  · exact mem_ownL.2 (.inl h1)
  · exact mem_ownL.2 (.inr (.inl h1))
  · exact mem_ownL.2 (.inr (.inr (.inl h1)))
  · exact mem_ownL.2 (.inr (.inr (.inr (.inl h1))))
  · exact mem_ownL.2 (.inr (.inr (.inr (.inr (.inl h1)))))
  · exact mem_ownL.2 (.inr (.inr (.inr (.inr (.inr (hE.subset h1))))))
theorem ownL_cons (R : Nat) (c : Rc) (fr : List FrA) (g : Nat) (E : List Nat) : (ownL R c fr (g :: E)).Perm (g :: ownL R c fr E) := by
  have h : ownL R c fr (g :: E) = (R :: c.nb :: (c.nv.ownBlock.toList ++ (c.wv.ownBlock.toList ++ fr.flatMap (fun f => f.k.own)))) ++ g :: E := by simp [ownL]
  have h2 : ownL R c fr E = (R :: c.nb :: (c.nv.ownBlock.toList ++ (c.wv.ownBlock.toList ++ fr.flatMap (fun f => f.k.own)))) ++ E := by simp [ownL]
  rw [h, h2]
  exact List.perm_middle
theorem MemX.more {B : Nat} {w w' : World} {R : Nat} {c : Rc} {fr : List FrA} {so : AT} {vs : List (ByteArray × Int)} {E : List Nat} {g : Nat} (h : MemX B w R c fr so vs E) (b : Below w.heap.size w w') (hB : B ≤ w.heap.size) (hg : w.heap.size ≤ g) (hg' : g < w'.heap.size) : MemX B w' R c fr so vs (g :: E) := by
  have h1 := h.on b
  have hm : ∀ j, j ∈ ownL R c fr (g :: E) ↔ j = g ∨ j ∈ ownL R c fr E := fun j => by rw [(ownL_cons R c fr g E).mem_iff, List.mem_cons]
  have hS : ∀ j, Still w (ownL R c fr E) j → Still w' (ownL R c fr (g :: E)) j := fun j hj => ⟨Nat.lt_of_lt_of_le hj.1 b.size, fun hj2 => by
    rcases (hm j).1 hj2 with h2 | h2
    · have := hj.1; omega
    · exact hj.2 h2⟩
  have hk := keeps_below (F := fun _ => False) b
  refine ⟨h1.rd, h1.k, h1.n, h1.s, h1.sv, h1.wait, h1.nums, h1.names, ?_, fun j hj => ?_, fun f hf => KtA.mem_keeps (h.frs f hf) hk (fun _ _ h => h) hS (fun _ _ h => h), h1.som, AT.ins_mono hS so h.soi⟩
  · rw [(ownL_cons R c fr g E).nodup_iff]
    exact List.nodup_cons.2 ⟨fun hj => by have := (h.low g hj).2; omega, h.nodup⟩
  · rcases (hm j).1 hj with rfl | h2
    · exact ⟨by omega, hg'⟩
    · exact h1.low j h2
theorem MemX.push {B : Nat} {w w' : World} {R : Nat} {c : Rc} {fr : List FrA} {so : AT} {vs : List (ByteArray × Int)} {m : Int} {k : KtA} {v : Value} (h : MemX B w R c fr so vs k.own) (hk : k.mem B w R (Still w (ownL R c fr k.own))) (hB : B ≤ w.heap.size)
    (ho : w'.ownsRow B 225 2 v (fr.length + 1) (frCells R fr ++ [.int .i64 m, k.val R])) (hat : c.wv.ownBlock = v.ownBlock ∨ ∃ g, v.ownBlock = some g ∧ w.heap.size ≤ g) (hK : Keeps (fun j => j = R ∨ c.wv.ownBlock = some j) w w') (hd : Rd w' R { c with wv := v, bg := false }) :
    MemX B w' R { c with wv := v, bg := false } (⟨m, k⟩ :: fr) so vs [] := by
  have hm : ∀ j, j ∈ ownL R { c with wv := v, bg := false } (⟨m, k⟩ :: fr) [] ↔ j = R ∨ j = c.nb ∨ c.nv.ownBlock = some j ∨ v.ownBlock = some j ∨ (∃ f ∈ fr, j ∈ f.k.own) ∨ j ∈ k.own := fun j => by
    rw [mem_ownL]
    simp only [List.mem_cons, exists_eq_or_imp, List.not_mem_nil, or_false]
    grind
  have hO : ∀ j, j ∈ ownL R { c with wv := v, bg := false } (⟨m, k⟩ :: fr) [] → j ∈ ownL R c fr k.own ∨ (w.heap.size ≤ j ∧ v.ownBlock = some j) := fun j hj => by
    rcases (hm j).1 hj with h1 | h1 | h1 | h1 | h1 | h1
    · exact .inl (mem_ownL.2 (.inl h1))
    · exact .inl (mem_ownL.2 (.inr (.inl h1)))
    · exact .inl (mem_ownL.2 (.inr (.inr (.inl h1))))
    · rcases hat with h2 | ⟨g, h2, h3⟩
      · exact .inl (mem_ownL.2 (.inr (.inr (.inr (.inl (h2.trans h1))))))
      · rw [h2] at h1
        cases h1
        exact .inr ⟨h3, h2⟩
    · exact .inl (mem_ownL.2 (.inr (.inr (.inr (.inr (.inl h1))))))
    · exact .inl (mem_ownL.2 (.inr (.inr (.inr (.inr (.inr h1))))))
  have hnd := h.nodup
  have hlt := h.low
  have hS : ∀ j, Still w (ownL R c fr k.own) j → ¬ (j = R ∨ c.wv.ownBlock = some j) := fun j hj e => by
    rcases e with e | e
    · exact hj.2 (mem_ownL.2 (.inl e))
    · exact hj.2 (mem_ownL.2 (.inr (.inr (.inr (.inl e)))))
  have hS' : ∀ j, Still w (ownL R c fr k.own) j → Still w' (ownL R { c with wv := v, bg := false } (⟨m, k⟩ :: fr) []) j := fun j hj => ⟨Nat.lt_of_lt_of_le hj.1 hK.size, fun hm => by
    rcases hO j hm with h1 | h1
    · exact hj.2 h1
    · have := hj.1; omega⟩
  have hnd2 : (R :: c.nb :: (c.nv.ownBlock.toList ++ (c.wv.ownBlock.toList ++ (fr.flatMap (fun f => f.k.own) ++ k.own)))).Nodup := hnd
  have hw : ∀ j, j ∈ c.nb :: (c.nv.ownBlock.toList ++ (fr.flatMap (fun f => f.k.own) ++ k.own)) → ¬ (j = R ∨ c.wv.ownBlock = some j) := fun j hj e => by
    rcases e with e | e
    · subst e
      refine (List.nodup_cons.1 hnd2).1 ?_
      simp only [List.mem_cons, List.mem_append] at hj ⊢
      grind
    · have h3 : (c.wv.ownBlock.toList ++ (c.nb :: (c.nv.ownBlock.toList ++ (fr.flatMap (fun f => f.k.own) ++ k.own)))).Nodup := by
        have h4 := (List.nodup_cons.1 hnd2).2
        refine (List.Perm.nodup_iff ?_).1 h4
        exact ((List.perm_append_comm_assoc _ _ _).cons _).trans List.perm_middle.symm
      exact (List.nodup_append.1 h3).2.2 j (by simp [e]) j hj rfl
  obtain ⟨mm, D, n1, n2, n3⟩ := h.nums
  refine ⟨hd, h.k, h.n, h.s, h.sv, ?_, ⟨mm, D, ?_, n2, n3⟩, ?_, ?_, fun j hj => ?_, fun f hf => ?_, AT.mem_keeps hK h.soi hS h.som, AT.ins_mono hS' so h.soi⟩
  · exact ho
  · obtain ⟨es, clock, hb, r⟩ := n1
    exact ⟨es, clock, hK.heap hb (hw _ (by simp)), r⟩
  · exact row_keeps h.names hK fun g hg => hw g (by simp [hg])
  · have h4 : (R :: c.nb :: (c.wv.ownBlock.toList ++ (c.nv.ownBlock.toList ++ (k.own ++ fr.flatMap (fun f => f.k.own))))).Nodup := by
      refine (List.Perm.nodup_iff ?_).1 hnd2
      refine ((List.perm_append_comm_assoc _ _ _).trans ?_).cons _ |>.cons _
      exact ((List.perm_append_comm (l₁ := fr.flatMap (fun f => f.k.own)) (l₂ := k.own)).append_left _).append_left _
    have h5 : (R :: c.nb :: (v.ownBlock.toList ++ (c.nv.ownBlock.toList ++ (k.own ++ fr.flatMap (fun f => f.k.own))))).Nodup := by
      refine nodup_swap h4 ?_
      rcases hat with h2 | ⟨g, h2, h3⟩
      · exact .inl h2.symm
      · refine .inr ⟨g, h2, fun hg => ?_⟩
        have : g ∈ ownL R c fr k.own := by
          simp only [ownL, List.mem_cons, List.mem_append] at hg ⊢
          grind
        have := (hlt g this).2
        omega
    have h6 : ownL R { c with wv := v, bg := false } (⟨m, k⟩ :: fr) [] = R :: c.nb :: (c.nv.ownBlock.toList ++ (v.ownBlock.toList ++ (k.own ++ fr.flatMap (fun f => f.k.own)))) := by simp [ownL]
    rw [h6]
    refine (List.Perm.nodup_iff ?_).1 h5
    exact ((List.perm_append_comm_assoc _ _ _).cons _).cons _
  · rcases hO j hj with h1 | ⟨h1, h2⟩
    · exact ⟨(hlt j h1).1, Nat.lt_of_lt_of_le (hlt j h1).2 hK.size⟩
    · exact ⟨by omega, (ho.lt j h2).2⟩
  · rcases List.mem_cons.1 hf with rfl | hf
    · exact KtA.mem_keeps hk hK hS hS' fun j hj => hw j (by simp [hj])
    · exact KtA.mem_keeps (h.frs f hf) hK hS hS' fun j hj => hw j (by simp only [List.mem_cons, List.mem_append, List.mem_flatMap]; exact .inr (.inr (.inl ⟨f, hf, hj⟩)))
theorem MemX.pop {B : Nat} {w : World} {R : Nat} {c : Rc} {f : FrA} {fr : List FrA} {so : AT} {vs : List (ByteArray × Int)} (h : MemX B w R c (f :: fr) so vs []) :
    ∃ g cap, c.wv = .slice (some ⟨g, 0, none⟩) (fr.length + 1) cap ∧ fr.length + 1 ≤ cap ∧ cap ≤ 9223372036854775807 ∧ g < w.heap.size ∧ g ≠ R ∧ w.cell? ⟨g, fr.length * 2, none⟩ = some (.int .i64 f.most) ∧ w.cell? ⟨g, fr.length * 2 + 1, none⟩ = some (f.k.val R) ∧
      MemX B (w.setCell ⟨R, 7, none⟩ (.slice (some ⟨g, 0, none⟩) fr.length cap)) R { c with wv := .slice (some ⟨g, 0, none⟩) fr.length cap } fr so vs f.k.own ∧
      f.k.mem B (w.setCell ⟨R, 7, none⟩ (.slice (some ⟨g, 0, none⟩) fr.length cap)) R (Still (w.setCell ⟨R, 7, none⟩ (.slice (some ⟨g, 0, none⟩) fr.length cap)) (ownL R { c with wv := .slice (some ⟨g, 0, none⟩) fr.length cap } fr f.k.own)) := by
  obtain ⟨h0, ⟨h1, h2⟩ | ⟨g, cap, cur, hv, h2, h3, h4, h5, h6, h7⟩⟩ := h.wait
  · simp at h2
  · have hlen := frCells_len R fr
    have hget : ∀ j, j < (fr.length + 1) * 2 → cur[j]? = (frCells R (f :: fr))[j]? := fun j hj => by
      rw [← h7, List.getElem?_take, if_pos (by simpa using hj)]
      simp
    have hgR : g ≠ R := fun e => h.apart.2.2.2.1 (by rw [hv, e]; rfl)
    have hO : ∀ d : Rc, d.nb = c.nb → d.nv = c.nv → d.wv.ownBlock = c.wv.ownBlock → (ownL R d fr f.k.own).Perm (ownL R c (f :: fr) []) := fun d e1 e2 e3 => by
      unfold ownL
      rw [e1, e2, e3]
      refine (((List.Perm.append_left _ (List.Perm.append_left _ ?_))).cons _).cons _
      rw [List.append_nil, List.flatMap_cons]
      exact List.perm_append_comm
    have hO2 := hO { c with wv := .slice (some ⟨g, 0, none⟩) fr.length cap } rfl rfl (by rw [hv]; rfl)
    have hk : Keeps (fun j => j = R) w (w.setCell ⟨R, 7, none⟩ (.slice (some ⟨g, 0, none⟩) fr.length cap)) := (Keeps.refl (fun j => j = R) w).setCell (p := ⟨R, 7, none⟩) (.inl rfl) _
    have hS : ∀ j, Still w (ownL R c (f :: fr) []) j → ¬ j = R := fun j hj e => hj.2 (mem_ownL.2 (.inl e))
    have hS' : ∀ j, Still w (ownL R c (f :: fr) []) j → Still (w.setCell ⟨R, 7, none⟩ (.slice (some ⟨g, 0, none⟩) fr.length cap)) (ownL R { c with wv := .slice (some ⟨g, 0, none⟩) fr.length cap } fr f.k.own) j := fun j hj => ⟨Nat.lt_of_lt_of_le hj.1 hk.size, fun hm => hj.2 (hO2.mem_iff.1 hm)⟩
    have hap := h.apart
    obtain ⟨mm, D, n1, n2, n3⟩ := h.nums
    refine ⟨g, cap, hv, by simpa using h4, by unfold maxLen at h5; omega, heap_lt h3, hgR, cell_of_heap h3 ?_, cell_of_heap h3 ?_, ⟨h.rd.set 7 _ rfl, h.k, h.n, h.s, h.sv, ?_, ⟨mm, D, ?_, n2, n3⟩, ?_, ?_, fun j hj => ?_, fun f' hf' => ?_, AT.mem_keeps hk h.soi hS h.som, AT.ins_mono hS' so h.soi⟩, ?_⟩
    · rw [hget _ (by omega), frCells, List.getElem?_append_right (by omega), hlen]; simp
    · rw [hget _ (by omega), frCells, List.getElem?_append_right (by omega), hlen, show fr.length * 2 + 1 - fr.length * 2 = 1 from by omega]; simp
    · refine ⟨frCells_len R fr, .inr ⟨g, cap, cur, rfl, h2, (heap_set_ne hgR _).trans h3, by simp at h4; omega, h5, h6, ?_⟩⟩
      have := congrArg (List.take (fr.length * 2)) h7
      rw [List.take_take, frCells, List.take_left' hlen] at this
      rw [← this]
      congr 1
      simp
    · obtain ⟨es, clock, hb, r⟩ := n1
      exact ⟨es, clock, hk.heap hb hap.1, r⟩
    · exact row_keeps h.names hk fun g' hg' e => hap.2.1 (by rw [hg', e])
    · exact hO2.symm.nodup h.nodup
    · have h8 := h.low j (hO2.mem_iff.1 hj)
      exact ⟨h8.1, Nat.lt_of_lt_of_le h8.2 hk.size⟩
    · exact KtA.mem_keeps (h.frs f' (by simp [hf'])) hk hS hS' fun j hj => hap.2.2.2.2 f' (by simp [hf']) j hj
    · exact KtA.mem_keeps (h.frs f (by simp)) hk hS hS' fun j hj => hap.2.2.2.2 f (by simp) j hj
end Go.Proofs.YtkplokfcjjcpcaaGreatDoor
end
section
namespace Go.Proofs.YtkplokfcjjcpcaaGreatDoor
open Go Go.RowKit Go.Maps Trm
attribute [local go_sem ↓] Go.wp_at_zero Go.wp_at_succ
structure Ctx (w0 : World) (a m : Nat) (L : List Ops.Df) (tv : Value) (l : List Tok) : Prop where
  tab : Tab' w0 a m L
  tks : Tks w0 tv l
  toks : ∀ t ∈ l, (0 ≤ t.k ∧ t.k ≤ 7) ∧ t.s.length ≤ 5000
  len : l.length ≤ 5000
structure Base extends World where
  Z : Nat → Prop
  wz : World
instance : Coe Base World := ⟨Base.toWorld⟩
structure Safe (w0 : Base) (w : World) (O : List Nat) : Prop where
  same : ∀ j, w0.Z j → w.heap[j]? = w0.wz.heap[j]?
  still : ∀ j, w0.Z j → Still w O j
theorem Safe.keeps {F : Nat → Prop} {w0 : Base} {w w' : World} {O O' : List Nat} (h : Safe w0 w O) (k : Keeps F w w') (hF : ∀ j, Still w O j → ¬ F j) (hO : ∀ j, Still w O j → Still w' O' j) : Safe w0 w' O' :=
  ⟨fun j hj => (k.block j (h.still j hj).1 (hF j (h.still j hj))).trans (h.same j hj), fun j hj => hO j (h.still j hj)⟩
theorem Safe.less {w0 : Base} {w : World} {O O' : List Nat} (h : Safe w0 w O) (hO : ∀ j ∈ O', j ∈ O) : Safe w0 w O' := ⟨h.same, fun j hj => ⟨(h.still j hj).1, fun hm => (h.still j hj).2 (hO j hm)⟩⟩
structure StX (w0 : Base) (w : World) (R : Nat) (tv : Value) (a : Nat) (σ : Ms) (E : List Nat) (c : Rc) (fr : List FrA) (so : AT) : Prop where
  mem : MemX w0.heap.size w R c fr so σ.vs E
  below : Below w0.heap.size w0 w
  tv : c.tv = tv
  a : c.a = a
  prims : Prims w c.P R
  pS : Still w (ownL R c fr E) c.P
  i : c.i = (σ.i : Int)
  cnt : c.cnt = σ.cnt
  stk : fr.map FrA.fr = σ.stk
  so : so.erase = σ.so
  p : c.p = σ.pri
  bg : c.bg = σ.begun
  sf : Safe w0 w (ownL R c fr E)
def RSt (w0 : Base) (w : World) (R : Nat) (tv : Value) (a : Nat) (σ : Ms) : Prop := ∃ c fr so, StX w0 w R tv a σ [] c fr so
def BadSt (w0 : Base) (w : World) (R : Nat) (tv : Value) (i : Nat) : Prop := Below w0.heap.size w0 w ∧ (∀ j, w0.Z j → w.heap[j]? = w0.wz.heap[j]?) ∧ ∃ c, Rd w R c ∧ c.tv = tv ∧ c.i = (i : Int)
def POut (w0 : Base) (R : Nat) (tv : Value) (a : Nat) : Out → Ending → World → Prop
  | .on τ, e, w' => e = .returned (.tuple #[]) ∧ RSt w0 w' R tv a τ
  | .bad i, e, w' => e = stuckE ∧ BadSt w0 w' R tv i
theorem Still.keeps {w w' : World} {O : List Nat} {j : Nat} (h : Still w O j) (hs : w.heap.size ≤ w'.heap.size) : Still w' O j := ⟨Nat.lt_of_lt_of_le h.1 hs, h.2⟩
theorem StX.R_low {w0 : Base} {w : World} {R : Nat} {tv : Value} {a : Nat} {σ : Ms} {E : List Nat} {c : Rc} {fr : List FrA} {so : AT} (h : StX w0 w R tv a σ E c fr so) : w0.heap.size ≤ R := h.mem.R_low
theorem StX.bad {w0 : Base} {w : World} {R : Nat} {tv : Value} {a : Nat} {σ : Ms} {E : List Nat} {c : Rc} {fr : List FrA} {so : AT} (h : StX w0 w R tv a σ E c fr so) : BadSt w0 w R tv σ.i := ⟨h.below, h.sf.same, c, h.mem.rd, h.tv, h.i⟩
theorem StX.on {w0 : Base} {w w' : World} {R : Nat} {tv : Value} {a : Nat} {σ : Ms} {E : List Nat} {c : Rc} {fr : List FrA} {so : AT} (h : StX w0 w R tv a σ E c fr so) (b : Below w.heap.size w w') : StX w0 w' R tv a σ E c fr so :=
  ⟨h.mem.on b, h.below.trans (b.mono h.below.size), h.tv, h.a, h.prims.on b, h.pS.keeps b.size, h.i, h.cnt, h.stk, h.so, h.p, h.bg, h.sf.keeps (F := fun _ => False) (keeps_below b) (fun _ _ h => h) (fun _ hj => hj.keeps b.size)⟩
theorem StX.drewN {w0 : Base} {w : World} {R : Nat} {tv : Value} {a : Nat} {σ : Ms} {E : List Nat} {c : Rc} {fr : List FrA} {so : AT} (h : StX w0 w R tv a σ E c fr so) (q : Nat) : StX w0 (w.drewN q) R tv a σ E c fr so := h.on ⟨rfl, rfl, rfl, Nat.le_refl _, fun _ _ => rfl⟩
theorem StX.belowK {w0 : Base} {w w' : World} {R : Nat} {tv : Value} {a : Nat} {σ : Ms} {E : List Nat} {c : Rc} {fr : List FrA} {so : AT} (h : StX w0 w R tv a σ E c fr so) (k : Keeps (fun j => j = R) w w') : Below w0.heap.size w0 w' := by
  have h1 := h.R_low
  exact h.below.trans (k.below (fun j hj => by omega) h.below.size)
theorem StX.P_ne {w0 : Base} {w : World} {R : Nat} {tv : Value} {a : Nat} {σ : Ms} {E : List Nat} {c : Rc} {fr : List FrA} {so : AT} (h : StX w0 w R tv a σ E c fr so) : c.P ≠ R := fun e => h.pS.2 (mem_ownL.2 (.inl e))
theorem StX.keep {w0 : Base} {w w' : World} {R : Nat} {tv : Value} {a : Nat} {σ τ : Ms} {E : List Nat} {c d : Rc} {fr : List FrA} {so : AT} (h : StX w0 w R tv a σ E c fr so) (k : Keeps (fun j => j = R) w w') (hd : Rd w' R d)
    (e1 : d.nb = c.nb) (e2 : d.nv = c.nv) (e3 : d.wv = c.wv) (e4 : d.k = c.k) (e5 : d.n = c.n) (e6 : d.s = c.s) (e7 : d.sv = c.sv) (e8 : d.tv = c.tv) (e9 : d.a = c.a) (e10 : d.P = c.P)
    (q1 : d.i = (τ.i : Int)) (q2 : d.cnt = τ.cnt) (q3 : τ.stk = σ.stk) (q4 : τ.so = σ.so) (q5 : d.p = τ.pri) (q6 : d.bg = τ.begun) (q7 : τ.vs = σ.vs) : StX w0 w' R tv a τ E d fr so := by
  have hO : ownL R d fr E = ownL R c fr E := by unfold ownL; rw [e1, e2, e3]
  refine ⟨by rw [q7]; exact h.mem.keep k (fun j hj => .inl hj) hd e1 e2 e3 e4 e5 e6 e7, h.belowK k, e8.trans h.tv, e9.trans h.a, by rw [e10]; exact h.prims.same (k.block _ h.pS.1 h.P_ne), by rw [e10, hO]; exact h.pS.keeps k.size, q1, q2, by rw [q3]; exact h.stk, by rw [q4]; exact h.so, q5, q6, by rw [hO]; exact h.sf.keeps k (fun j hj e => hj.2 (mem_ownL.2 (.inl e))) (fun j hj => hj.keeps k.size)⟩
theorem StX.pass {w0 : Base} {w w' : World} {R : Nat} {tv : Value} {a : Nat} {σ : Ms} {E : List Nat} {c : Rc} {fr : List FrA} {so : AT} (h : StX w0 w R tv a σ E c fr so) (k : Keeps (fun j => j = R) w w') (hd : Rd w' R { c with i := c.i + 1 }) : StX w0 w' R tv a (σ.to (σ.i + 1)) E { c with i := c.i + 1 } fr so :=
  h.keep k hd rfl rfl rfl rfl rfl rfl rfl rfl rfl rfl (by show c.i + 1 = ((σ.i + 1 : Nat) : Int); rw [h.i]; omega) h.cnt rfl rfl h.p h.bg rfl
theorem StX.same {w0 : Base} {w w' : World} {R : Nat} {tv : Value} {a : Nat} {σ : Ms} {E : List Nat} {c : Rc} {fr : List FrA} {so : AT} (h : StX w0 w R tv a σ E c fr so) (k : Keeps (fun j => j = R) w w') (hd : Rd w' R c) : StX w0 w' R tv a σ E c fr so :=
  h.keep k hd rfl rfl rfl rfl rfl rfl rfl rfl rfl rfl h.i h.cnt rfl rfl h.p h.bg rfl
theorem ownL_sub {R : Nat} {c : Rc} {fr : List FrA} {E E' : List Nat} (h : ∀ j ∈ E', j ∈ E) {j : Nat} (hj : j ∈ ownL R c fr E') : j ∈ ownL R c fr E := by
  rcases mem_ownL.1 hj with h1 | h1 | h1 | h1 | h1 | h1
  · exact mem_ownL.2 (.inl h1)
  · exact mem_ownL.2 (.inr (.inl h1))
  · exact mem_ownL.2 (.inr (.inr (.inl h1)))
  · exact mem_ownL.2 (.inr (.inr (.inr (.inl h1))))
  · exact mem_ownL.2 (.inr (.inr (.inr (.inr (.inl h1)))))
  · exact mem_ownL.2 (.inr (.inr (.inr (.inr (.inr (h j h1))))))
theorem Still.less {w : World} {R : Nat} {c : Rc} {fr : List FrA} {E E' : List Nat} (h : ∀ j ∈ E', j ∈ E) {j : Nat} (hj : Still w (ownL R c fr E) j) : Still w (ownL R c fr E') j := ⟨hj.1, fun hm => hj.2 (ownL_sub h hm)⟩
theorem StX.fewer {w0 : Base} {w : World} {R : Nat} {tv : Value} {a : Nat} {σ : Ms} {E E' : List Nat} {c : Rc} {fr : List FrA} {so : AT} (h : StX w0 w R tv a σ E c fr so) (hE : E'.Sublist E) : StX w0 w R tv a σ E' c fr so :=
  ⟨h.mem.fewer hE, h.below, h.tv, h.a, h.prims, h.pS.less fun _ hj => hE.subset hj, h.i, h.cnt, h.stk, h.so, h.p, h.bg, h.sf.less fun _ hm => ownL_sub (fun _ hj => hE.subset hj) hm⟩
theorem StX.more {w0 : Base} {w w' : World} {R : Nat} {tv : Value} {a : Nat} {σ : Ms} {E : List Nat} {c : Rc} {fr : List FrA} {so : AT} {g : Nat} (h : StX w0 w R tv a σ E c fr so) (b : Below w.heap.size w w') (hg : w.heap.size ≤ g) (hg' : g < w'.heap.size) : StX w0 w' R tv a σ (g :: E) c fr so := by
  have h1 := h.on b
  have hst : ∀ j, Still w (ownL R c fr E) j → Still w' (ownL R c fr (g :: E)) j := fun j hj => ⟨Nat.lt_of_lt_of_le hj.1 b.size, fun hm => by
    rw [(ownL_cons R c fr g E).mem_iff, List.mem_cons] at hm
    rcases hm with hm | hm
    · have := hj.1; omega
    · exact hj.2 hm⟩
  exact ⟨h.mem.more b h.below.size hg hg', h1.below, h.tv, h.a, h1.prims, hst _ h.pS, h.i, h.cnt, h.stk, h.so, h.p, h.bg, h.sf.keeps (F := fun _ => False) (keeps_below b) (fun _ _ h => h) hst⟩
theorem StX.sv {w0 : Base} {w : World} {R : Nat} {tv : Value} {a : Nat} {σ : Ms} {E : List Nat} {c : Rc} {fr : List FrA} {so : AT} (h : StX w0 w R tv a σ E c fr so) : ∃ x y z, so.sv = .slice x y z := by
  obtain ⟨x, y, e, _⟩ := sv_form (AT.mem_mk.1 h.mem.som).1
  exact ⟨x, _, y, e⟩
theorem AT.sv_slice {w : World} {x : AT} (h : x.mem w) : ∃ a n k, x.sv = .slice a n k := by
  obtain ⟨a, k, e, _⟩ := sv_form (AT.mem_mk.1 h).1
  exact ⟨a, _, k, e⟩
structure Held (w : World) (O : List Nat) (x : AT) : Prop where
  mem : x.mem w
  ins : x.ins (Still w O)
theorem Held.keeps {F : Nat → Prop} {w w' : World} {O : List Nat} {x : AT} (h : Held w O x) (k : Keeps F w w') (hF : ∀ j, F j → j ∈ O ∨ w.heap.size ≤ j) : Held w' O x :=
  ⟨AT.mem_keeps k h.ins (fun j hj hFj => by
    rcases hF j hFj with h1 | h1
    · exact hj.2 h1
    · have := hj.1; omega) h.mem, AT.ins_mono (fun _ hj => hj.keeps k.size) x h.ins⟩
theorem Held.on {w w' : World} {O : List Nat} {x : AT} (h : Held w O x) (b : Below w.heap.size w w') : Held w' O x := h.keeps (F := fun _ => False) (keeps_below b) (fun _ hj => hj.elim)
theorem Held.R {w w' : World} {R : Nat} {c : Rc} {fr : List FrA} {E : List Nat} {x : AT} (h : Held w (ownL R c fr E) x) (k : Keeps (fun j => j = R) w w') : Held w' (ownL R c fr E) x := h.keeps k fun _ hj => .inl (mem_ownL.2 (.inl hj))
theorem StX.held {w0 : Base} {w : World} {R : Nat} {tv : Value} {a : Nat} {σ : Ms} {E : List Nat} {c : Rc} {fr : List FrA} {so : AT} (h : StX w0 w R tv a σ E c fr so) : Held w (ownL R c fr []) so := ⟨h.mem.som, AT.ins_mono (fun _ hj => hj.less (fun _ hj => by cases hj)) so h.mem.soi⟩
structure Box4 (w : World) (b : Nat) (x : AT) : Prop where
  row : w.heap[b]? = some (.cells #[.int .i64 x.k, .int .i64 x.n, .string x.s, x.sv] 34 (0, 0))
theorem Box4.keeps {F : Nat → Prop} {w w' : World} {b : Nat} {x : AT} (h : Box4 w b x) (k : Keeps F w w') (hF : ¬ F b) : Box4 w' b x := ⟨k.heap h.row hF⟩
theorem Box4.facts {w : World} {b : Nat} {x : AT} (h : Box4 w b x) : w.cell? ⟨b, 0, none⟩ = some (.int .i64 x.k) ∧ w.cell? ⟨b, 1, none⟩ = some (.int .i64 x.n) ∧ w.cell? ⟨b, 2, none⟩ = some (.string x.s) ∧ w.cell? ⟨b, 3, none⟩ = some x.sv :=
  ⟨cell_of_heap h.row rfl, cell_of_heap h.row rfl, cell_of_heap h.row rfl, cell_of_heap h.row rfl⟩
theorem heldRow {w : World} {O : List Nat} {l : List AT} (hl : ∀ t ∈ l, Held w O t) (hO : ∀ j ∈ O, j < w.heap.size) (s : ByteArray) (hn : l.length ≤ 1000000) : Held (w.alloc (.cells (headCells l).toArray 34)) O (rowA 4 s w.heap.size l) := by
  have b := (Below.refl w.heap.size w).alloc (Nat.le_refl _) (.cells (headCells l).toArray 34)
  have hh := fun t ht => (hl t ht).on b
  refine ⟨rowA_mem (new_at _ _ rfl) (fun t ht => (hh t ht).mem) hn, fun _ => ⟨by simp, fun hm => ?_⟩, ins_list fun t ht => (hh t ht).ins⟩
  have := hO _ hm
  omega
theorem StX.O_lt {w0 : Base} {w : World} {R : Nat} {tv : Value} {a : Nat} {σ : Ms} {E : List Nat} {c : Rc} {fr : List FrA} {so : AT} (h : StX w0 w R tv a σ E c fr so) : ∀ j ∈ ownL R c fr [], j < w.heap.size := fun j hj => (h.mem.low j (ownL_sub (fun _ h => by cases h) hj)).2
theorem beS {w0 : Base} {w : World} {R : Nat} {tv : Value} {a : Nat} {σ : Ms} {E : List Nat} {c : Rc} {fr : List FrA} {so : AT} (h : StX w0 w R tv a σ E c fr so) (x : AT) (p : Int) (hx : x.mem w) (hi : x.ins (Still w (ownL R c fr []))) :
    Calls Tryz.prog 148 #[.pointer (some ⟨R, 0, none⟩), x.val, .int .i64 p] w fun e w' => e = .returned (.tuple #[]) ∧ Keeps (fun j => j = R) w w' ∧ RSt w0 w' R tv a (σ.be x.erase p) := by
  refine (be_is w R c x p h.mem.rd (AT.sv_slice hx)).mono ?_
  rintro e w' ⟨rfl, k, r⟩
  have hf := h.fewer (E' := []) (List.nil_sublist _)
  exact ⟨rfl, k, c.set x p, fr, x, hf.mem.other k (fun j hj => .inl hj) r rfl rfl rfl rfl rfl rfl rfl hx hi (List.Sublist.refl _), hf.belowK k, hf.tv, hf.a, hf.prims.same (k.block _ hf.pS.1 hf.P_ne), hf.pS.keeps k.size, hf.i, hf.cnt, hf.stk, rfl, rfl, rfl, hf.sf.keeps k (fun j hj e => hj.2 (mem_ownL.2 (.inl e))) (fun j hj => hj.keeps k.size)⟩
theorem wantS {w0 : Base} {w : World} {R : Nat} {tv : Value} {a : Nat} {σ : Ms} {k : KtA} {c : Rc} {fr : List FrA} {so : AT} (h : StX w0 w R tv a σ k.own c fr so) (hk : k.mem w0.heap.size w R (Still w (ownL R c fr k.own))) (m : Int) (hn : σ.stk.length ≤ 100000) :
    Calls Tryz.prog 93 #[.pointer (some ⟨R, 0, none⟩), .int .i64 m, k.val R] w (POut w0 R tv a (.on (σ.want m k.kt))) := by
  obtain ⟨K, fa, fb, e⟩ : ∃ K fa fb, k.val R = .func (.func K) fa fb := by cases k <;> exact ⟨_, _, _, rfl⟩
  have hlen : fr.length = σ.stk.length := by rw [← h.stk, List.length_map]
  rw [e]
  refine (want_is w0.heap.size w R c fr.length (frCells R fr) m K fa fb h.mem.rd h.mem.wait h.mem.apart.2.2.2.1 h.below.size (by omega)).mono ?_
  rintro e' w' ⟨rfl, v, ho, hat, hK, hd⟩
  rw [← e] at ho
  have hP : ∀ j, Still w (ownL R c fr k.own) j → ¬ (j = R ∨ c.wv.ownBlock = some j) := fun j hj hp => by
    rcases hp with hp | hp
    · exact hj.2 (mem_ownL.2 (.inl hp))
    · exact hj.2 (mem_ownL.2 (.inr (.inr (.inr (.inl hp)))))
  have M := h.mem.push (m := m) hk h.below.size ho hat hK hd
  have hR := h.R_low
  have hst : ∀ j, Still w (ownL R c fr k.own) j → Still w' (ownL R { c with wv := v, bg := false } (⟨m, k⟩ :: fr) []) j := fun j hj => ⟨Nat.lt_of_lt_of_le hj.1 hK.size, fun hm => by
    have hm2 := mem_ownL.1 hm
    simp only [List.mem_cons, exists_eq_or_imp, List.not_mem_nil, or_false] at hm2
    rcases hm2 with h1 | h1 | h1 | h1 | h1 | h1
    · exact hj.2 (mem_ownL.2 (.inl h1))
    · exact hj.2 (mem_ownL.2 (.inr (.inl h1)))
    · exact hj.2 (mem_ownL.2 (.inr (.inr (.inl h1))))
    · rcases hat with h2 | ⟨g, h2, h3⟩
      · exact hj.2 (mem_ownL.2 (.inr (.inr (.inr (.inl (h2.trans h1))))))
      · rw [h1] at h2
        cases h2
        have := hj.1
        omega
    · exact hj.2 (mem_ownL.2 (.inr (.inr (.inr (.inr (.inr h1))))))
    · exact hj.2 (mem_ownL.2 (.inr (.inr (.inr (.inr (.inl h1))))))⟩
  refine ⟨rfl, _, _, so, M, h.below.trans (hK.below (fun j hj => ?_) h.below.size), h.tv, h.a, h.prims.same (hK.block _ h.pS.1 (hP _ h.pS)), hst _ h.pS, h.i, h.cnt, by simp [FrA.fr, h.stk, Ms.want], h.so, h.p, rfl, h.sf.keeps hK hP hst⟩
  rcases hj with hj | hj
  · omega
  · exact (h.mem.wait.lt j hj).1
theorem StX.tksW {w0 : Base} {w : World} {a m : Nat} {L : List Ops.Df} {R : Nat} {tv : Value} {l : List Tok} {σ : Ms} {E : List Nat} {c : Rc} {fr : List FrA} {so : AT} (h : StX w0 w R tv a σ E c fr so) (hC : Ctx w0 a m L tv l) : Tks w c.tv l := by
  rw [h.tv]
  exact hC.tks.on h.below
theorem StX.tabW {w0 : Base} {w : World} {a m : Nat} {L : List Ops.Df} {R : Nat} {tv : Value} {l : List Tok} {σ : Ms} {E : List Nat} {c : Rc} {fr : List FrA} {so : AT} (h : StX w0 w R tv a σ E c fr so) (hC : Ctx w0 a m L tv l) : Tab' w c.a m L := by
  rw [h.a]
  exact hC.tab.on h.below
theorem takesS {w0 : Base} {w : World} {a m : Nat} {L : List Ops.Df} {R : Nat} {tv : Value} {l : List Tok} {σ : Ms} {E : List Nat} {c : Rc} {fr : List FrA} {so : AT} (h : StX w0 w R tv a σ E c fr so) (hC : Ctx w0 a m L tv l) (s : ByteArray) (b : Bool) (hb : isP l σ.i s.data.toList = b) (hi : σ.i ≤ 10000) :
    Calls Tryz.prog 223 #[.pointer (some ⟨R, 0, none⟩), .string s] w fun e w' => e = .returned (.bool b) ∧ Keeps (fun j => j = R) w w' ∧ (b = true → StX w0 w' R tv a (σ.to (σ.i + 1)) E { c with i := c.i + 1 } fr so) ∧ (b = false → StX w0 w' R tv a σ E c fr so) := by
  refine (takes_is w R c l σ.i s b h.mem.rd (h.tksW hC) h.i (by omega) (by have := hC.len; omega) hb).mono ?_
  rintro e w' ⟨rfl, k, r⟩
  refine ⟨rfl, k, fun e => ?_, fun e => ?_⟩
  · rw [if_pos e] at r
    exact h.pass k r
  · rw [if_neg (by rw [e]; decide)] at r
    exact h.same k r
theorem expectS {w0 : Base} {w : World} {a m : Nat} {L : List Ops.Df} {R : Nat} {tv : Value} {l : List Tok} {σ : Ms} {E : List Nat} {c : Rc} {fr : List FrA} {so : AT} (h : StX w0 w R tv a σ E c fr so) (hC : Ctx w0 a m L tv l) (s : ByteArray) (b : Bool) (hb : isP l σ.i s.data.toList = b) (hi : σ.i ≤ 10000) :
    Calls Tryz.prog 222 #[.pointer (some ⟨R, 0, none⟩), .string s] w fun e w' => e = (if b = true then .returned (.tuple #[]) else stuckE) ∧ Keeps (fun j => j = R) w w' ∧ (b = true → StX w0 w' R tv a (σ.to (σ.i + 1)) E { c with i := c.i + 1 } fr so) ∧ (b = false → StX w0 w' R tv a σ E c fr so) := by
  refine (expect_is w R c l σ.i s b h.mem.rd (h.tksW hC) h.i (by omega) (by have := hC.len; omega) hb).mono ?_
  rintro e w' ⟨rfl, k, r⟩
  refine ⟨rfl, k, fun e => ?_, fun e => ?_⟩
  · rw [if_pos e] at r
    exact h.pass k r
  · rw [if_neg (by rw [e]; decide)] at r
    exact h.same k r
theorem passS {w0 : Base} {w : World} {R : Nat} {tv : Value} {a : Nat} {σ : Ms} {E : List Nat} {c : Rc} {fr : List FrA} {so : AT} (h : StX w0 w R tv a σ E c fr so) (hi : σ.i ≤ 10000) :
    Calls Tryz.prog 147 #[.pointer (some ⟨R, 0, none⟩)] w fun e w' => e = .returned (.tuple #[]) ∧ Keeps (fun j => j = R) w w' ∧ StX w0 w' R tv a (σ.to (σ.i + 1)) E { c with i := c.i + 1 } fr so := by
  refine (pass_at w R c h.mem.rd (by rw [h.i]; omega) (by rw [h.i]; omega)).mono ?_
  rintro e w' ⟨rfl, rfl⟩
  have k : Keeps (fun j => j = R) w (w.setCell ⟨R, 1, none⟩ (.int .i64 (c.i + 1))) := (Keeps.refl (fun j => j = R) w).setCell (p := ⟨R, 1, none⟩) (.inl rfl) _
  exact ⟨rfl, k, h.pass k (h.mem.rd.set_i _)⟩
theorem nextS {w0 : Base} {w : World} {a m : Nat} {L : List Ops.Df} {R : Nat} {tv : Value} {l : List Tok} {σ : Ms} {E : List Nat} {c : Rc} {fr : List FrA} {so : AT} (h : StX w0 w R tv a σ E c fr so) (hC : Ctx w0 a m L tv l) (hi : σ.i ≤ 10000) :
    Calls Tryz.prog 51 #[.pointer (some ⟨R, 0, none⟩)] w fun e w' => e = .returned (tokAt l σ.i).val ∧ Below w.heap.size w w' :=
  next_is w R c l σ.i h.mem.rd (h.tksW hC) h.i (by omega) (by have := hC.len; omega)
end Go.Proofs.YtkplokfcjjcpcaaGreatDoor
end
section
namespace Go.Proofs.YtkplokfcjjcpcaaGreatDoor
open Go Go.RowKit Go.Maps Trm
attribute [local go_sem ↓] Go.wp_at_zero Go.wp_at_succ
set_option maxRecDepth 100000 in
set_option maxHeartbeats 1600000 in
theorem inRound_is {w0 : Base} {w : World} {a m : Nat} {L : List Ops.Df} {R : Nat} {tv : Value} {l : List Tok} {σ : Ms} {E : List Nat} {c : Rc} {fr : List FrA} {so : AT} (h : StX w0 w R tv a σ E c fr so) (hC : Ctx w0 a m L tv l) (hi : σ.i ≤ 10000) (x : AT) (hx : Held w (ownL R c fr []) x) :
    Calls Tryz.prog 183 #[.pointer (some ⟨R, 0, none⟩), x.val] w (POut w0 R tv a (thenZ l σ x.erase .round)) := by
  have BA := Lib.hid (fun o => (Below.refl w.heap.size w).alloc (Nat.le_refl _) o)
  have hR := h.mem.rd.lt
  obtain ⟨xa, xn, xk, xsv⟩ := AT.sv_slice hx.mem
  have EX := Lib.hid (fun b hb => expectS (h.on (BA.out (.cells #[.int .i64 x.k, .int .i64 x.n, .string x.s, x.sv] 34))) hC ⟨#[41]⟩ b hb hi)
  have HX := Lib.hid (hx.on (BA.out (.cells #[.int .i64 x.k, .int .i64 x.n, .string x.s, x.sv] 34)))
  have NB := Lib.hid (Box4.mk (x := x) (heap_alloc_new w (.cells #[.int .i64 x.k, .int .i64 x.n, .string x.s, x.sv] 34)))
  have BE := Lib.hid (fun w1 τ c1 (h1 : StX w0 w1 R tv a τ E c1 fr so) (hx1 : Held w1 (ownL R c1 fr []) x) => beS h1 x 0 hx1.mem hx1.ins)
  unfold AT.val at BE ⊢
  rw [xsv] at EX HX BE NB ⊢
  simp only [thenZ, expectZ]
  cases hb : isP l σ.i [41]
  · have E1 := Lib.hid (EX.out false hb)
    clear h hx xsv EX BE HX NB
    go_enter Tryz.func183, Tryz.ntmps183
    go_wp2_with fail
    refine E1.out.mono ?_
    rintro e w1 ⟨rfl, _, _, h1⟩
    have H1 := Lib.hid (h1 trivial)
    clear h1 E1
    simp only [Bool.false_eq_true, if_false]
    unfold stuckE
    go_wp2_with fail
    exact ⟨rfl, rfl, H1.out.bad⟩
  · have E1 := Lib.hid (EX.out true hb)
    clear h hx EX
    go_enter Tryz.func183, Tryz.ntmps183
    go_wp2_with fail
    refine E1.out.mono ?_
    rintro e w1 ⟨rfl, k1, h1, _⟩
    have H1 := Lib.hid (h1 trivial)
    have X1 := Lib.hid (HX.out.R k1)
    have B1 := NB.out.keeps k1 (by omega)
    obtain ⟨q0, q1, q2, q3⟩ := B1.facts
    rw [xsv] at q3
    have E2 := Lib.hid (BE.out _ _ _ H1.out X1.out)
    clear h1 k1 E1 B1 xsv BE HX NB
    simp only [if_true]
    go_wp2_with fail
    refine E2.out.mono ?_
    rintro e w2 ⟨rfl, _, hs⟩
    have HS := Lib.hid hs
    clear hs E2
    go_wp2_with fail
    go_end0
    exact ⟨rfl, HS.out⟩
theorem tok_field0 (k n m : Int) (s : ByteArray) (a b : Bool) (w : World) : (Instr.field 48 (.agg #[.int .i64 k, .int .i64 n, .int .i64 m, .string s, .bool a, .bool b]) 0).run Tryz.prog w = .ok (.int .i64 k) w := by kernel_rfl
set_option maxRecDepth 100000 in
set_option maxHeartbeats 1600000 in
theorem stopped_is {w0 : Base} {w : World} {a m : Nat} {L : List Ops.Df} {R : Nat} {tv : Value} {l : List Tok} {σ : Ms} {E : List Nat} {c : Rc} {fr : List FrA} {so : AT} (h : StX w0 w R tv a σ E c fr so) (hC : Ctx w0 a m L tv l) (hi : σ.i ≤ 10000) (x : AT) (hx : Held w (ownL R c fr []) x) :
    Calls Tryz.prog 94 #[.pointer (some ⟨R, 0, none⟩), x.val] w (POut w0 R tv a (thenZ l σ x.erase .stop)) := by
  have BA := Lib.hid (fun o => (Below.refl w.heap.size w).alloc (Nat.le_refl _) o)
  obtain ⟨xa, xn, xk, xsv⟩ := AT.sv_slice hx.mem
  have hR := h.mem.rd.lt
  have NX := Lib.hid (nextS (h.on (BA.out (.cells #[.int .i64 x.k, .int .i64 x.n, .string x.s, x.sv] 34))) hC hi)
  have H0 := Lib.hid (fun w1 (b1 : Below (w.alloc (.cells #[.int .i64 x.k, .int .i64 x.n, .string x.s, x.sv] 34)).heap.size (w.alloc (.cells #[.int .i64 x.k, .int .i64 x.n, .string x.s, x.sv] 34)) w1) => (h.on (BA.out (.cells #[.int .i64 x.k, .int .i64 x.n, .string x.s, x.sv] 34))).on b1)
  have HX := Lib.hid (fun w1 (b1 : Below (w.alloc (.cells #[.int .i64 x.k, .int .i64 x.n, .string x.s, x.sv] 34)).heap.size (w.alloc (.cells #[.int .i64 x.k, .int .i64 x.n, .string x.s, x.sv] 34)) w1) => (hx.on (BA.out (.cells #[.int .i64 x.k, .int .i64 x.n, .string x.s, x.sv] 34))).on b1)
  have NB := Lib.hid (fun w1 (b1 : Below (w.alloc (.cells #[.int .i64 x.k, .int .i64 x.n, .string x.s, x.sv] 34)).heap.size (w.alloc (.cells #[.int .i64 x.k, .int .i64 x.n, .string x.s, x.sv] 34)) w1) => (Box4.mk (x := x) (heap_alloc_new w (.cells #[.int .i64 x.k, .int .i64 x.n, .string x.s, x.sv] 34))).keeps (F := fun _ => False) (keeps_below b1) (fun h => h))
  have BE := Lib.hid (fun w1 τ c1 (h1 : StX w0 w1 R tv a τ E c1 fr so) (hx1 : Held w1 (ownL R c1 fr []) x) => beS h1 x 0 hx1.mem hx1.ins)
  have PA := Lib.hid (fun w1 (h1 : StX w0 w1 R tv a σ E c fr so) => passS h1 hi)
  have FLD := tok_field0
  unfold AT.val at BE ⊢
  rw [xsv] at NX H0 HX BE NB ⊢
  simp only [thenZ]
  obtain ⟨t, ht⟩ : ∃ t, tokAt l σ.i = t := ⟨_, rfl⟩
  rw [ht] at NX ⊢
  obtain ⟨tk, tl, tn, ts, tO, tt⟩ := t
  obtain ⟨S, hS⟩ : ∃ S : ByteArray, (⟨ts.toArray⟩ : ByteArray) = S := ⟨_, rfl⟩
  simp only [Tok.val, hS] at NX
  have XSV := Lib.hid xsv
  clear h hx ht hS xsv hC
  cases hb : (tk == 7)
  · rw [if_neg (by simp)]
    have hb' : (tk != 7) = true := by simp [bne, hb]
    go_enter Tryz.func94, Tryz.ntmps94
    go_wp2_with fail
    refine NX.out.mono ?_
    rintro e w1 ⟨rfl, b1⟩
    have H1 := Lib.hid (H0.out w1 b1)
    clear b1 NX H0 HX NB BE PA
    go_wp2_with fail
    refine (giveUp_is _ _).mono ?_
    rintro e w2 ⟨rfl, hw⟩
    obtain rfl := hw.symm
    unfold stuckE
    go_wp2_with fail
    exact ⟨rfl, rfl, H1.out.bad⟩
  · rw [if_pos (by simp)]
    have hb' : (tk != 7) = false := by simp [bne, hb]
    go_enter Tryz.func94, Tryz.ntmps94
    go_wp2_with fail
    refine NX.out.mono ?_
    rintro e w1 ⟨rfl, b1⟩
    have P1 := Lib.hid (PA.out w1 (H0.out w1 b1))
    have X1 := Lib.hid (HX.out w1 b1)
    have B1 := Lib.hid (NB.out w1 b1)
    clear b1 NX H0 HX NB PA
    go_wp2_with fail
    refine P1.out.mono ?_
    rintro e w2 ⟨rfl, k2, h2⟩
    have X2 := X1.out.R k2
    have E2 := Lib.hid (BE.out _ _ _ h2 X2)
    obtain ⟨q0, q1, q2, q3⟩ := (B1.out.keeps k2 (by omega)).facts
    rw [XSV.out] at q3
    clear h2 k2 X2 P1 X1 B1 BE
    go_wp2_with fail
    refine E2.out.mono ?_
    rintro e w3 ⟨rfl, _, hs⟩
    have HS := Lib.hid hs
    clear hs E2
    go_wp2_with fail
    first | go_end0 | refine bodyPost_ret (results_none rfl _ _ _) rfl ?_
    exact ⟨rfl, HS.out⟩
set_option maxRecDepth 100000 in
set_option maxHeartbeats 1600000 in
theorem inBraces_is {w0 : Base} {w : World} {a m : Nat} {L : List Ops.Df} {R : Nat} {tv : Value} {l : List Tok} {σ : Ms} {E : List Nat} {c : Rc} {fr : List FrA} {so : AT} (h : StX w0 w R tv a σ E c fr so) (hC : Ctx w0 a m L tv l) (hi : σ.i ≤ 10000) (x : AT) (hx : Held w (ownL R c fr []) x) :
    Calls Tryz.prog 187 #[.pointer (some ⟨R, 0, none⟩), x.val] w (POut w0 R tv a (thenZ l σ x.erase .braces)) := by
  have BA := Lib.hid (fun o => (Below.refl w.heap.size w).alloc (Nat.le_refl _) o)
  have hR := h.mem.rd.lt
  obtain ⟨xa, xn, xk, xsv⟩ := AT.sv_slice hx.mem
  have EX := Lib.hid (fun b hb => expectS (h.on (BA.out (.cells #[.int .i64 x.k, .int .i64 x.n, .string x.s, x.sv] 34))) hC ⟨#[125]⟩ b hb hi)
  have HX := Lib.hid (hx.on (BA.out (.cells #[.int .i64 x.k, .int .i64 x.n, .string x.s, x.sv] 34)))
  have NB := Lib.hid (Box4.mk (x := x) (heap_alloc_new w (.cells #[.int .i64 x.k, .int .i64 x.n, .string x.s, x.sv] 34)))
  have CP := Lib.hid (fun W b => comp_is ⟨#[123, 125]⟩ (some ⟨b, 0, none⟩) 1 1 W (by decide))
  have BE := Lib.hid (fun w1 w2 τ c1 (h1 : StX w0 w1 R tv a τ E c1 fr so) (hx1 : Held w1 (ownL R c1 fr []) x) (b2 : Below (w1.alloc (.cells (headCells [x]).toArray 34)).heap.size (w1.alloc (.cells (headCells [x]).toArray 34)) w2) => by
    have hr := (heldRow (l := [x]) (by simpa using hx1) h1.O_lt ⟨#[123, 125]⟩ (by simp)).on b2
    exact beS ((h1.on ((Below.refl w1.heap.size w1).alloc (Nat.le_refl _) _)).on b2) _ 0 hr.mem hr.ins)
  have hcells : (headCells [x]).toArray = #[.int .i64 x.k, .int .i64 x.n, .string x.s, .slice xa xn xk] := by simp [headCells, xsv]
  rw [hcells] at BE
  unfold AT.val at BE ⊢
  simp only [rowA, AT.k, AT.n, AT.s, AT.sv, List.length_cons, List.length_nil] at BE
  have ERA : Hid (∀ b, (rowA 4 ⟨#[123, 125]⟩ b [x]).erase = compT ⟨#[123, 125]⟩ [x.erase]) := fun _ => rfl
  rw [xsv] at EX HX NB ⊢
  simp only [thenZ, expectZ]
  cases hb : isP l σ.i [125]
  · have E1 := Lib.hid (EX.out false hb)
    clear h hx xsv EX BE HX NB hcells CP
    go_enter Tryz.func187, Tryz.ntmps187
    go_wp2_with fail
    refine E1.out.mono ?_
    rintro e w1 ⟨rfl, _, _, h1⟩
    have H1 := Lib.hid (h1 trivial)
    clear h1 E1
    simp only [Bool.false_eq_true, if_false]
    unfold stuckE
    go_wp2_with fail
    exact ⟨rfl, rfl, H1.out.bad⟩
  · have E1 := Lib.hid (EX.out true hb)
    clear h hx EX hcells
    go_enter Tryz.func187, Tryz.ntmps187
    go_wp2_with fail
    refine E1.out.mono ?_
    rintro e w1 ⟨rfl, k1, h1, _⟩
    have H1 := Lib.hid (h1 trivial)
    have X1 := Lib.hid (HX.out.R k1)
    have B1 := NB.out.keeps k1 (by omega)
    obtain ⟨q0, q1, q2, q3⟩ := B1.facts
    rw [xsv] at q3
    have E2 := Lib.hid (fun w2 b2 => BE.out w1 w2 _ _ H1.out X1.out b2)
    clear h1 k1 E1 B1 xsv BE HX NB
    simp only [if_true]
    go_wp2_with fail
    refine (CP.out _ _).mono ?_
    rintro e w2 ⟨rfl, b2⟩
    have E3 := Lib.hid (E2.out w2 b2)
    clear b2 E2 CP q0 q1 q2 q3
    go_wp2_with fail
    refine E3.out.mono ?_
    rintro e w3 ⟨rfl, _, hs⟩
    have HS := Lib.hid hs
    clear hs E3
    go_wp2_with fail
    go_end0
    exact ⟨rfl, HS.out⟩
end Go.Proofs.YtkplokfcjjcpcaaGreatDoor
end
