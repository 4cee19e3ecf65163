/- Joined texts: TermA TermB TermC. Conditions: as each states. -/
import Derived.Test.YtkplokfcjjcpcaaGreatDoorRows
import Derived.WalkKit
import Derived.WalkSpells
import Derived.WalkLawsBesides
import Derived.Lib.Hide
import Derived.Deep.AppendLies
import Derived.Deep.LoopGhost
import Derived.BigQuiet
import Derived.Deep.QuietTactic
import Derived.Outline
import Derived.Test.YtkplokfcjjcpcaaGreatDoorPk01
import Derived.LaidEqlPtr
section
namespace Go.Proofs.YtkplokfcjjcpcaaGreatDoor.Trm
open Go Go.RowKit
structure Keeps (F : Nat → Prop) (w w' : World) : Prop where
  os : w'.os = w.os
  tape : w'.tape = w.tape
  output : w'.output = w.output
  size : w.heap.size ≤ w'.heap.size
  block : ∀ k, k < w.heap.size → ¬ F k → w'.heap[k]? = w.heap[k]?
theorem Keeps.refl (F : Nat → Prop) (w : World) : Keeps F w w := ⟨rfl, rfl, rfl, Nat.le_refl _, fun _ _ _ => rfl⟩
theorem Keeps.trans {F G : Nat → Prop} {a b c : World} (h : Keeps F a b) (k : Keeps G b c) (hs : ∀ j, G j → F j ∨ a.heap.size ≤ j) : Keeps F a c :=
  ⟨k.os.trans h.os, k.tape.trans h.tape, k.output.trans h.output, Nat.le_trans h.size k.size, fun i hi hF =>
    (k.block i (Nat.lt_of_lt_of_le hi h.size) (fun hG => by rcases hs i hG with h1 | h1; exact hF h1; omega)).trans (h.block i hi hF)⟩
theorem Keeps.wide {F G : Nat → Prop} {a b : World} (h : Keeps F a b) (hs : ∀ j, F j → G j ∨ a.heap.size ≤ j) : Keeps G a b :=
  ⟨h.os, h.tape, h.output, h.size, fun i hi hG => h.block i hi (fun hF => by rcases hs i hF with h1 | h1; exact hG h1; omega)⟩
theorem Keeps.alloc {F : Nat → Prop} {a w : World} (h : Keeps F a w) (o : Obj) : Keeps F a (w.alloc o) :=
  h.trans (G := fun _ => False) ⟨rfl, rfl, rfl, by simp, fun k hk _ => Below.heap_alloc _ _ _ hk⟩ (fun _ h => h.elim)
theorem Keeps.setCell {F : Nat → Prop} {a w : World} (h : Keeps F a w) {p : Addr} (hp : F p.block ∨ a.heap.size ≤ p.block) (u : Value) : Keeps F a (w.setCell p u) :=
  h.trans (G := fun j => j = p.block) ⟨rfl, rfl, rfl, by simp [World.setCell], fun k _ hk => Below.heap_setCell _ _ _ _ hk⟩ (fun j hj => by subst hj; exact hp)
theorem Keeps.grown {F : Nat → Prop} {a w w' : World} {row : Option Nat} (h : Keeps F a w) (hg : w.grownBy w' row) (hr : ∀ k, row = some k → F k ∨ a.heap.size ≤ k) : Keeps F a w' :=
  h.trans (G := fun j => row = some j) ⟨hg.os, hg.tape, hg.output, hg.size, fun k hk hn => hg.block k hk (fun e => hn e.symm)⟩ (fun j hj => hr j hj)
theorem Keeps.drew {F : Nat → Prop} {a w : World} (h : Keeps F a w) : Keeps F a w.drew := ⟨h.os, h.tape, h.output, h.size, h.block⟩
theorem Keeps.drewN {F : Nat → Prop} {a w : World} (h : Keeps F a w) (n : Nat) : Keeps F a (w.drewN n) := ⟨h.os, h.tape, h.output, h.size, h.block⟩
theorem Keeps.below {F : Nat → Prop} {B : Nat} {w w' : World} (h : Keeps F w w') (hB : ∀ j, F j → B ≤ j) (hs : B ≤ w.heap.size) : Below B w w' :=
  ⟨h.os, h.tape, h.output, h.size, fun k hk => h.block k (by omega) (fun hF => by have := hB k hF; omega)⟩
theorem Keeps.heap {F : Nat → Prop} {w w' : World} (h : Keeps F w w') {k : Nat} {o : Obj} (hk : w.heap[k]? = some o) (hF : ¬ F k) : w'.heap[k]? = some o :=
  (h.block k (Array.getElem?_eq_some_iff.1 hk).1 hF).trans hk
theorem Keeps.cell {F : Nat → Prop} {w w' : World} (h : Keeps F w w') {p : Addr} {v : Value} (hc : w.cell? p = some v) (hF : ¬ F p.block) : w'.cell? p = some v :=
  (World.cell?_of_block (h.block p.block (World.block_lt_of_cell? w p hc) hF)).trans hc
inductive AT where
  | mk (k n : Int) (s : ByteArray) (sv : Value) (G off : Nat) (l : List AT)
def AT.k : AT → Int | .mk k _ _ _ _ _ _ => k
def AT.n : AT → Int | .mk _ n _ _ _ _ _ => n
def AT.s : AT → ByteArray | .mk _ _ s _ _ _ _ => s
def AT.sv : AT → Value | .mk _ _ _ sv _ _ _ => sv
def AT.G : AT → Nat | .mk _ _ _ _ G _ _ => G
def AT.off : AT → Nat | .mk _ _ _ _ _ off _ => off
def AT.l : AT → List AT | .mk _ _ _ _ _ _ l => l
def AT.val (t : AT) : Value := .agg #[.int .i64 t.k, .int .i64 t.n, .string t.s, t.sv]
def SvOk (sv : Value) (G off n : Nat) : Prop := (sv = .slice none 0 0 ∧ n = 0) ∨ ∃ cap, sv = .slice (some ⟨G, off, none⟩) n cap ∧ n ≤ cap ∧ cap ≤ maxLen
def Plain (w : World) (B : Nat) : Prop := ∃ c T, w.heap[B]? = some (.cells c T (0, 0))
theorem Plain.free {w : World} {B : Nat} (h : Plain w B) (o : Nat) : w.frozen? ⟨B, o, none⟩ = false := by
  obtain ⟨c, T, h⟩ := h
  simp [World.frozen?, h]
theorem Plain.same {w w' : World} {B : Nat} (h : Plain w B) (hh : w'.heap[B]? = w.heap[B]?) : Plain w' B := by
  obtain ⟨c, T, h⟩ := h
  exact ⟨c, T, hh.trans h⟩
theorem Plain.lt {w : World} {B : Nat} (h : Plain w B) : B < w.heap.size := by
  obtain ⟨c, T, h⟩ := h
  exact (Array.getElem?_eq_some_iff.1 h).1
theorem Plain.kept {F : Nat → Prop} {w w' : World} {B : Nat} (h : Plain w B) (hk : Keeps F w w') (hF : ¬ F B) : Plain w' B := h.same (hk.block B h.lt hF)
theorem Plain.alloc {w : World} {B : Nat} (h : Plain w B) (o : Obj) : Plain (w.alloc o) B := h.same (Below.heap_alloc _ _ _ h.lt)
theorem Plain.setCell {w : World} {B : Nat} (h : Plain w B) (a : Addr) (v : Value) : Plain (w.setCell a v) B := by
  obtain ⟨c, T, h⟩ := h
  by_cases hb : B = a.block
  · subst hb
    exact ⟨if a.spot.isSome then c else c.setIfInBounds a.off v, T, by simp [World.setCell, Array.getElem?_modify, h]⟩
  · exact ⟨c, T, by rw [Below.heap_setCell _ _ _ _ hb]; exact h⟩
def Head (w : World) (B o : Nat) (t : AT) : Prop :=
  Plain w B ∧ w.cell? ⟨B, o, none⟩ = some (.int .i64 t.k) ∧ w.cell? ⟨B, o + 1, none⟩ = some (.int .i64 t.n) ∧ w.cell? ⟨B, o + 2, none⟩ = some (.string t.s) ∧ w.cell? ⟨B, o + 3, none⟩ = some t.sv
mutual
def AT.mem (w : World) : AT → Prop
  | .mk _ _ _ sv G off l => SvOk sv G off l.length ∧ ATs.mem w G l off
def ATs.mem (w : World) (G : Nat) : List AT → Nat → Prop
  | [], _ => True
  | t :: r, off => Head w G off t ∧ AT.mem w t ∧ ATs.mem w G r (off + 4)
end
mutual
def AT.ins (S : Nat → Prop) : AT → Prop
  | .mk _ _ _ _ G _ l => (l ≠ [] → S G) ∧ ATs.ins S l
def ATs.ins (S : Nat → Prop) : List AT → Prop
  | [] => True
  | t :: r => AT.ins S t ∧ ATs.ins S r
end
mutual
def AT.nodes : AT → Nat
  | .mk _ _ _ _ _ _ l => ATs.nodes l + 1
def ATs.nodes : List AT → Nat
  | [] => 0
  | t :: r => AT.nodes t + ATs.nodes r
end
structure Row where
  k : Int
  n : Int
  a : Nat
  s : ByteArray
mutual
def AT.rows : AT → List Row
  | .mk k n s _ _ _ l => ⟨k, n, l.length, s⟩ :: ATs.rows l
def ATs.rows : List AT → List Row
  | [] => []
  | t :: r => AT.rows t ++ ATs.rows r
end
structure Nd where
  B : Nat
  o : Nat
  d : Nat
  t : AT
mutual
def AT.flat (d : Nat) : AT → List Nd
  | .mk _ _ _ _ G off l => ATs.flat G d l off
def ATs.flat (G d : Nat) : List AT → Nat → List Nd
  | [], _ => []
  | t :: r, off => ⟨G, off, d, t⟩ :: (AT.flat (d + 1) t ++ ATs.flat G d r (off + 4))
end
theorem AT.mem_mk {w : World} {t : AT} : t.mem w ↔ SvOk t.sv t.G t.off t.l.length ∧ ATs.mem w t.G t.l t.off := by
  cases t; rfl
theorem AT.nodes_mk {t : AT} : t.nodes = ATs.nodes t.l + 1 := by cases t; rfl
theorem AT.flat_mk {t : AT} {d : Nat} : t.flat d = ATs.flat t.G d t.l t.off := by cases t; rfl
mutual
theorem AT.mem_same {S : Nat → Prop} {w w' : World} (h : ∀ j, S j → w'.heap[j]? = w.heap[j]?) : ∀ t : AT, t.ins S → t.mem w → t.mem w'
  | .mk k n s sv G off l, hi, hm => ⟨hm.1, by
      by_cases hl : l = []
      · subst hl; trivial
      · exact ATs.mem_same h l off G (hi.1 hl) hi.2 hm.2⟩
theorem ATs.mem_same {S : Nat → Prop} {w w' : World} (h : ∀ j, S j → w'.heap[j]? = w.heap[j]?) : ∀ (l : List AT) (off G : Nat), S G → ATs.ins S l → ATs.mem w G l off → ATs.mem w' G l off
  | [], _, _, _, _, _ => trivial
  | t :: r, off, G, hG, hi, hm => by
    obtain ⟨⟨hp, h0, h1, h2, h3⟩, ht, hr⟩ := hm
    exact ⟨⟨hp.same (h G hG), (World.cell?_of_block (h G hG)).trans h0, (World.cell?_of_block (h G hG)).trans h1, (World.cell?_of_block (h G hG)).trans h2, (World.cell?_of_block (h G hG)).trans h3⟩, AT.mem_same h t hi.1 ht, ATs.mem_same h r (off + 4) G hG hi.2 hr⟩
end
mutual
theorem AT.ins_mono {S S' : Nat → Prop} (h : ∀ j, S j → S' j) : ∀ t : AT, t.ins S → t.ins S'
  | .mk _ _ _ _ _ _ l, hi => ⟨fun hl => h _ (hi.1 hl), ATs.ins_mono h l hi.2⟩
theorem ATs.ins_mono {S S' : Nat → Prop} (h : ∀ j, S j → S' j) : ∀ l : List AT, ATs.ins S l → ATs.ins S' l
  | [], _ => trivial
  | t :: r, hi => ⟨AT.ins_mono h t hi.1, ATs.ins_mono h r hi.2⟩
end
mutual
theorem AT.ins_size {w : World} : ∀ t : AT, t.mem w → t.ins (fun j => j < w.heap.size)
  | .mk _ _ _ _ G off l, hm => ⟨fun hl => by
      cases l with
      | nil => exact absurd rfl hl
      | cons t r => exact hm.2.1.1.lt, ATs.ins_size l off G hm.2⟩
theorem ATs.ins_size {w : World} : ∀ (l : List AT) (off G : Nat), ATs.mem w G l off → ATs.ins (fun j => j < w.heap.size) l
  | [], _, _, _ => trivial
  | t :: r, off, G, hm => ⟨AT.ins_size t hm.2.1, ATs.ins_size r (off + 4) G hm.2.2⟩
end
theorem AT.mem_below {B : Nat} {w w' : World} (h : Below B w w') {t : AT} (hi : t.ins (fun j => j < B)) (hm : t.mem w) : t.mem w' :=
  AT.mem_same (fun j hj => h.block j hj) t hi hm
theorem AT.mem_keeps {F S : Nat → Prop} {w w' : World} (h : Keeps F w w') {t : AT} (hi : t.ins S) (hS : ∀ j, S j → ¬ F j) (hm : t.mem w) : t.mem w' :=
  AT.mem_same (S := fun j => S j ∧ j < w.heap.size) (fun j hj => h.block j hj.2 (hS j hj.1)) t (by
    have h2 := AT.ins_size t hm
    exact AT.ins_and t hi h2) hm
where
  AT.ins_and {S T : Nat → Prop} : ∀ t : AT, t.ins S → t.ins T → t.ins (fun j => S j ∧ T j)
  | .mk _ _ _ _ _ _ l, hi, hj => ⟨fun hl => ⟨hi.1 hl, hj.1 hl⟩, ATs.ins_and l hi.2 hj.2⟩
  ATs.ins_and {S T : Nat → Prop} : ∀ l : List AT, ATs.ins S l → ATs.ins T l → ATs.ins (fun j => S j ∧ T j) l
  | [], _, _ => trivial
  | t :: r, hi, hj => ⟨AT.ins_and t hi.1 hj.1, ATs.ins_and r hi.2 hj.2⟩
structure St where
  B : Nat
  o : Nat
  k : Nat
def stCells : List St → List Value
  | [] => []
  | f :: σ => stCells σ ++ [.pointer (some ⟨f.B, f.o, none⟩), .int .i64 f.k]
theorem stCells_len (σ : List St) : (stCells σ).length = σ.length * 2 := by
  induction σ with
  | nil => rfl
  | cons f σ ih => simp [stCells, ih]; omega
def WayAt (w : World) (q : Nat) (T : TypeId) (tl : List Value) (g : Nat) (σ : List St) : Prop :=
  ∃ cap cur, w.heap[q]? = some (.cells (.slice (some ⟨g, 0, none⟩) σ.length cap :: tl).toArray T (0, 0)) ∧ w.heap[g]? = some (.cells cur 235 (0, 0)) ∧ g ≠ q ∧ σ.length ≤ cap ∧ cap ≤ maxLen ∧ cur.size = cap * 2 ∧ cur.toList.take (σ.length * 2) = stCells σ
theorem cell_of_heap {w : World} {b o : Nat} {c : Array Value} {T : TypeId} {fr : Nat × Nat} {v : Value} (h : w.heap[b]? = some (.cells c T fr)) (hc : c[o]? = some v) : w.cell? ⟨b, o, none⟩ = some v := by
  simp [World.cell?, h, hc]
theorem free_of_heap {w : World} {b o : Nat} {c : Array Value} {T : TypeId} (h : w.heap[b]? = some (.cells c T (0, 0))) : w.frozen? ⟨b, o, none⟩ = false := by
  simp [World.frozen?, h]
theorem heap_set {w : World} {b o : Nat} {c : Array Value} {T : TypeId} {fr : Nat × Nat} (h : w.heap[b]? = some (.cells c T fr)) (v : Value) : (w.setCell ⟨b, o, none⟩ v).heap[b]? = some (.cells (c.setIfInBounds o v) T fr) := by
  simp [World.setCell, Array.getElem?_modify, h]
theorem heap_set_ne {w : World} {b k o : Nat} (hk : k ≠ b) (v : Value) : (w.setCell ⟨b, o, none⟩ v).heap[k]? = w.heap[k]? := Below.heap_setCell _ _ _ _ hk
theorem way_ptr {w : World} {q : Nat} {T : TypeId} {tl : List Value} {g : Nat} {σ : List St} (h : WayAt w q T tl g σ) :
    ∃ cap, w.cell? ⟨q, 0, none⟩ = some (.slice (some ⟨g, 0, none⟩) σ.length cap) ∧ w.frozen? ⟨q, 0, none⟩ = false ∧ σ.length ≤ cap ∧ cap ≤ maxLen ∧ w.ownsRow 0 235 2 (.slice (some ⟨g, 0, none⟩) σ.length cap) σ.length (stCells σ) ∧ w.heap[q]? = some (.cells (.slice (some ⟨g, 0, none⟩) σ.length cap :: tl).toArray T (0, 0)) := by
  obtain ⟨cap, cur, h1, h2, h3, h4, h5, h6, h7⟩ := h
  exact ⟨cap, cell_of_heap h1 (by simp), free_of_heap h1, h4, h5, ⟨stCells_len σ, .inr ⟨g, cap, cur, rfl, Nat.zero_le _, h2, h4, h5, h6, h7⟩⟩, h1⟩
theorem way_top {w : World} {q : Nat} {T : TypeId} {tl : List Value} {g : Nat} {f : St} {σ : List St} (h : WayAt w q T tl g (f :: σ)) :
    w.cell? ⟨g, σ.length * 2, none⟩ = some (.pointer (some ⟨f.B, f.o, none⟩)) ∧ w.cell? ⟨g, σ.length * 2 + 1, none⟩ = some (.int .i64 f.k) ∧ w.frozen? ⟨g, σ.length * 2 + 1, none⟩ = false := by
  obtain ⟨cap, cur, h1, h2, h3, h4, h5, h6, h7⟩ := h
  have hl := stCells_len σ
  have key : ∀ j, j < (f :: σ).length * 2 → cur[j]? = (stCells (f :: σ))[j]? := fun j hj => by
    rw [← h7, List.getElem?_take, if_pos hj]; simp
  refine ⟨cell_of_heap h2 ?_, cell_of_heap h2 ?_, free_of_heap h2⟩
  · rw [key _ (by simp), stCells, List.getElem?_append_right (by omega), hl]; simp
  · rw [key _ (by simp; omega), stCells, List.getElem?_append_right (by omega), hl, show σ.length * 2 + 1 - σ.length * 2 = 1 from by omega]; simp
theorem way_popped {w : World} {q : Nat} {T : TypeId} {tl : List Value} {g : Nat} {f : St} {σ : List St} (h : WayAt w q T tl g (f :: σ)) {cap : Nat} (hc : w.cell? ⟨q, 0, none⟩ = some (.slice (some ⟨g, 0, none⟩) (σ.length + 1) cap)) :
    WayAt (w.setCell ⟨q, 0, none⟩ (.slice (some ⟨g, 0, none⟩) σ.length cap)) q T tl g σ := by
  obtain ⟨cap', cur, h1, h2, h3, h4, h5, h6, h7⟩ := h
  have h0 := cell_of_heap (o := 0) h1 (by simp; rfl)
  rw [hc] at h0
  simp at h0
  subst h0
  refine ⟨cap, cur, ?_, by rw [heap_set_ne h3]; exact h2, h3, by simp at h4; omega, h5, h6, ?_⟩
  · rw [heap_set h1]; simp [Array.setIfInBounds]
  · have := congrArg (List.take (σ.length * 2)) h7
    rw [List.take_take, stCells, List.take_left' (stCells_len σ)] at this
    rw [← this]; congr 1; simp
theorem way_bumped {w : World} {q : Nat} {T : TypeId} {tl : List Value} {g : Nat} {f : St} {σ : List St} (h : WayAt w q T tl g (f :: σ)) (k : Nat) :
    WayAt (w.setCell ⟨g, σ.length * 2 + 1, none⟩ (.int .i64 k)) q T tl g (⟨f.B, f.o, k⟩ :: σ) := by
  obtain ⟨cap, cur, h1, h2, h3, h4, h5, h6, h7⟩ := h
  refine ⟨cap, cur.setIfInBounds (σ.length * 2 + 1) (.int .i64 k), by rw [heap_set_ne (Ne.symm h3)]; exact h1, by rw [heap_set h2], h3, h4, h5, by simpa using h6, ?_⟩
  rw [Array.toList_setIfInBounds, List.take_set, show (({ B := f.B, o := f.o, k := k } : St) :: σ).length = (f :: σ).length from rfl, h7, stCells, stCells, List.set_append_right _ _ (by rw [stCells_len]; omega), stCells_len, show σ.length * 2 + 1 - σ.length * 2 = 1 from by omega]
  rfl
theorem way_pushed {w : World} {q : Nat} {T : TypeId} {tl : List Value} {g n cap : Nat} {v0 : Value} {σ : List St} (hq : w.heap[q]? = some (.cells (v0 :: tl).toArray T (0, 0))) (hg : g ≠ q) (ho : w.ownsRow 0 235 2 (.slice (some ⟨g, 0, none⟩) n cap) n (stCells σ)) (hn : n = σ.length) :
    WayAt (w.setCell ⟨q, 0, none⟩ (.slice (some ⟨g, 0, none⟩) n cap)) q T tl g σ := by
  subst hn
  obtain ⟨_, h | ⟨g', cap', cur, hv, _, h2, h4, h5, h6, h7⟩⟩ := ho
  · simp at h
  · simp at hv
    obtain ⟨rfl, rfl⟩ := hv
    refine ⟨cap, cur, ?_, by rw [heap_set_ne hg]; exact h2, hg, h4, h5, h6, h7⟩
    rw [heap_set hq]; simp [Array.setIfInBounds]
theorem way_kept {F : Nat → Prop} {w w' : World} {q : Nat} {T : TypeId} {tl : List Value} {g : Nat} {σ : List St} (h : WayAt w q T tl g σ) (hk : Keeps F w w') (hq : ¬ F q) (hg : ¬ F g) : WayAt w' q T tl g σ := by
  obtain ⟨cap, cur, h1, h2, h3, h4, h5, h6, h7⟩ := h
  exact ⟨cap, cur, hk.heap h1 hq, hk.heap h2 hg, h3, h4, h5, h6, h7⟩
theorem way_lt {w : World} {q : Nat} {T : TypeId} {tl : List Value} {g : Nat} {σ : List St} (h : WayAt w q T tl g σ) : q < w.heap.size ∧ g < w.heap.size := by
  obtain ⟨cap, cur, h1, h2, _⟩ := h
  exact ⟨(Array.getElem?_eq_some_iff.1 h1).1, (Array.getElem?_eq_some_iff.1 h2).1⟩
theorem way_ne {w : World} {q : Nat} {T : TypeId} {tl : List Value} {g : Nat} {σ : List St} (h : WayAt w q T tl g σ) : g ≠ q := by
  obtain ⟨cap, cur, h1, h2, h3, _⟩ := h
  exact h3
theorem way_at {w : World} {q : Nat} {T : TypeId} {tl : List Value} {g : Nat} {σ : List St} (h : WayAt w q T tl g σ) (i : Nat) (f : St) (hi : σ.reverse[i]? = some f) : w.cell? ⟨g, i * 2, none⟩ = some (.pointer (some ⟨f.B, f.o, none⟩)) := by
  obtain ⟨cap, cur, h1, h2, h3, h4, h5, h6, h7⟩ := h
  have hlt : i < σ.length := by have := (List.getElem?_eq_some_iff.1 hi).1; simpa using this
  refine cell_of_heap h2 ?_
  have : cur[i * 2]? = (stCells σ)[i * 2]? := by rw [← h7, List.getElem?_take, if_pos (by omega)]; simp
  rw [this]
  clear this h7 h1 h2 h4 h5 h6 h3
  induction σ with
  | nil => simp at hlt
  | cons e σ ih =>
    rw [stCells]
    by_cases hc : i < σ.length
    · rw [List.getElem?_append_left (by rw [stCells_len]; omega)]
      refine ih ?_ hc
      rw [List.reverse_cons, List.getElem?_append_left (by simpa using hc)] at hi
      exact hi
    · have hi' : i = σ.length := by simp at hlt; omega
      subst hi'
      rw [List.getElem?_append_right (by rw [stCells_len]; omega), stCells_len]
      rw [List.reverse_cons, List.getElem?_append_right (by simp)] at hi
      simp at hi
      subst hi
      simp
end Go.Proofs.YtkplokfcjjcpcaaGreatDoor.Trm
end
section
namespace Go.Proofs.YtkplokfcjjcpcaaGreatDoor.Trm
open Go Go.RowKit
structure RF where
  B : Nat
  o : Nat
  k : Nat
  sv : Value
  G : Nat
  off : Nat
  len : Nat
def RF.st (f : RF) : St := ⟨f.B, f.o, f.k⟩
def RF.ok (w : World) (f : RF) : Prop := w.cell? ⟨f.B, f.o + 3, none⟩ = some f.sv ∧ SvOk f.sv f.G f.off f.len
def popped : List RF → List RF
  | [] => []
  | f :: σ => if f.len ≤ f.k then popped σ else f :: σ
def NextPost (w : World) (q : Nat) (T : TypeId) (tl : List Value) (g : Nat) (σ : List RF) (e : Ending) (w' : World) : Prop :=
  match popped σ with
  | [] => e = .returned (.pointer none) ∧ WayAt w' q T tl g [] ∧ Keeps (fun j => j = q ∨ j = g) w w'
  | f :: r => e = .returned (.pointer (some ⟨f.G, f.off + f.k * 4, none⟩)) ∧ ∃ g', (g' = g ∨ w.heap.size ≤ g') ∧ WayAt w' q T tl g' (⟨f.G, f.off + f.k * 4, 0⟩ :: ⟨f.B, f.o, f.k + 1⟩ :: r.map RF.st) ∧ Keeps (fun j => j = q ∨ j = g) w w'
theorem next_nil {w w' : World} {q : Nat} {T : TypeId} {tl : List Value} {g : Nat} {σ : List RF} (h : popped σ = []) (hw : WayAt w' q T tl g []) (hk : Keeps (fun j => j = q ∨ j = g) w w') : NextPost w q T tl g σ (.returned (.pointer none)) w' := by
  unfold NextPost
  rw [h]
  exact ⟨rfl, hw, hk⟩
theorem next_one {w w' : World} {q : Nat} {T : TypeId} {tl : List Value} {g g' : Nat} {σ r : List RF} {f : RF} (h : popped σ = f :: r) (hg : g' = g ∨ w.heap.size ≤ g') (hw : WayAt w' q T tl g' (⟨f.G, f.off + f.k * 4, 0⟩ :: ⟨f.B, f.o, f.k + 1⟩ :: r.map RF.st)) (hk : Keeps (fun j => j = q ∨ j = g) w w') :
    NextPost w q T tl g σ (.returned (.pointer (some ⟨f.G, f.off + f.k * 4, none⟩))) w' := by
  unfold NextPost
  rw [h]
  exact ⟨rfl, g', hg, hw, hk⟩
theorem pop_close {w wr : World} {q : Nat} {T : TypeId} {tl : List Value} {g n cap : Nat} {σ r : List RF} {f : RF} (d : Nat) (hc : wr.cell? ⟨q, 0, none⟩ = some (.slice (some ⟨g, 0, none⟩) (n + 1) cap)) (hn : r.length = n)
    (hw : WayAt wr q T tl g ((f :: r).map RF.st)) (hp : popped (f :: r) = popped σ) (hd : f.len ≤ f.k) (hk : Keeps (fun j => j = q) w wr) (hs : ∀ e ∈ f :: r, e ∈ σ) (hn2 : n ≤ 1000000) :
    ∃ σc : List RF, σc.length = n ∧ Hid (n ≤ 1000000) ∧ Hid (WayAt ((wr.drewN d).setCell ⟨q, 0, none⟩ (.slice (some ⟨g, 0, none⟩) n cap)) q T tl g (σc.map RF.st)) ∧ Hid (popped σc = popped σ) ∧
      Hid (Keeps (fun j => j = q) w ((wr.drewN d).setCell ⟨q, 0, none⟩ (.slice (some ⟨g, 0, none⟩) n cap))) ∧ Hid (∀ e ∈ σc, e ∈ σ) := by
  subst hn
  refine ⟨r, rfl, hn2, ?_, ?_, (hk.drewN d).setCell (.inl rfl) _, fun e he => hs e (List.mem_cons_of_mem _ he)⟩
  · have h1 : WayAt (wr.drewN d) q T tl g (f.st :: r.map RF.st) := hw
    have h2 := way_popped h1 (cap := cap) (by rw [List.length_map]; exact hc)
    rw [List.length_map] at h2
    exact h2
  · rw [popped, if_pos hd] at hp
    exact hp
theorem way_owns {w : World} {q : Nat} {T : TypeId} {tl : List Value} {g n cap : Nat} {σ : List St} (h : WayAt w q T tl g σ) (hn : σ.length = n) (hc : w.cell? ⟨q, 0, none⟩ = some (.slice (some ⟨g, 0, none⟩) n cap)) :
    w.ownsRow 0 235 2 (.slice (some ⟨g, 0, none⟩) n cap) n (stCells σ) := by
  obtain ⟨cap', c0, _, _, _, h1, _⟩ := way_ptr h
  rw [hc] at c0
  simp at c0
  obtain ⟨h2, h3⟩ := c0
  rw [h3, ← hn]
  exact h1
theorem bumped {w : World} {q : Nat} {T : TypeId} {tl : List Value} {g n fk : Nat} {f : RF} {r : List RF} (d : Nat) (hn : r.length = n) (hk : f.k = fk) (h : WayAt w q T tl g ((f :: r).map RF.st)) :
    WayAt ((w.drewN d).setCell ⟨g, n * 2 + 1, none⟩ (.int .i64 (↑fk + 1))) q T tl g (⟨f.B, f.o, f.k + 1⟩ :: r.map RF.st) := by
  have h1 : WayAt (w.drewN d) q T tl g (f.st :: r.map RF.st) := h
  have h2 := way_bumped h1 (f.k + 1)
  rw [List.length_map, hn, hk] at h2
  rw [hk]
  exact h2
theorem set_cell_ne {w : World} {b o b' o' : Nat} (h : b' ≠ b) (v : Value) : (w.setCell ⟨b, o, none⟩ v).cell? ⟨b', o', none⟩ = w.cell? ⟨b', o', none⟩ :=
  World.cell?_of_block (heap_set_ne h v)
theorem step_news (w : World) (a : Addr) (H : Nat) (h : w.heap.size = H) : ∀ j u, [Value.pointer (some a), .int .i64 0][j]? = some u → (w.alloc (.cells #[.pointer (some a), .int .i64 0] 235)).cell? ((⟨H, 0, none⟩ : Addr).add j) = some u := by
  subst h
  exact World.news_of_block (heap_alloc_new w _)
theorem step_one (a : Addr) : ∀ u ∈ [Value.pointer (some a), .int .i64 0], u.oneCell' = true := by
  intro u hu
  simp at hu
  rcases hu with rfl | rfl <;> rfl
theorem push_close {w wr w1 : World} {q : Nat} {T : TypeId} {tl : List Value} {g n cap' fk g' fG fo : Nat} {σ r : List RF} {f : RF} {o : Obj} (d : Nat) (hn : r.length = n) (hk : f.k = fk) (hG : f.G = fG) (hO : f.off = fo)
    (hw : WayAt wr q T tl g ((f :: r).map RF.st)) (hp : popped (f :: r) = popped σ) (hd : fk < f.len) (hK : Keeps (fun j => j = q) w wr)
    (ho : w1.ownsRow 0 235 2 (.slice (some ⟨g', 0, none⟩) (n + 1 + 1) cap') (n + 1 + 1) (stCells (⟨f.B, f.o, f.k + 1⟩ :: r.map RF.st) ++ [.pointer (some ⟨fG, fo + fk * 4, none⟩), .int .i64 0]))
    (hg : (((wr.drewN d).setCell ⟨g, n * 2 + 1, none⟩ (.int .i64 (↑fk + 1))).alloc o).grownBy w1 (some g)) (hat : some g = some g' ∨ g' = wr.heap.size + 1) :
    NextPost w q T tl g σ (.returned (.pointer (some ⟨fG, fo + fk * 4, none⟩))) (w1.setCell ⟨q, 0, none⟩ (.slice (some ⟨g', 0, none⟩) (n + 1 + 1) cap')) := by
  subst hn hk hG hO
  have hb := bumped d rfl rfl hw
  have hq := way_lt hb
  have hpo : popped σ = f :: r := by rw [← hp, popped, if_neg (by omega)]
  have hne : g' ≠ q := by
    rcases hat with h | h
    · have := way_ne hw
      simp at h
      omega
    · have := (way_lt hw).1
      omega
  obtain ⟨cap2, _, _, _, _, _, hq2⟩ := way_ptr hb
  refine next_one hpo (g' := g') ?_ ?_ ?_
  · rcases hat with h | h
    · simp at h; exact .inl h.symm
    · right; have := hK.size; omega
  · refine way_pushed (v0 := ?_) ?_ hne (σ := ⟨f.G, f.off + f.k * 4, 0⟩ :: ⟨f.B, f.o, f.k + 1⟩ :: r.map RF.st) (by simpa [stCells] using ho) (by simp)
    · exact .slice (some ⟨g, 0, none⟩) (({ B := f.B, o := f.o, k := f.k + 1 } : St) :: r.map RF.st).length cap2
    · rw [hg.block q (by simp [World.setCell] at hq ⊢; omega) (by
        have := way_ne hw
        simp; omega), Below.heap_alloc _ _ _ hq.1]
      exact hq2
  · have h1 : Keeps (fun j => j = q ∨ j = g) w wr := hK.wide fun j h => .inl (.inl h)
    refine Keeps.setCell (Keeps.grown (Keeps.alloc (Keeps.setCell (h1.drewN d) (.inl (.inr rfl)) _) o) hg (fun k hk => ?_)) (.inl (.inl rfl)) _
    simp at hk
    exact .inl (.inr hk.symm)
set_option maxRecDepth 100000 in
set_option maxHeartbeats 1600000 in
theorem next_is (q : Nat) (T : TypeId) (tl : List Value) (g : Nat) (σ : List RF) (w : World) (hw : WayAt w q T tl g (σ.map RF.st)) (hok : ∀ f ∈ σ, f.ok w) (hsep : ∀ f ∈ σ, f.B ≠ q ∧ f.B ≠ g) (hlen : σ.length ≤ 1000000) (hk : ∀ f ∈ σ, f.k ≤ 1000000000 ∧ f.len ≤ 1000000000) :
    Calls Tryz.prog 107 #[.pointer (some ⟨q, 0, none⟩)] w (NextPost w q T tl g σ) := by
  obtain ⟨i0, hi, hz0, hz1, hz2⟩ := info_parts (show (Tryz.prog.info? 235).map (fun i => (i.zero, i.size, i.bytes)) = some (some (.agg #[.pointer none, .int .i64 0]), 2, 16) by kernel_rfl)
  obtain ⟨m0, hm0⟩ : ∃ m0, σ.length = m0 := ⟨_, rfl⟩
  have HW := Lib.hid hw
  have HO := Lib.hid hok
  have HS := Lib.hid hsep
  have HK := Lib.hid hk
  have HM := Lib.hid hm0
  have HP := Lib.hid (rfl : NextPost w q T tl g σ = NextPost w q T tl g σ)
  clear hw hok hsep hk hm0
  go_enter Tryz.func107, Tryz.ntmps107
  go_wp2_with fail
  go_loopg [] m0 (fun m wr => ∃ σc : List RF, σc.length = m ∧ Hid (m ≤ 1000000) ∧ Hid (WayAt wr q T tl g (σc.map RF.st)) ∧ Hid (popped σc = popped σ) ∧ Hid (Keeps (fun j => j = q) w wr) ∧ Hid (∀ f ∈ σc, f ∈ σ))
  case atStart => exact ⟨σ, HM.out, (by have := HM.out; show m0 ≤ 1000000; omega), HW.out, rfl, Keeps.refl _ _, fun f h => h⟩
  case round =>
    obtain ⟨σc, hlen, HLc, HWc, HPc, HKc, HSc⟩ := hrel
    cases σc with
    | nil =>
      obtain ⟨cap, c0, z0, l0, l1, _, _⟩ := way_ptr HWc.out
      simp only [List.map_nil, List.length_nil] at c0 l0
      unfold maxLen at l1
      clear z0
      go_wp2
      go_ret
      exact next_nil HPc.out.symm HWc.out (HKc.out.wide fun j hj => .inl (.inl hj))
    | cons f r =>
      obtain ⟨cap, c0, z0, l0, l1, _, _⟩ := way_ptr HWc.out
      obtain ⟨t0, t1, z1⟩ := way_top HWc.out
      have hf := HSc.out f (by simp)
      obtain ⟨o0, o1⟩ := HO.out f hf
      obtain ⟨k0, k1⟩ := HK.out f hf
      obtain ⟨s0, s1⟩ := HS.out f hf
      replace o0 := HKc.out.cell o0 (fun h => s0 h)
      have hz := (way_lt HWc.out).1
      simp only [List.map_cons, List.length_cons, List.length_map] at c0 l0 t0 t1 z1 hlen
      simp only [RF.st] at t0 t1
      obtain ⟨n, hn⟩ : ∃ n, r.length = n := ⟨_, rfl⟩
      rw [hn] at c0 l0 t0 t1 z1 hlen
      subst hlen
      have HN := Lib.hid hn
      unfold maxLen at l1
      have hn2 : n ≤ 1000000 := by have := HLc.out; omega
      obtain ⟨fk, hfk⟩ : ∃ k, f.k = k := ⟨_, rfl⟩
      obtain ⟨fl, hfl⟩ : ∃ k, f.len = k := ⟨_, rfl⟩
      rw [hfk] at t1 k0
      rw [hfl] at k1
      have HFK := Lib.hid hfk
      have HFL := Lib.hid hfl
      by_cases hd : fl ≤ fk
      · have HD := Lib.hid (show f.len ≤ f.k by omega)
        clear hn s0 s1 hf
        rcases o1 with ⟨e1, e2⟩ | ⟨c1, e1, e2, e3⟩
        · rw [e1] at o0
          clear e1 e2 hfk hfl
          go_wp2
          go_quiet (fail)
          go_wp2
          go_quiet (fail)
          go_wp2
          go_region
          go_wp2
          go_roundg n
          case rel => exact pop_close _ c0 HN.out HWc.out HPc.out HD.out HKc.out HSc.out hn2
          case measure => omega
        · rw [e1, hfl] at o0
          rw [hfl] at e2
          unfold maxLen at e3
          clear e1 hfk hfl
          go_wp2
          go_quiet (fail)
          go_wp2
          go_quiet (fail)
          go_wp2
          go_region
          go_wp2
          go_roundg n
          case rel => exact pop_close _ c0 HN.out HWc.out HPc.out HD.out HKc.out HSc.out hn2
          case measure => omega
      · have hlt : fk < fl := by omega
        rcases o1 with ⟨e1, e2⟩ | ⟨c1, e1, e2, e3⟩
        · omega
        · obtain ⟨fG, hfG⟩ : ∃ k, f.G = k := ⟨_, rfl⟩
          obtain ⟨fo, hfo⟩ : ∃ k, f.off = k := ⟨_, rfl⟩
          rw [e1, hfl, hfG, hfo] at o0
          rw [hfl] at e2
          unfold maxLen at e3
          have HD := Lib.hid (show fk < f.len by omega)
          have HG := Lib.hid hfG
          have HO2 := Lib.hid hfo
          have HB := Lib.hid (fun d => bumped d HN.out HFK.out HWc.out)
          have HB0 := Lib.hid (fun d => way_owns (HB.out d) (n := n + 1) (cap := cap) (by simp [HN.out]) (by rw [set_cell_ne (way_ne HWc.out).symm]; exact c0))
          clear e1 hfk hfl hfG hfo hn s0 s1 hf hd
          go_wp2
          go_quiet (fail)
          go_wp2
          go_quiet (fail)
          go_wp2
          go_quiet (fail)
          go_wp2_with (at_builtin; refine wpList_append_lies _ rfl (.tmp 54) (.tmp 57) 193 rfl 0 235 i0 (.agg #[.pointer none, .int .i64 0]) 2 16 Tryz.underlying193 hi hz0 hz1 hz2 rfl (by decide) _ _ _ rfl ((HB0.out _).alloc _) ⟨wr.heap.size, 0, none⟩ 1 1 [.pointer (some ⟨fG, fo + fk * 4, none⟩), .int .i64 0] rfl rfl (step_news _ _ _ (by simp [World.setCell])) (step_one _) (by omega) ?_ ?_ (Nat.zero_le _) (wr.heap.size + 1) (by simp [World.setCell]) ?_)
          · unfold maxLen; omega
          · omega
          intro g' cap' w1 hown hgrow hat hlt2
          have c1 : w1.cell? ⟨q, 0, none⟩ = some (.slice (some ⟨g, 0, none⟩) (n + 1) cap) := by
            have hne := way_ne HWc.out
            rw [hgrow.cell_far _ (by simp [World.setCell]; omega) (by simp [Value.ownBlock]; omega)]
            rw [World.cell?_of_block (Below.heap_alloc _ _ _ (by simp [World.setCell]; omega)), set_cell_ne hne.symm]
            exact c0
          have hq1 : w1.frozen? ⟨q, 0, none⟩ = false := by
            have hne := way_ne HWc.out
            rw [hgrow.frozen_far _ (by simp [World.setCell]; omega) (by simp [Value.ownBlock]; omega)]
            rw [World.frozen?_of_block (Below.heap_alloc _ _ _ (by simp [World.setCell]; omega)), World.frozen?_of_block (heap_set_ne hne.symm _)]
            exact z0
          have HO1 := Lib.hid hown
          have HG1 := Lib.hid hgrow
          have HA1 := Lib.hid hat
          clear hown hgrow hat hlt2
          go_wp2
          go_ret
          exact push_close _ HN.out HFK.out HG.out HO2.out HWc.out HPc.out HD.out HKc.out HO1.out HG1.out HA1.out
end Go.Proofs.YtkplokfcjjcpcaaGreatDoor.Trm
end
section
namespace Go.Proofs.YtkplokfcjjcpcaaGreatDoor.Trm
open Go Go.RowKit
theorem bitLen_pow : ∀ x : Nat, 1 ≤ x → x < 2 ^ 64 → 1 ≤ Lib.bitLen x ∧ 2 ^ (Lib.bitLen x - 1) ≤ x := by
  intro x
  induction x using Nat.strongRecOn with
  | _ x ih =>
    intro h1 h2
    have hh := Lib.bitLen_half x (by omega) h2
    by_cases hx : x / 2 = 0
    · rw [hx] at hh
      have : Lib.bitLen 0 = 0 := by decide
      rw [hh, this]
      exact ⟨by omega, h1⟩
    · obtain ⟨i1, i2⟩ := ih (x / 2) (by omega) (by omega) (by omega)
      rw [hh]
      refine ⟨by omega, ?_⟩
      rw [show 1 + Lib.bitLen (x / 2) - 1 = (Lib.bitLen (x / 2) - 1) + 1 from by omega, Nat.pow_succ]
      omega
def Quiet (w : World) (v : Value) (e : Ending) (w' : World) : Prop := e = .returned v ∧ ∃ n, w' = w.drewN n
set_option maxRecDepth 100000 in
set_option maxHeartbeats 800000 in
theorem within_no (q : Nat) (d : Int) (w : World) (_h0 : -1 ≤ d) (h1 : d < 2) :
    Calls Tryz.prog 158 #[.pointer (some ⟨q, 0, none⟩), .int .i64 d] w (Quiet w (.bool false)) := by
  go_enter Tryz.func158, Tryz.ntmps158
  go_wp2
  go_ret
  exact ⟨rfl, 0, rfl⟩
set_option maxRecDepth 100000 in
set_option maxHeartbeats 1600000 in
theorem within_yes (q : Nat) (T : TypeId) (tl : List Value) (g : Nat) (f : St) (σ : List St) (w : World) (hw : WayAt w q T tl g (f :: σ)) (hne : ∀ e ∈ σ, ¬ (e.B = f.B ∧ e.o = f.o)) (hpl : ∀ e ∈ f :: σ, Plain w e.B) (h2 : 2 ≤ σ.length) (hlen : σ.length ≤ 1000001) :
    Calls Tryz.prog 158 #[.pointer (some ⟨q, 0, none⟩), .int .i64 σ.length] w (Quiet w (.bool false)) := by
  obtain ⟨cap, c0, _, l0, l1, _, _⟩ := way_ptr hw
  obtain ⟨n, hn⟩ : ∃ n, σ.length = n := ⟨_, rfl⟩
  obtain ⟨b1, b2⟩ := bitLen_pow (n - 1) (by omega) (by omega)
  obtain ⟨a, ha⟩ : ∃ a, 2 ^ (Lib.bitLen (n - 1) - 1) = a := ⟨_, rfl⟩
  have ha1 : 1 ≤ a := by rw [← ha]; exact Nat.one_le_two_pow
  rw [ha] at b2
  obtain ⟨e, he⟩ : ∃ e, (f :: σ).reverse[a]? = some e := ⟨_, List.getElem?_eq_getElem (by simp; omega)⟩
  have ce := way_at hw a e he
  have cf := (way_top hw).1
  have hem : e ∈ σ := by
    rw [List.reverse_cons, List.getElem?_append_left (by simp; omega)] at he
    exact List.mem_reverse.1 (List.mem_of_getElem? he)
  have hd := hne e hem
  have qP : ∀ d : Nat, (binOp .eql 195 (.pointer (some ⟨e.B, e.o, none⟩)) (.pointer (some ⟨f.B, f.o, none⟩))).run Tryz.prog (w.drewN d) = .ok (.bool false) (w.drewN d) := fun d => by
    obtain ⟨ca, ta, hca⟩ := hpl e (List.mem_cons_of_mem _ hem)
    obtain ⟨cb, tb, hcb⟩ := hpl f (by simp)
    obtain ⟨j, hj⟩ : ∃ j, Tryz.prog.info? 34 = some j := Option.isSome_iff_exists.1 (by kernel_rfl)
    refine run_eql_ptr_other (w.drewN d) Tryz.underlying195 hj ?_ (by simp; exact fun h1 h2 => hd ⟨h1, h2⟩) hca hcb
    have h4 : (Tryz.prog.info? 34).map (·.size) = some 4 := by kernel_rfl
    rw [hj] at h4
    simp at h4
    omega
  simp only [List.length_cons] at c0 l0
  rw [hn] at c0 l0 cf h2 hlen ⊢
  have HA := Lib.hid ha
  unfold maxLen at l1
  obtain ⟨L, hL⟩ : ∃ L, Lib.bitLen (n - 1) = L := ⟨_, rfl⟩
  have HL := Lib.hid hL
  rw [hL] at b1
  have b3 : L ≤ 63 := by
    rcases Nat.lt_or_ge L 64 with h | h
    · omega
    · have h5 := HA.out
      rw [HL.out] at h5
      have h6 : 2 ^ 63 ≤ 2 ^ (L - 1) := Nat.pow_le_pow_right (by omega) (by omega)
      omega
  clear ha hL hn hem he hne hw hpl
  go_enter Tryz.func158, Tryz.ntmps158
  go_wp2_with fail
  refine (Tryz.bits_Len _ _ (by omega) (by omega)).mono ?_
  rintro e2 w2 ⟨rfl, rfl⟩
  rw [show ((n : Int) - 1).toNat = n - 1 from by omega, HL.out]
  go_wp2_with fail
  have e1 : wrap64 ((2 : Int) ^ (L - 1)) = (a : Int) := by
    have h5 := HA.out
    rw [HL.out] at h5
    rw [show ((2 : Int) ^ (L - 1)) = (a : Int) by rw [← h5]; push_cast; rfl]
    exact IntWalk.wrap64_in _ ⟨by omega, by omega⟩
  simp only [e1]
  clear e1
  have i1 : (0 : Int) ≤ (a : Int) := by omega
  have i2 : (a : Int) < (n : Int) + 1 := by omega
  have i3 : (0 : Int) ≤ (n : Int) := by omega
  have i4 : (n : Int) < (n : Int) + 1 := by omega
  go_quiet (fail)
  go_wp2
  go_ret
  exact ⟨rfl, _, rfl⟩
set_option maxRecDepth 100000 in
set_option maxHeartbeats 800000 in
theorem deep_nil (q : Nat) (T : TypeId) (tl : List Value) (g : Nat) (w : World) (hw : WayAt w q T tl g []) :
    Calls Tryz.prog 108 #[.pointer (some ⟨q, 0, none⟩)] w (Quiet w (.int .i64 (-1))) := by
  obtain ⟨cap, c0, _, l0, l1, _, _⟩ := way_ptr hw
  simp only [List.length_nil] at c0
  clear hw
  go_enter Tryz.func108, Tryz.ntmps108
  go_wp2_with fail
  refine (within_no _ _ _ (by omega) (by omega)).mono ?_
  rintro e w' ⟨rfl, n, rfl⟩
  go_wp2
  go_ret
  exact ⟨rfl, _, rfl⟩
set_option maxRecDepth 100000 in
set_option maxHeartbeats 800000 in
theorem deep_top (q : Nat) (T : TypeId) (tl : List Value) (g : Nat) (f : St) (σ : List St) (w : World) (hw : WayAt w q T tl g (f :: σ)) (hne : ∀ e ∈ σ, ¬ (e.B = f.B ∧ e.o = f.o)) (hpl : ∀ e ∈ f :: σ, Plain w e.B) (hlen : σ.length ≤ 1000001) :
    Calls Tryz.prog 108 #[.pointer (some ⟨q, 0, none⟩)] w (Quiet w (.int .i64 σ.length)) := by
  obtain ⟨cap, c0, _, l0, l1, _, _⟩ := way_ptr hw
  simp only [List.length_cons] at c0 l0
  unfold maxLen at l1
  have C := Lib.hid (show Calls Tryz.prog 158 #[.pointer (some ⟨q, 0, none⟩), .int .i64 σ.length] w (Quiet w (.bool false)) by
    by_cases h2 : σ.length < 2
    · exact within_no q _ w (by omega) (by omega)
    · exact within_yes q T tl g f σ w hw hne hpl (by omega) hlen)
  obtain ⟨n, hn⟩ : ∃ n, σ.length = n := ⟨_, rfl⟩
  rw [hn] at c0 l0 hlen C ⊢
  clear hw hne hpl hn
  go_enter Tryz.func108, Tryz.ntmps108
  go_wp2_with fail
  refine C.out.mono ?_
  rintro e w' ⟨rfl, d, rfl⟩
  go_wp2
  go_ret
  exact ⟨rfl, _, rfl⟩
def FromPost (w : World) (sv : Value) (e : Ending) (w' : World) : Prop :=
  e = .returned (.slice (some ⟨w.heap.size + 1, 0, none⟩) 1 1) ∧ w' = (w.alloc (.cells #[.int .i64 0, .int .i64 0, .string ⟨#[]⟩, sv] 34)).alloc (.cells #[.pointer (some ⟨w.heap.size, 0, none⟩), .int .i64 0] 235)
set_option maxRecDepth 100000 in
set_option maxHeartbeats 800000 in
theorem from_is (sv : Value) (w : World) (h : ∃ a n c, sv = .slice a n c) :
    Calls Tryz.prog 106 #[sv] w (FromPost w sv) := by
  obtain ⟨a, n, c, rfl⟩ := h
  go_enter Tryz.func106, Tryz.ntmps106
  go_wp2
  go_ret
  exact ⟨rfl, rfl⟩
end Go.Proofs.YtkplokfcjjcpcaaGreatDoor.Trm
end
