/- What memory holds: terms as trees, what a call leaves as it was, and the way that is kept through terms. Conditions: none. -/
import Derived.Test.YtkidcchafdiofaaRows
import Derived.WalkKit
import Derived.WalkSpells
import Derived.WalkLawsBesides
import Derived.Lib.Hide
import Derived.Deep.AppendLies
import Derived.Deep.LoopGhost
namespace Go.Proofs.Ytkidcchafdiofaa
open Go Go.RowKit

/-- but for the blocks of F, and new ones, the memory is as it was -/
structure Keeps (F : Nat → Prop) (w w' : World) : Prop where
  os : w'.os = w.os
  tape : w'.tape = w.tape
  output : w'.output = w.output
  size : w.heap.size ≤ w'.heap.size
  block : ∀ k, k < w.heap.size → ¬ F k → w'.heap[k]? = w.heap[k]?

theorem Keeps.refl (F : Nat → Prop) (w : World) : Keeps F w w := ⟨rfl, rfl, rfl, Nat.le_refl _, fun _ _ _ => rfl⟩
theorem Keeps.trans {F G : Nat → Prop} {a b c : World} (h : Keeps F a b) (k : Keeps G b c) (hs : ∀ j, G j → F j ∨ a.heap.size ≤ j) : Keeps F a c :=
  ⟨k.os.trans h.os, k.tape.trans h.tape, k.output.trans h.output, Nat.le_trans h.size k.size, fun i hi hF =>
    (k.block i (Nat.lt_of_lt_of_le hi h.size) (fun hG => by rcases hs i hG with h1 | h1; exact hF h1; omega)).trans (h.block i hi hF)⟩
theorem Keeps.wide {F G : Nat → Prop} {a b : World} (h : Keeps F a b) (hs : ∀ j, F j → G j ∨ a.heap.size ≤ j) : Keeps G a b :=
  ⟨h.os, h.tape, h.output, h.size, fun i hi hG => h.block i hi (fun hF => by rcases hs i hF with h1 | h1; exact hG h1; omega)⟩
theorem Keeps.alloc {F : Nat → Prop} {a w : World} (h : Keeps F a w) (o : Obj) : Keeps F a (w.alloc o) :=
  h.trans (G := fun _ => False) ⟨rfl, rfl, rfl, by simp, fun k hk _ => Below.heap_alloc _ _ _ hk⟩ (fun _ h => h.elim)
theorem Keeps.setCell {F : Nat → Prop} {a w : World} (h : Keeps F a w) {p : Addr} (hp : F p.block ∨ a.heap.size ≤ p.block) (u : Value) : Keeps F a (w.setCell p u) :=
  h.trans (G := fun j => j = p.block) ⟨rfl, rfl, rfl, by simp [World.setCell], fun k _ hk => Below.heap_setCell _ _ _ _ hk⟩ (fun j hj => by subst hj; exact hp)
theorem Keeps.grown {F : Nat → Prop} {a w w' : World} {row : Option Nat} (h : Keeps F a w) (hg : w.grownBy w' row) (hr : ∀ k, row = some k → F k ∨ a.heap.size ≤ k) : Keeps F a w' :=
  h.trans (G := fun j => row = some j) ⟨hg.os, hg.tape, hg.output, hg.size, fun k hk hn => hg.block k hk (fun e => hn e.symm)⟩ (fun j hj => hr j hj)
theorem Keeps.drew {F : Nat → Prop} {a w : World} (h : Keeps F a w) : Keeps F a w.drew := ⟨h.os, h.tape, h.output, h.size, h.block⟩
theorem Keeps.drewN {F : Nat → Prop} {a w : World} (h : Keeps F a w) (n : Nat) : Keeps F a (w.drewN n) := ⟨h.os, h.tape, h.output, h.size, h.block⟩
theorem Keeps.below {F : Nat → Prop} {B : Nat} {w w' : World} (h : Keeps F w w') (hB : ∀ j, F j → B ≤ j) (hs : B ≤ w.heap.size) : Below B w w' :=
  ⟨h.os, h.tape, h.output, h.size, fun k hk => h.block k (by omega) (fun hF => by have := hB k hF; omega)⟩
theorem Keeps.of_below {F : Nat → Prop} {B : Nat} {w w' : World} (h : Below B w w') (hF : ∀ j, B ≤ j → F j ∨ w.heap.size ≤ j) : Keeps F w w' :=
  ⟨h.os, h.tape, h.output, h.size, fun k hk hn => h.block k (by rcases Nat.lt_or_ge k B with h1 | h1; exact h1; rcases hF k h1 with h2 | h2; exact absurd h2 hn; omega)⟩
theorem Keeps.heap {F : Nat → Prop} {w w' : World} (h : Keeps F w w') {k : Nat} {o : Obj} (hk : w.heap[k]? = some o) (hF : ¬ F k) : w'.heap[k]? = some o :=
  (h.block k (Array.getElem?_eq_some_iff.1 hk).1 hF).trans hk
theorem Keeps.cell {F : Nat → Prop} {w w' : World} (h : Keeps F w w') {p : Addr} {v : Value} (hc : w.cell? p = some v) (hF : ¬ F p.block) : w'.cell? p = some v :=
  (World.cell?_of_block (h.block p.block (World.block_lt_of_cell? w p hc) hF)).trans hc

/-- a term, with what memory holds of it: where its Args lie -/
inductive AT where
  | mk (k n : Int) (s : ByteArray) (sv : Value) (G off : Nat) (l : List AT)

def AT.k : AT → Int | .mk k _ _ _ _ _ _ => k
def AT.n : AT → Int | .mk _ n _ _ _ _ _ => n
def AT.s : AT → ByteArray | .mk _ _ s _ _ _ _ => s
def AT.sv : AT → Value | .mk _ _ _ sv _ _ _ => sv
def AT.G : AT → Nat | .mk _ _ _ _ G _ _ => G
def AT.off : AT → Nat | .mk _ _ _ _ _ off _ => off
def AT.l : AT → List AT | .mk _ _ _ _ _ _ l => l
def AT.val (t : AT) : Value := .agg #[.int .i64 t.k, .int .i64 t.n, .string t.s, t.sv]

/-- a list of n terms that lies at block G from off on, or none -/
def SvOk (sv : Value) (G off n : Nat) : Prop := (sv = .slice none 0 0 ∧ n = 0) ∨ ∃ cap, sv = .slice (some ⟨G, off, none⟩) n cap ∧ n ≤ cap ∧ cap ≤ maxLen
/-- a block of cells, none of which is frozen -/
def Plain (w : World) (B : Nat) : Prop := ∃ c T, w.heap[B]? = some (.cells c T (0, 0))
theorem Plain.free {w : World} {B : Nat} (h : Plain w B) (o : Nat) : w.frozen? ⟨B, o, none⟩ = false := by
  obtain ⟨c, T, h⟩ := h
  simp [World.frozen?, h]
theorem Plain.same {w w' : World} {B : Nat} (h : Plain w B) (hh : w'.heap[B]? = w.heap[B]?) : Plain w' B := by
  obtain ⟨c, T, h⟩ := h
  exact ⟨c, T, hh.trans h⟩
theorem Plain.lt {w : World} {B : Nat} (h : Plain w B) : B < w.heap.size := by
  obtain ⟨c, T, h⟩ := h
  exact (Array.getElem?_eq_some_iff.1 h).1
theorem Plain.kept {F : Nat → Prop} {w w' : World} {B : Nat} (h : Plain w B) (hk : Keeps F w w') (hF : ¬ F B) : Plain w' B := h.same (hk.block B h.lt hF)
theorem Plain.alloc {w : World} {B : Nat} (h : Plain w B) (o : Obj) : Plain (w.alloc o) B := h.same (Below.heap_alloc _ _ _ h.lt)
theorem Plain.setCell {w : World} {B : Nat} (h : Plain w B) (a : Addr) (v : Value) : Plain (w.setCell a v) B := by
  obtain ⟨c, T, h⟩ := h
  by_cases hb : B = a.block
  · subst hb
    exact ⟨if a.spot.isSome then c else c.setIfInBounds a.off v, T, by simp [World.setCell, Array.getElem?_modify, h]⟩
  · exact ⟨c, T, by rw [Below.heap_setCell _ _ _ _ hb]; exact h⟩
/-- a term's four cells -/
def Head (w : World) (B o : Nat) (t : AT) : Prop :=
  Plain w B ∧ w.cell? ⟨B, o, none⟩ = some (.int .i64 t.k) ∧ w.cell? ⟨B, o + 1, none⟩ = some (.int .i64 t.n) ∧ w.cell? ⟨B, o + 2, none⟩ = some (.string t.s) ∧ w.cell? ⟨B, o + 3, none⟩ = some t.sv

mutual
def AT.mem (w : World) : AT → Prop
  | .mk _ _ _ sv G off l => SvOk sv G off l.length ∧ ATs.mem w G l off
def ATs.mem (w : World) (G : Nat) : List AT → Nat → Prop
  | [], _ => True
  | t :: r, off => Head w G off t ∧ AT.mem w t ∧ ATs.mem w G r (off + 4)
end
mutual
/-- all Args lie in blocks of S -/
def AT.ins (S : Nat → Prop) : AT → Prop
  | .mk _ _ _ _ G _ l => (l ≠ [] → S G) ∧ ATs.ins S l
def ATs.ins (S : Nat → Prop) : List AT → Prop
  | [] => True
  | t :: r => AT.ins S t ∧ ATs.ins S r
end
mutual
def AT.nodes : AT → Nat
  | .mk _ _ _ _ _ _ l => ATs.nodes l + 1
def ATs.nodes : List AT → Nat
  | [] => 0
  | t :: r => AT.nodes t + ATs.nodes r
end
/-- a part: its Kind, N, how many Args, S -/
structure Row where
  k : Int
  n : Int
  a : Nat
  s : ByteArray
mutual
def AT.rows : AT → List Row
  | .mk k n s _ _ _ l => ⟨k, n, l.length, s⟩ :: ATs.rows l
def ATs.rows : List AT → List Row
  | [] => []
  | t :: r => AT.rows t ++ ATs.rows r
end
/-- a part where it lies, how deep -/
structure Nd where
  B : Nat
  o : Nat
  d : Nat
  t : AT
mutual
def AT.flat (d : Nat) : AT → List Nd
  | .mk _ _ _ _ G off l => ATs.flat G d l off
def ATs.flat (G d : Nat) : List AT → Nat → List Nd
  | [], _ => []
  | t :: r, off => ⟨G, off, d, t⟩ :: (AT.flat (d + 1) t ++ ATs.flat G d r (off + 4))
end

theorem AT.mem_mk {w : World} {t : AT} : t.mem w ↔ SvOk t.sv t.G t.off t.l.length ∧ ATs.mem w t.G t.l t.off := by
  cases t; rfl
theorem AT.ins_mk {S : Nat → Prop} {t : AT} : t.ins S ↔ (t.l ≠ [] → S t.G) ∧ ATs.ins S t.l := by
  cases t; rfl
theorem AT.nodes_mk {t : AT} : t.nodes = ATs.nodes t.l + 1 := by cases t; rfl
theorem AT.rows_mk {t : AT} : t.rows = ⟨t.k, t.n, t.l.length, t.s⟩ :: ATs.rows t.l := by cases t; rfl
theorem AT.flat_mk {t : AT} {d : Nat} : t.flat d = ATs.flat t.G d t.l t.off := by cases t; rfl

mutual
theorem AT.mem_same {S : Nat → Prop} {w w' : World} (h : ∀ j, S j → w'.heap[j]? = w.heap[j]?) : ∀ t : AT, t.ins S → t.mem w → t.mem w'
  | .mk k n s sv G off l, hi, hm => ⟨hm.1, by
      by_cases hl : l = []
      · subst hl; trivial
      · exact ATs.mem_same h l off G (hi.1 hl) hi.2 hm.2⟩
theorem ATs.mem_same {S : Nat → Prop} {w w' : World} (h : ∀ j, S j → w'.heap[j]? = w.heap[j]?) : ∀ (l : List AT) (off G : Nat), S G → ATs.ins S l → ATs.mem w G l off → ATs.mem w' G l off
  | [], _, _, _, _, _ => trivial
  | t :: r, off, G, hG, hi, hm => by
    obtain ⟨⟨hp, h0, h1, h2, h3⟩, ht, hr⟩ := hm
    exact ⟨⟨hp.same (h G hG), (World.cell?_of_block (h G hG)).trans h0, (World.cell?_of_block (h G hG)).trans h1, (World.cell?_of_block (h G hG)).trans h2, (World.cell?_of_block (h G hG)).trans h3⟩, AT.mem_same h t hi.1 ht, ATs.mem_same h r (off + 4) G hG hi.2 hr⟩
end
mutual
theorem AT.ins_mono {S S' : Nat → Prop} (h : ∀ j, S j → S' j) : ∀ t : AT, t.ins S → t.ins S'
  | .mk _ _ _ _ _ _ l, hi => ⟨fun hl => h _ (hi.1 hl), ATs.ins_mono h l hi.2⟩
theorem ATs.ins_mono {S S' : Nat → Prop} (h : ∀ j, S j → S' j) : ∀ l : List AT, ATs.ins S l → ATs.ins S' l
  | [], _ => trivial
  | t :: r, hi => ⟨AT.ins_mono h t hi.1, ATs.ins_mono h r hi.2⟩
end
mutual
theorem AT.ins_size {w : World} : ∀ t : AT, t.mem w → t.ins (fun j => j < w.heap.size)
  | .mk _ _ _ _ G off l, hm => ⟨fun hl => by
      cases l with
      | nil => exact absurd rfl hl
      | cons t r => exact hm.2.1.1.lt, ATs.ins_size l off G hm.2⟩
theorem ATs.ins_size {w : World} : ∀ (l : List AT) (off G : Nat), ATs.mem w G l off → ATs.ins (fun j => j < w.heap.size) l
  | [], _, _, _ => trivial
  | t :: r, off, G, hm => ⟨AT.ins_size t hm.2.1, ATs.ins_size r (off + 4) G hm.2.2⟩
end
theorem AT.mem_below {B : Nat} {w w' : World} (h : Below B w w') {t : AT} (hi : t.ins (fun j => j < B)) (hm : t.mem w) : t.mem w' :=
  AT.mem_same (fun j hj => h.block j hj) t hi hm
theorem AT.mem_keeps {F S : Nat → Prop} {w w' : World} (h : Keeps F w w') {t : AT} (hi : t.ins S) (hS : ∀ j, S j → ¬ F j) (hm : t.mem w) : t.mem w' :=
  AT.mem_same (S := fun j => S j ∧ j < w.heap.size) (fun j hj => h.block j hj.2 (hS j hj.1)) t (by
    have h2 := AT.ins_size t hm
    exact AT.ins_and t hi h2) hm
where
  AT.ins_and {S T : Nat → Prop} : ∀ t : AT, t.ins S → t.ins T → t.ins (fun j => S j ∧ T j)
  | .mk _ _ _ _ _ _ l, hi, hj => ⟨fun hl => ⟨hi.1 hl, hj.1 hl⟩, ATs.ins_and l hi.2 hj.2⟩
  ATs.ins_and {S T : Nat → Prop} : ∀ l : List AT, ATs.ins S l → ATs.ins T l → ATs.ins (fun j => S j ∧ T j) l
  | [], _, _ => trivial
  | t :: r, hi, hj => ⟨AT.ins_and t hi.1 hj.1, ATs.ins_and r hi.2 hj.2⟩

/-- a step of a way: where its part lies, and which of its Args comes next -/
structure St where
  B : Nat
  o : Nat
  k : Nat
/-- the cells of a way's steps; the first of the list is the last one in memory -/
def stCells : List St → List Value
  | [] => []
  | f :: σ => stCells σ ++ [.pointer (some ⟨f.B, f.o, none⟩), .int .i64 f.k]
theorem stCells_len (σ : List St) : (stCells σ).length = σ.length * 2 := by
  induction σ with
  | nil => rfl
  | cons f σ ih => simp [stCells, ih]; omega

/-- at block q's first cell stands a way: its steps lie in block g -/
def WayAt (w : World) (q : Nat) (T : TypeId) (tl : List Value) (g : Nat) (σ : List St) : Prop :=
  ∃ cap cur, w.heap[q]? = some (.cells (.slice (some ⟨g, 0, none⟩) σ.length cap :: tl).toArray T (0, 0)) ∧ w.heap[g]? = some (.cells cur 77 (0, 0)) ∧ g ≠ q ∧ σ.length ≤ cap ∧ cap ≤ maxLen ∧ cur.size = cap * 2 ∧ cur.toList.take (σ.length * 2) = stCells σ

theorem cell_of_heap {w : World} {b o : Nat} {c : Array Value} {T : TypeId} {fr : Nat × Nat} {v : Value} (h : w.heap[b]? = some (.cells c T fr)) (hc : c[o]? = some v) : w.cell? ⟨b, o, none⟩ = some v := by
  simp [World.cell?, h, hc]
theorem free_of_heap {w : World} {b o : Nat} {c : Array Value} {T : TypeId} (h : w.heap[b]? = some (.cells c T (0, 0))) : w.frozen? ⟨b, o, none⟩ = false := by
  simp [World.frozen?, h]
theorem heap_set {w : World} {b o : Nat} {c : Array Value} {T : TypeId} {fr : Nat × Nat} (h : w.heap[b]? = some (.cells c T fr)) (v : Value) : (w.setCell ⟨b, o, none⟩ v).heap[b]? = some (.cells (c.setIfInBounds o v) T fr) := by
  simp [World.setCell, Array.getElem?_modify, h]
theorem heap_set_ne {w : World} {b k o : Nat} (hk : k ≠ b) (v : Value) : (w.setCell ⟨b, o, none⟩ v).heap[k]? = w.heap[k]? := Below.heap_setCell _ _ _ _ hk

theorem way_ptr {w : World} {q : Nat} {T : TypeId} {tl : List Value} {g : Nat} {σ : List St} (h : WayAt w q T tl g σ) :
    ∃ cap, w.cell? ⟨q, 0, none⟩ = some (.slice (some ⟨g, 0, none⟩) σ.length cap) ∧ w.frozen? ⟨q, 0, none⟩ = false ∧ σ.length ≤ cap ∧ cap ≤ maxLen ∧ w.ownsRow 0 77 2 (.slice (some ⟨g, 0, none⟩) σ.length cap) σ.length (stCells σ) ∧ w.heap[q]? = some (.cells (.slice (some ⟨g, 0, none⟩) σ.length cap :: tl).toArray T (0, 0)) := by
  obtain ⟨cap, cur, h1, h2, h3, h4, h5, h6, h7⟩ := h
  exact ⟨cap, cell_of_heap h1 (by simp), free_of_heap h1, h4, h5, ⟨stCells_len σ, .inr ⟨g, cap, cur, rfl, Nat.zero_le _, h2, h4, h5, h6, h7⟩⟩, h1⟩
theorem way_top {w : World} {q : Nat} {T : TypeId} {tl : List Value} {g : Nat} {f : St} {σ : List St} (h : WayAt w q T tl g (f :: σ)) :
    w.cell? ⟨g, σ.length * 2, none⟩ = some (.pointer (some ⟨f.B, f.o, none⟩)) ∧ w.cell? ⟨g, σ.length * 2 + 1, none⟩ = some (.int .i64 f.k) ∧ w.frozen? ⟨g, σ.length * 2 + 1, none⟩ = false := by
  obtain ⟨cap, cur, h1, h2, h3, h4, h5, h6, h7⟩ := h
  have hl := stCells_len σ
  have key : ∀ j, j < (f :: σ).length * 2 → cur[j]? = (stCells (f :: σ))[j]? := fun j hj => by
    rw [← h7, List.getElem?_take, if_pos hj]; simp
  refine ⟨cell_of_heap h2 ?_, cell_of_heap h2 ?_, free_of_heap h2⟩
  · rw [key _ (by simp), stCells, List.getElem?_append_right (by omega), hl]; simp
  · rw [key _ (by simp; omega), stCells, List.getElem?_append_right (by omega), hl, show σ.length * 2 + 1 - σ.length * 2 = 1 from by omega]; simp
theorem way_popped {w : World} {q : Nat} {T : TypeId} {tl : List Value} {g : Nat} {f : St} {σ : List St} (h : WayAt w q T tl g (f :: σ)) {cap : Nat} (hc : w.cell? ⟨q, 0, none⟩ = some (.slice (some ⟨g, 0, none⟩) (σ.length + 1) cap)) :
    WayAt (w.setCell ⟨q, 0, none⟩ (.slice (some ⟨g, 0, none⟩) σ.length cap)) q T tl g σ := by
  obtain ⟨cap', cur, h1, h2, h3, h4, h5, h6, h7⟩ := h
  have h0 := cell_of_heap (o := 0) h1 (by simp; rfl)
  rw [hc] at h0
  simp at h0
  subst h0
  refine ⟨cap, cur, ?_, by rw [heap_set_ne h3]; exact h2, h3, by simp at h4; omega, h5, h6, ?_⟩
  · rw [heap_set h1]; simp [Array.setIfInBounds]
  · have := congrArg (List.take (σ.length * 2)) h7
    rw [List.take_take, stCells, List.take_left' (stCells_len σ)] at this
    rw [← this]; congr 1; simp
theorem way_bumped {w : World} {q : Nat} {T : TypeId} {tl : List Value} {g : Nat} {f : St} {σ : List St} (h : WayAt w q T tl g (f :: σ)) (k : Nat) :
    WayAt (w.setCell ⟨g, σ.length * 2 + 1, none⟩ (.int .i64 k)) q T tl g (⟨f.B, f.o, k⟩ :: σ) := by
  obtain ⟨cap, cur, h1, h2, h3, h4, h5, h6, h7⟩ := h
  refine ⟨cap, cur.setIfInBounds (σ.length * 2 + 1) (.int .i64 k), by rw [heap_set_ne (Ne.symm h3)]; exact h1, by rw [heap_set h2], h3, h4, h5, by simpa using h6, ?_⟩
  rw [Array.toList_setIfInBounds, List.take_set, show (({ B := f.B, o := f.o, k := k } : St) :: σ).length = (f :: σ).length from rfl, h7, stCells, stCells, List.set_append_right _ _ (by rw [stCells_len]; omega), stCells_len, show σ.length * 2 + 1 - σ.length * 2 = 1 from by omega]
  rfl
theorem way_pushed {w : World} {q : Nat} {T : TypeId} {tl : List Value} {g n cap : Nat} {v0 : Value} {σ : List St} (hq : w.heap[q]? = some (.cells (v0 :: tl).toArray T (0, 0))) (hg : g ≠ q) (ho : w.ownsRow 0 77 2 (.slice (some ⟨g, 0, none⟩) n cap) n (stCells σ)) (hn : n = σ.length) :
    WayAt (w.setCell ⟨q, 0, none⟩ (.slice (some ⟨g, 0, none⟩) n cap)) q T tl g σ := by
  subst hn
  obtain ⟨_, h | ⟨g', cap', cur, hv, _, h2, h4, h5, h6, h7⟩⟩ := ho
  · simp at h
  · simp at hv
    obtain ⟨rfl, rfl⟩ := hv
    refine ⟨cap, cur, ?_, by rw [heap_set_ne hg]; exact h2, hg, h4, h5, h6, h7⟩
    rw [heap_set hq]; simp [Array.setIfInBounds]
theorem way_kept {F : Nat → Prop} {w w' : World} {q : Nat} {T : TypeId} {tl : List Value} {g : Nat} {σ : List St} (h : WayAt w q T tl g σ) (hk : Keeps F w w') (hq : ¬ F q) (hg : ¬ F g) : WayAt w' q T tl g σ := by
  obtain ⟨cap, cur, h1, h2, h3, h4, h5, h6, h7⟩ := h
  exact ⟨cap, cur, hk.heap h1 hq, hk.heap h2 hg, h3, h4, h5, h6, h7⟩
theorem way_lt {w : World} {q : Nat} {T : TypeId} {tl : List Value} {g : Nat} {σ : List St} (h : WayAt w q T tl g σ) : q < w.heap.size ∧ g < w.heap.size := by
  obtain ⟨cap, cur, h1, h2, _⟩ := h
  exact ⟨(Array.getElem?_eq_some_iff.1 h1).1, (Array.getElem?_eq_some_iff.1 h2).1⟩
theorem way_ne {w : World} {q : Nat} {T : TypeId} {tl : List Value} {g : Nat} {σ : List St} (h : WayAt w q T tl g σ) : g ≠ q := by
  obtain ⟨cap, cur, h1, h2, h3, _⟩ := h
  exact h3
/-- any step's part -/
theorem way_at {w : World} {q : Nat} {T : TypeId} {tl : List Value} {g : Nat} {σ : List St} (h : WayAt w q T tl g σ) (i : Nat) (f : St) (hi : σ.reverse[i]? = some f) : w.cell? ⟨g, i * 2, none⟩ = some (.pointer (some ⟨f.B, f.o, none⟩)) := by
  obtain ⟨cap, cur, h1, h2, h3, h4, h5, h6, h7⟩ := h
  have hlt : i < σ.length := by have := (List.getElem?_eq_some_iff.1 hi).1; simpa using this
  refine cell_of_heap h2 ?_
  have : cur[i * 2]? = (stCells σ)[i * 2]? := by rw [← h7, List.getElem?_take, if_pos (by omega)]; simp
  rw [this]
  clear this h7 h1 h2 h4 h5 h6 h3
  induction σ with
  | nil => simp at hlt
  | cons e σ ih =>
    rw [stCells]
    by_cases hc : i < σ.length
    · rw [List.getElem?_append_left (by rw [stCells_len]; omega)]
      refine ih ?_ hc
      rw [List.reverse_cons, List.getElem?_append_left (by simpa using hc)] at hi
      exact hi
    · have hi' : i = σ.length := by simp at hlt; omega
      subst hi'
      rw [List.getElem?_append_right (by rw [stCells_len]; omega), stCells_len]
      rw [List.reverse_cons, List.getElem?_append_right (by simp)] at hi
      simp at hi
      subst hi
      simp

end Go.Proofs.Ytkidcchafdiofaa
