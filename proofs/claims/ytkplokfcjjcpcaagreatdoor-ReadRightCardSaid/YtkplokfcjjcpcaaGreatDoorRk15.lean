/- Joined texts: OpA OpB OpC OpD OpE OpF. Conditions: as each states. -/
import Derived.Test.YtkplokfcjjcpcaaGreatDoorRows
import Derived.WalkKit
import Derived.WalkSpells
import Derived.WalkLawsBesides
import Derived.Lib.Hide
import Derived.Lib.Strings
import Derived.Maps.OwnSet
import Derived.Maps.RangeWalk
import Derived.Maps.Ext
import Derived.DeepKeys4
import Derived.Test.YtkplokfcjjcpcaaGreatDoorPk01
import Derived.BigQuiet
import Derived.StillTailTactics
import Derived.Deep.Light
import Derived.Deep.RegionHeld3
import Derived.Deep.DrawnRows
import Derived.Deep.AppendLies
import Derived.Shelf.SlMaps.Clone
section
namespace Go.Proofs.YtkplokfcjjcpcaaGreatDoor.Ops
open Go Go.RowKit Go.Maps
open Go.WideMaps Go.WideElems
structure Df where
  pri : Int
  typ : Int
  name : ByteArray
def Df.cells (d : Df) : List Value := [.int .i64 d.pri, .int .i64 d.typ, .string d.name]
def srt (t : Int) : Int := if t ≤ 3 then 2 else if t ≤ 5 then 1 else 3
theorem srt_in (t : Int) : srt t = 1 ∨ srt t = 2 ∨ srt t = 3 := by
  by_cases h1 : t ≤ 3
  · simp [srt, h1]
  · by_cases h2 : t ≤ 5 <;> simp [srt, h1, h2]
def Df.is (n : ByteArray) (s : Int) (d : Df) : Bool := (d.name.toList == n.toList) && (srt d.typ == s)
def fnd (L : List Df) (n : ByteArray) (s : Int) : Option Df := L.find? (Df.is n s)
def rmv (L : List Df) (n : ByteArray) (s : Int) : List Df := L.filter fun d => !d.is n s
theorem name_eq {a b : ByteArray} (h : a.toList = b.toList) : a = b := by
  rw [Lib.toList_data, Lib.toList_data] at h
  rcases a with ⟨⟨a⟩⟩
  rcases b with ⟨⟨b⟩⟩
  simp at h
  rw [h]
theorem is_iff {d : Df} {n : ByteArray} {s : Int} : d.is n s = true ↔ d.name = n ∧ srt d.typ = s := by
  unfold Df.is
  simp only [Bool.and_eq_true, beq_iff_eq]
  exact ⟨fun h => ⟨name_eq h.1, h.2⟩, fun h => ⟨by rw [h.1], h.2⟩⟩
def Df.dat (d : Df) : DataW Unit := .agg [.lit (.int .i64 d.pri), .lit (.int .i64 d.typ), .lit (.string d.name.data.toList)]
def dfR (v : Value) : Option (DataW Unit × List MemPlace) :=
  match v with
  | .agg ⟨[.int .i64 p, .int .i64 t, .string n]⟩ => some ((Df.mk p t n).dat, [])
  | _ => none
theorem dfR_mk (d : Df) : dfR (.agg #[.int .i64 d.pri, .int .i64 d.typ, .string d.name]) = some (d.dat, []) := rfl
theorem dfR_inv {v : Value} {y : DataW Unit × List MemPlace} (h : dfR v = some y) : ∃ d : Df, v = .agg #[.int .i64 d.pri, .int .i64 d.typ, .string d.name] ∧ y = (d.dat, []) := by
  unfold dfR at h
  split at h
  · rename_i p t n
    exact ⟨⟨p, t, n⟩, rfl, (Option.some.inj h).symm⟩
  · cases h
theorem dat_inj {a b : Df} (h : a.dat = b.dat) : a = b := by
  rcases a with ⟨p, t, ⟨⟨n⟩⟩⟩
  rcases b with ⟨p', t', ⟨⟨n'⟩⟩⟩
  simp [Df.dat] at h
  obtain ⟨rfl, rfl, rfl⟩ := h
  rfl
theorem laidOut : laidOutB Tryz.prog = true := by kernel_rfl
theorem keyRow : (134 : Nat) < Tryz.prog.types.size := of_decide_eq_true (by kernel_rfl)
theorem keyDeep : Tryz.prog.keyTypeAt 4 134 = true := by kernel_rfl
theorem keyWide : (match Tryz.prog.underlying 134 with | some (.array _ _) | some (.struct _) => true | _ => false) = true := by kernel_rfl
set_option maxRecDepth 100000 in
theorem keyLaw0 : KeyLaw Tryz.prog 134 := deep_law_laid laidOut (m := 4) (by omega) keyRow keyDeep keyWide
theorem keyLaw : Keyed Tryz.prog 134 := Keyed.of_law keyLaw0
theorem keyCells : Tryz.prog.cellsOf 134 = 2 := by kernel_rfl
theorem keyType : Tryz.prog.keyType 134 = true := by kernel_rfl
theorem strCells : Tryz.prog.cellsOf 9 = 1 := by kernel_rfl
theorem intCells : Tryz.prog.cellsOf 3 = 1 := by kernel_rfl
def keyV (n : ByteArray) (s : Int) : Value := .agg #[.string n, .int .i64 s]
@[irreducible] noncomputable def kl (n : ByteArray) (s : Int) : Lit := (keyOf Tryz.prog 134 (keyV n s)).getD (.bool true)
theorem two_deep {a z : Nat} (h : a < z) : ∃ i, z + 1 = i + 2 := ⟨z - 1, by omega⟩
theorem formed_key (n : ByteArray) (s : Int) : (Value.agg #[.string n, .int .i64 s]).formed Tryz.prog 134 = true := by
  unfold Value.formed
  rw [Tryz.underlying134]
  simp [keyCells]
theorem key_lits {n : ByteArray} {s : Int} (d : Nat) (hn : n.size ≤ maxLen) (hw : (Lit.int .i64 s).wf = true) : Tryz.prog.keyLits (d + 2) 134 [.string n, .int .i64 s] = some [.string n.data.toList, .int .i64 s] := by
  simp only [Program.keyLits, Tryz.underlying134, keyCells, Tryz.underlying9, Tryz.underlying3, strCells, intCells, List.mapM_cons, List.mapM_nil, List.drop, List.take, hn, hw]
  simp
theorem keyOf_kl {n : ByteArray} {s : Int} (hn : n.size ≤ maxLen) (hs : s = 0 ∨ s = 1 ∨ s = 2 ∨ s = 3) : keyOf Tryz.prog 134 (keyV n s) = some (kl n s) := by
  have hw : (Lit.int .i64 s).wf = true := by rcases hs with rfl | rfl | rfl | rfl <;> decide
  have h : (keyOf Tryz.prog 134 (keyV n s)).isSome = true := by
    obtain ⟨i, hi⟩ := two_deep keyRow
    unfold keyOf
    rw [Tryz.underlying134, hi]
    unfold keyV
    simp only [keyType, formed_key, key_lits i hn hw, Value.cells]
    rfl
  unfold kl
  obtain ⟨l, hl⟩ := Option.isSome_iff_exists.1 h
  rw [hl]
  rfl
theorem kl_inj {n m : ByteArray} {s t : Int} (hn : n.size ≤ maxLen) (hs : s = 0 ∨ s = 1 ∨ s = 2 ∨ s = 3) (hm : m.size ≤ maxLen) (ht : t = 0 ∨ t = 1 ∨ t = 2 ∨ t = 3) (h : kl n s = kl m t) : n = m ∧ s = t := by
  have h1 := keyOf_kl hn hs
  have h2 := keyOf_kl hm ht
  rw [← h] at h2
  have := keyLaw.inj h1 h2
  simpa [keyV] using this
theorem kl_key {n : ByteArray} {s : Int} (hn : n.size ≤ maxLen) (hs : s = 0 ∨ s = 1 ∨ s = 2 ∨ s = 3) : WideAt.IsKeyLit (kl n s) := keyLaw.key (keyOf_kl hn hs)
noncomputable def Df.ent (d : Df) : Lit × DataW Unit := (kl d.name (srt d.typ), d.dat)
structure Wf (L : List Df) : Prop where
  one : L.Pairwise fun a b => ¬ (a.name = b.name ∧ srt a.typ = srt b.typ)
  fit : ∀ d ∈ L, 1 ≤ d.pri ∧ d.pri ≤ 1200 ∧ 1 ≤ d.typ ∧ d.typ ≤ 7 ∧ d.name.size ≤ 1000
theorem Wf.nil : Wf [] := ⟨List.Pairwise.nil, fun _ h => by cases h⟩
theorem small {n : ByteArray} (h : n.size ≤ 2000) : n.size ≤ maxLen := by unfold maxLen; omega
theorem Wf.name {L : List Df} (h : Wf L) {d : Df} (hd : d ∈ L) : d.name.size ≤ maxLen := small (by have := (h.fit d hd).2.2.2.2; omega)
theorem srt4 (t : Int) : srt t = 0 ∨ srt t = 1 ∨ srt t = 2 ∨ srt t = 3 := .inr (srt_in t)
theorem Wf.rmv {L : List Df} (h : Wf L) (n : ByteArray) (s : Int) : Wf (rmv L n s) := ⟨h.one.filter _, fun d hd => h.fit d (List.mem_filter.1 hd).1⟩
theorem Wf.put {L : List Df} (h : Wf L) {d : Df} (hd : 1 ≤ d.pri ∧ d.pri ≤ 1200 ∧ 1 ≤ d.typ ∧ d.typ ≤ 7 ∧ d.name.size ≤ 1000) : Wf (Go.Proofs.YtkplokfcjjcpcaaGreatDoor.Ops.rmv L d.name (srt d.typ) ++ [d]) := by
  refine ⟨List.pairwise_append.2 ⟨(h.rmv _ _).one, List.pairwise_singleton _ _, fun a ha b hb => ?_⟩, fun x hx => ?_⟩
  · obtain rfl := List.mem_singleton.1 hb
    have := (List.mem_filter.1 ha).2
    intro hh
    rw [(is_iff (d := a)).2 hh] at this
    cases this
  · rcases List.mem_append.1 hx with hx | hx
    · exact (h.rmv _ _).fit x hx
    · obtain rfl := List.mem_singleton.1 hx
      exact hd
def Rel (D : DataW Unit) (L : List Df) : Prop := ∃ es, D = .map es ∧ es.Perm (L.map Df.ent)
theorem Rel.nil : Rel (.map []) [] := ⟨[], rfl, List.Perm.refl _⟩
theorem Rel.size {D : DataW Unit} {L : List Df} (h : Rel D L) : Maps.size D = L.length := by
  obtain ⟨es, rfl, hp⟩ := h
  rw [Maps.size_eq, hp.length_eq, List.length_map]
theorem ent_key {L : List Df} (hw : Wf L) {d : Df} (hd : d ∈ L) {n : ByteArray} {s : Int} (hn : n.size ≤ maxLen) (hs : s = 0 ∨ s = 1 ∨ s = 2 ∨ s = 3) : (d.ent.1.sameKey (kl n s)) = d.is n s := by
  cases h : d.is n s
  · refine Maps.sameKey_ne fun e => ?_
    have := kl_inj (hw.name hd) (srt4 _) hn hs e
    rw [is_iff.2 this] at h
    cases h
  · obtain ⟨rfl, rfl⟩ := is_iff.1 h
    exact WideAt.sameKey_self (kl_key (hw.name hd) (srt4 _))
theorem ent_find {n : ByteArray} {s : Int} (hn : n.size ≤ maxLen) (hs : s = 0 ∨ s = 1 ∨ s = 2 ∨ s = 3) : ∀ (L : List Df), Wf L → (L.map Df.ent).any (fun p => p.1.sameKey (kl n s)) = (fnd L n s).isSome
  | [], _ => rfl
  | d :: L, hw => by
    have hw' : Wf L := ⟨(List.pairwise_cons.1 hw.one).2, fun x hx => hw.fit x (List.mem_cons_of_mem _ hx)⟩
    rw [List.map_cons, List.any_cons, ent_key hw List.mem_cons_self hn hs, ent_find hn hs L hw']
    unfold fnd
    rw [List.find?_cons]
    cases d.is n s <;> simp
theorem Rel.has {D : DataW Unit} {L : List Df} (h : Rel D L) (hw : Wf L) {n : ByteArray} {s : Int} (hn : n.size ≤ maxLen) (hs : s = 0 ∨ s = 1 ∨ s = 2 ∨ s = 3) : Maps.has D (kl n s) = (fnd L n s).isSome := by
  obtain ⟨es, rfl, hp⟩ := h
  rw [Maps.has_eq, ← ent_find hn hs L hw]
  exact hp.any_eq
theorem ents_apart {L : List Df} (hw : Wf L) : (L.map Df.ent).Pairwise (fun p q => p.1 ≠ q.1) := by
  rw [List.pairwise_map]
  refine hw.one.imp_of_mem fun {a b} ha hb hne e => hne ?_
  exact kl_inj (hw.name ha) (srt4 _) (hw.name hb) (srt4 _) e
theorem fnd_mem {L : List Df} {n : ByteArray} {s : Int} {d : Df} (h : fnd L n s = some d) : d ∈ L ∧ d.name = n ∧ srt d.typ = s := ⟨List.mem_of_find?_eq_some h, is_iff.1 (List.find?_some h)⟩
theorem Rel.atKey {D : DataW Unit} {L : List Df} (h : Rel D L) (hw : Wf L) {n : ByteArray} {s : Int} (hn : n.size ≤ maxLen) (hs : s = 0 ∨ s = 1 ∨ s = 2 ∨ s = 3) (z : DataW Unit) :
    D.atKey (kl n s) z = match fnd L n s with | some d => d.dat | none => z := by
  have hh := h.has hw hn hs
  cases hf : fnd L n s with
  | none => rw [hf] at hh; exact Maps.atKey_of_not_has hh z
  | some d =>
    obtain ⟨es, rfl, hp⟩ := h
    obtain ⟨hd, rfl, rfl⟩ := fnd_mem hf
    have hm : d.ent ∈ es := hp.mem_iff.2 (List.mem_map_of_mem hd)
    have ha : es.Pairwise (fun p q => p.1 ≠ q.1) := (hp.pairwise_iff (fun {a b} (h : a.1 ≠ b.1) => h.symm)).2 (ents_apart hw)
    exact WideAt.atKey_mem z (kl_key (hw.name hd) (srt4 _)) ha hm
theorem strike_ents {n : ByteArray} {s : Int} (hn : n.size ≤ maxLen) (hs : s = 0 ∨ s = 1 ∨ s = 2 ∨ s = 3) : ∀ (L : List Df), Wf L → (L.map Df.ent).filter (fun p => !p.1.sameKey (kl n s)) = (rmv L n s).map Df.ent
  | [], _ => rfl
  | d :: L, hw => by
    have hw' : Wf L := ⟨(List.pairwise_cons.1 hw.one).2, fun x hx => hw.fit x (List.mem_cons_of_mem _ hx)⟩
    have ih := strike_ents hn hs L hw'
    unfold rmv at ih ⊢
    rw [List.map_cons, List.filter_cons, List.filter_cons, ent_key hw List.mem_cons_self hn hs, ih]
    cases d.is n s <;> simp
theorem Rel.del {D : DataW Unit} {L : List Df} (h : Rel D L) (hw : Wf L) {n : ByteArray} {s : Int} (hn : n.size ≤ maxLen) (hs : s = 0 ∨ s = 1 ∨ s = 2 ∨ s = 3) : Rel (D.del (kl n s)) (rmv L n s) := by
  obtain ⟨es, rfl, hp⟩ := h
  refine ⟨_, rfl, ?_⟩
  rw [← strike_ents hn hs L hw]
  exact hp.filter _
theorem Rel.put {D : DataW Unit} {L : List Df} (h : Rel D L) (hw : Wf L) {d : Df} (hn : d.name.size ≤ maxLen) : Rel (D.put (kl d.name (srt d.typ)) d.dat) (rmv L d.name (srt d.typ) ++ [d]) := by
  obtain ⟨es, rfl, hp⟩ := h
  refine ⟨_, rfl, (WideShapes.insert_perm _ _).trans ?_⟩
  rw [List.map_append, ← strike_ents hn (srt4 _) L hw]
  exact ((hp.filter _).cons _).trans (List.perm_append_comm (l₁ := [d.ent]))
end Go.Proofs.YtkplokfcjjcpcaaGreatDoor.Ops
end
section
namespace Go.Proofs.YtkplokfcjjcpcaaGreatDoor.Ops
open Go Go.RowKit Go.Maps
open Go.WideMaps Go.WideElems
attribute [local go_sem ↓] Go.wp_at_zero Go.wp_at_succ
def zdf : Df := ⟨0, 0, ByteArray.empty⟩
theorem heap_lt {w : World} {b : Nat} {o : Obj} (h : w.heap[b]? = some o) : b < w.heap.size := (Array.getElem?_eq_some_iff.1 h).1
theorem new_at (w : World) (o : Obj) {H : Nat} (h : w.heap.size = H) : (w.alloc o).heap[H]? = some o := by
  subst h
  exact heap_alloc_new w o
theorem heap_set {w : World} {b o : Nat} {c : Array Value} {T : TypeId} {fr : Nat × Nat} (h : w.heap[b]? = some (.cells c T fr)) (v : Value) : (w.setCell ⟨b, o, none⟩ v).heap[b]? = some (.cells (c.setIfInBounds o v) T fr) := by
  simp [World.setCell, Array.getElem?_modify, h]
theorem cell_of_heap {w : World} {b o : Nat} {c : Array Value} {T : TypeId} {fr : Nat × Nat} {v : Value} (h : w.heap[b]? = some (.cells c T fr)) (hc : c[o]? = some v) : w.cell? ⟨b, o, none⟩ = some v := by
  simp [World.cell?, h, hc]
theorem free_of_heap {w : World} {b o : Nat} {c : Array Value} {T : TypeId} (h : w.heap[b]? = some (.cells c T (0, 0))) : w.frozen? ⟨b, o, none⟩ = false := by
  simp [World.frozen?, h]
theorem heap_set_ne {w : World} {b k o : Nat} (hk : k ≠ b) (v : Value) : (w.setCell ⟨b, o, none⟩ v).heap[k]? = w.heap[k]? := Below.heap_setCell _ _ _ _ hk
theorem bt {w0 w1 w2 : World} (a : Below w0.heap.size w0 w1) (b : Below w1.heap.size w1 w2) : Below w0.heap.size w0 w2 := a.trans (b.mono a.size)
structure Tb (w : World) (a m : Nat) (L : List Df) : Prop where
  row : w.heap[a]? = some (.cells #[.map (some m)] 121 (0, 0))
  own : ∃ D, w.ownsMap Tryz.prog 134 dfR m (Maps.size D) D ∧ Rel D L
  wf : Wf L
  ne : m ≠ a
theorem own_tight {w : World} {m n : Nat} {D : DataW Unit} (h : w.ownsMap Tryz.prog 134 dfR m n D) : w.ownsMap Tryz.prog 134 dfR m (Maps.size D) D := by
  obtain ⟨es, clock, hb, F, hs, rfl⟩ := h
  exact ⟨es, clock, hb, F, by simp [Maps.size, length_sorted], rfl⟩
theorem Tb.kept {w w' : World} {a m : Nat} {L : List Df} (h : Tb w a m L) (ha : w'.heap[a]? = w.heap[a]?) (hm : w'.heap[m]? = w.heap[m]?) : Tb w' a m L := by
  obtain ⟨h1, ⟨D, ⟨es, clock, hb, r⟩, hr⟩, h3, h4⟩ := h
  exact ⟨ha.trans h1, ⟨D, ⟨es, clock, hm.trans hb, r⟩, hr⟩, h3, h4⟩
theorem Tb.lt {w : World} {a m : Nat} {L : List Df} (h : Tb w a m L) : a < w.heap.size ∧ m < w.heap.size := by
  obtain ⟨h1, ⟨D, h2, _⟩, _, _⟩ := h
  exact ⟨heap_lt h1, h2.lt⟩
theorem Tb.on {w w' : World} {a m : Nat} {L : List Df} (h : Tb w a m L) (b : Below w.heap.size w w') : Tb w' a m L :=
  h.kept (b.block _ h.lt.1) (b.block _ h.lt.2)
theorem Tb.alloc {w : World} {a m : Nat} {L : List Df} (h : Tb w a m L) (o : Obj) : Tb (w.alloc o) a m L := h.on ((Below.refl _ _).alloc (Nat.le_refl _) o)
theorem Tb.cells {w : World} {a m : Nat} {L : List Df} (h : Tb w a m L) : w.cell? ⟨a, 0, none⟩ = some (.map (some m)) ∧ w.frozen? ⟨a, 0, none⟩ = false := by
  have := h.row
  constructor
  · simp [World.cell?, this]
  · simp [World.frozen?, this]
theorem zero_def (w : World) : (zeroValue 129).run Tryz.prog w = .ok (.agg #[.int .i64 0, .int .i64 0, .string ByteArray.empty]) w := by
  obtain ⟨i, hi⟩ : ∃ i, Tryz.prog.info? 129 = some i ∧ i.zero = some (.agg #[.int .i64 0, .int .i64 0, .string ByteArray.empty]) := by
    have h : (Tryz.prog.info? 129).map (fun i => i.zero) = some (some (.agg #[.int .i64 0, .int .i64 0, .string ByteArray.empty])) := by kernel_rfl
    cases hq : Tryz.prog.info? 129 with
    | none => rw [hq] at h; cases h
    | some i => rw [hq] at h; exact ⟨i, rfl, Option.some.inj h⟩
  simp [zeroValue, typeInfo, hi.1, hi.2]
def getd (o : Option Df) : Df := o.getD zdf
theorem Tb.look {w : World} {a m : Nat} {L : List Df} (h : Tb w a m L) {n : ByteArray} {s : Int} (hn : n.size ≤ maxLen) (hs : s = 0 ∨ s = 1 ∨ s = 2 ∨ s = 3) :
    (Instr.lookup 119 (.map (some m)) (.agg #[.string n, .int .i64 s]) true).run Tryz.prog w = .ok (.tuple #[.agg #[.int .i64 (getd (fnd L n s)).pri, .int .i64 (getd (fnd L n s)).typ, .string (getd (fnd L n s)).name], .bool (fnd L n s).isSome]) w := by
  obtain ⟨_, ⟨D, ho, hr⟩, hw, _⟩ := h
  obtain ⟨v, ps, hrun, hv⟩ := ho.look_ok keyLaw Tryz.underlying119 (zero_def w) (dfR_mk zdf) (keyOf_kl hn hs)
  obtain ⟨d, rfl, hd⟩ := dfR_inv hv
  have e : d = getd (fnd L n s) := by
    simp only [Prod.mk.injEq] at hd
    refine dat_inj ?_
    rw [← hd.1, hr.atKey hw hn hs]
    unfold getd
    cases fnd L n s <;> rfl
  subst e
  rw [hr.has hw hn hs] at hrun
  exact hrun
structure Three (w : World) (b : Nat) (T : TypeId) (x0 x1 x2 : Value) : Prop where
  row : w.heap[b]? = some (.cells #[x0, x1, x2] T (0, 0))
theorem Three.facts {w : World} {b : Nat} {T : TypeId} {x0 x1 x2 : Value} (h : Three w b T x0 x1 x2) :
    w.cell? ⟨b, 0, none⟩ = some x0 ∧ w.cell? ⟨b, 1, none⟩ = some x1 ∧ w.cell? ⟨b, 2, none⟩ = some x2 ∧ w.frozen? ⟨b, 0, none⟩ = false ∧ w.frozen? ⟨b, 1, none⟩ = false ∧ w.frozen? ⟨b, 2, none⟩ = false :=
  ⟨cell_of_heap h.row rfl, cell_of_heap h.row rfl, cell_of_heap h.row rfl, free_of_heap h.row, free_of_heap h.row, free_of_heap h.row⟩
theorem Three.on {w w' : World} {b : Nat} {T : TypeId} {x0 x1 x2 : Value} (h : Three w b T x0 x1 x2) (k : Below w.heap.size w w') : Three w' b T x0 x1 x2 := ⟨(k.block _ (heap_lt h.row)).trans h.row⟩
theorem three_cells {w : World} {b : Nat} {x0 x1 x2 : Value} {T : TypeId} (h : w.heap[b]? = some (.cells #[x0, x1, x2] T (0, 0))) (y0 y1 y2 : Value) :
    (w.setCell ⟨b, 0, none⟩ y0).cell? ⟨b, 0, none⟩ = some y0 ∧ ((w.setCell ⟨b, 0, none⟩ y0).setCell ⟨b, 1, none⟩ y1).cell? ⟨b, 1, none⟩ = some y1 ∧ (((w.setCell ⟨b, 0, none⟩ y0).setCell ⟨b, 1, none⟩ y1).setCell ⟨b, 2, none⟩ y2).cell? ⟨b, 2, none⟩ = some y2 := by
  have h0 := heap_set (o := 0) h y0
  have h1 := heap_set (o := 1) h0 y1
  have h2 := heap_set (o := 2) h1 y2
  exact ⟨cell_of_heap h0 rfl, cell_of_heap h1 rfl, cell_of_heap h2 rfl⟩
set_option maxRecDepth 100000 in
set_option maxHeartbeats 1600000 in
theorem find_is (a m : Nat) (L : List Df) (n : ByteArray) (s : Int) (w : World) (h : Tb w a m L) (hn : n.size ≤ maxLen) (hs : s = 0 ∨ s = 1 ∨ s = 2 ∨ s = 3) :
    Calls Tryz.prog 104 #[.pointer (some ⟨a, 0, none⟩), .agg #[.string n, .int .i64 s]] w fun e w' =>
      e = .returned (.tuple #[.agg #[.int .i64 (getd (fnd L n s)).pri, .int .i64 (getd (fnd L n s)).typ, .string (getd (fnd L n s)).name], .bool (fnd L n s).isSome]) ∧ Below w.heap.size w w' := by
  obtain ⟨p, hp⟩ : ∃ p, (getd (fnd L n s)).pri = p := ⟨_, rfl⟩
  obtain ⟨t, ht⟩ : ∃ t, (getd (fnd L n s)).typ = t := ⟨_, rfl⟩
  obtain ⟨x, hx⟩ : ∃ x, (getd (fnd L n s)).name = x := ⟨_, rfl⟩
  obtain ⟨b, hb⟩ : ∃ b, (fnd L n s).isSome = b := ⟨_, rfl⟩
  have K := fun W (h : Tb W a m L) => h.look hn hs
  rw [hp, ht, hx, hb] at K ⊢
  have hW : Hid (Below w.heap.size w ((w.alloc (.cells #[.string n, .int .i64 s] 134)).alloc (.cells #[.int .i64 0, .int .i64 0, .string ⟨#[]⟩] 129))) := ((Below.refl _ _).alloc (Nat.le_refl _) _).alloc (by simp) _
  have hT := (h.alloc (.cells #[.string n, .int .i64 s] 134)).alloc (.cells #[.int .i64 0, .int .i64 0, .string ⟨#[]⟩] 129)
  have e0 : ((w.alloc (.cells #[.string n, .int .i64 s] 134)).alloc (.cells #[.int .i64 0, .int .i64 0, .string ⟨#[]⟩] 129)).heap[w.heap.size]? = some (.cells #[.string n, .int .i64 s] 134 (0, 0)) := by
    rw [Below.heap_alloc _ _ _ (by simp)]
    exact new_at _ _ rfl
  have e1 : ((w.alloc (.cells #[.string n, .int .i64 s] 134)).alloc (.cells #[.int .i64 0, .int .i64 0, .string ⟨#[]⟩] 129)).heap[w.heap.size + 1]? = some (.cells #[.int .i64 0, .int .i64 0, .string ⟨#[]⟩] 129 (0, 0)) := new_at _ _ (by simp)
  obtain ⟨W1, hW1⟩ : ∃ W1, ((w.alloc (.cells #[.string n, .int .i64 s] 134)).alloc (.cells #[.int .i64 0, .int .i64 0, .string ⟨#[]⟩] 129)) = W1 := ⟨_, rfl⟩
  rw [hW1] at hW e0 e1 hT
  have HW1 : Hid (((w.alloc (.cells #[.string n, .int .i64 s] 134)).alloc (.cells #[.int .i64 0, .int .i64 0, .string ⟨#[]⟩] 129)) = W1) := hW1
  have hs1 := heap_lt e1
  have KEEP : Hid (∀ w5, Below W1.heap.size W1 w5 → w5.cell? ⟨a, 0, none⟩ = some (.map (some m)) ∧ w5.cell? ⟨w.heap.size, 0, none⟩ = some (.string n) ∧ w5.cell? ⟨w.heap.size, 1, none⟩ = some (.int .i64 s) ∧
      (Instr.lookup 119 (.map (some m)) (.agg #[.string n, .int .i64 s]) true).run Tryz.prog w5 = .ok (.tuple #[.agg #[.int .i64 p, .int .i64 t, .string x], .bool b]) w5) := fun w5 h5 => by
    have h0 := (h5.block _ (heap_lt e0)).trans e0
    exact ⟨(hT.on h5).cells.1, cell_of_heap h0 rfl, cell_of_heap h0 rfl, K _ (hT.on h5)⟩
  have E1 := Lib.hid (fun w5 (h5 : Below W1.heap.size W1 w5) => (h5.block _ hs1).trans e1)
  clear hp ht hx hb h K hT e0 e1 hW1
  go_enter Tryz.func104, Tryz.ntmps104
  go_wp2_with fail
  rw [HW1.out]
  obtain ⟨q0, q1, q2, q3⟩ := KEEP.out W1 (Below.refl _ _)
  go_region_held3 (fun w5 => w5.cell? ⟨a, 0, none⟩ = some (.map (some m)) ∧ w5.cell? ⟨w.heap.size, 0, none⟩ = some (.string n) ∧ w5.cell? ⟨w.heap.size, 1, none⟩ = some (.int .i64 s) ∧
      (Instr.lookup 119 (.map (some m)) (.agg #[.string n, .int .i64 s]) true).run Tryz.prog w5 = .ok (.tuple #[.agg #[.int .i64 p, .int .i64 t, .string x], .bool b]) w5)
    (first | exact KEEP.out _ (Below.refl _ _).drew | exact KEEP.out _ ((Below.refl _ _).drew.alloc (Nat.le_refl _) _))
    (fail)
  all_goals
    rename_i hHeld
    clear hHeld q0 q1 q2 q3
    have B2 : Below W1.heap.size W1 (W1.alloc (.cells #[.int .i64 p, .int .i64 t, .string x] 129)).drew := ((Below.refl _ _).alloc (Nat.le_refl _) _).drew
    have N2 : Three (W1.alloc (.cells #[.int .i64 p, .int .i64 t, .string x] 129)).drew W1.heap.size 129 (.int .i64 p) (.int .i64 t) (.string x) := ⟨new_at _ _ rfl⟩
    have T2 : Three (W1.alloc (.cells #[.int .i64 p, .int .i64 t, .string x] 129)).drew (w.heap.size + 1) 129 (.int .i64 0) (.int .i64 0) (.string ⟨#[]⟩) := ⟨E1.out _ B2⟩
    obtain ⟨W2, hW2⟩ : ∃ W2, (W1.alloc (.cells #[.int .i64 p, .int .i64 t, .string x] 129)).drew = W2 := ⟨_, rfl⟩
    rw [hW2] at B2 N2 T2 ⊢
    have BB := Lib.hid (hW.out.trans (B2.mono hW.out.size))
    obtain ⟨c0, c1, c2, z0, z1, z2⟩ := T2.facts
    obtain ⟨d0, d1, d2, _, _, _⟩ := N2.facts
    obtain ⟨y0, y1, y2⟩ := three_cells T2.row (.int .i64 p) (.int .i64 t) (.string x)
    clear T2 N2 B2 hW2 KEEP E1 HW1 hW
    go_wp2_with fail
    refine bodyPost_ret (v := .tuple #[.agg #[.int .i64 p, .int .i64 t, .string x], .bool b]) (by simp [results, Tryz.results104, go_sem, y0, y1, y2]) rfl ?_
    exact ⟨rfl, ((BB.out.setCell (p := ⟨w.heap.size + 1, 0, none⟩) (by show w.heap.size ≤ w.heap.size + 1; omega) _).setCell (p := ⟨w.heap.size + 1, 1, none⟩) (by show w.heap.size ≤ w.heap.size + 1; omega) _).setCell (p := ⟨w.heap.size + 1, 2, none⟩) (by show w.heap.size ≤ w.heap.size + 1; omega) _⟩
end Go.Proofs.YtkplokfcjjcpcaaGreatDoor.Ops
end
section
namespace Go.Proofs.YtkplokfcjjcpcaaGreatDoor.Ops
open Go Go.RowKit Go.Maps
open Go.WideMaps Go.WideElems
def shapesL : List Value := [.int .i64 0, .int .i64 0, .int .i64 0, .int .i64 2, .int .i64 1, .int .i64 1, .int .i64 2, .int .i64 1, .int .i64 0, .int .i64 2, .int .i64 0, .int .i64 1, .int .i64 1, .int .i64 0, .int .i64 1, .int .i64 1, .int .i64 0, .int .i64 0, .int .i64 3, .int .i64 1, .int .i64 0, .int .i64 3, .int .i64 0, .int .i64 0]
def rivalsL : List Value := [.int .i64 0, .int .i64 0, .int .i64 3, .int .i64 2]
structure Lay (RV : List Value) (w : World) : Prop where
  sp : ∀ c : Nat, c < 256 → w.cell? ⟨1, c, none⟩ = some (.int .u8 (if Lib.isSp (UInt8.ofNat c) then 1 else 0))
  sh : ∀ i v, shapesL[i]? = some v → w.cell? ⟨0, i, none⟩ = some v
  rv : ∀ i v, RV[i]? = some v → w.cell? ⟨2, i, none⟩ = some v
  rl : 2 < w.heap.size
variable {RV : List Value}
theorem Lay.on {w w' : World} (h : Lay RV w) (b : Below w.heap.size w w') : Lay RV w' :=
  ⟨fun c hc => (b.cell (p := ⟨1, c, none⟩) (World.block_lt_of_cell? _ _ (h.sp c hc))).trans (h.sp c hc),
   fun i v hi => (b.cell (p := ⟨0, i, none⟩) (World.block_lt_of_cell? _ _ (h.sh i v hi))).trans (h.sh i v hi),
   fun i v hi => (b.cell (p := ⟨2, i, none⟩) h.rl).trans (h.rv i v hi), Nat.lt_of_lt_of_le h.rl b.size⟩
theorem Lay.none {w : World} (h : Lay RV w) : Lay [] w := ⟨h.sp, h.sh, fun i v hi => by simp at hi, h.rl⟩
set_option maxHeartbeats 800000 in
theorem has_is (a m : Nat) (L : List Df) (n : ByteArray) (s : Int) (w : World) (h : Tb w a m L) (hn : n.size ≤ maxLen) (hs : s = 0 ∨ s = 1 ∨ s = 2 ∨ s = 3) :
    Calls Tryz.prog 61 #[.pointer (some ⟨a, 0, none⟩), .agg #[.string n, .int .i64 s]] w fun e w' => e = .returned (.bool (fnd L n s).isSome) ∧ Below w.heap.size w w' := by
  have hT := h.alloc (.cells #[.string n, .int .i64 s] 134)
  have F := find_is a m L n s _ hT hn hs
  have hW : Below w.heap.size w (w.alloc (.cells #[.string n, .int .i64 s] 134)) := (Below.refl _ _).alloc (Nat.le_refl _) _
  obtain ⟨p, hp⟩ : ∃ p, (getd (fnd L n s)).pri = p := ⟨_, rfl⟩
  obtain ⟨t, ht⟩ : ∃ t, (getd (fnd L n s)).typ = t := ⟨_, rfl⟩
  obtain ⟨x, hx⟩ : ∃ x, (getd (fnd L n s)).name = x := ⟨_, rfl⟩
  obtain ⟨b, hb⟩ : ∃ b, (fnd L n s).isSome = b := ⟨_, rfl⟩
  rw [hp, ht, hx, hb] at F
  rw [hb]
  have HF := Lib.hid F
  have HW := Lib.hid hW
  clear hp ht hx hb h hT F hW
  go_enter Tryz.func61, Tryz.ntmps61
  go_wp2_with fail
  refine HF.out.mono ?_
  rintro e w1 ⟨rfl, b1⟩
  have B1 := Lib.hid (HW.out.trans (b1.mono HW.out.size))
  clear b1
  go_wp2_with fail
  go_ret
  exact ⟨rfl, B1.out.alloc B1.out.size _⟩
theorem fixed_is (n : ByteArray) (w : World) :
    Calls Tryz.prog 60 #[.string n] w fun e w' => e = .returned (.bool (n.toList == [44] || n.toList == [124] || n.toList == [91, 93] || n.toList == [123, 125])) ∧ w' = w := by
  obtain ⟨b1, h1⟩ : ∃ b, (n.toList == [44]) = b := ⟨_, rfl⟩
  obtain ⟨b2, h2⟩ : ∃ b, (n.toList == [124]) = b := ⟨_, rfl⟩
  obtain ⟨b3, h3⟩ : ∃ b, (n.toList == [91, 93]) = b := ⟨_, rfl⟩
  obtain ⟨b4, h4⟩ : ∃ b, (n.toList == [123, 125]) = b := ⟨_, rfl⟩
  rw [h1, h2, h3, h4]
  cases b1 <;> cases b2 <;> cases b3 <;> cases b4 <;>
  · go_enter Tryz.func60, Tryz.ntmps60
    go_wp2_with fail
    go_ret
    exact ⟨rfl, rfl⟩
theorem clone_is (n : ByteArray) (w : World) (hn : n.size ≤ 2000) : Calls Tryz.prog 63 #[.string n] w fun e w' => e = .returned (.string n) ∧ Below w.heap.size w w' := by
  have C := Lib.hid (Tryz.stringslite_Clone n w (by omega))
  go_enter Tryz.func63, Tryz.ntmps63
  go_wp2_with fail
  refine C.out.mono ?_
  rintro e w1 ⟨rfl, b1⟩
  have B1 := Lib.hid b1
  clear b1
  go_wp2_with fail
  go_ret
  exact ⟨rfl, B1.out⟩
end Go.Proofs.YtkplokfcjjcpcaaGreatDoor.Ops
end
section
namespace Go.Proofs.YtkplokfcjjcpcaaGreatDoor.Ops
open Go Go.RowKit Go.Maps
open Go.WideMaps Go.WideElems
variable {RV : List Value}
def lft (t : Int) : Int := if t = 1 ∨ t = 2 ∨ t = 6 then 1 else 0
def rgt (t : Int) : Int := if t = 1 ∨ t = 3 ∨ t = 4 then 1 else 0
def sidesZ (L : List Df) (n : ByteArray) (s : Int) : Int × Int × Int :=
  match fnd L n s with
  | none => (0, 0, 0)
  | some d => (d.pri, d.pri - lft d.typ, d.pri - rgt d.typ)
set_option maxRecDepth 100000 in
set_option maxHeartbeats 1600000 in
theorem sides_is (a m : Nat) (L : List Df) (n : ByteArray) (s : Int) (w : World) (hl : Lay RV w) (h : Tb w a m L) (hn : n.size ≤ maxLen) (hs : s = 0 ∨ s = 1 ∨ s = 2 ∨ s = 3) :
    Calls Tryz.prog 236 #[.pointer (some ⟨a, 0, none⟩), .agg #[.string n, .int .i64 s]] w fun e w' =>
      e = .returned (.tuple #[.int .i64 (sidesZ L n s).1, .int .i64 (sidesZ L n s).2.1, .int .i64 (sidesZ L n s).2.2]) ∧ Below w.heap.size w w' := by
  have hT := h.alloc (.cells #[.string n, .int .i64 s] 134)
  have F := find_is a m L n s _ hT hn hs
  have hW : Below w.heap.size w (w.alloc (.cells #[.string n, .int .i64 s] 134)) := (Below.refl _ _).alloc (Nat.le_refl _) _
  have HW := Lib.hid hW
  have HL := Lib.hid (hl.on hW)
  unfold sidesZ
  have wf := h.wf
  cases hf : fnd L n s with
  | none =>
    rw [hf] at F
    have HF := Lib.hid F
    clear F hT hW h hl hf wf
    unfold getd zdf at HF
    simp only [Option.getD_none, Option.isSome_none] at HF
    go_enter Tryz.func236, Tryz.ntmps236
    go_wp2_with fail
    refine HF.out.mono ?_
    rintro e w1 ⟨rfl, b1⟩
    have B1 := Lib.hid (HW.out.trans (b1.mono HW.out.size))
    clear b1
    go_wp2_with fail
    go_ret3
    exact ⟨rfl, B1.out.alloc B1.out.size _⟩
  | some d =>
    rw [hf] at F
    obtain ⟨p, t, x⟩ := d
    obtain ⟨hp1, hp2, ht1, ht2, _⟩ := wf.fit _ (fnd_mem hf).1
    simp only at hp1 hp2 ht1 ht2
    have HF := Lib.hid F
    clear F hT hW h hl hf wf
    unfold getd at HF
    simp only [Option.getD_some, Option.isSome_some] at HF ⊢
    obtain rfl | rfl | rfl | rfl | rfl | rfl | rfl : t = 1 ∨ t = 2 ∨ t = 3 ∨ t = 4 ∨ t = 5 ∨ t = 6 ∨ t = 7 := by omega
    all_goals
      have HP := Lib.hid (And.intro hp1 hp2)
      clear hp1 hp2 ht1 ht2
      go_enter Tryz.func236, Tryz.ntmps236
      go_wp2_with fail
      refine HF.out.mono ?_
      rintro e w1 ⟨rfl, b1⟩
      have B1 := Lib.hid (HW.out.trans (b1.mono HW.out.size))
      have L1 := HL.out.on b1
      have lt1 := World.block_lt_of_cell? _ _ (L1.sh 0 _ rfl)
      have hne : ∀ k, (⟨0, k, none⟩ : Addr).block ≠ w1.heap.size := fun k => Nat.ne_of_lt lt1
      obtain ⟨s3, s4, s5⟩ := And.intro (L1.sh 3 _ rfl) (And.intro (L1.sh 4 _ rfl) (L1.sh 5 _ rfl))
      obtain ⟨s6, s7, s8⟩ := And.intro (L1.sh 6 _ rfl) (And.intro (L1.sh 7 _ rfl) (L1.sh 8 _ rfl))
      obtain ⟨s9, s10, s11⟩ := And.intro (L1.sh 9 _ rfl) (And.intro (L1.sh 10 _ rfl) (L1.sh 11 _ rfl))
      obtain ⟨s12, s13, s14⟩ := And.intro (L1.sh 12 _ rfl) (And.intro (L1.sh 13 _ rfl) (L1.sh 14 _ rfl))
      obtain ⟨s15, s16, s17⟩ := And.intro (L1.sh 15 _ rfl) (And.intro (L1.sh 16 _ rfl) (L1.sh 17 _ rfl))
      obtain ⟨s18, s19, s20⟩ := And.intro (L1.sh 18 _ rfl) (And.intro (L1.sh 19 _ rfl) (L1.sh 20 _ rfl))
      obtain ⟨s21, s22, s23⟩ := And.intro (L1.sh 21 _ rfl) (And.intro (L1.sh 22 _ rfl) (L1.sh 23 _ rfl))
      have lt0 : 0 < w1.heap.size := lt1
      clear L1 b1 lt1
      go_wp2_with fail
      obtain ⟨hp1, hp2⟩ := HP.out
      go_quiet (fail)
      go_wp2_with fail
      go_ret3
      refine ⟨by simp [lft, rgt], ((B1.out.alloc B1.out.size _).alloc ?_ _).trans ⟨rfl, rfl, rfl, Nat.le_refl _, fun _ _ => rfl⟩⟩
      have := B1.out.size
      simp
      omega
set_option maxHeartbeats 800000 in
theorem prefix_is (a m : Nat) (L : List Df) (n : ByteArray) (w : World) (hl : Lay RV w) (h : Tb w a m L) (hn : n.size ≤ maxLen) :
    Calls Tryz.prog 207 #[.pointer (some ⟨a, 0, none⟩), .string n] w fun e w' => e = .returned (.tuple #[.int .i64 (sidesZ L n 1).1, .int .i64 (sidesZ L n 1).2.2]) ∧ Below w.heap.size w w' := by
  have F := Lib.hid (sides_is a m L n 1 w hl h hn (by decide))
  clear h hl
  go_enter Tryz.func207, Tryz.ntmps207
  go_wp2_with fail
  refine F.out.mono ?_
  rintro e w1 ⟨rfl, b1⟩
  have B1 := Lib.hid b1
  clear b1
  go_wp2_with fail
  go_ret2
  exact ⟨rfl, B1.out⟩
set_option maxHeartbeats 800000 in
theorem infix_is (a m : Nat) (L : List Df) (n : ByteArray) (w : World) (hl : Lay RV w) (h : Tb w a m L) (hn : n.size ≤ maxLen) :
    Calls Tryz.prog 206 #[.pointer (some ⟨a, 0, none⟩), .string n] w fun e w' => e = .returned (.tuple #[.int .i64 (sidesZ L n 2).1, .int .i64 (sidesZ L n 2).2.1, .int .i64 (sidesZ L n 2).2.2]) ∧ Below w.heap.size w w' := by
  have F := Lib.hid (sides_is a m L n 2 w hl h hn (by decide))
  clear h hl
  go_enter Tryz.func206, Tryz.ntmps206
  go_wp2_with fail
  refine F.out.mono ?_
  rintro e w1 ⟨rfl, b1⟩
  have B1 := Lib.hid b1
  clear b1
  go_wp2_with fail
  go_ret3
  exact ⟨rfl, B1.out⟩
set_option maxHeartbeats 800000 in
theorem postfix_is (a m : Nat) (L : List Df) (n : ByteArray) (w : World) (hl : Lay RV w) (h : Tb w a m L) (hn : n.size ≤ maxLen) :
    Calls Tryz.prog 208 #[.pointer (some ⟨a, 0, none⟩), .string n] w fun e w' => e = .returned (.tuple #[.int .i64 (sidesZ L n 3).1, .int .i64 (sidesZ L n 3).2.1]) ∧ Below w.heap.size w w' := by
  have F := Lib.hid (sides_is a m L n 3 w hl h hn (by decide))
  clear h hl
  go_enter Tryz.func208, Tryz.ntmps208
  go_wp2_with fail
  refine F.out.mono ?_
  rintro e w1 ⟨rfl, b1⟩
  have B1 := Lib.hid b1
  clear b1
  go_wp2_with fail
  go_ret2
  exact ⟨rfl, B1.out⟩
def isZ (L : List Df) (n : ByteArray) : Bool := (fnd L n 1).isSome || (fnd L n 2).isSome || (fnd L n 3).isSome
set_option maxHeartbeats 800000 in
theorem is_is (a m : Nat) (L : List Df) (n : ByteArray) (w : World) (h : Tb w a m L) (hn : n.size ≤ maxLen) :
    Calls Tryz.prog 237 #[.pointer (some ⟨a, 0, none⟩), .string n] w fun e w' => e = .returned (.bool (isZ L n)) ∧ Below w.heap.size w w' := by
  have F1 := Lib.hid (has_is a m L n 1 w h hn (by decide))
  have F2 := Lib.hid (fun w1 (b : Below w.heap.size w w1) => has_is a m L n 2 w1 (h.on b) hn (by decide))
  have F3 := Lib.hid (fun w1 (b : Below w.heap.size w w1) => has_is a m L n 3 w1 (h.on b) hn (by decide))
  unfold isZ
  clear h
  cases h1 : (fnd L n 1).isSome
  · cases h2 : (fnd L n 2).isSome
    · obtain ⟨b3, h3⟩ : ∃ b, (fnd L n 3).isSome = b := ⟨_, rfl⟩
      rw [h1] at F1
      rw [h2] at F2
      rw [h3] at F3 ⊢
      clear h1 h2 h3
      go_enter Tryz.func237, Tryz.ntmps237
      go_wp2_with fail
      refine F1.out.mono ?_
      rintro e w1 ⟨rfl, b1⟩
      have B1 := Lib.hid b1
      clear b1
      go_wp2_with fail
      refine (F2.out _ B1.out).mono ?_
      rintro e w2 ⟨rfl, b2⟩
      have B2 := Lib.hid (bt B1.out b2)
      clear b2
      go_wp2_with fail
      refine (F3.out _ B2.out).mono ?_
      rintro e w3 ⟨rfl, b3⟩
      have B3 := Lib.hid (bt B2.out b3)
      clear b3
      go_wp2_with fail
      go_ret
      exact ⟨rfl, B3.out⟩
    · rw [h1] at F1
      rw [h2] at F2
      clear h1 h2
      go_enter Tryz.func237, Tryz.ntmps237
      go_wp2_with fail
      refine F1.out.mono ?_
      rintro e w1 ⟨rfl, b1⟩
      have B1 := Lib.hid b1
      clear b1
      go_wp2_with fail
      refine (F2.out _ B1.out).mono ?_
      rintro e w2 ⟨rfl, b2⟩
      have B2 := Lib.hid (bt B1.out b2)
      clear b2
      go_wp2_with fail
      go_ret
      exact ⟨rfl, B2.out⟩
  · rw [h1] at F1
    clear h1
    go_enter Tryz.func237, Tryz.ntmps237
    go_wp2_with fail
    refine F1.out.mono ?_
    rintro e w1 ⟨rfl, b1⟩
    have B1 := Lib.hid b1
    clear b1
    go_wp2_with fail
    go_ret
    exact ⟨rfl, B1.out⟩
end Go.Proofs.YtkplokfcjjcpcaaGreatDoor.Ops
end
section
namespace Go.Proofs.YtkplokfcjjcpcaaGreatDoor.Ops
open Go Go.RowKit Go.Maps
open Go.WideMaps Go.WideElems
variable {RV : List Value}
theorem undrew {w w' : World} {r : Option Nat} (h : w.drew.grownBy w' r) : w.grownBy w' r := ⟨h.os, h.tape, h.output, h.size, h.block⟩
def FitD (d : Df) : Prop := 1 ≤ d.pri ∧ d.pri ≤ 1200 ∧ 1 ≤ d.typ ∧ d.typ ≤ 7 ∧ d.name.size ≤ 1000
def ins (L : List Df) (d : Df) : List Df := rmv L d.name (srt d.typ) ++ [d]
theorem Wf.ins {L : List Df} (h : Wf L) {d : Df} (hd : FitD d) : Wf (ins L d) := h.put hd
theorem Tb.next {w w' : World} {a m n : Nat} {L : List Df} {D : DataW Unit} {d : Df} (h : Tb w a m L) (hd : FitD d) (hr : Rel D L)
    (ho' : w'.ownsMap Tryz.prog 134 dfR m n (D.put (kl d.name (srt d.typ)) d.dat)) (hg : w.grownBy w' (some m)) : Tb w' a m (ins L d) :=
  ⟨(hg.block a h.lt.1 (by simpa using h.ne.symm)).trans h.row, ⟨_, own_tight ho', hr.put h.wf (small (by have := hd.2.2.2.2; omega))⟩, h.wf.ins hd, h.ne⟩
theorem size_le {D : DataW Unit} (L : List Df) (hr : Rel D L) (hL : L.length ≤ 300) : Maps.size D < maxLen := by
  rw [hr.size]
  unfold maxLen
  omega
set_option maxRecDepth 100000 in
set_option maxHeartbeats 3200000 in
theorem put_is (a m : Nat) (L : List Df) (d : Df) (w : World) (hl : Lay RV w) (h : Tb w a m L) (hd : FitD d) (hL : L.length ≤ 300) :
    Calls Tryz.prog 59 #[.pointer (some ⟨a, 0, none⟩), .agg #[.int .i64 d.pri, .int .i64 d.typ, .string d.name]] w fun e w' => e = .returned (.tuple #[]) ∧ Tb w' a m (ins L d) ∧ w.grownBy w' (some m) := by
  have hT := h.alloc (.cells #[.int .i64 d.pri, .int .i64 d.typ, .string d.name] 129)
  have L1 := hl.on ((Below.refl w.heap.size w).alloc (Nat.le_refl _) (.cells #[.int .i64 d.pri, .int .i64 d.typ, .string d.name] 129))
  have hg : w.grownBy (w.alloc (.cells #[.int .i64 d.pri, .int .i64 d.typ, .string d.name] 129)) (some m) := (World.grownBy_alloc w _ none).but _
  have hN : Three (w.alloc (.cells #[.int .i64 d.pri, .int .i64 d.typ, .string d.name] 129)) w.heap.size 129 (.int .i64 d.pri) (.int .i64 d.typ) (.string d.name) := ⟨new_at _ _ rfl⟩
  obtain ⟨_, ⟨D, ho, hr⟩, _, _⟩ := hT
  have hsz := size_le L hr hL
  have hkey := keyOf_kl (n := d.name) (s := srt d.typ) (small (by have := hd.2.2.2.2; omega)) (srt4 _)
  have FIN := Lib.hid (fun w' n ho' hg' => (h.alloc (.cells #[.int .i64 d.pri, .int .i64 d.typ, .string d.name] 129)).next (w' := w') (n := n) hd hr ho' hg')
  have hval := dfR_mk d
  obtain ⟨W1, hW1⟩ : ∃ W1, w.alloc (.cells #[.int .i64 d.pri, .int .i64 d.typ, .string d.name] 129) = W1 := ⟨_, rfl⟩
  rw [hW1] at ho hN L1 hg FIN
  have HW1 := Lib.hid hW1
  have OWN := Lib.hid ho
  have SZ := Lib.hid hsz
  have VAL := Lib.hid hval
  have HG := Lib.hid hg
  have Q0 := Lib.hid ((h.alloc (.cells #[.int .i64 d.pri, .int .i64 d.typ, .string d.name] 129)).cells.1)
  have C0 := Lib.hid (show W1.cell? ⟨a, 0, none⟩ = some (.map (some m)) by rw [← hW1]; exact (h.alloc _).cells.1)
  have H2 := Lib.hid (fun w => show (binOp .eql 119 (.map (some m)) (.map none)).run Tryz.prog w = .ok (.bool false) w from run_eql_map_nil_sl (P := Tryz.prog) w 119 _ _ (some m) Tryz.underlying119)
  have T7 := Lib.hid (show d.typ = 1 ∨ d.typ = 2 ∨ d.typ = 3 ∨ d.typ = 4 ∨ d.typ = 5 ∨ d.typ = 6 ∨ d.typ = 7 by have := hd.2.2; omega)
  obtain ⟨c0, c1, c2, z0, z1, z2⟩ := hN.facts
  clear hW1 ho hsz hval hg h hl hN hd hr
  obtain ⟨p, t, x⟩ := d
  simp only at *
  obtain ⟨kk, hkk⟩ : ∃ kk, kl x (srt t) = kk := ⟨_, rfl⟩
  rw [hkk] at FIN hkey
  have KEY := Lib.hid hkey
  obtain ⟨D2, hD2⟩ : ∃ D2, (Df.mk p t x).dat = D2 := ⟨_, rfl⟩
  rw [hD2] at FIN VAL
  clear hkk hkey hD2
  have LS := Lib.hid L1
  clear L1
  rcases T7.out with rfl | rfl | rfl | rfl | rfl | rfl | rfl
  all_goals
    have s3 := LS.out.sh 3 _ rfl
    have s6 := LS.out.sh 6 _ rfl
    have s9 := LS.out.sh 9 _ rfl
    have s12 := LS.out.sh 12 _ rfl
    have s15 := LS.out.sh 15 _ rfl
    have s18 := LS.out.sh 18 _ rfl
    have s21 := LS.out.sh 21 _ rfl
    have q0 := C0.out
    have q1 := Q0.out
    have e2 := H2.out
    clear T7
    go_enter Tryz.func59, Tryz.ntmps59
    go_wp2_with fail
    rw [HW1.out]
    clear q1
    go_still_tail 13, (by kernel_rfl)
    refine wpList_mapUpdate_in W1.drew rfl _ _ _ 119 rfl 134 129 keyLaw Tryz.underlying119 dfR m _ D rfl OWN.out SZ.out _ _ kk rfl rfl KEY.out D2 [] VAL.out ?_
    intro w2 h2 t2
    have G2 : W1.grownBy w2 (some m) := undrew t2.grown
    have FF := FIN.out w2 _ h2 G2
    have GG := HG.out.trans G2
    go_wp2_with fail
    go_end0
    exact ⟨rfl, FF, GG⟩
end Go.Proofs.YtkplokfcjjcpcaaGreatDoor.Ops
end
section
namespace Go.Proofs.YtkplokfcjjcpcaaGreatDoor.Ops
open Go Go.RowKit Go.Maps
open Go.WideMaps Go.WideElems
variable {RV : List Value}
def GL (B : Nat) : Prop := 1 < B ∧ 0 < B ∧ 2 < B
theorem Lay.low {w : World} (h : Lay RV w) : GL w.heap.size := ⟨World.block_lt_of_cell? _ _ (h.sp 0 (by omega)), World.block_lt_of_cell? _ _ (h.sh 0 _ rfl), h.rl⟩
theorem Lay.from {w w' : World} {B : Nat} (h : Lay RV w) (k : Below B w w') (g : GL B) : Lay RV w' :=
  ⟨fun c hc => (k.cell (p := ⟨1, c, Option.none⟩) g.1).trans (h.sp c hc), fun i v hi => (k.cell (p := ⟨0, i, Option.none⟩) g.2.1).trans (h.sh i v hi), fun i v hi => (k.cell (p := ⟨2, i, Option.none⟩) g.2.2).trans (h.rv i v hi), Nat.lt_of_lt_of_le h.rl k.size⟩
set_option maxRecDepth 100000 in
set_option maxHeartbeats 3200000 in
theorem put_nil (a : Nat) (d : Df) (w : World) (hl : Lay RV w) (hga : GL a) (h : w.heap[a]? = some (.cells #[.map none] 121 (0, 0))) (hd : FitD d) :
    Calls Tryz.prog 59 #[.pointer (some ⟨a, 0, none⟩), .agg #[.int .i64 d.pri, .int .i64 d.typ, .string d.name]] w fun e w' => e = .returned (.tuple #[]) ∧ ∃ m, Tb w' a m [d] ∧ w.heap.size ≤ m ∧ w.grownBy w' (some a) := by
  have hla := heap_lt h
  have L1 := hl.on ((Below.refl w.heap.size w).alloc (Nat.le_refl _) (.cells #[.int .i64 d.pri, .int .i64 d.typ, .string d.name] 129))
  have hB : Below a w (w.alloc (.cells #[.int .i64 d.pri, .int .i64 d.typ, .string d.name] 129)) := (Below.refl _ _).alloc (Nat.le_of_lt hla) _
  have hN : Three (w.alloc (.cells #[.int .i64 d.pri, .int .i64 d.typ, .string d.name] 129)) w.heap.size 129 (.int .i64 d.pri) (.int .i64 d.typ) (.string d.name) := ⟨new_at _ _ rfl⟩
  have hA : (w.alloc (.cells #[.int .i64 d.pri, .int .i64 d.typ, .string d.name] 129)).heap[a]? = some (.cells #[.map none] 121 (0, 0)) := (Below.heap_alloc _ _ _ hla).trans h
  have hkey := keyOf_kl (n := d.name) (s := srt d.typ) (small (by have := hd.2.2.2.2; omega)) (srt4 _)
  have hz1 : (w.alloc (.cells #[.int .i64 d.pri, .int .i64 d.typ, .string d.name] 129)).heap.size = w.heap.size + 1 := by simp
  obtain ⟨W1, hW1⟩ : ∃ W1, w.alloc (.cells #[.int .i64 d.pri, .int .i64 d.typ, .string d.name] 129) = W1 := ⟨_, rfl⟩
  have Q0 := Lib.hid (show (w.alloc (.cells #[.int .i64 d.pri, .int .i64 d.typ, .string d.name] 129)).cell? ⟨a, 0, none⟩ = some (.map none) from cell_of_heap hA rfl)
  rw [hW1] at hN L1 hB hA hz1
  have HW1 := Lib.hid hW1
  have hs2 : (W1.alloc (.map #[] 0)).heap[a]? = some (.cells #[.map none] 121 (0, 0)) := (Below.heap_alloc _ _ _ (heap_lt hA)).trans hA
  have HQ := Lib.hid (show ((W1.alloc (.map #[] 0)).setCell ⟨a, 0, none⟩ (.map (some W1.heap.size))).heap[a]? = some (.cells #[.map (some W1.heap.size)] 121 (0, 0)) from heap_set (o := 0) hs2 _)
  have hne : W1.heap.size ≠ a := by have := heap_lt hA; omega
  have O2 := Lib.hid (show ((W1.alloc (.map #[] 0)).setCell ⟨a, 0, none⟩ (.map (some W1.heap.size))).ownsMap Tryz.prog 134 dfR W1.heap.size 0 (.map []) from (World.ownsMap_made W1 _ _ _).setCell (by exact hne) _)
  have B2 := Lib.hid (show Below a w ((W1.alloc (.map #[] 0)).setCell ⟨a, 0, none⟩ (.map (some W1.heap.size))) from (hB.alloc (Nat.le_of_lt (heap_lt hA)) _).setCell (p := ⟨a, 0, none⟩) (Nat.le_refl _) _)
  have G0 := Lib.hid (show w.grownBy ((W1.alloc (.map #[] 0)).setCell ⟨a, 0, none⟩ (.map (some W1.heap.size))) (some a) from
    ⟨B2.out.os, B2.out.tape, B2.out.output, B2.out.size, fun k hk hka => by rw [heap_set_ne (by simpa using hka), Below.heap_alloc _ _ _ (by omega), ← hW1, Below.heap_alloc _ _ _ hk]⟩)
  have N2 := Lib.hid (show Three ((W1.alloc (.map #[] 0)).setCell ⟨a, 0, none⟩ (.map (some W1.heap.size))) w.heap.size 129 (.int .i64 d.pri) (.int .i64 d.typ) (.string d.name) from
    ⟨by rw [heap_set_ne (by omega), Below.heap_alloc _ _ _ (by omega)]; exact hN.row⟩)
  have L2 := Lib.hid (L1.from (((Below.refl a W1).alloc (Nat.le_of_lt (heap_lt hA)) (.map #[] 0)).setCell (p := ⟨a, 0, none⟩) (Nat.le_refl _) (.map (some W1.heap.size))) hga)
  have hm : w.heap.size ≤ W1.heap.size := by omega
  have FR := Lib.hid (show (W1.alloc (.map #[] 0)).frozen? ⟨a, 0, none⟩ = false ∧ (W1.alloc (.map #[] 0)).cell? ⟨a, 0, none⟩ = some (.map none) from ⟨free_of_heap hs2, cell_of_heap hs2 rfl⟩)
  rw [← hW1] at FR
  obtain ⟨W2, hW2⟩ : ∃ W2, (W1.alloc (.map #[] 0)).setCell ⟨a, 0, none⟩ (.map (some W1.heap.size)) = W2 := ⟨_, rfl⟩
  rw [hW2] at HQ O2 B2 G0 N2 L2
  rw [hz1] at HQ O2 hW2 hne hm
  rw [← hW1] at hW2
  have HW2 := Lib.hid hW2
  have HM := Lib.hid hm
  clear hW2 hm
  have FIT := Lib.hid hd
  have E1 := Lib.hid (fun w => show (binOp .eql 119 (.map none) (.map none)).run Tryz.prog w = .ok (.bool true) w from run_eql_map_nil_sl (P := Tryz.prog) w 119 _ _ none Tryz.underlying119)
  have VAL := Lib.hid (dfR_mk d)
  have T7 := Lib.hid (show d.typ = 1 ∨ d.typ = 2 ∨ d.typ = 3 ∨ d.typ = 4 ∨ d.typ = 5 ∨ d.typ = 6 ∨ d.typ = 7 by have := hd.2.2; omega)
  have Z1 := Lib.hid hz1
  have MM := fun w => run_makeMap (P := Tryz.prog) 119 w
  have HA := Lib.hid hla
  have NE := Lib.hid hne
  clear hla L1 hB hN hA hz1 hs2 hne hd h hl hW1 hga
  obtain ⟨p, t, x⟩ := d
  simp only at *
  obtain ⟨kk, hkk⟩ : ∃ kk, kl x (srt t) = kk := ⟨_, rfl⟩
  obtain ⟨D2, hD2⟩ : ∃ D2, (Df.mk p t x).dat = D2 := ⟨_, rfl⟩
  have KK := Lib.hid (And.intro hkk hD2)
  rw [hkk] at hkey
  rw [hD2] at VAL
  have KEY := Lib.hid hkey
  clear hkk hkey hD2
  rcases T7.out with rfl | rfl | rfl | rfl | rfl | rfl | rfl
  all_goals
    have q0 := Q0.out
    have e1 := E1.out
    obtain ⟨f0, g0⟩ := FR.out
    clear T7
    go_enter Tryz.func59, Tryz.ntmps59
    go_wp2_with fail
    rw [HW2.out]
    clear q0 e1 f0 g0 MM
    have r0 := cell_of_heap (o := 0) HQ.out rfl
    have r1 : W2.cell? ⟨a, 0, none⟩ = some (.map (some (w.heap.size + 1))) := r0
    clear r0
    obtain ⟨c0, c1, c2, _, _, _⟩ := N2.out.facts
    have s3 := L2.out.sh 3 _ rfl
    have s6 := L2.out.sh 6 _ rfl
    have s9 := L2.out.sh 9 _ rfl
    have s12 := L2.out.sh 12 _ rfl
    have s15 := L2.out.sh 15 _ rfl
    have s18 := L2.out.sh 18 _ rfl
    have s21 := L2.out.sh 21 _ rfl
    go_still_tail 13, (by kernel_rfl)
    refine wpList_mapUpdate_in W2.drew rfl _ _ _ 119 rfl 134 129 keyLaw Tryz.underlying119 dfR (w.heap.size + 1) 0 (.map []) rfl O2.out (by decide) _ _ kk rfl rfl KEY.out D2 [] VAL.out ?_
    intro w2 h2 t2
    have G2 : W2.grownBy w2 (some (w.heap.size + 1)) := undrew t2.grown
    have FF := (show ∀ t', FitD (Df.mk p t' x) → kl x (srt t') = kk ∧ (Df.mk p t' x).dat = D2 → Tb w2 a (w.heap.size + 1) [Df.mk p t' x] from fun t' fit kk' => by
      refine ⟨(G2.block a (heap_lt HQ.out) (by simpa using NE.out.symm)).trans HQ.out, ⟨_, own_tight h2, ?_⟩, Wf.nil.ins fit, NE.out⟩
      rw [← kk'.1, ← kk'.2]
      exact Rel.nil.put (d := Df.mk p t' x) Wf.nil (small (Nat.le_trans fit.2.2.2.2 (by decide)))) _ FIT.out KK.out
    have GG := G0.out.andThen G2 (fun k hk => by cases hk; exact .inl (by omega))
    have HM1 := HM.out
    go_wp2_with fail
    go_end0
    exact ⟨rfl, _, FF, HM1, GG⟩
end Go.Proofs.YtkplokfcjjcpcaaGreatDoor.Ops
end
