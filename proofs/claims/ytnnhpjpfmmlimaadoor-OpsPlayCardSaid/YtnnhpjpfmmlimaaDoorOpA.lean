/- Operators as a list, in the order in which they were made, and a map of them by name and sort. Conditions: none. -/
import Derived.Test.YtnnhpjpfmmlimaaDoorRows
import Derived.WalkKit
import Derived.WalkSpells
import Derived.WalkLawsBesides
import Derived.Lib.Hide
import Derived.Lib.Strings
import Derived.Maps.OwnSet
import Derived.Maps.RangeWalk
import Derived.Maps.Ext
import Derived.DeepKeys4
namespace Go.Proofs.YtnnhpjpfmmlimaaDoor
open Go Go.RowKit Go.Maps
open Go.WideMaps Go.WideElems

structure Df where
  pri : Int
  typ : Int
  name : ByteArray

def Df.cells (d : Df) : List Value := [.int .i64 d.pri, .int .i64 d.typ, .string d.name]
def srt (t : Int) : Int := if t ≤ 3 then 2 else if t ≤ 5 then 1 else 3
theorem srt_in (t : Int) : srt t = 1 ∨ srt t = 2 ∨ srt t = 3 := by
  by_cases h1 : t ≤ 3
  · simp [srt, h1]
  · by_cases h2 : t ≤ 5 <;> simp [srt, h1, h2]
def Df.is (n : ByteArray) (s : Int) (d : Df) : Bool := (d.name.toList == n.toList) && (srt d.typ == s)
def fnd (L : List Df) (n : ByteArray) (s : Int) : Option Df := L.find? (Df.is n s)
def rmv (L : List Df) (n : ByteArray) (s : Int) : List Df := L.filter fun d => !d.is n s

theorem name_eq {a b : ByteArray} (h : a.toList = b.toList) : a = b := by
  rw [Lib.toList_data, Lib.toList_data] at h
  rcases a with ⟨⟨a⟩⟩
  rcases b with ⟨⟨b⟩⟩
  simp at h
  rw [h]
theorem is_iff {d : Df} {n : ByteArray} {s : Int} : d.is n s = true ↔ d.name = n ∧ srt d.typ = s := by
  unfold Df.is
  simp only [Bool.and_eq_true, beq_iff_eq]
  exact ⟨fun h => ⟨name_eq h.1, h.2⟩, fun h => ⟨by rw [h.1], h.2⟩⟩

/-- how an operator in a map reads -/
def Df.dat (d : Df) : DataW Unit := .agg [.lit (.int .i64 d.pri), .lit (.int .i64 d.typ), .lit (.string d.name.data.toList)]
def dfR (v : Value) : Option (DataW Unit × List MemPlace) :=
  match v with
  | .agg ⟨[.int .i64 p, .int .i64 t, .string n]⟩ => some ((Df.mk p t n).dat, [])
  | _ => none
theorem dfR_mk (d : Df) : dfR (.agg #[.int .i64 d.pri, .int .i64 d.typ, .string d.name]) = some (d.dat, []) := rfl
theorem dfR_inv {v : Value} {y : DataW Unit × List MemPlace} (h : dfR v = some y) : ∃ d : Df, v = .agg #[.int .i64 d.pri, .int .i64 d.typ, .string d.name] ∧ y = (d.dat, []) := by
  unfold dfR at h
  split at h
  · rename_i p t n
    exact ⟨⟨p, t, n⟩, rfl, (Option.some.inj h).symm⟩
  · cases h
theorem dat_inj {a b : Df} (h : a.dat = b.dat) : a = b := by
  rcases a with ⟨p, t, ⟨⟨n⟩⟩⟩
  rcases b with ⟨p', t', ⟨⟨n'⟩⟩⟩
  simp [Df.dat] at h
  obtain ⟨rfl, rfl, rfl⟩ := h
  rfl

/-! ### the key -/
theorem laidOut : laidOutB Tryd.prog = true := by kernel_rfl
theorem keyRow : (71 : Nat) < Tryd.prog.types.size := of_decide_eq_true (by kernel_rfl)
theorem keyDeep : Tryd.prog.keyTypeAt 4 71 = true := by kernel_rfl
theorem keyWide : (match Tryd.prog.underlying 71 with | some (.array _ _) | some (.struct _) => true | _ => false) = true := by kernel_rfl
set_option maxRecDepth 100000 in
theorem keyLaw0 : KeyLaw Tryd.prog 71 := deep_law_laid laidOut (m := 4) (by omega) keyRow keyDeep keyWide
theorem keyLaw : Keyed Tryd.prog 71 := Keyed.of_law keyLaw0
theorem keyCells : Tryd.prog.cellsOf 71 = 2 := by kernel_rfl
theorem keyType : Tryd.prog.keyType 71 = true := by kernel_rfl
theorem strCells : Tryd.prog.cellsOf 9 = 1 := by kernel_rfl
theorem intCells : Tryd.prog.cellsOf 3 = 1 := by kernel_rfl

def keyV (n : ByteArray) (s : Int) : Value := .agg #[.string n, .int .i64 s]
@[irreducible] noncomputable def kl (n : ByteArray) (s : Int) : Lit := (keyOf Tryd.prog 71 (keyV n s)).getD (.bool true)
theorem two_deep {a z : Nat} (h : a < z) : ∃ i, z + 1 = i + 2 := ⟨z - 1, by omega⟩
theorem formed_key (n : ByteArray) (s : Int) : (Value.agg #[.string n, .int .i64 s]).formed Tryd.prog 71 = true := by
  unfold Value.formed
  rw [Tryd.underlying71]
  simp [keyCells]
theorem key_lits {n : ByteArray} {s : Int} (d : Nat) (hn : n.size ≤ maxLen) (hw : (Lit.int .i64 s).wf = true) : Tryd.prog.keyLits (d + 2) 71 [.string n, .int .i64 s] = some [.string n.data.toList, .int .i64 s] := by
  simp only [Program.keyLits, Tryd.underlying71, keyCells, Tryd.underlying9, Tryd.underlying3, strCells, intCells, List.mapM_cons, List.mapM_nil, List.drop, List.take, hn, hw]
  simp
theorem keyOf_kl {n : ByteArray} {s : Int} (hn : n.size ≤ maxLen) (hs : s = 0 ∨ s = 1 ∨ s = 2 ∨ s = 3) : keyOf Tryd.prog 71 (keyV n s) = some (kl n s) := by
  have hw : (Lit.int .i64 s).wf = true := by rcases hs with rfl | rfl | rfl | rfl <;> decide
  have h : (keyOf Tryd.prog 71 (keyV n s)).isSome = true := by
    obtain ⟨i, hi⟩ := two_deep keyRow
    unfold keyOf
    rw [Tryd.underlying71, hi]
    unfold keyV
    simp only [keyType, formed_key, key_lits i hn hw, Value.cells]
    rfl
  unfold kl
  obtain ⟨l, hl⟩ := Option.isSome_iff_exists.1 h
  rw [hl]
  rfl
theorem kl_inj {n m : ByteArray} {s t : Int} (hn : n.size ≤ maxLen) (hs : s = 0 ∨ s = 1 ∨ s = 2 ∨ s = 3) (hm : m.size ≤ maxLen) (ht : t = 0 ∨ t = 1 ∨ t = 2 ∨ t = 3) (h : kl n s = kl m t) : n = m ∧ s = t := by
  have h1 := keyOf_kl hn hs
  have h2 := keyOf_kl hm ht
  rw [← h] at h2
  have := keyLaw.inj h1 h2
  simpa [keyV] using this
theorem kl_key {n : ByteArray} {s : Int} (hn : n.size ≤ maxLen) (hs : s = 0 ∨ s = 1 ∨ s = 2 ∨ s = 3) : WideAt.IsKeyLit (kl n s) := keyLaw.key (keyOf_kl hn hs)

/-! ### a map of operators, and the list -/
noncomputable def Df.ent (d : Df) : Lit × DataW Unit := (kl d.name (srt d.typ), d.dat)
/-- no two of one name and sort; types, priorities and names as Op asks them -/
structure Wf (L : List Df) : Prop where
  one : L.Pairwise fun a b => ¬ (a.name = b.name ∧ srt a.typ = srt b.typ)
  fit : ∀ d ∈ L, 1 ≤ d.pri ∧ d.pri ≤ 1200 ∧ 1 ≤ d.typ ∧ d.typ ≤ 7 ∧ d.name.size ≤ 1000
theorem Wf.nil : Wf [] := ⟨List.Pairwise.nil, fun _ h => by cases h⟩
theorem small {n : ByteArray} (h : n.size ≤ 2000) : n.size ≤ maxLen := by unfold maxLen; omega
theorem Wf.name {L : List Df} (h : Wf L) {d : Df} (hd : d ∈ L) : d.name.size ≤ maxLen := small (by have := (h.fit d hd).2.2.2.2; omega)
theorem srt4 (t : Int) : srt t = 0 ∨ srt t = 1 ∨ srt t = 2 ∨ srt t = 3 := .inr (srt_in t)

theorem Wf.rmv {L : List Df} (h : Wf L) (n : ByteArray) (s : Int) : Wf (rmv L n s) := ⟨h.one.filter _, fun d hd => h.fit d (List.mem_filter.1 hd).1⟩
theorem Wf.put {L : List Df} (h : Wf L) {d : Df} (hd : 1 ≤ d.pri ∧ d.pri ≤ 1200 ∧ 1 ≤ d.typ ∧ d.typ ≤ 7 ∧ d.name.size ≤ 1000) : Wf (Go.Proofs.YtnnhpjpfmmlimaaDoor.rmv L d.name (srt d.typ) ++ [d]) := by
  refine ⟨List.pairwise_append.2 ⟨(h.rmv _ _).one, List.pairwise_singleton _ _, fun a ha b hb => ?_⟩, fun x hx => ?_⟩
  · obtain rfl := List.mem_singleton.1 hb
    have := (List.mem_filter.1 ha).2
    intro hh
    rw [(is_iff (d := a)).2 hh] at this
    cases this
  · rcases List.mem_append.1 hx with hx | hx
    · exact (h.rmv _ _).fit x hx
    · obtain rfl := List.mem_singleton.1 hx
      exact hd

/-- the map's datum holds just the list's operators -/
def Rel (D : DataW Unit) (L : List Df) : Prop := ∃ es, D = .map es ∧ es.Perm (L.map Df.ent)
theorem Rel.nil : Rel (.map []) [] := ⟨[], rfl, List.Perm.refl _⟩
theorem Rel.size {D : DataW Unit} {L : List Df} (h : Rel D L) : Maps.size D = L.length := by
  obtain ⟨es, rfl, hp⟩ := h
  rw [Maps.size_eq, hp.length_eq, List.length_map]
theorem ent_key {L : List Df} (hw : Wf L) {d : Df} (hd : d ∈ L) {n : ByteArray} {s : Int} (hn : n.size ≤ maxLen) (hs : s = 0 ∨ s = 1 ∨ s = 2 ∨ s = 3) : (d.ent.1.sameKey (kl n s)) = d.is n s := by
  cases h : d.is n s
  · refine Maps.sameKey_ne fun e => ?_
    have := kl_inj (hw.name hd) (srt4 _) hn hs e
    rw [is_iff.2 this] at h
    cases h
  · obtain ⟨rfl, rfl⟩ := is_iff.1 h
    exact WideAt.sameKey_self (kl_key (hw.name hd) (srt4 _))
theorem ent_find {n : ByteArray} {s : Int} (hn : n.size ≤ maxLen) (hs : s = 0 ∨ s = 1 ∨ s = 2 ∨ s = 3) : ∀ (L : List Df), Wf L → (L.map Df.ent).any (fun p => p.1.sameKey (kl n s)) = (fnd L n s).isSome
  | [], _ => rfl
  | d :: L, hw => by
    have hw' : Wf L := ⟨(List.pairwise_cons.1 hw.one).2, fun x hx => hw.fit x (List.mem_cons_of_mem _ hx)⟩
    rw [List.map_cons, List.any_cons, ent_key hw List.mem_cons_self hn hs, ent_find hn hs L hw']
    unfold fnd
    rw [List.find?_cons]
    cases d.is n s <;> simp
theorem Rel.has {D : DataW Unit} {L : List Df} (h : Rel D L) (hw : Wf L) {n : ByteArray} {s : Int} (hn : n.size ≤ maxLen) (hs : s = 0 ∨ s = 1 ∨ s = 2 ∨ s = 3) : Maps.has D (kl n s) = (fnd L n s).isSome := by
  obtain ⟨es, rfl, hp⟩ := h
  rw [Maps.has_eq, ← ent_find hn hs L hw]
  exact hp.any_eq
theorem ents_apart {L : List Df} (hw : Wf L) : (L.map Df.ent).Pairwise (fun p q => p.1 ≠ q.1) := by
  rw [List.pairwise_map]
  refine hw.one.imp_of_mem fun {a b} ha hb hne e => hne ?_
  exact kl_inj (hw.name ha) (srt4 _) (hw.name hb) (srt4 _) e
theorem fnd_mem {L : List Df} {n : ByteArray} {s : Int} {d : Df} (h : fnd L n s = some d) : d ∈ L ∧ d.name = n ∧ srt d.typ = s := ⟨List.mem_of_find?_eq_some h, is_iff.1 (List.find?_some h)⟩
theorem Rel.atKey {D : DataW Unit} {L : List Df} (h : Rel D L) (hw : Wf L) {n : ByteArray} {s : Int} (hn : n.size ≤ maxLen) (hs : s = 0 ∨ s = 1 ∨ s = 2 ∨ s = 3) (z : DataW Unit) :
    D.atKey (kl n s) z = match fnd L n s with | some d => d.dat | none => z := by
  have hh := h.has hw hn hs
  cases hf : fnd L n s with
  | none => rw [hf] at hh; exact Maps.atKey_of_not_has hh z
  | some d =>
    obtain ⟨es, rfl, hp⟩ := h
    obtain ⟨hd, rfl, rfl⟩ := fnd_mem hf
    have hm : d.ent ∈ es := hp.mem_iff.2 (List.mem_map_of_mem hd)
    have ha : es.Pairwise (fun p q => p.1 ≠ q.1) := (hp.pairwise_iff (fun {a b} (h : a.1 ≠ b.1) => h.symm)).2 (ents_apart hw)
    exact WideAt.atKey_mem z (kl_key (hw.name hd) (srt4 _)) ha hm
theorem strike_ents {n : ByteArray} {s : Int} (hn : n.size ≤ maxLen) (hs : s = 0 ∨ s = 1 ∨ s = 2 ∨ s = 3) : ∀ (L : List Df), Wf L → (L.map Df.ent).filter (fun p => !p.1.sameKey (kl n s)) = (rmv L n s).map Df.ent
  | [], _ => rfl
  | d :: L, hw => by
    have hw' : Wf L := ⟨(List.pairwise_cons.1 hw.one).2, fun x hx => hw.fit x (List.mem_cons_of_mem _ hx)⟩
    have ih := strike_ents hn hs L hw'
    unfold rmv at ih ⊢
    rw [List.map_cons, List.filter_cons, List.filter_cons, ent_key hw List.mem_cons_self hn hs, ih]
    cases d.is n s <;> simp
theorem Rel.del {D : DataW Unit} {L : List Df} (h : Rel D L) (hw : Wf L) {n : ByteArray} {s : Int} (hn : n.size ≤ maxLen) (hs : s = 0 ∨ s = 1 ∨ s = 2 ∨ s = 3) : Rel (D.del (kl n s)) (rmv L n s) := by
  obtain ⟨es, rfl, hp⟩ := h
  refine ⟨_, rfl, ?_⟩
  rw [← strike_ents hn hs L hw]
  exact hp.filter _
theorem Rel.put {D : DataW Unit} {L : List Df} (h : Rel D L) (hw : Wf L) {d : Df} (hn : d.name.size ≤ maxLen) : Rel (D.put (kl d.name (srt d.typ)) d.dat) (rmv L d.name (srt d.typ) ++ [d]) := by
  obtain ⟨es, rfl, hp⟩ := h
  refine ⟨_, rfl, (WideShapes.insert_perm _ _).trans ?_⟩
  rw [List.map_append, ← strike_ents hn (srt4 _) L hw]
  exact ((hp.filter _).cons _).trans (List.perm_append_comm (l₁ := [d.ent]))

end Go.Proofs.YtnnhpjpfmmlimaaDoor
