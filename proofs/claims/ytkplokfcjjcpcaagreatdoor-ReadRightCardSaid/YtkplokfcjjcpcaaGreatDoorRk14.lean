/- Joined texts: TermAa TermAc TermAe TermAf TermAg TermAi TermAj. Conditions: as each states. -/
import Derived.Test.YtkplokfcjjcpcaaGreatDoorRk13
import Derived.Deep.RegionHeld3
import Derived.Deep.DrawnRows
section
namespace Go.Proofs.YtkplokfcjjcpcaaGreatDoor.Trm
open Go Go.RowKit
def v4 (n : Int) : List Value := [.int .i64 1, .int .i64 n, .string ⟨#[]⟩, .slice none 0 0]
structure AL (w w' : World) : Prop where
  size : w.heap.size + 1 + 1 + 1 + 1 + 1 + 1 + 1 < w'.heap.size
  var : w'.heap[w.heap.size + 1 + 1 + 1 + 1 + 1 + 1 + 1]? = some (.cells #[.int .i64 4, .int .i64 0, .string ⟨#[102]⟩, .slice (some ⟨w.heap.size + 1 + 1 + 1 + 1 + 1, 0, none⟩) 2 2] 34 (0, 0))
  mem : (exT (w.heap.size + 1 + 1 + 1) (w.heap.size + 1 + 1 + 1 + 1 + 1) 7 2 7).mem w'
  below : Below w.heap.size w w'
theorem AL.next {w w1 w2 : World} (h : AL w w1) (hb : Below w1.heap.size w1 w2) : AL w w2 :=
  ⟨Nat.lt_of_lt_of_le h.size hb.size, (hb.block _ h.size).trans h.var, AT.mem_below hb (AT.ins_size _ h.mem) h.mem, h.below.trans (hb.mono h.below.size)⟩
theorem AL.cells {w w' : World} (h : AL w w') : w'.cell? ⟨w.heap.size + 1 + 1 + 1 + 1 + 1 + 1 + 1, 0, none⟩ = some (.int .i64 4) ∧ w'.cell? ⟨w.heap.size + 1 + 1 + 1 + 1 + 1 + 1 + 1, 1, none⟩ = some (.int .i64 0) ∧ w'.cell? ⟨w.heap.size + 1 + 1 + 1 + 1 + 1 + 1 + 1, 2, none⟩ = some (.string ⟨#[102]⟩) ∧ w'.cell? ⟨w.heap.size + 1 + 1 + 1 + 1 + 1 + 1 + 1, 3, none⟩ = some (.slice (some ⟨w.heap.size + 1 + 1 + 1 + 1 + 1, 0, none⟩) 2 2) :=
  ⟨cell_of_heap h.var rfl, cell_of_heap h.var rfl, cell_of_heap h.var rfl, cell_of_heap h.var rfl⟩
end Go.Proofs.YtkplokfcjjcpcaaGreatDoor.Trm
end
section
namespace Go.Proofs.YtkplokfcjjcpcaaGreatDoor.Trm
open Go Go.RowKit
structure ArgOk (W : World) (ad : Option Addr) (n cap : Nat) (B off : Nat) (ps : List PRow) : Prop where
  len : ps.length = n
  fits : n ≤ cap
  max : cap ≤ 9223372036854775807
  at' : 0 < n → ad = some ⟨B, off, none⟩
  mem : PMem W B off ps
structure SameIs (w0 : World) (k n : Int) (s : ByteArray) (a : Option Addr) (l c : Nat) (k' n' : Int) (s' : ByteArray) (a' : Option Addr) (l' c' : Nat) (z : Bool) : Prop where
  at' : ∀ w, Below w0.heap.size w0 w → Calls Tryz.prog 27 #[.agg #[.int .i64 k, .int .i64 n, .string s, .slice a l c], .agg #[.int .i64 k', .int .i64 n', .string s', .slice a' l' c']] w fun e w' => e = .returned (.bool z) ∧ Below w0.heap.size w0 w'
theorem SameIs.call {w0 w : World} {k n : Int} {s : ByteArray} {a : Option Addr} {l c : Nat} {k' n' : Int} {s' : ByteArray} {a' : Option Addr} {l' c' : Nat} {z : Bool} (h : SameIs w0 k n s a l c k' n' s' a' l' c' z) (hb : Below w0.heap.size w0 w) :
    Calls Tryz.prog 27 #[.agg #[.int .i64 k, .int .i64 n, .string s, .slice a l c], .agg #[.int .i64 k', .int .i64 n', .string s', .slice a' l' c']] w fun e w' => e = .returned (.bool z) ∧ Below w0.heap.size w0 w' := h.at' w hb
end Go.Proofs.YtkplokfcjjcpcaaGreatDoor.Trm
end
section
namespace Go.Proofs.YtkplokfcjjcpcaaGreatDoor.Trm
open Go Go.RowKit
attribute [local go_sem ↓] Go.wp_at_zero Go.wp_at_succ
mutual
def AT.dp : AT → Nat
  | .mk _ _ _ _ _ _ l => ATs.dp l + 1
def ATs.dp : List AT → Nat
  | [] => 0
  | t :: r => max (AT.dp t) (ATs.dp r)
end
theorem AT.dp_mk {t : AT} : t.dp = ATs.dp t.l + 1 := by cases t; rfl
mutual
theorem AT.dp_le : ∀ t : AT, t.dp ≤ t.nodes
  | .mk _ _ _ _ _ _ l => by have := ATs.dp_le l; rw [AT.dp, AT.nodes]; omega
theorem ATs.dp_le : ∀ l : List AT, ATs.dp l ≤ ATs.nodes l
  | [] => Nat.le_refl _
  | t :: r => by have h1 := AT.dp_le t; have h2 := ATs.dp_le r; rw [ATs.dp, ATs.nodes]; omega
end
end Go.Proofs.YtkplokfcjjcpcaaGreatDoor.Trm
end
section
namespace Go.Proofs.YtkplokfcjjcpcaaGreatDoor.Trm
open Go Go.RowKit
attribute [local go_sem ↓] Go.wp_at_zero Go.wp_at_succ
mutual
def AT.ok : AT → Bool
  | .mk k n s _ _ _ l => mayB k n s l.length && ATs.ok l
def ATs.ok : List AT → Bool
  | [] => true
  | t :: r => AT.ok t && ATs.ok r
end
theorem AT.ok_mk {t : AT} : t.ok = (mayB t.k t.n t.s t.l.length && ATs.ok t.l) := by cases t; rfl
end Go.Proofs.YtkplokfcjjcpcaaGreatDoor.Trm
end
section
namespace Go.Proofs.YtkplokfcjjcpcaaGreatDoor.Trm
open Go Go.RowKit
def mxD : List Nd → Nat
  | [] => 0
  | x :: r => max x.d (mxD r)
theorem mxD_app (l m : List Nd) : mxD (l ++ m) = max (mxD l) (mxD m) := by
  induction l with
  | nil => simp [mxD]
  | cons x r ih => rw [List.cons_append, mxD, mxD, ih]; omega
theorem fold_mx (L : List Nd) (m : Nat) : L.foldl (fun m x => max m (x.d : Int)) (m : Int) = ((max m (mxD L) : Nat) : Int) := by
  induction L generalizing m with
  | nil => simp [mxD]
  | cons x r ih =>
    rw [List.foldl_cons, show max (m : Int) (x.d : Int) = ((max m x.d : Nat) : Int) from by omega, ih, mxD]
    omega
mutual
theorem AT.mxd : ∀ (t : AT) (d : Nat), 1 ≤ d → max d (mxD (t.flat (d + 1))) = d + t.dp - 1
  | .mk _ _ _ _ G off l, d, h => by
    have := ATs.mxd l (d + 1) off G (by omega)
    rw [AT.flat, AT.dp, this]
    split <;> omega
theorem ATs.mxd : ∀ (l : List AT) (d off G : Nat), 1 ≤ d → mxD (ATs.flat G d l off) = if ATs.dp l = 0 then 0 else d + ATs.dp l - 1
  | [], d, off, G, _ => by simp [ATs.flat, mxD, ATs.dp]
  | t :: r, d, off, G, h => by
    have h1 := AT.mxd t d h
    have h2 := ATs.mxd r d (off + 4) G h
    have h3 : 1 ≤ t.dp := by rw [AT.dp_mk]; omega
    have h4 : ¬ max t.dp (ATs.dp r) = 0 := by omega
    rw [ATs.flat, mxD, mxD_app, h2, ATs.dp, if_neg h4]
    show max d (max (mxD (t.flat (d + 1))) _) = _
    split <;> omega
end
theorem dmx_dp (b : Nat) (t : AT) : dmx (argL b t) t.nodes = t.dp := by
  unfold dmx
  rw [List.take_of_length_le (by rw [argL_len]; exact Nat.le_refl _), argL_is]
  have h := fold_mx (⟨b, 0, 1, t⟩ :: t.flat 2) 0
  have h1 := AT.mxd t 1 (Nat.le_refl _)
  rw [show ((0 : Nat) : Int) = 0 from rfl] at h
  rw [h, mxD]
  show ((max 0 (max 1 (mxD (t.flat (1 + 1)))) : Nat) : Int) = _
  rw [h1]
  have h3 : 1 ≤ t.dp := by rw [AT.dp_mk]; omega
  omega
mutual
theorem AT.allOk : ∀ (t : AT) (d : Nat), okL (t.flat d) = ATs.ok t.l
  | .mk _ _ _ _ G off l, d => ATs.allOk l d off G
theorem ATs.allOk : ∀ (l : List AT) (d off G : Nat), okL (ATs.flat G d l off) = ATs.ok l
  | [], _, _, _ => rfl
  | t :: r, d, off, G => by
    have h1 := AT.allOk t (d + 1)
    have h2 := ATs.allOk r d (off + 4) G
    unfold okL at h1 h2 ⊢
    rw [ATs.flat, List.all_cons, List.all_append, h1, h2, ATs.ok, AT.ok_mk, Bool.and_assoc]
end
theorem okL_ok (b : Nat) (t : AT) : okL (argL b t) = t.ok := by
  have h := AT.allOk t 2
  rw [argL_is, AT.ok_mk, ← h]
  rfl
def AT.errno (t : AT) : Int := checkZ (!t.ok) t.dp t.nodes
theorem check_errno (t : AT) (w : World) (hm : t.mem w) (hn : t.nodes ≤ 800000) : Calls Tryz.prog 24 #[.agg #[.int .i64 t.k, .int .i64 t.n, .string t.s, t.sv]] w fun e w' => e = .returned (.int .i64 t.errno) ∧ Below w.heap.size w w' := by
  refine (checkT_is t w hm hn).mono ?_
  rintro e w' ⟨p, d, b, rfl, h1, h2, h3⟩
  refine ⟨?_, h3⟩
  rw [okL_ok] at h1
  unfold AT.errno
  rw [← h1]
  cases b
  · obtain ⟨rfl, rfl⟩ := h2 rfl
    rw [dmx_dp]
  · rfl
structure OneIs (f : FuncId) (w0 : World) (k n : Int) (s : ByteArray) (a : Option Addr) (l c : Nat) (z : Value) : Prop where
  at' : ∀ w, Below w0.heap.size w0 w → Calls Tryz.prog f #[.agg #[.int .i64 k, .int .i64 n, .string s, .slice a l c]] w fun e w' => e = .returned z ∧ Below w0.heap.size w0 w'
theorem OneIs.call {f : FuncId} {w0 w : World} {k n : Int} {s : ByteArray} {a : Option Addr} {l c : Nat} {z : Value} (h : OneIs f w0 k n s a l c z) (hb : Below w0.heap.size w0 w) :
    Calls Tryz.prog f #[.agg #[.int .i64 k, .int .i64 n, .string s, .slice a l c]] w fun e w' => e = .returned z ∧ Below w0.heap.size w0 w' := h.at' w hb
end Go.Proofs.YtkplokfcjjcpcaaGreatDoor.Trm
end
section
namespace Go.Proofs.YtkplokfcjjcpcaaGreatDoor.Trm
open Go Go.RowKit
def numP (vs : List Int) (x : Int × Int) : Int × Int := (x.1, if x.1 = 1 then (vs.idxOf x.2 : Int) else x.2)
def upTo (m : Nat) : List Int := (List.range m).map fun i : Nat => (i : Int)
mutual
def Tm.kns : Tm → List (Int × Int)
  | .mk k n _ l => (k, n) :: Tms.kns l
def Tms.kns : List Tm → List (Int × Int)
  | [] => []
  | t :: r => Tm.kns t ++ Tms.kns r
end
def knA (t : AT) : Int × Int := (t.k, t.n)
mutual
theorem AT.kns : ∀ t : AT, (t :: t.parts).map knA = t.erase.kns
  | .mk k n s sv G off l => by
    have := ATs.kns l
    rw [AT.parts, AT.erase, Tm.kns, List.map_cons, this]; rfl
theorem ATs.kns : ∀ l : List AT, (ATs.parts l).map knA = Tms.kns (ATs.erase l)
  | [] => rfl
  | t :: r => by
    have h1 := AT.kns t
    rw [ATs.parts, ATs.erase, Tms.kns, ← h1, ← ATs.kns r, ← List.cons_append, List.map_append]
end
mutual
theorem Tm.kns_ren (vs : List Int) : ∀ t : Tm, (t.ren vs).kns = t.kns.map (numP vs)
  | .mk k n s l => by rw [Tm.ren, Tm.kns, Tm.kns, Tms.kns_ren vs l]; rfl
theorem Tms.kns_ren (vs : List Int) : ∀ l : List Tm, Tms.kns (Tms.ren vs l) = (Tms.kns l).map (numP vs)
  | [] => rfl
  | t :: r => by rw [Tms.ren, Tms.kns, Tms.kns, Tm.kns_ren vs t, Tms.kns_ren vs r, List.map_append]
end
mutual
theorem Tm.ren_same (vs : List Int) : ∀ t : Tm, (∀ x ∈ t.kns, numP vs x = x) → t.ren vs = t
  | .mk k n s l, h => by
    have h0 := h (k, n) (by rw [Tm.kns]; exact List.mem_cons_self)
    unfold numP at h0
    simp only [Prod.mk.injEq, true_and] at h0
    rw [Tm.ren, h0, Tms.ren_same vs l (fun x hx => h x (by rw [Tm.kns]; exact List.mem_cons_of_mem _ hx))]
theorem Tms.ren_same (vs : List Int) : ∀ l : List Tm, (∀ x ∈ Tms.kns l, numP vs x = x) → Tms.ren vs l = l
  | [], _ => rfl
  | t :: r, h => by
    rw [Tms.ren, Tm.ren_same vs t (fun x hx => h x (by rw [Tms.kns]; exact List.mem_append_left _ hx)), Tms.ren_same vs r (fun x hx => h x (by rw [Tms.kns]; exact List.mem_append_right _ hx))]
end
mutual
def Tm.dp : Tm → Nat
  | .mk _ _ _ l => Tms.dp l + 1
def Tms.dp : List Tm → Nat
  | [] => 0
  | t :: r => max (Tm.dp t) (Tms.dp r)
end
mutual
theorem AT.dp_erase : ∀ t : AT, t.erase.dp = t.dp
  | .mk _ _ _ _ _ _ l => by rw [AT.erase, Tm.dp, AT.dp, ATs.dp_erase l]
theorem ATs.dp_erase : ∀ l : List AT, Tms.dp (ATs.erase l) = ATs.dp l
  | [] => rfl
  | t :: r => by rw [ATs.erase, Tms.dp, ATs.dp, AT.dp_erase t, ATs.dp_erase r]
end
mutual
theorem Tm.dp_ren (vs : List Int) : ∀ t : Tm, (t.ren vs).dp = t.dp ∧ (t.ren vs).nodes = t.nodes
  | .mk _ _ _ l => by rw [Tm.ren, Tm.dp, Tm.dp, Tm.nodes, Tm.nodes, (Tms.dp_ren vs l).1, (Tms.dp_ren vs l).2]; exact ⟨rfl, rfl⟩
theorem Tms.dp_ren (vs : List Int) : ∀ l : List Tm, Tms.dp (Tms.ren vs l) = Tms.dp l ∧ Tms.nodes (Tms.ren vs l) = Tms.nodes l
  | [] => ⟨rfl, rfl⟩
  | t :: r => by rw [Tms.ren, Tms.dp, Tms.dp, Tms.nodes, Tms.nodes, (Tm.dp_ren vs t).1, (Tm.dp_ren vs t).2, (Tms.dp_ren vs r).1, (Tms.dp_ren vs r).2]; exact ⟨rfl, rfl⟩
end
mutual
def Tm.all (p : Int → Int → ByteArray → Prop) : Tm → Prop
  | .mk k n s l => p k n s ∧ Tms.all p l
def Tms.all (p : Int → Int → ByteArray → Prop) : List Tm → Prop
  | [] => True
  | t :: r => Tm.all p t ∧ Tms.all p r
end
mutual
theorem AT.all_of (p : Int → Int → ByteArray → Prop) : ∀ t : AT, t.erase.all p → ∀ u ∈ t :: t.parts, p u.k u.n u.s
  | .mk k n s sv G off l, h, u, hu => by
    rw [AT.erase, Tm.all] at h
    rcases List.mem_cons.1 hu with rfl | hu
    · exact h.1
    · rw [AT.parts] at hu
      exact ATs.all_of p l h.2 u hu
theorem ATs.all_of (p : Int → Int → ByteArray → Prop) : ∀ l : List AT, Tms.all p (ATs.erase l) → ∀ u ∈ ATs.parts l, p u.k u.n u.s
  | [], _, u, hu => by rw [ATs.parts] at hu; cases hu
  | t :: r, h, u, hu => by
    rw [ATs.erase, Tms.all] at h
    rw [ATs.parts, ← List.cons_append] at hu
    rcases List.mem_append.1 hu with hu | hu
    · exact AT.all_of p t h.1 u hu
    · exact ATs.all_of p r h.2 u hu
end
theorem atomA_all {p : Int → Int → ByteArray → Prop} (h : p 3 0 ⟨#[97]⟩) : atomA.all p := ⟨h, trivial⟩
theorem r64_zero : R64 0 := by unfold R64; omega
mutual
theorem mendT_all : ∀ t : Tm, t.all (fun _ n _ => R64 n) → (mendT t).all (fun _ n s => R64 n ∧ s.size ≤ 20)
  | .mk k n s l, h => by
    have ha : atomA.all (fun _ n s => R64 n ∧ s.size ≤ 20) := atomA_all ⟨r64_zero, by decide⟩
    have hl := mendL_all l h.2
    have hn : R64 n := h.1
    rw [mendT]
    split
    · exact ha
    · rename_i hs
      split
      · exact ⟨⟨by unfold R64 at hn ⊢; omega, by decide⟩, trivial⟩
      · split
        · exact ⟨⟨hn, by decide⟩, trivial⟩
        · split
          · exact ⟨⟨r64_zero, by omega⟩, trivial⟩
          · split
            · split
              · exact ha
              · exact ⟨⟨r64_zero, by omega⟩, hl⟩
            · exact ha
theorem mendL_all : ∀ l : List Tm, Tms.all (fun _ n _ => R64 n) l → Tms.all (fun _ n s => R64 n ∧ s.size ≤ 20) (mendL l)
  | [], _ => trivial
  | t :: r, h => ⟨mendT_all t h.1, mendL_all r h.2⟩
end
end Go.Proofs.YtkplokfcjjcpcaaGreatDoor.Trm
end
section
namespace Go.Proofs.YtkplokfcjjcpcaaGreatDoor.Trm
open Go Go.RowKit
theorem row_vals {w : World} {v : Value} {vs : List Int} (h : w.ownsRow 0 2 1 v vs.length (vs.map (Value.int .i64))) : ∃ ad cap g, v = .slice ad vs.length cap ∧ vs.length ≤ cap ∧ cap ≤ 9223372036854775807 ∧ (0 < vs.length → ad = some ⟨g, 0, none⟩) ∧ ∀ i n, vs[i]? = some n → w.cell? ⟨g, i, none⟩ = some (.int .i64 n) := by
  obtain ⟨_, h | ⟨g, cap, cur, hv, _, h2, h3, h4, h5, h6⟩⟩ := h
  · have hl : vs = [] := List.length_eq_zero_iff.1 (by simpa using h.2)
    subst hl
    exact ⟨none, 0, 0, h.1, Nat.le_refl _, by omega, fun h => absurd h (by simp), fun i n hn => by simp at hn⟩
  · refine ⟨_, cap, g, hv, h3, by unfold maxLen at h4; omega, fun _ => rfl, fun i n hn => cell_of_heap h2 ?_⟩
    have hi : i < vs.length := (List.getElem?_eq_some_iff.1 hn).1
    have : (cur.toList.take (vs.length * 1))[i]? = (vs.map (Value.int .i64))[i]? := by rw [h6]
    rw [List.getElem?_take, if_pos (by omega), List.getElem?_map, hn] at this
    simpa using this
structure TwinIs (w0 w1 : World) (k n : Int) (s : ByteArray) (a : Option Addr) (l c : Nat) (k' n' : Int) (s' : ByteArray) (a' : Option Addr) (l' c' : Nat) : Prop where
  at' : ∀ w, Below w1.heap.size w1 w → Calls Tryz.prog 27 #[.agg #[.int .i64 k, .int .i64 n, .string s, .slice a l c], .agg #[.int .i64 k', .int .i64 n', .string s', .slice a' l' c']] w fun e w' => e = .returned (.bool true) ∧ Below w0.heap.size w0 w'
def TwicePost (w0 : World) (k n : Int) (s : ByteArray) (a : Option Addr) (l c : Nat) (e : Ending) (w' : World) : Prop :=
  ∃ k' n' s' a' l' c', e = .returned (.agg #[.int .i64 k', .int .i64 n', .string s', .slice a' l' c']) ∧ Below w0.heap.size w0 w' ∧ TwinIs w0 w' k' n' s' a' l' c' k n s a l c
structure NumIs (w0 : World) (k n : Int) (s : ByteArray) (a : Option Addr) (l c : Nat) : Prop where
  at' : ∀ w, Below w0.heap.size w0 w → Calls Tryz.prog 72 #[.agg #[.int .i64 k, .int .i64 n, .string s, .slice a l c]] w (TwicePost w0 k n s a l c)
structure LenIs (w0 : World) (k n : Int) (s : ByteArray) (a : Option Addr) (l c m : Nat) : Prop where
  at' : ∀ w, Below w0.heap.size w0 w → Calls Tryz.prog 25 #[.agg #[.int .i64 k, .int .i64 n, .string s, .slice a l c]] w fun e w' => ∃ ad cap, e = .returned (.slice ad m cap) ∧ Below w0.heap.size w0 w'
theorem idx_le {vs : List Int} (n : Int) (h : vs.length ≤ 800001) : R64 (vs.idxOf n : Int) := by
  have := List.idxOf_le_length (a := n) (l := vs)
  unfold R64; omega
mutual
theorem ren_all {vs : List Int} (h : vs.length ≤ 800001) : ∀ t : Tm, t.all (fun _ n s => R64 n ∧ s.size ≤ 20) → (t.ren vs).all (fun _ n s => R64 n ∧ s.size ≤ 20)
  | .mk k n s l, hf => by
    rw [Tm.ren, Tm.all]
    refine ⟨⟨?_, hf.1.2⟩, rens_all h l hf.2⟩
    split
    · exact idx_le n h
    · exact hf.1.1
theorem rens_all {vs : List Int} (h : vs.length ≤ 800001) : ∀ l : List Tm, Tms.all (fun _ n s => R64 n ∧ s.size ≤ 20) l → Tms.all (fun _ n s => R64 n ∧ s.size ≤ 20) (Tms.ren vs l)
  | [], _ => trivial
  | t :: r, hf => ⟨ren_all h t hf.1, rens_all h r hf.2⟩
end
end Go.Proofs.YtkplokfcjjcpcaaGreatDoor.Trm
end
