/- TermNumbers' walk. Conditions: the argument's memory; its numbers fit 64 bits. -/
import Derived.Test.YtkidcchafdiofaaTermAi
import Derived.Deep.RegionHeld3
import Derived.Deep.DrawnRows
namespace Go.Proofs.Ytkidcchafdiofaa
open Go Go.RowKit

theorem row_vals {w : World} {v : Value} {vs : List Int} (h : w.ownsRow 0 2 1 v vs.length (vs.map (Value.int .i64))) : ∃ ad cap g, v = .slice ad vs.length cap ∧ vs.length ≤ cap ∧ cap ≤ 9223372036854775807 ∧ (0 < vs.length → ad = some ⟨g, 0, none⟩) ∧ ∀ i n, vs[i]? = some n → w.cell? ⟨g, i, none⟩ = some (.int .i64 n) := by
  obtain ⟨_, h | ⟨g, cap, cur, hv, _, h2, h3, h4, h5, h6⟩⟩ := h
  · have hl : vs = [] := List.length_eq_zero_iff.1 (by simpa using h.2)
    subst hl
    exact ⟨none, 0, 0, h.1, Nat.le_refl _, by omega, fun h => absurd h (by simp), fun i n hn => by simp at hn⟩
  · refine ⟨_, cap, g, hv, h3, by unfold maxLen at h4; omega, fun _ => rfl, fun i n hn => cell_of_heap h2 ?_⟩
    have hi : i < vs.length := (List.getElem?_eq_some_iff.1 hn).1
    have : (cur.toList.take (vs.length * 1))[i]? = (vs.map (Value.int .i64))[i]? := by rw [h6]
    rw [List.getElem?_take, if_pos (by omega), List.getElem?_map, hn] at this
    simpa using this
structure TwinIs (w0 w1 : World) (k n : Int) (s : ByteArray) (a : Option Addr) (l c : Nat) (k' n' : Int) (s' : ByteArray) (a' : Option Addr) (l' c' : Nat) : Prop where
  at' : ∀ w, Below w1.heap.size w1 w → Calls Try.prog 26 #[.agg #[.int .i64 k, .int .i64 n, .string s, .slice a l c], .agg #[.int .i64 k', .int .i64 n', .string s', .slice a' l' c']] w fun e w' => e = .returned (.bool true) ∧ Below w0.heap.size w0 w'
def TwicePost (w0 : World) (k n : Int) (s : ByteArray) (a : Option Addr) (l c : Nat) (e : Ending) (w' : World) : Prop :=
  ∃ k' n' s' a' l' c', e = .returned (.agg #[.int .i64 k', .int .i64 n', .string s', .slice a' l' c']) ∧ Below w0.heap.size w0 w' ∧ TwinIs w0 w' k' n' s' a' l' c' k n s a l c
structure NumIs (w0 : World) (k n : Int) (s : ByteArray) (a : Option Addr) (l c : Nat) : Prop where
  at' : ∀ w, Below w0.heap.size w0 w → Calls Try.prog 25 #[.agg #[.int .i64 k, .int .i64 n, .string s, .slice a l c]] w (TwicePost w0 k n s a l c)
structure LenIs (w0 : World) (k n : Int) (s : ByteArray) (a : Option Addr) (l c m : Nat) : Prop where
  at' : ∀ w, Below w0.heap.size w0 w → Calls Try.prog 19 #[.agg #[.int .i64 k, .int .i64 n, .string s, .slice a l c]] w fun e w' => ∃ ad cap, e = .returned (.slice ad m cap) ∧ Below w0.heap.size w0 w'
def Fine (x : AT) : Prop := x.erase.all (fun _ n s => R64 n ∧ s.size ≤ 20)
theorem fine_n {x : AT} (h : Fine x) : ∀ u ∈ x :: x.parts, R64 u.n := fun u hu => (AT.all_of _ x h u hu).1
theorem fine_s {x : AT} (h : Fine x) : ∀ u ∈ x :: x.parts, u.s.size ≤ 281474976710656 := fun u hu => by have := (AT.all_of _ x h u hu).2; omega
theorem lenIs_of {w0 : World} {x : AT} {a : Option Addr} {l c : Nat} (hx : x.mem w0) (h1 : x.nodes ≤ 800000) (hf : Fine x) (e1 : x.sv = .slice a l c) : LenIs w0 x.k x.n x.s a l c (varsT x).length := ⟨fun w hb => by
  rw [← e1]
  refine (vars_is x w (AT.mem_below hb (AT.ins_size _ hx) hx) h1 (fine_n hf)).mono ?_
  rintro e w' ⟨v, rfl, ho, hb2, _⟩
  obtain ⟨ad, cap, g, rfl, _⟩ := row_vals ho
  exact ⟨ad, cap, rfl, hb.trans (hb2.mono hb.size)⟩⟩
theorem numIs_of {w0 : World} {x : AT} {a : Option Addr} {l c : Nat} (hx : x.mem w0) (h1 : x.nodes ≤ 800000) (hf : Fine x) (hr : x.erase.ren (varsT x) = x.erase) (e1 : x.sv = .slice a l c) : NumIs w0 x.k x.n x.s a l c := ⟨fun w hb => by
  rw [← e1]
  refine (numberT_is x w (AT.mem_below hb (AT.ins_size _ hx) hx) h1 (fine_n hf) (fine_s hf)).mono ?_
  rintro e w' ⟨u, rfl, u1, u2, u3, ub⟩
  obtain ⟨ua, uc, usv, _⟩ := sv_form (AT.mem_mk.1 u2).1
  have hb2 := hb.trans (ub.mono hb.size)
  rw [hr] at u1
  have hn : u.nodes ≤ 800000 := by rw [← AT.nodes_erase, u1, AT.nodes_erase]; exact h1
  refine ⟨u.k, u.n, u.s, ua, u.l.length, uc, by rw [usv], hb2, ⟨fun w7 hb7 => ?_⟩⟩
  rw [← usv, ← e1]
  have hx7 := AT.mem_below (hb2.trans (hb7.mono hb2.size)) (AT.ins_size _ hx) hx
  refine (same_is u.nodes u x w7 (Nat.le_refl _) (AT.mem_below hb7 (AT.ins_size _ u2) u2) hx7 h1 hn).mono ?_
  rintro e w' ⟨rfl, hb8⟩
  exact ⟨by rw [AT.same_erase u x u1], (hb2.trans (hb7.mono hb2.size)).trans (hb8.mono (hb2.trans (hb7.mono hb2.size)).size)⟩⟩
theorem idx_le {vs : List Int} (n : Int) (h : vs.length ≤ 800001) : R64 (vs.idxOf n : Int) := by
  have := List.idxOf_le_length (a := n) (l := vs)
  unfold R64; omega
mutual
theorem ren_all {vs : List Int} (h : vs.length ≤ 800001) : ∀ t : Tm, t.all (fun _ n s => R64 n ∧ s.size ≤ 20) → (t.ren vs).all (fun _ n s => R64 n ∧ s.size ≤ 20)
  | .mk k n s l, hf => by
    rw [Tm.ren, Tm.all]
    refine ⟨⟨?_, hf.1.2⟩, rens_all h l hf.2⟩
    split
    · exact idx_le n h
    · exact hf.1.1
theorem rens_all {vs : List Int} (h : vs.length ≤ 800001) : ∀ l : List Tm, Tms.all (fun _ n s => R64 n ∧ s.size ≤ 20) l → Tms.all (fun _ n s => R64 n ∧ s.size ≤ 20) (Tms.ren vs l)
  | [], _ => trivial
  | t :: r, hf => ⟨ren_all h t hf.1, rens_all h r hf.2⟩
end
theorem varsT_len {x : AT} (hn : x.nodes ≤ 800000) : (varsT x).length ≤ 800001 := by
  have h1 : ∀ (l : List AT) (vs : List Int), (l.foldl meetV vs).length ≤ vs.length + l.length := fun l => by
    induction l with
    | nil => exact fun vs => by simp
    | cons t r ih => exact fun vs => by have := ih (meetV vs t); have := meetV_len vs t; simp only [List.foldl_cons, List.length_cons]; omega
  have h2 := h1 (x :: x.parts) []
  have h3 := AT.flat_parts x 1
  have h4 := congrArg List.length h3
  rw [List.length_map] at h4
  have h5 := AT.flat_len x 1
  unfold varsT
  simp only [List.length_nil, List.length_cons] at h2
  omega
theorem fine_num {x u : AT} (hf : Fine x) (hs : u.erase = x.erase.ren (varsT x)) (hn : x.nodes ≤ 800000) : Fine u := by
  have hlen := varsT_len hn
  unfold Fine
  rw [hs]
  exact ren_all hlen _ hf

end Go.Proofs.Ytkidcchafdiofaa
