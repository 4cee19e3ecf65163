/- What the rows of this seat share: an argument that is a row of parts whose numbers fit 64 bits. Conditions: none. -/
import Derived.Test.YtkidcchafdiofaaTermRow
namespace Go.Proofs.Ytkidcchafdiofaa
open Go Go.ChangeShapes Go.WideShapes Go.ChangeAt Go.WideMaps Go.WideElems Go.RowKit Go.Deep

theorem open_partR {H : Type} {enc : TypeId × Value → H} {w : World} {n i : Nat} {sp : Nat → Bool} {held : Bool} {a : Addr} {cs : List Value} {x : DataW H × List MemPlace} (hc : w.cells? 0 (a.add (i * 4)) 4 = some cs) (h : DataW.trod enc Try.prog w 0 sp held n 51 cs = some x) : ∃ p, PartIn w a i p ∧ R64 p.n := by
  obtain ⟨xs, n', _, _, hlen, hxl, hf⟩ := DataW.trod_struct Try.underlying51 h
  obtain ⟨_, hl4, hat⟩ := World.cells?_some hc
  match cs, hl4 with
  | [v0, v1, v2, v3], _ =>
    have ho := hone_of (P := Try.prog) (fs := (match Try.prog.underlying 51 with | some (.struct fs) => fs | _ => #[])) (by kernel_rfl)
    rw [Try.underlying51] at ho
    have f0 := hf 0 _ rfl
    have f1 := hf 1 _ rfl
    have f2 := hf 2 _ rfl
    have f3 := hf 3 _ rfl
    rw [(ho 0 _ rfl).1, (ho 0 _ rfl).2] at f0
    rw [(ho 1 _ rfl).1, (ho 1 _ rfl).2] at f1
    rw [(ho 2 _ rfl).1, (ho 2 _ rfl).2] at f2
    rw [(ho 3 _ rfl).1, (ho 3 _ rfl).2] at f3
    have hx : xs.length = 4 := hxl
    simp only [List.drop, List.take] at f0 f1 f2 f3
    rw [List.getElem?_eq_getElem (by omega)] at f0 f1 f2 f3
    obtain ⟨k, e0, _, _⟩ := DataW.trod_int Try.underlying3 f0
    obtain ⟨m, e1, _, hw⟩ := DataW.trod_int Try.underlying2 f1
    obtain ⟨s, e2, _, _⟩ := DataW.trod_string Try.underlying9 f2
    obtain ⟨u, e3, _, hu⟩ := DataW.trod_int Try.underlying5 f3
    have hb := bounds_u8 hu
    have g0 := hat 0 (by omega)
    have g1 := hat 1 (by omega)
    have g2 := hat 2 (by omega)
    have g3 := hat 3 (by omega)
    rw [add_twice] at g0 g1 g2 g3
    simp at e0 e1 e2 e3
    subst e0 e1 e2 e3
    refine ⟨⟨k, m, s, u.toNat⟩, ⟨g0, g1, g2, ?_, ?_⟩, bounds_i64 hw⟩
    · rw [g3]
      show some (Value.int IntKind.u8 u) = some (Value.int IntKind.u8 (u.toNat : Int))
      rw [show (u.toNat : Int) = u from by omega]
    · show u.toNat ≤ 255
      omega

theorem open_partsR {H : Type} {enc : TypeId × Value → H} {W : World} {base : Nat} {v : Value} {d : DataW H} {p : List MemPlace} (hv : Value.okWide Try.prog W .any base 22 v) (h : DataW.Trod enc Try.prog W 0 (fun _ => true) true 22 v d p) :
    ∃ (ad : Option Addr) (n cap B off : Nat) (ps : List PRow), v = .slice ad n cap ∧ ArgOk W ad n cap B off ps ∧ ∀ x ∈ ps, R64 x.n := by
  obtain ⟨ad, n, cap, rfl⟩ := okWide_slice Try.underlying22 hv
  obtain ⟨fuel, hf⟩ := h
  rcases open_slice Try.underlying22 hf with ⟨hcs, _⟩ | ⟨a, len, cap', m, n', D, Pl, hcs, _, hl, hm, hmm, _, hi⟩
  · simp [Value.cells] at hcs
    obtain ⟨rfl, rfl, rfl⟩ := hcs
    exact ⟨none, 0, 0, 0, 0, [], rfl, ⟨rfl, Nat.le_refl _, by omega, fun h => by omega, fun i p hp => by simp at hp⟩, fun x hx => by cases hx⟩
  · simp [Value.cells] at hcs
    obtain ⟨rfl, rfl, rfl⟩ := hcs
    simp only [if_true] at hmm
    subst hmm
    have hall : ∀ i, ∃ p, i < n → PartIn W a i p ∧ R64 p.n := fun i => by
      rcases Nat.lt_or_ge i n with h | h
      · obtain ⟨cs', hc, ht⟩ := hi i (by omega)
        rw [cells_part] at hc
        obtain ⟨p, hp⟩ := open_partR hc ht
        exact ⟨p, fun _ => hp⟩
      · exact ⟨⟨0, 0, ⟨#[]⟩, 0⟩, fun h2 => by omega⟩
    obtain ⟨f, hf2⟩ := Classical.axiomOfChoice hall
    obtain ⟨B, off, sp⟩ := a
    refine ⟨_, _, _, B, off, (List.range n).map f, rfl, ⟨by simp, hl, by unfold maxLen at hm; omega, fun hn => ?_, fun i p hp => ?_⟩, fun x hx => ?_⟩
    · have h0 := (hf2 0 hn).1.1
      have hsp : sp = none := by simpa [Addr.add] using World.cell?_spot h0
      rw [hsp]
    · have hin : i < n := by
        have := (List.getElem?_eq_some_iff.1 hp).1
        simpa using this
      have he : f i = p := by
        rw [List.getElem?_map, List.getElem?_range hin] at hp
        simpa using hp
      subst he
      obtain ⟨⟨g0, g1, g2, g3, g4⟩, _⟩ := hf2 i hin
      have h0 := (hf2 0 (by omega)).1.1
      have hsp : sp = none := by simpa [Addr.add] using World.cell?_spot h0
      subst hsp
      rw [add_plain] at g0 g1 g2 g3
      exact ⟨g0, g1, g2, g3, g4⟩
    · obtain ⟨i, hi, rfl⟩ := List.mem_map.1 hx
      exact (hf2 i (List.mem_range.1 hi)).2

end Go.Proofs.Ytkidcchafdiofaa
