/- An argument that is a row of rows of parts. Conditions: none. -/
import Derived.Test.YtkidcchafdiofaaTermRow
import Derived.Test.YtkidcchafdiofaaTermBa
namespace Go.Proofs.Ytkidcchafdiofaa
open Go Go.ChangeShapes Go.WideShapes Go.ChangeAt Go.WideMaps Go.WideElems Go.RowKit Go.Deep

theorem cells_row : Try.prog.cellsOf 22 = 1 := by kernel_rfl
theorem parts_cs {H : Type} {enc : TypeId × Value → H} {W : World} {fuel : Nat} {held : Bool} {cs : List Value} {x : DataW H × List MemPlace} (hf : DataW.trod enc Try.prog W 0 (fun _ => true) held fuel 22 cs = some x) :
    ∃ (ad : Option Addr) (n cap B off : Nat) (ps : List PRow), cs = [.slice ad n cap] ∧ ArgOk W ad n cap B off ps := by
  rcases open_slice Try.underlying22 hf with ⟨hcs, _⟩ | ⟨a, len, cap', m, n', D, Pl, hcs, _, hl, hm, hmm, _, hi⟩
  · exact ⟨none, 0, 0, 0, 0, [], hcs, rfl, Nat.le_refl _, by omega, fun h => by omega, fun i p hp => by simp at hp⟩
  · simp only [if_true] at hmm
    subst hmm
    have hall : ∀ i, ∃ p, i < len → PartIn W a i p := fun i => by
      rcases Nat.lt_or_ge i len with h | h
      · obtain ⟨cs', hc, ht⟩ := hi i (by omega)
        rw [cells_part] at hc
        obtain ⟨p, hp⟩ := open_part hc ht
        exact ⟨p, fun _ => hp⟩
      · exact ⟨⟨0, 0, ⟨#[]⟩, 0⟩, fun h2 => by omega⟩
    obtain ⟨f, hf2⟩ := Classical.axiomOfChoice hall
    obtain ⟨B, off, sp⟩ := a
    refine ⟨_, len, _, B, off, (List.range len).map f, hcs, by simp, hl, by unfold maxLen at hm; omega, fun hn => ?_, fun i p hp => ?_⟩
    · have h0 := (hf2 0 hn).1
      have hsp : sp = none := by simpa [Addr.add] using World.cell?_spot h0
      rw [hsp]
    · have hin : i < len := by
        have := (List.getElem?_eq_some_iff.1 hp).1
        simpa using this
      have he : f i = p := by
        rw [List.getElem?_map, List.getElem?_range hin] at hp
        simpa using hp
      subst he
      obtain ⟨g0, g1, g2, g3, g4⟩ := hf2 i hin
      have h0 := (hf2 0 (by omega)).1
      have hsp : sp = none := by simpa [Addr.add] using World.cell?_spot h0
      subst hsp
      rw [add_plain] at g0 g1 g2 g3
      exact ⟨g0, g1, g2, g3, g4⟩


theorem open_rows {H : Type} {enc : TypeId × Value → H} {W : World} {base : Nat} {v : Value} {d : DataW H} {p : List MemPlace} (hv : Value.okWide Try.prog W .any base 44 v) (h : DataW.Trod enc Try.prog W 0 (fun _ => true) true 44 v d p) :
    ∃ (ad : Option Addr) (n cap B off : Nat), v = .slice ad n cap ∧ LArg W ad n cap B off := by
  obtain ⟨ad, n, cap, rfl⟩ := okWide_slice Try.underlying44 hv
  obtain ⟨fuel, hf⟩ := h
  rcases open_slice1 Try.underlying44 cells_row hf with ⟨hcs, _⟩ | ⟨a, len, cap', m, n', V, D, Pl, hcs, _, hl, hm, hmm, _, hi⟩
  · simp [Value.cells] at hcs
    obtain ⟨rfl, rfl, rfl⟩ := hcs
    exact ⟨none, 0, 0, 0, 0, rfl, Nat.le_refl _, by omega, fun h => by omega, fun i hi => by omega⟩
  · simp [Value.cells] at hcs
    obtain ⟨rfl, rfl, rfl⟩ := hcs
    simp only [if_true] at hmm
    subst hmm
    obtain ⟨B, off, sp⟩ := a
    have hsp : 0 < n → sp = none := fun hn => by simpa [Addr.add] using World.cell?_spot (hi 0 (by omega)).1
    refine ⟨_, _, _, B, off, rfl, hl, by unfold maxLen at hm; omega, fun hn => by rw [hsp hn], fun i hin => ?_⟩
    obtain ⟨h1, h2⟩ := hi i (by omega)
    obtain ⟨a', n2, c2, B2, o2, ps, hv2, hok⟩ := parts_cs h2
    have hv3 : V i = .slice a' n2 c2 := by simpa using hv2
    rw [hv3, hsp (by omega), add_plain] at h1
    exact ⟨a', n2, c2, B2, o2, ps, h1, hok⟩

end Go.Proofs.Ytkidcchafdiofaa
