/- Joined texts: RdDf. Conditions: as each states. -/
import Derived.Test.YtkplokfcjjcpcaaGreatDoorRk34
import Derived.Test.YtkplokfcjjcpcaaGreatDoorRk17
namespace Go.Proofs.YtkplokfcjjcpcaaGreatDoor.Ops
open Go Go.ChangeShapes Go.WideShapes Go.ChangeAt Go.WideMaps Go.WideElems Go.RowKit Go.Deep Go.Joins
open Go.ChangeMaps (open_string shut_string)
theorem cells_def : Tryz.prog.cellsOf 89 = 3 := by kernel_rfl
theorem add_twice (a : Addr) (m n : Nat) : (a.add m).add n = a.add (m + n) := by
  obtain ⟨b, o, sp⟩ := a
  unfold Addr.add
  by_cases hm : m = 0
  · subst hm; simp
  · by_cases hn : n = 0
    · subst hn; simp [hm]
    · rw [if_neg hn, if_neg hm, if_neg (by omega)]; simp; omega
theorem add_flat (b o k : Nat) : (⟨b, o, none⟩ : Addr).add k = ⟨b, o + k, none⟩ := by
  unfold Addr.add
  by_cases hk : k = 0
  · subst hk; simp
  · rw [if_neg hk]
def DefIn (w : World) (a : Addr) (i : Nat) (d : Df) : Prop :=
  w.cell? (a.add (i * 3 + 0)) = some (.int .i64 d.pri) ∧ w.cell? (a.add (i * 3 + 1)) = some (.int .i64 d.typ) ∧ w.cell? (a.add (i * 3 + 2)) = some (.string d.name)
set_option maxRecDepth 100000 in
theorem open_def {H : Type} {enc : TypeId × Value → H} {w : World} {n i : Nat} {sp : Nat → Bool} {held : Bool} {a : Addr} {cs : List Value} {x : DataW H × List MemPlace} (hc : w.cells? 0 (a.add (i * 3)) 3 = some cs) (h : DataW.trod enc Tryz.prog w 0 sp held n 89 cs = some x) : ∃ d, DefIn w a i d := by
  obtain ⟨xs, n', _, _, hlen, hxl, hf⟩ := DataW.trod_struct Tryz.underlying89 h
  obtain ⟨_, hl3, hat⟩ := World.cells?_some hc
  match cs, hl3 with
  | [v0, v1, v2], _ =>
    have ho := hone_of (P := Tryz.prog) (fs := (match Tryz.prog.underlying 89 with | some (.struct fs) => fs | _ => #[])) (by kernel_rfl)
    rw [Tryz.underlying89] at ho
    have f0 := hf 0 _ rfl
    have f1 := hf 1 _ rfl
    have f2 := hf 2 _ rfl
    rw [(ho 0 _ rfl).1, (ho 0 _ rfl).2] at f0
    rw [(ho 1 _ rfl).1, (ho 1 _ rfl).2] at f1
    rw [(ho 2 _ rfl).1, (ho 2 _ rfl).2] at f2
    have hx : xs.length = 3 := hxl
    simp only [List.drop, List.take] at f0 f1 f2
    rw [List.getElem?_eq_getElem (by omega)] at f0 f1 f2
    obtain ⟨k, e0, _, _⟩ := DataW.trod_int Tryz.underlying3 f0
    obtain ⟨m, e1, _, _⟩ := DataW.trod_int Tryz.underlying3 f1
    obtain ⟨s, e2, _, _⟩ := DataW.trod_string Tryz.underlying9 f2
    have g0 := hat 0 (by omega)
    have g1 := hat 1 (by omega)
    have g2 := hat 2 (by omega)
    rw [add_twice] at g0 g1 g2
    simp at e0 e1 e2
    subst e0 e1 e2
    exact ⟨⟨k, m, s⟩, g0, g1, g2⟩
set_option maxRecDepth 100000 in
theorem defs_cs {H : Type} {enc : TypeId × Value → H} {W : World} {fuel : Nat} {held : Bool} {cs : List Value} {x : DataW H × List MemPlace} (hf : DataW.trod enc Tryz.prog W 0 (fun _ => true) held fuel 22 cs = some x) :
    ∃ (ad : Option Addr) (n cap B off : Nat) (l : List Df), cs = [.slice ad n cap] ∧ ArgRow W ad n cap B off l := by
  rcases open_slice Tryz.underlying22 hf with ⟨hcs, _⟩ | ⟨a, len, cap', m, n', D, Pl, hcs, _, hl, hm, hmm, _, hi⟩
  · exact ⟨none, 0, 0, 0, 0, [], hcs, rfl, Nat.le_refl _, by omega, fun h => by omega, fun i p hp => by simp at hp⟩
  · simp only [if_true] at hmm
    subst hmm
    have hall : ∀ i, ∃ d, i < len → DefIn W a i d := fun i => by
      rcases Nat.lt_or_ge i len with h | h
      · obtain ⟨cs', hc, ht⟩ := hi i (by omega)
        rw [cells_def] at hc
        obtain ⟨d, hd⟩ := open_def hc ht
        exact ⟨d, fun _ => hd⟩
      · exact ⟨⟨0, 0, ⟨#[]⟩⟩, fun h2 => by omega⟩
    obtain ⟨f, hf2⟩ := Classical.axiomOfChoice hall
    obtain ⟨B, off, sp⟩ := a
    refine ⟨_, len, _, B, off, (List.range len).map f, hcs, by simp, hl, by unfold maxLen at hm; omega, fun hn => ?_, fun i d hd => ?_⟩
    · have h0 := (hf2 0 hn).1
      have hsp : sp = none := by simpa [Addr.add] using World.cell?_spot h0
      rw [hsp]
    · have hin : i < len := by
        have := (List.getElem?_eq_some_iff.1 hd).1
        simpa using this
      have he : f i = d := by
        rw [List.getElem?_map, List.getElem?_range hin] at hd
        simpa using hd
      subst he
      obtain ⟨g0, g1, g2⟩ := hf2 i hin
      have h0 := (hf2 0 (by omega)).1
      have hsp : sp = none := by simpa [Addr.add] using World.cell?_spot h0
      subst hsp
      rw [add_flat] at g0 g1 g2
      exact ⟨g0, g1, g2⟩
set_option maxRecDepth 100000 in
theorem open_defs {H : Type} {enc : TypeId × Value → H} {W : World} {base : Nat} {v : Value} {d : DataW H} {p : List MemPlace} (hv : Value.okWide Tryz.prog W .any base 22 v) (h : DataW.Trod enc Tryz.prog W 0 (fun _ => true) true 22 v d p) :
    ∃ (ad : Option Addr) (n cap B off : Nat) (l : List Df), v = .slice ad n cap ∧ ArgRow W ad n cap B off l := by
  obtain ⟨ad, n, cap, rfl⟩ := okWide_slice Tryz.underlying22 hv
  obtain ⟨fuel, hf⟩ := h
  obtain ⟨ad', n', cap', B, off, l, hcs, hrow⟩ := defs_cs hf
  simp [Value.cells] at hcs
  obtain ⟨rfl, rfl, rfl⟩ := hcs
  exact ⟨_, _, _, _, _, _, rfl, hrow⟩
end Go.Proofs.YtkplokfcjjcpcaaGreatDoor.Ops
