/- name.Get's reader: what its memory holds, and its method take. Conditions: as each states. -/
import Derived.Test.YtkbeaddbnnboaaaDoorNameI
import Derived.Laws.AppendOwnNone
import Derived.Laws.Rows
import Derived.Lib.IndexBytes
namespace Go.Proofs.YtkbeaddbnnboaaaDoor
open Go Go.RowKit Go.Maps
open Go.WideMaps Go.WideElems

/-- the map of escapes that Get reads -/
def escD : DataW Unit :=
  DataW.put (DataW.put (DataW.put (DataW.put (DataW.put (DataW.put (DataW.put (DataW.put (DataW.put (DataW.put (DataW.put (DataW.put (.map []) (.int .u8 110) (.lit (.int .u8 10))) (.int .u8 114) (.lit (.int .u8 13))) (.int .u8 116) (.lit (.int .u8 9))) (.int .u8 97) (.lit (.int .u8 7)))
    (.int .u8 98) (.lit (.int .u8 8))) (.int .u8 102) (.lit (.int .u8 12))) (.int .u8 118) (.lit (.int .u8 11))) (.int .u8 48) (.lit (.int .u8 0))) (.int .u8 92) (.lit (.int .u8 92))) (.int .u8 39) (.lit (.int .u8 39))) (.int .u8 34) (.lit (.int .u8 34))) (.int .u8 96) (.lit (.int .u8 96))

/-- what a reader holds: the text that is left, the bytes that were got, and no map yet or the map of escapes -/
def RD (w : World) (br : Nat) (l g : List UInt8) : Prop :=
  ∃ (s : ByteArray) (gv mv : Value), s.data.toList = l ∧ w.heap[br]? = some (.cells #[.string s, gv, mv] 98 (0, 0)) ∧ w.ownsRow (br + 1) 5 1 gv g.length (bc g) ∧
    (mv = .map none ∨ ∃ bm, mv = .map (some bm) ∧ br < bm ∧ w.ownsMap Tryd.prog 5 (plainElem (H := Unit) Tryd.prog 5) bm 12 escD)

theorem heap_lt {w : World} {b : Nat} {o : Obj} (h : w.heap[b]? = some o) : b < w.heap.size := (Array.getElem?_eq_some_iff.1 h).1
theorem ownsRow_below {w w' : World} {B : Nat} {v : Value} {n : Nat} {xs : List Value} (h : w.ownsRow B 5 1 v n xs) (hb : Below w.heap.size w w') : w'.ownsRow B 5 1 v n xs := by
  obtain ⟨h1, h2⟩ := h
  refine ⟨h1, ?_⟩
  rcases h2 with h2 | ⟨g, cap, cur, hv, hg, hc, rest⟩
  · exact .inl h2
  · exact .inr ⟨g, cap, cur, hv, hg, by rw [hb.block g (heap_lt hc)]; exact hc, rest⟩
theorem RD.below {w w' : World} {br : Nat} {l g : List UInt8} (h : RD w br l g) (hb : Below w.heap.size w w') : RD w' br l g := by
  obtain ⟨s, gv, mv, h1, h2, h3, h4⟩ := h
  refine ⟨s, gv, mv, h1, by rw [hb.block br (heap_lt h2)]; exact h2, ownsRow_below h3 hb, ?_⟩
  rcases h4 with h4 | ⟨bm, h5, h6, h7⟩
  · exact .inl h4
  · exact .inr ⟨bm, h5, h6, ownsMap_below h7 hb h7.lt⟩
theorem reader_cells {w : World} {br : Nat} {x y z : Value} (h : w.heap[br]? = some (.cells #[x, y, z] 98 (0, 0))) :
    w.cell? ⟨br, 0, none⟩ = some x ∧ w.cell? ⟨br, 1, none⟩ = some y ∧ w.cell? ⟨br, 2, none⟩ = some z ∧ w.frozen? ⟨br, 0, none⟩ = false ∧ w.frozen? ⟨br, 1, none⟩ = false ∧ w.frozen? ⟨br, 2, none⟩ = false :=
  ⟨by rw [cell_of_row w br 0 _ _ _ h]; rfl, by rw [cell_of_row w br 1 _ _ _ h]; rfl, by rw [cell_of_row w br 2 _ _ _ h]; rfl, frozen_of_row w br 0 _ _ h, frozen_of_row w br 1 _ _ h, frozen_of_row w br 2 _ _ h⟩

theorem take_mid {w w1 : World} {br : Nat} {x y z x' : Value} {row : Option Nat} (h2 : w.heap[br]? = some (.cells #[x, y, z] 98 (0, 0))) (hg : (w.setCell ⟨br, 0, none⟩ x').grownBy w1 row) (hr : some br ≠ row) :
    w1.heap[br]? = some (.cells #[x', y, z] 98 (0, 0)) := by
  have h := heap_setCell_same w br 0 _ _ x' h2
  rw [hg.block br (heap_lt h) hr, h]
  rfl
theorem own_ne {w : World} {br : Nat} {gv : Value} {n : Nat} {xs : List Value} (h : w.ownsRow (br + 1) 5 1 gv n xs) : some br ≠ gv.ownBlock := by
  intro e
  have := (h.lt br e.symm).1
  omega
theorem map_ne {w : World} {B bm n k : Nat} {gv : Value} {xs : List Value} {D : DataW Unit} (h : w.ownsRow B 5 1 gv n xs) (hm : w.ownsMap Tryd.prog 5 (plainElem (H := Unit) Tryd.prog 5) bm k D) : some bm ≠ gv.ownBlock := by
  intro e
  rcases h.2 with ⟨rfl, _⟩ | ⟨g, cap, cur, rfl, _, hc, _⟩
  · cases e
  · obtain ⟨es, clock, h1, _⟩ := hm
    simp [Value.ownBlock] at e
    subst e
    rw [hc] at h1
    cases h1
theorem take_fin {w w1 : World} {br : Nat} {s s' : ByteArray} {gv v' mv : Value} {g X : List UInt8} (h2 : w.heap[br]? = some (.cells #[.string s, gv, mv] 98 (0, 0)))
    (h3 : w.ownsRow (br + 1) 5 1 gv g.length (bc g)) (h4 : mv = .map none ∨ ∃ bm, mv = .map (some bm) ∧ br < bm ∧ w.ownsMap Tryd.prog 5 (plainElem (H := Unit) Tryd.prog 5) bm 12 escD)
    (hg : (w.setCell ⟨br, 0, none⟩ (.string s')).grownBy w1 gv.ownBlock) (ho : w1.ownsRow (br + 1) 5 1 v' X.length (bc X)) :
    RD (w1.setCell ⟨br, 1, none⟩ v') br s'.data.toList X ∧ Below br w (w1.setCell ⟨br, 1, none⟩ v') := by
  have hm := take_mid h2 hg (own_ne h3)
  refine ⟨⟨s', v', mv, rfl, ?_, ownsRow_setCell_below ho (by simp) _, ?_⟩, ?_⟩
  · rw [heap_setCell_same w1 br 1 _ _ v' hm]
    rfl
  · rcases h4 with h4 | ⟨bm, h5, h6, h7⟩
    · exact .inl h4
    · exact .inr ⟨bm, h5, h6, ((h7.setCell (by simp; omega) _).kept hg (map_ne h3 h7)).setCell (by simp; omega) _⟩
  · exact (((Below.refl br w).setCell (by simp) _).grown hg (by have := heap_lt h2; simp; omega) (fun k hk => by have := (h3.lt k hk).1; omega)).setCell (by simp) _
theorem add_block (a : Addr) (j : Nat) : (a.add j).block = a.block := by
  unfold Addr.add
  split <;> rfl

set_option maxHeartbeats 800000 in
theorem take_more (w : World) (br n : Nat) (l g N : List UInt8) (h : RD w br l g) (hn : n ≤ l.length) (hl : l.length ≤ 30000) (hg : g.length ≤ 100000) (ad : Addr) (cap : Nat) (hN : N ≠ []) (hN2 : N.length ≤ 100)
    (had : br < ad.block) (hc : ∀ j u, (bc N)[j]? = some u → w.cell? (ad.add j) = some u) :
    Calls Tryd.prog 83 #[.pointer (some ⟨br, 0, none⟩), .int .i64 n, .slice (some ad) N.length cap] w fun e w' => e = .returned (.tuple #[]) ∧ RD w' br (l.drop n) (g ++ N) ∧ Below br w w' := by
  obtain ⟨s, gv, mv, rfl, h2, h3, h4⟩ := h
  have hlt := heap_lt h2
  obtain ⟨c0, c1, c2, f0, f1, f2⟩ := reader_cells h2
  obtain ⟨i0, hi, hz0, hz1, hz2⟩ := info_parts byteInfo
  have hsz : s.data.toList.length = s.size := by simp
  rw [hsz] at hn hl
  have hd := Lib.extract_to_end s n
  rw [← hd]
  have HD := Lib.hid hd
  have H2 := Lib.hid h2
  have H3 := Lib.hid h3
  have H4 := Lib.hid h4
  have HC := Lib.hid hc
  have hpos : 0 < N.length := List.length_pos_iff.2 hN
  clear hsz h2 h3 h4 hc hd
  go_enter Tryd.func83, Tryd.ntmps83
  go_wp2_with (at_builtin; refine wpList_append_own _ rfl (.tmp 19) (.tmp 20) 38 rfl (br + 1) 5 i0 (.int .u8 0) 1 1 Tryd.underlying38 hi hz0 hz1 hz2 rfl (by decide) _ _ _ rfl (ownsRow_setCell_below H3.out (by simp) _) ad N.length cap (bc N) rfl ?c0 ?c1 ?c2 ?c3 ?c4 ?c5 ?_)
  case c0 => simp
  case c1 =>
    intro j u hj
    rw [World.cell?_setCell_other (h := fun e => by have := congrArg Addr.block e; rw [add_block] at this; simp at this; omega)]
    exact HC.out j u hj
  case c2 =>
    intro u hu
    simp at hu
    obtain ⟨b, _, rfl⟩ := hu
    rfl
  case c3 => unfold maxLen; omega
  case c4 => omega
  case c5 => simp; omega
  intro v' w1 hown hgrow _
  have hm := take_mid H2.out hgrow (own_ne H3.out)
  have HM := Lib.hid hm
  have HO := Lib.hid hown
  have HG := Lib.hid hgrow
  obtain ⟨d0, d1, d2, e0, e1, e2⟩ := reader_cells hm
  obtain ⟨gb, gc, rfl⟩ : ∃ gb gc, v' = .slice (some ⟨gb, 0, none⟩) (g.length + N.length) gc := by
    rcases hown.2 with ⟨_, h⟩ | ⟨gb, gc, _, h, _⟩
    · omega
    · exact ⟨gb, gc, h⟩
  clear hm hown hgrow
  go_wp2
  go_end0
  obtain ⟨r1, r2⟩ := take_fin H2.out H3.out H4.out HG.out (own_more HO.out rfl rfl rfl)
  exact ⟨rfl, r1, r2⟩

set_option maxHeartbeats 800000 in
theorem take_none (w : World) (br n : Nat) (l g : List UInt8) (h : RD w br l g) (hn : n ≤ l.length) (hl : l.length ≤ 30000) :
    Calls Tryd.prog 83 #[.pointer (some ⟨br, 0, none⟩), .int .i64 n, .slice none 0 0] w fun e w' => e = .returned (.tuple #[]) ∧ RD w' br (l.drop n) g ∧ Below br w w' := by
  obtain ⟨s, gv, mv, rfl, h2, h3, h4⟩ := h
  have hlt := heap_lt h2
  obtain ⟨c0, c1, c2, f0, f1, f2⟩ := reader_cells h2
  obtain ⟨i0, hi, hz0, hz1, hz2⟩ := info_parts byteInfo
  have hsz : s.data.toList.length = s.size := by simp
  rw [hsz] at hn hl
  have hd := Lib.extract_to_end s n
  rw [← hd]
  have HD := Lib.hid hd
  have H2 := Lib.hid h2
  have H3 := Lib.hid h3
  have H4 := Lib.hid h4
  clear hsz h2 h3 h4 hd
  have hgv := H3.out.2
  rcases hgv with ⟨rfl, hg0⟩ | ⟨gb, gc, cur, rfl, hgb, _⟩
  all_goals
    go_enter Tryd.func83, Tryd.ntmps83
    go_wp2_with (at_builtin; refine wpList_append_own_none rfl (.tmp 19) (.tmp 20) 38 rfl (br + 1) 5 i0 1 Tryd.underlying38 hi _ _ _ rfl (ownsRow_setCell_below H3.out (by simp) _) rfl ?_)
    go_end0
    obtain ⟨r1, r2⟩ := take_fin (w1 := w.setCell ⟨br, 0, none⟩ (.string (s.extract n s.size))) H2.out H3.out H4.out (World.grownBy.refl _ _) (ownsRow_setCell_below H3.out (by simp) _)
    exact ⟨rfl, r1, r2⟩

end Go.Proofs.YtkbeaddbnnboaaaDoor
