/- strconv.ParseUint (public), strings.Clone, and the two library variables and the table that package name comes to. Conditions: as each states. -/
import Derived.Test.YtkbeaddbnnboaaaDoorNameE
namespace Go.Proofs.YtkbeaddbnnboaaaDoor
open Go Go.RowKit

/-- what the library's variables hold: an entry of a table, and something in the two errors -/
def Tab (w : World) : Prop :=
  w.cell? ⟨3, 15, none⟩ = some (.int .u8 4) ∧
  (∃ ev, w.cell? ⟨4, 0, none⟩ = some ev ∧ (ev = .nilIface ∨ ∃ te pe, ev = .iface te pe)) ∧
  (∃ ev, w.cell? ⟨5, 0, none⟩ = some ev ∧ (ev = .nilIface ∨ ∃ te pe, ev = .iface te pe))
theorem Tab.on {w w' : World} (h : Tab w) (hb : Below w.heap.size w w') : Tab w' := by
  obtain ⟨h1, ⟨e2, h2, g2⟩, e3, h3, g3⟩ := h
  exact ⟨cell_later hb h1, ⟨e2, cell_later hb h2, g2⟩, e3, cell_later hb h3, g3⟩

/-- the public function's answer -/
def PP (o : Option Int) (e : Ending) : Prop := match o with
  | some n => e = .returned (.tuple #[.int .u64 n, .nilIface])
  | none => ∃ (n : Int) (a : Addr), e = .returned (.tuple #[.int .u64 n, .iface 114 (.pointer (some a))])

set_option maxHeartbeats 800000 in
theorem parse_by (t : ByteArray) (base : Int) (o : Option Int) (hs : t.size ≤ 20000) (w : World) (htab : Tab w)
    (h : ∀ w, Calls Tryd.prog 99 #[.string t, .int .i64 base, .int .i64 8] w fun e w' => PU o e ∧ Below w.heap.size w w') :
    Calls Tryd.prog 98 #[.string t, .int .i64 base, .int .i64 8] w fun e w' => PP o e ∧ Below w.heap.size w w' := by
  have H := Lib.hid h
  clear h
  cases o with
  | some n =>
    go_enter Tryd.func98, Tryd.ntmps98
    go_wp2_with fail
    refine (H.out _).mono ?_
    rintro e w1 ⟨hp, b1⟩
    have hp' : e = .returned (.tuple #[.int .u64 n, .nilIface]) := hp
    subst hp'
    clear hp
    go_wp2_with fail
    go_ret2
    exact ⟨rfl, b1⟩
  | none =>
    go_enter Tryd.func98, Tryd.ntmps98
    go_wp2_with fail
    refine (H.out _).mono ?_
    rintro e w1 ⟨hp, b1⟩
    have hp' : ∃ n q : Int, (q = 1 ∨ q = 2) ∧ e = .returned (.tuple #[.int .u64 n, .iface 112 (.int .i64 q)]) := hp
    obtain ⟨n, q, hq, rfl⟩ := hp'
    clear hp
    obtain ⟨_, ⟨e2, h2, g2⟩, e3, h3, g3⟩ := htab.on b1
    have C2 := Lib.hid (Tryd.strconv_toError_syntax ⟨#[80, 97, 114, 115, 101, 85, 105, 110, 116]⟩ t base 8 e2 w1 (by omega) h2 g2)
    have C3 := Lib.hid (Tryd.strconv_toError_range ⟨#[80, 97, 114, 115, 101, 85, 105, 110, 116]⟩ t base 8 e3 w1 (by omega) h3 g3)
    clear h2 g2 h3 g3
    rcases hq with rfl | rfl
    · go_wp2_with fail
      refine C3.out.mono ?_
      rintro e w2 ⟨N, rfl, _, _, b2⟩
      go_wp2_with fail
      go_ret2
      exact ⟨⟨n, _, rfl⟩, bt b1 b2⟩
    · go_wp2_with fail
      refine C2.out.mono ?_
      rintro e w2 ⟨N, rfl, _, _, b2⟩
      go_wp2_with fail
      go_ret2
      exact ⟨⟨n, _, rfl⟩, bt b1 b2⟩

theorem parse_16 (t : ByteArray) (hs : t.size ≤ 20000) (w : World) (htab : Tab w) :
    Calls Tryd.prog 98 #[.string t, .int .i64 16, .int .i64 8] w fun e w' => PP (numR 16 t.data.toList) e ∧ Below w.heap.size w w' :=
  parse_by t 16 _ hs w htab fun w => inner_16 t hs w
theorem parse_8 (t : ByteArray) (hs : t.size ≤ 20000) (w : World) (htab : Tab w) :
    Calls Tryd.prog 98 #[.string t, .int .i64 8, .int .i64 8] w fun e w' => PP (numR 8 t.data.toList) e ∧ Below w.heap.size w w' :=
  parse_by t 8 _ hs w htab fun w => inner_8 t hs w

set_option maxHeartbeats 400000 in
theorem clone_is (t : ByteArray) (hs : t.size ≤ 20000) (w : World) :
    Calls Tryd.prog 23 #[.string t] w fun e w' => e = .returned (.string t) ∧ Below w.heap.size w w' := by
  have C := Lib.hid (fun w => Tryd.stringslite_Clone t w (by omega))
  go_enter Tryd.func23, Tryd.ntmps23
  go_wp2_with fail
  refine (C.out _).mono ?_
  rintro e w1 ⟨rfl, b1⟩
  go_wp2_with fail
  go_ret
  exact ⟨rfl, b1⟩

end Go.Proofs.YtkbeaddbnnboaaaDoor
