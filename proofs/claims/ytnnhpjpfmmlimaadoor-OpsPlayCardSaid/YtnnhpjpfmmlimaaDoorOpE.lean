/- The program's table of operators: one is put. Conditions: the listed variables read as the text lays them; the operator is one that Op lets. -/
import Derived.Test.YtnnhpjpfmmlimaaDoorOpD
namespace Go.Proofs.YtnnhpjpfmmlimaaDoor
open Go Go.RowKit Go.Maps
open Go.WideMaps Go.WideElems

theorem undrew {w w' : World} {r : Option Nat} (h : w.drew.grownBy w' r) : w.grownBy w' r := ⟨h.os, h.tape, h.output, h.size, h.block⟩
def FitD (d : Df) : Prop := 1 ≤ d.pri ∧ d.pri ≤ 1200 ∧ 1 ≤ d.typ ∧ d.typ ≤ 7 ∧ d.name.size ≤ 1000
/-- one more operator, instead of what its name was in its sort -/
def ins (L : List Df) (d : Df) : List Df := rmv L d.name (srt d.typ) ++ [d]
theorem Wf.ins {L : List Df} (h : Wf L) {d : Df} (hd : FitD d) : Wf (ins L d) := h.put hd

/-- but for the map's block nothing has turned -/
theorem Tb.next {w w' : World} {a m n : Nat} {L : List Df} {D : DataW Unit} {d : Df} (h : Tb w a m L) (hd : FitD d) (hr : Rel D L)
    (ho' : w'.ownsMap Tryd.prog 71 dfR m n (D.put (kl d.name (srt d.typ)) d.dat)) (hg : w.grownBy w' (some m)) : Tb w' a m (ins L d) :=
  ⟨(hg.block a h.lt.1 (by simpa using h.ne.symm)).trans h.row, ⟨_, own_tight ho', hr.put h.wf (small (by have := hd.2.2.2.2; omega))⟩, h.wf.ins hd, h.ne⟩

theorem size_le {D : DataW Unit} (L : List Df) (hr : Rel D L) (hL : L.length ≤ 300) : Maps.size D < maxLen := by
  rw [hr.size]
  unfold maxLen
  omega

set_option maxRecDepth 100000 in
set_option maxHeartbeats 3200000 in
theorem put_is (a m : Nat) (L : List Df) (d : Df) (w : World) (hl : Lay w) (h : Tb w a m L) (hd : FitD d) (hL : L.length ≤ 300) :
    Calls Tryd.prog 29 #[.pointer (some ⟨a, 0, none⟩), .agg #[.int .i64 d.pri, .int .i64 d.typ, .string d.name]] w fun e w' => e = .returned (.tuple #[]) ∧ Tb w' a m (ins L d) ∧ w.grownBy w' (some m) := by
  have hT := h.alloc (.cells #[.int .i64 d.pri, .int .i64 d.typ, .string d.name] 45)
  have L1 := hl.on ((Below.refl w.heap.size w).alloc (Nat.le_refl _) (.cells #[.int .i64 d.pri, .int .i64 d.typ, .string d.name] 45))
  have hg : w.grownBy (w.alloc (.cells #[.int .i64 d.pri, .int .i64 d.typ, .string d.name] 45)) (some m) := (World.grownBy_alloc w _ none).but _
  have hN : Three (w.alloc (.cells #[.int .i64 d.pri, .int .i64 d.typ, .string d.name] 45)) w.heap.size 45 (.int .i64 d.pri) (.int .i64 d.typ) (.string d.name) := ⟨new_at _ _ rfl⟩
  obtain ⟨_, ⟨D, ho, hr⟩, _, _⟩ := hT
  have hsz := size_le L hr hL
  have hkey := keyOf_kl (n := d.name) (s := srt d.typ) (small (by have := hd.2.2.2.2; omega)) (srt4 _)
  have FIN := Lib.hid (fun w' n ho' hg' => (h.alloc (.cells #[.int .i64 d.pri, .int .i64 d.typ, .string d.name] 45)).next (w' := w') (n := n) hd hr ho' hg')
  have hval := dfR_mk d
  obtain ⟨W1, hW1⟩ : ∃ W1, w.alloc (.cells #[.int .i64 d.pri, .int .i64 d.typ, .string d.name] 45) = W1 := ⟨_, rfl⟩
  rw [hW1] at ho hN L1 hg FIN
  have HW1 := Lib.hid hW1
  have OWN := Lib.hid ho
  have SZ := Lib.hid hsz
  have VAL := Lib.hid hval
  have HG := Lib.hid hg
  have Q0 := Lib.hid ((h.alloc (.cells #[.int .i64 d.pri, .int .i64 d.typ, .string d.name] 45)).cells.1)
  have C0 := Lib.hid (show W1.cell? ⟨a, 0, none⟩ = some (.map (some m)) by rw [← hW1]; exact (h.alloc _).cells.1)
  have H2 := Lib.hid (fun w => show (binOp .eql 53 (.map (some m)) (.map none)).run Tryd.prog w = .ok (.bool false) w from run_eql_map_nil_sl (P := Tryd.prog) w 53 _ _ (some m) Tryd.underlying53)
  have T7 := Lib.hid (show d.typ = 1 ∨ d.typ = 2 ∨ d.typ = 3 ∨ d.typ = 4 ∨ d.typ = 5 ∨ d.typ = 6 ∨ d.typ = 7 by have := hd.2.2; omega)
  obtain ⟨c0, c1, c2, z0, z1, z2⟩ := hN.facts
  clear hW1 ho hsz hval hg h hl hN hd hr
  obtain ⟨p, t, x⟩ := d
  simp only at *
  obtain ⟨kk, hkk⟩ : ∃ kk, kl x (srt t) = kk := ⟨_, rfl⟩
  rw [hkk] at FIN hkey
  have KEY := Lib.hid hkey
  obtain ⟨D2, hD2⟩ : ∃ D2, (Df.mk p t x).dat = D2 := ⟨_, rfl⟩
  rw [hD2] at FIN VAL
  clear hkk hkey hD2
  have LS := Lib.hid L1
  clear L1
  rcases T7.out with rfl | rfl | rfl | rfl | rfl | rfl | rfl
  all_goals
    have s3 := LS.out.sh 3 _ rfl
    have s6 := LS.out.sh 6 _ rfl
    have s9 := LS.out.sh 9 _ rfl
    have s12 := LS.out.sh 12 _ rfl
    have s15 := LS.out.sh 15 _ rfl
    have s18 := LS.out.sh 18 _ rfl
    have s21 := LS.out.sh 21 _ rfl
    have q0 := C0.out
    have q1 := Q0.out
    have e2 := H2.out
    clear T7
    go_enter Tryd.func29, Tryd.ntmps29
    go_wp2_with fail
    rw [HW1.out]
    clear q1
    go_still_tail 13, (by kernel_rfl)
    refine wpList_mapUpdate_in W1.drew rfl _ _ _ 53 rfl 71 45 keyLaw Tryd.underlying53 dfR m _ D rfl OWN.out SZ.out _ _ kk rfl rfl KEY.out D2 [] VAL.out ?_
    intro w2 h2 t2
    have G2 : W1.grownBy w2 (some m) := undrew t2.grown
    have FF := FIN.out w2 _ h2 G2
    have GG := HG.out.trans G2
    go_wp2_with fail
    go_end0
    exact ⟨rfl, FF, GG⟩

end Go.Proofs.YtnnhpjpfmmlimaaDoor
