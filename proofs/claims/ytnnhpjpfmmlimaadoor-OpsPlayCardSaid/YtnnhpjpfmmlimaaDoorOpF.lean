/- The program's table of operators: the first one is put. Conditions: the listed variables read as the text lays them; the operator is one that Op lets. -/
import Derived.Test.YtnnhpjpfmmlimaaDoorOpE
namespace Go.Proofs.YtnnhpjpfmmlimaaDoor
open Go Go.RowKit Go.Maps
open Go.WideMaps Go.WideElems

def GL (B : Nat) : Prop := 1 < B ∧ 0 < B ∧ 2 < B
theorem Lay.low {w : World} (h : Lay w) : GL w.heap.size := ⟨World.block_lt_of_cell? _ _ (h.sp 0 (by omega)), World.block_lt_of_cell? _ _ (h.sh 0 _ rfl), World.block_lt_of_cell? _ _ (h.rv 0 _ rfl)⟩
theorem Lay.from {w w' : World} {B : Nat} (h : Lay w) (k : Below B w w') (g : GL B) : Lay w' :=
  ⟨fun c hc => (k.cell (p := ⟨1, c, none⟩) g.1).trans (h.sp c hc), fun i v hi => (k.cell (p := ⟨0, i, none⟩) g.2.1).trans (h.sh i v hi), fun i v hi => (k.cell (p := ⟨2, i, none⟩) g.2.2).trans (h.rv i v hi)⟩

set_option maxRecDepth 100000 in
set_option maxHeartbeats 3200000 in
theorem put_nil (a : Nat) (d : Df) (w : World) (hl : Lay w) (hga : GL a) (h : w.heap[a]? = some (.cells #[.map none] 55 (0, 0))) (hd : FitD d) :
    Calls Tryd.prog 29 #[.pointer (some ⟨a, 0, none⟩), .agg #[.int .i64 d.pri, .int .i64 d.typ, .string d.name]] w fun e w' => e = .returned (.tuple #[]) ∧ ∃ m, Tb w' a m [d] ∧ w.heap.size ≤ m ∧ w.grownBy w' (some a) := by
  have hla := heap_lt h
  have L1 := hl.on ((Below.refl w.heap.size w).alloc (Nat.le_refl _) (.cells #[.int .i64 d.pri, .int .i64 d.typ, .string d.name] 45))
  have hB : Below a w (w.alloc (.cells #[.int .i64 d.pri, .int .i64 d.typ, .string d.name] 45)) := (Below.refl _ _).alloc (Nat.le_of_lt hla) _
  have hN : Three (w.alloc (.cells #[.int .i64 d.pri, .int .i64 d.typ, .string d.name] 45)) w.heap.size 45 (.int .i64 d.pri) (.int .i64 d.typ) (.string d.name) := ⟨new_at _ _ rfl⟩
  have hA : (w.alloc (.cells #[.int .i64 d.pri, .int .i64 d.typ, .string d.name] 45)).heap[a]? = some (.cells #[.map none] 55 (0, 0)) := (Below.heap_alloc _ _ _ hla).trans h
  have hkey := keyOf_kl (n := d.name) (s := srt d.typ) (small (by have := hd.2.2.2.2; omega)) (srt4 _)
  have hz1 : (w.alloc (.cells #[.int .i64 d.pri, .int .i64 d.typ, .string d.name] 45)).heap.size = w.heap.size + 1 := by simp
  obtain ⟨W1, hW1⟩ : ∃ W1, w.alloc (.cells #[.int .i64 d.pri, .int .i64 d.typ, .string d.name] 45) = W1 := ⟨_, rfl⟩
  have Q0 := Lib.hid (show (w.alloc (.cells #[.int .i64 d.pri, .int .i64 d.typ, .string d.name] 45)).cell? ⟨a, 0, none⟩ = some (.map none) from cell_of_heap hA rfl)
  rw [hW1] at hN L1 hB hA hz1
  have HW1 := Lib.hid hW1
  -- behind the store of the new map
  have hs2 : (W1.alloc (.map #[] 0)).heap[a]? = some (.cells #[.map none] 55 (0, 0)) := (Below.heap_alloc _ _ _ (heap_lt hA)).trans hA
  have HQ := Lib.hid (show ((W1.alloc (.map #[] 0)).setCell ⟨a, 0, none⟩ (.map (some W1.heap.size))).heap[a]? = some (.cells #[.map (some W1.heap.size)] 55 (0, 0)) from heap_set (o := 0) hs2 _)
  have hne : W1.heap.size ≠ a := by have := heap_lt hA; omega
  have O2 := Lib.hid (show ((W1.alloc (.map #[] 0)).setCell ⟨a, 0, none⟩ (.map (some W1.heap.size))).ownsMap Tryd.prog 71 dfR W1.heap.size 0 (.map []) from (World.ownsMap_made W1 _ _ _).setCell (by exact hne) _)
  have B2 := Lib.hid (show Below a w ((W1.alloc (.map #[] 0)).setCell ⟨a, 0, none⟩ (.map (some W1.heap.size))) from (hB.alloc (Nat.le_of_lt (heap_lt hA)) _).setCell (p := ⟨a, 0, none⟩) (Nat.le_refl _) _)
  have G0 := Lib.hid (show w.grownBy ((W1.alloc (.map #[] 0)).setCell ⟨a, 0, none⟩ (.map (some W1.heap.size))) (some a) from
    ⟨B2.out.os, B2.out.tape, B2.out.output, B2.out.size, fun k hk hka => by rw [heap_set_ne (by simpa using hka), Below.heap_alloc _ _ _ (by omega), ← hW1, Below.heap_alloc _ _ _ hk]⟩)
  have N2 := Lib.hid (show Three ((W1.alloc (.map #[] 0)).setCell ⟨a, 0, none⟩ (.map (some W1.heap.size))) w.heap.size 45 (.int .i64 d.pri) (.int .i64 d.typ) (.string d.name) from
    ⟨by rw [heap_set_ne (by omega), Below.heap_alloc _ _ _ (by omega)]; exact hN.row⟩)
  have L2 := Lib.hid (L1.from (((Below.refl a W1).alloc (Nat.le_of_lt (heap_lt hA)) (.map #[] 0)).setCell (p := ⟨a, 0, none⟩) (Nat.le_refl _) (.map (some W1.heap.size))) hga)
  have hm : w.heap.size ≤ W1.heap.size := by omega
  have FR := Lib.hid (show (W1.alloc (.map #[] 0)).frozen? ⟨a, 0, none⟩ = false ∧ (W1.alloc (.map #[] 0)).cell? ⟨a, 0, none⟩ = some (.map none) from ⟨free_of_heap hs2, cell_of_heap hs2 rfl⟩)
  rw [← hW1] at FR
  obtain ⟨W2, hW2⟩ : ∃ W2, (W1.alloc (.map #[] 0)).setCell ⟨a, 0, none⟩ (.map (some W1.heap.size)) = W2 := ⟨_, rfl⟩
  rw [hW2] at HQ O2 B2 G0 N2 L2
  rw [hz1] at HQ O2 hW2 hne hm
  rw [← hW1] at hW2
  have HW2 := Lib.hid hW2
  have HM := Lib.hid hm
  clear hW2 hm
  have FIT := Lib.hid hd
  have E1 := Lib.hid (fun w => show (binOp .eql 53 (.map none) (.map none)).run Tryd.prog w = .ok (.bool true) w from run_eql_map_nil_sl (P := Tryd.prog) w 53 _ _ none Tryd.underlying53)
  have VAL := Lib.hid (dfR_mk d)
  have T7 := Lib.hid (show d.typ = 1 ∨ d.typ = 2 ∨ d.typ = 3 ∨ d.typ = 4 ∨ d.typ = 5 ∨ d.typ = 6 ∨ d.typ = 7 by have := hd.2.2; omega)
  have Z1 := Lib.hid hz1
  have MM := fun w => run_makeMap (P := Tryd.prog) 53 w
  have HA := Lib.hid hla
  have NE := Lib.hid hne
  clear hla L1 hB hN hA hz1 hs2 hne hd h hl hW1 hga
  obtain ⟨p, t, x⟩ := d
  simp only at *
  obtain ⟨kk, hkk⟩ : ∃ kk, kl x (srt t) = kk := ⟨_, rfl⟩
  obtain ⟨D2, hD2⟩ : ∃ D2, (Df.mk p t x).dat = D2 := ⟨_, rfl⟩
  have KK := Lib.hid (And.intro hkk hD2)
  rw [hkk] at hkey
  rw [hD2] at VAL
  have KEY := Lib.hid hkey
  clear hkk hkey hD2
  rcases T7.out with rfl | rfl | rfl | rfl | rfl | rfl | rfl
  all_goals
    have q0 := Q0.out
    have e1 := E1.out
    obtain ⟨f0, g0⟩ := FR.out
    clear T7
    go_enter Tryd.func29, Tryd.ntmps29
    go_wp2_with fail
    rw [HW2.out]
    clear q0 e1 f0 g0 MM
    have r0 := cell_of_heap (o := 0) HQ.out rfl
    have r1 : W2.cell? ⟨a, 0, none⟩ = some (.map (some (w.heap.size + 1))) := r0
    clear r0
    obtain ⟨c0, c1, c2, _, _, _⟩ := N2.out.facts
    have s3 := L2.out.sh 3 _ rfl
    have s6 := L2.out.sh 6 _ rfl
    have s9 := L2.out.sh 9 _ rfl
    have s12 := L2.out.sh 12 _ rfl
    have s15 := L2.out.sh 15 _ rfl
    have s18 := L2.out.sh 18 _ rfl
    have s21 := L2.out.sh 21 _ rfl
    go_still_tail 13, (by kernel_rfl)
    refine wpList_mapUpdate_in W2.drew rfl _ _ _ 53 rfl 71 45 keyLaw Tryd.underlying53 dfR (w.heap.size + 1) 0 (.map []) rfl O2.out (by decide) _ _ kk rfl rfl KEY.out D2 [] VAL.out ?_
    intro w2 h2 t2
    have G2 : W2.grownBy w2 (some (w.heap.size + 1)) := undrew t2.grown
    have FF := (show ∀ t', FitD (Df.mk p t' x) → kl x (srt t') = kk ∧ (Df.mk p t' x).dat = D2 → Tb w2 a (w.heap.size + 1) [Df.mk p t' x] from fun t' fit kk' => by
      refine ⟨(G2.block a (heap_lt HQ.out) (by simpa using NE.out.symm)).trans HQ.out, ⟨_, own_tight h2, ?_⟩, Wf.nil.ins fit, NE.out⟩
      rw [← kk'.1, ← kk'.2]
      exact Rel.nil.put (d := Df.mk p t' x) Wf.nil (small (Nat.le_trans fit.2.2.2.2 (by decide)))) _ FIT.out KK.out
    have GG := G0.out.andThen G2 (fun k hk => by cases hk; exact .inl (by omega))
    have HM1 := HM.out
    go_wp2_with fail
    go_end0
    exact ⟨rfl, _, FF, HM1, GG⟩

end Go.Proofs.YtnnhpjpfmmlimaaDoor
