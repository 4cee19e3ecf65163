/- term.match.hold: a part is held against the next one of another way. Conditions: what memory holds of both ways' parts. -/
import Derived.Test.YtkidcchafdiofaaTermH
import Derived.Deep.RegionHeld3
import Derived.Deep.DrawnRows
namespace Go.Proofs.Ytkidcchafdiofaa
open Go Go.RowKit
attribute [local go_sem ↓] Go.wp_at_zero Go.wp_at_succ

/-- how two parts stand -/
def cmpRow (x y : AT) : Int := or4 (Lib.compareInt x.k y.k) (Lib.compareInt x.n y.n) (Lib.compareInt x.l.length y.l.length) (cmpS x.s y.s)
def HoldPost (w : World) (q g : Nat) (σ' : List St) (z : Int) (e : Ending) (w' : World) : Prop :=
  e = .returned (.bool (z == 0)) ∧ ∃ g', (g' = g ∨ w.heap.size ≤ g') ∧ WayAt w' q 65 [.int .i64 z] g' σ' ∧ Keeps (fun j => j = q ∨ j = g) w w'

theorem far {w : World} {q i B x : Nat} {v u : Value} {o : Obj} (h : B ≠ q) (hc : w.cell? ⟨B, x, none⟩ = some u) : ((w.setCell ⟨q, i, none⟩ v).alloc o).drew.cell? ⟨B, x, none⟩ = some u := by
  have h1 : (w.setCell ⟨q, i, none⟩ v).cell? ⟨B, x, none⟩ = some u := by rw [set_cell_ne h]; exact hc
  exact (World.cell?_of_block (Below.heap_alloc _ o _ (World.block_lt_of_cell? _ _ h1))).trans h1
theorem or_new (a b c d : Int) (w : World) : Calls Try.prog 50 #[.slice (some ⟨w.heap.size, 0, none⟩) 4 4] (w.alloc (.cells #[.int .i64 a, .int .i64 b, .int .i64 c, .int .i64 d] 3)).drew fun e w' => e = .returned (.int .i64 (or4 a b c d)) ∧ (w.alloc (.cells #[.int .i64 a, .int .i64 b, .int .i64 c, .int .i64 d] 3)).drew = w' :=
  or_is w.heap.size a b c d _ (heap_alloc_new w _)
/-- what holds behind the other way's step -/
structure HoldF (q B o B' o' : Nat) (k n k' n' z : Int) (s s' : ByteArray) (ad ad' : Option Addr) (a a' c c' : Nat) (R : Ending → World → Prop) (w : World) : Prop where
  p0 : w.cell? ⟨B, o, none⟩ = some (.int .i64 k)
  p1 : w.cell? ⟨B, o + 1, none⟩ = some (.int .i64 n)
  p2 : w.cell? ⟨B, o + 2, none⟩ = some (.string s)
  p3 : w.cell? ⟨B, o + 3, none⟩ = some (.slice ad a c)
  r0 : w.cell? ⟨B', o', none⟩ = some (.int .i64 k')
  r1 : w.cell? ⟨B', o' + 1, none⟩ = some (.int .i64 n')
  r2 : w.cell? ⟨B', o' + 2, none⟩ = some (.string s')
  r3 : w.cell? ⟨B', o' + 3, none⟩ = some (.slice ad' a' c')
  hq : ∃ sg, w.cell? ⟨q, 1, none⟩ = some sg
  zq : w.frozen? ⟨q, 1, none⟩ = false
  hend : ∀ d, R (.returned (.bool (z == 0))) (((w.setCell ⟨q, 1, none⟩ (.int .i64 z)).alloc (.cells #[.int .i64 (Lib.compareInt k k'), .int .i64 (Lib.compareInt n n'), .int .i64 (Lib.compareInt a a'), .int .i64 (cmpS s s')] 3)).drewN d)
set_option maxRecDepth 100000 in
set_option maxHeartbeats 4000000 in
theorem hold_region (q B o B' o' : Nat) (k n k' n' z : Int) (s s' : ByteArray) (ad ad' : Option Addr) (a a' c c' : Nat) (dv : Value) (w0 : World) (R : Ending → World → Prop)
    (C : Calls Try.prog 47 #[.pointer (some ⟨q, 0, none⟩)] w0 fun e w => e = .returned (.pointer (some ⟨B', o', none⟩)) ∧ HoldF q B o B' o' k n k' n' z s s' ad ad' a a' c c' R w)
    (hR : or4 (Lib.compareInt k k') (Lib.compareInt n n') (Lib.compareInt a a') (cmpS s s') = z) (hB : B ≠ q) (hB' : B' ≠ q) :
    Calls Try.prog 41 #[.pointer (some ⟨q, 0, none⟩), .pointer (some ⟨B, o, none⟩), dv] w0 R := by
  have OR := Lib.hid (fun w => or_new (Lib.compareInt k k') (Lib.compareInt n n') (Lib.compareInt a a') (cmpS s s') w)
  rw [hR] at OR
  have HC := Lib.hid C
  clear C hR
  go_enter Try.func41, Try.ntmps41
  go_wp2_with fail
  refine HC.out.mono ?_
  rintro e w ⟨rfl, hf⟩
  obtain ⟨p0, p1, p2, p3, r0, r1, r2, r3, ⟨sg, hq⟩, zq, hend⟩ := hf
  have HE := Lib.hid hend
  have hz1 : (w.setCell ⟨q, 1, none⟩ (.int .i64 z)).cell? ⟨q, 1, none⟩ = some (.int .i64 z) := World.cell?_setCell_same w _ _ hq
  have HZ1 := Lib.hid (fun (o : Obj) => (World.cell?_of_block (Below.heap_alloc _ o _ (World.block_lt_of_cell? _ _ hz1))).trans hz1)
  clear hend hz1 HC
  have n0 := World.new_ne w _ p0
  have n1 := World.new_ne w _ p1
  have n2 := World.new_ne w _ p2
  have n3 := World.new_ne w _ p3
  have m0 := World.new_ne w _ r0
  have m1 := World.new_ne w _ r1
  have m2 := World.new_ne w _ r2
  have m3 := World.new_ne w _ r3
  have mq := World.new_ne w _ hq
  have lq : q < w.heap.size := World.block_lt_of_cell? w _ hq
  go_wp2_with fail
  go_region_held3 (fun w' => w'.cell? ⟨B, o, none⟩ = some (.int .i64 k) ∧ w'.cell? ⟨B, o + 1, none⟩ = some (.int .i64 n) ∧ w'.cell? ⟨B, o + 2, none⟩ = some (.string s) ∧ w'.cell? ⟨B, o + 3, none⟩ = some (.slice ad a c) ∧
    w'.cell? ⟨B', o', none⟩ = some (.int .i64 k') ∧ w'.cell? ⟨B', o' + 1, none⟩ = some (.int .i64 n') ∧ w'.cell? ⟨B', o' + 2, none⟩ = some (.string s') ∧ w'.cell? ⟨B', o' + 3, none⟩ = some (.slice ad' a' c')) (first | exact ⟨far hB p0, far hB p1, far hB p2, far hB p3, far hB' r0, far hB' r1, far hB' r2, far hB' r3⟩ | go_keep)
    (first | (go_at_call 51; refine (cmpI_is _ _ _).mono ?_; rintro _ _ ⟨rfl, rfl⟩) | (go_at_call 52; refine (cmp64_is _ _ _).mono ?_; rintro _ _ ⟨rfl, rfl⟩) | (go_at_call 53; refine (cmpS_is _ _ _).mono ?_; rintro _ _ ⟨rfl, rfl⟩) | (go_at_call 50; refine (OR.out _).mono ?_; rintro _ _ ⟨rfl, rfl⟩))
  have hz2 := HZ1.out (.cells #[.int .i64 (Lib.compareInt k k'), .int .i64 (Lib.compareInt n n'), .int .i64 (Lib.compareInt a a'), .int .i64 (cmpS s s')] 3)
  clear p0 p1 p2 p3 r0 r1 r2 r3 n0 n1 n2 n3 m0 m1 m2 m3 mq lq hq zq OR
  generalize ((w.setCell ⟨q, 1, none⟩ (.int .i64 z)).alloc (.cells #[.int .i64 (Lib.compareInt k k'), .int .i64 (Lib.compareInt n n'), .int .i64 (Lib.compareInt a a'), .int .i64 (cmpS s s')] 3)) = W at *
  go_wp2
  exact HE.out _

end Go.Proofs.Ytkidcchafdiofaa
