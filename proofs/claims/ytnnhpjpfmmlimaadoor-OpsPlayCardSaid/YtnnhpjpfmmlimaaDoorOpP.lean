/- How two operators stand in List: the order, and what the closure answers. Conditions: none. -/
import Derived.Test.YtnnhpjpfmmlimaaDoorOpN
import Derived.Shelf.SlSortCmp.WholeK
import Derived.LoopN
namespace Go.Proofs.YtnnhpjpfmmlimaaDoor
open Go Go.RowKit Go.Maps
open Go.WideMaps Go.WideElems

/-- what three answers of an order are to one another -/
def T3 (a b d : Int) : Prop := a ≤ 0 → b ≤ 0 → d ≤ 0 ∧ (d = 0 → a = 0 ∧ b = 0)
theorem t3_or {a b d a' b' d' : Int} (h : T3 a b d) (h' : T3 a' b' d') : T3 (if a ≠ 0 then a else a') (if b ≠ 0 then b else b') (if d ≠ 0 then d else d') := by
  unfold T3 at *
  intro h1 h2
  split at h1 <;> split at h2 <;> split <;> omega
theorem t3_int (x y z : Int) : T3 (Lib.compareInt x y) (Lib.compareInt y z) (Lib.compareInt x z) := by
  unfold T3 Lib.compareInt
  intro h1 h2
  split at h1 <;> split at h2 <;> split <;> (try split at h1) <;> (try split at h2) <;> (try split) <;> omega
theorem int_neg (x y : Int) : Lib.compareInt y x = - Lib.compareInt x y := by
  unfold Lib.compareInt
  split <;> split <;> (try split) <;> (try split) <;> omega
theorem int_rng (x y : Int) : Lib.compareInt x y = -1 ∨ Lib.compareInt x y = 0 ∨ Lib.compareInt x y = 1 := by
  unfold Lib.compareInt
  split
  · exact .inl rfl
  · split
    · exact .inr (.inr rfl)
    · exact .inr (.inl rfl)
theorem int_self (x : Int) : Lib.compareInt x x = 0 := by
  unfold Lib.compareInt
  rw [if_neg (by omega), if_neg (by omega)]

def cmpB : List UInt8 → List UInt8 → Int
  | [], [] => 0
  | [], _ :: _ => -1
  | _ :: _, [] => 1
  | a :: x, b :: y => if Lib.compareInt a.toNat b.toNat ≠ 0 then Lib.compareInt a.toNat b.toNat else cmpB x y
theorem cmpB_is : ∀ x y : List UInt8, (if Op.bytesLess x y = true then (-1 : Int) else if (x == y) = true then 0 else 1) = cmpB x y
  | [], [] => rfl
  | [], _ :: _ => rfl
  | _ :: _, [] => rfl
  | a :: x, b :: y => by
    rw [cmpB, ← cmpB_is x y]
    rw [show Op.bytesLess (a :: x) (b :: y) = (decide (a < b) || (a == b && Op.bytesLess x y)) from rfl]
    unfold Lib.compareInt
    rcases Nat.lt_trichotomy a.toNat b.toNat with h | h | h
    · have h1 : a < b := UInt8.lt_iff_toNat_lt.2 h
      have h2 : (a.toNat : Int) < b.toNat := by omega
      simp [h1, h2]
    · have h1 : a = b := UInt8.toNat_inj.1 h
      subst h1
      have h2 : ¬ a < a := fun h2 => by have := UInt8.lt_iff_toNat_lt.1 h2; omega
      simp [h2]
    · have h1 : ¬ a < b := fun h2 => by have := UInt8.lt_iff_toNat_lt.1 h2; omega
      have h2 : ¬ (a.toNat : Int) < b.toNat := by omega
      have h3 : (b.toNat : Int) < a.toNat := by omega
      have h4 : a ≠ b := fun h2 => by subst h2; omega
      simp [h1, h2, h3, h4]
theorem t3_bytes : ∀ x y z : List UInt8, T3 (cmpB x y) (cmpB y z) (cmpB x z)
  | [], [], [] => fun _ _ => ⟨by decide, fun _ => ⟨rfl, rfl⟩⟩
  | [], [], _ :: _ => fun _ _ => ⟨by simp [cmpB], fun h => by simp [cmpB] at h⟩
  | [], _ :: _, [] => fun _ h => by simp [cmpB] at h
  | [], _ :: _, _ :: _ => fun _ _ => ⟨by simp [cmpB], fun h => by simp [cmpB] at h⟩
  | _ :: _, [], _ => fun h _ => by simp [cmpB] at h
  | _ :: _, _ :: _, [] => fun _ h => by simp [cmpB] at h
  | a :: x, b :: y, c :: z => by
    rw [cmpB, cmpB, cmpB]
    exact t3_or (t3_int _ _ _) (t3_bytes x y z)
theorem bytes_neg : ∀ x y : List UInt8, cmpB y x = - cmpB x y
  | [], [] => rfl
  | [], _ :: _ => rfl
  | _ :: _, [] => rfl
  | a :: x, b :: y => by
    rw [cmpB, cmpB, int_neg a.toNat b.toNat, bytes_neg x y]
    split <;> split <;> omega
theorem bytes_rng : ∀ x y : List UInt8, cmpB x y = -1 ∨ cmpB x y = 0 ∨ cmpB x y = 1
  | [], [] => .inr (.inl rfl)
  | [], _ :: _ => .inl rfl
  | _ :: _, [] => .inr (.inr rfl)
  | a :: x, b :: y => by
    rw [cmpB]
    split
    · exact int_rng _ _
    · exact bytes_rng x y
theorem bytes_self : ∀ x : List UInt8, cmpB x x = 0
  | [] => rfl
  | a :: x => by rw [cmpB, int_self, if_neg (by omega), bytes_self x]
def cmpS (x y : ByteArray) : Int := cmpB x.toList y.toList
/-- how two operators stand: by their names' bytes, then by their types -/
def cmpD (x y : Df) : Int := if cmpS x.name y.name ≠ 0 then cmpS x.name y.name else Lib.compareInt x.typ y.typ
theorem t3_def (x y z : Df) : T3 (cmpD x y) (cmpD y z) (cmpD x z) := t3_or (t3_bytes _ _ _) (t3_int _ _ _)
theorem def_neg (x y : Df) : cmpD y x = - cmpD x y := by
  unfold cmpD cmpS
  rw [bytes_neg x.name.toList, int_neg x.typ]
  split <;> split <;> omega
theorem def_self (x : Df) : cmpD x x = 0 := by
  unfold cmpD cmpS
  rw [bytes_self, int_self]
  rfl
theorem bytes_eq0 : ∀ x y : List UInt8, cmpB x y = 0 → x = y
  | [], [], _ => rfl
  | [], _ :: _, h => by simp [cmpB] at h
  | _ :: _, [], h => by simp [cmpB] at h
  | a :: x, b :: y, h => by
    rw [cmpB] at h
    split at h
    · rename_i h1; exact absurd h h1
    · rename_i h1
      rw [bytes_eq0 x y h]
      have : (a.toNat : Int) = b.toNat := by
        unfold Lib.compareInt at h1
        split at h1
        · omega
        · split at h1 <;> omega
      rw [UInt8.toNat_inj.1 (by omega : a.toNat = b.toNat)]
theorem def_eq0 {x y : Df} (h : cmpD x y = 0) : x.name = y.name ∧ x.typ = y.typ := by
  unfold cmpD at h
  split at h
  · rename_i h1; exact absurd h h1
  · rename_i h1
    refine ⟨name_eq (bytes_eq0 _ _ (by unfold cmpS at h1; omega)), ?_⟩
    unfold Lib.compareInt at h
    split at h
    · omega
    · split at h <;> omega
theorem swo_def : Go.Sort.SWO (ltOf cmpD) where
  irrefl x := by unfold ltOf; rw [def_self]; rfl
  trans x y z h1 h2 := by
    unfold ltOf at *
    simp only [decide_eq_true_eq] at *
    have := t3_def x y z (by omega) (by omega)
    omega
  ntrans x y z h1 h2 := by
    unfold ltOf at *
    simp only [decide_eq_false_iff_not] at *
    have := t3_def z y x (by rw [def_neg]; omega) (by rw [def_neg]; omega)
    rw [def_neg] at this
    omega

instance : Inhabited Df := ⟨zdf⟩

theorem isNaN_is (x : ByteArray) (w : World) : Calls Tryd.prog 49 #[.string x] w fun e w' => e = .returned (.bool false) ∧ w' = w := by
  go_enter Tryd.func49, Tryd.ntmps49
  go_wp2_with fail
  go_ret
  exact ⟨by simp, rfl⟩
set_option maxHeartbeats 800000 in
theorem compareS_is (x y : ByteArray) (w : World) : Calls Tryd.prog 40 #[.string x, .string y] w fun e w' => e = .returned (.int .i64 (cmpS x y)) ∧ w' = w := by
  have hc := cmpB_is x.toList y.toList
  obtain ⟨b1, h1⟩ : ∃ b, Op.bytesLess x.toList y.toList = b := ⟨_, rfl⟩
  obtain ⟨b2, h2⟩ : ∃ b, (x.toList == y.toList) = b := ⟨_, rfl⟩
  rw [h1, h2] at hc
  unfold cmpS
  rw [← hc]
  clear hc
  cases b1 <;> cases b2
  all_goals
    go_enter Tryd.func40, Tryd.ntmps40
    go_wp2_with (first | (go_at_call_of 49 (Value.string x); refine (isNaN_is x _).mono ?_; rintro e w' ⟨rfl, rfl⟩) | (go_at_call_of 49 (Value.string y); refine (isNaN_is y _).mono ?_; rintro e w' ⟨rfl, rfl⟩))
    go_ret
    exact ⟨rfl, rfl⟩

set_option maxHeartbeats 800000 in
theorem or_is (b cap : Nat) (x y : Int) (w : World) (h0 : w.cell? ⟨b, 0, none⟩ = some (.int .i64 x)) (h1 : w.cell? ⟨b, 1, none⟩ = some (.int .i64 y)) :
    Calls Tryd.prog 39 #[.slice (some ⟨b, 0, none⟩) 2 cap] w fun e w' => e = .returned (.int .i64 (if x ≠ 0 then x else y)) ∧ w' = w := by
  by_cases hx : x = 0
  · by_cases hy : y = 0
    · rw [if_neg (by omega)]
      subst hx hy
      go_enter Tryd.func39, Tryd.ntmps39
      go_wp2_with fail
      refine wp_loop_rounds 4 ?_
      rw [rounds_succ]
      go_wp2_with fail
      rw [rounds_succ]
      go_wp2_with fail
      rw [rounds_succ]
      go_wp2_with fail
      go_ret
      exact ⟨rfl, rfl⟩
    · rw [if_neg (by omega)]
      subst hx
      have e : ((y : Int) != 0) = true := by rw [bne_iff_ne]; exact hy
      clear hy
      go_enter Tryd.func39, Tryd.ntmps39
      go_wp2_with fail
      refine wp_loop_rounds 4 ?_
      rw [rounds_succ]
      go_wp2_with fail
      rw [rounds_succ]
      go_wp2_with fail
      go_ret
      exact ⟨rfl, rfl⟩
  · rw [if_pos (by omega)]
    have e : ((x : Int) != 0) = true := by rw [bne_iff_ne]; exact hx
    clear hx
    go_enter Tryd.func39, Tryd.ntmps39
    go_wp2_with fail
    refine wp_loop_rounds 4 ?_
    rw [rounds_succ]
    go_wp2_with fail
    go_ret
    exact ⟨rfl, rfl⟩

set_option maxRecDepth 100000 in
set_option maxHeartbeats 1600000 in
theorem closure_is (x y : Df) (W : World) : Calls Tryd.prog 38 #[.agg x.cells.toArray, .agg y.cells.toArray] W fun e w' => e = .returned (.int .i64 (cmpD x y)) ∧ ∃ q os', w' = Go.Sort.grow (W.drewN q) os' := by
  have CS := Lib.hid (fun w => compareS_is x.name y.name w)
  have CI := Lib.hid (fun w => Tryd.cmp_Compare_int x.typ y.typ w)
  obtain ⟨c1, h1⟩ : ∃ c, cmpS x.name y.name = c := ⟨_, rfl⟩
  obtain ⟨c2, h2⟩ : ∃ c, Lib.compareInt x.typ y.typ = c := ⟨_, rfl⟩
  rw [h1] at CS
  rw [h2] at CI
  unfold cmpD
  rw [h1, h2]
  have OR := fun b cap w h0 h1 => or_is b cap c1 c2 w h0 h1
  obtain ⟨z, hz⟩ : ∃ z, (if c1 ≠ 0 then c1 else c2) = z := ⟨_, rfl⟩
  rw [hz] at OR ⊢
  have HOR := Lib.hid OR
  clear h1 h2 OR hz
  obtain ⟨p, t, n⟩ := x
  obtain ⟨p', t', n'⟩ := y
  unfold Df.cells
  simp only at CS CI ⊢
  go_enter Tryd.func38, Tryd.ntmps38
  go_wp2_with fail
  have e0 : ((W.alloc (.cells #[.int .i64 p, .int .i64 t, .string n] 45)).alloc (.cells #[.int .i64 p', .int .i64 t', .string n'] 45)).heap[W.heap.size]? = some (.cells #[.int .i64 p, .int .i64 t, .string n] 45 (0, 0)) := by
    rw [Below.heap_alloc _ _ _ (by simp)]
    exact new_at _ _ rfl
  have e1 : ((W.alloc (.cells #[.int .i64 p, .int .i64 t, .string n] 45)).alloc (.cells #[.int .i64 p', .int .i64 t', .string n'] 45)).heap[W.heap.size + 1]? = some (.cells #[.int .i64 p', .int .i64 t', .string n'] 45 (0, 0)) := new_at _ _ (by simp)
  have hz : ((W.alloc (.cells #[.int .i64 p, .int .i64 t, .string n] 45)).alloc (.cells #[.int .i64 p', .int .i64 t', .string n'] 45)).heap.size = W.heap.size + 2 := by simp
  obtain ⟨W2, hW2⟩ : ∃ W2, (W.alloc (.cells #[.int .i64 p, .int .i64 t, .string n] 45)).alloc (.cells #[.int .i64 p', .int .i64 t', .string n'] 45) = W2 := ⟨_, rfl⟩
  rw [hW2] at e0 e1 hz ⊢
  have HW2 := Lib.hid hW2
  obtain ⟨a0, a1, a2, _, _, _⟩ := (Three.mk e0).facts
  obtain ⟨b0, b1, b2, _, _, _⟩ := (Three.mk e1).facts
  clear hW2 e0 e1
  have HZ := Lib.hid hz
  clear hz
  go_still_tail 10, (by kernel_rfl)
  still_call (CS.out _)
  repeat still_step
  still_call (CI.out _)
  refine wpStill_nil ?_
  change wpList _ _ _ _ _ W2.drew
  have hz2 : W2.drew.heap.size = W.heap.size + 2 := HZ.out
  have HZ2 := Lib.hid hz2
  clear hz2 a0 a1 a2 b0 b1 b2
  obtain ⟨W3, hW3⟩ : ∃ W3, W2.drew = W3 := ⟨_, rfl⟩
  rw [hW3] at HZ2 ⊢
  have HW3 := Lib.hid hW3
  clear hW3
  have NB : ∀ (W' : World) (T : TypeId) (H : Nat), W'.heap.size = H → (W'.alloc (.cells #[.int .i64 c1, .int .i64 c2] T)).cell? ⟨H, 0, none⟩ = some (.int .i64 c1) ∧ (W'.alloc (.cells #[.int .i64 c1, .int .i64 c2] T)).cell? ⟨H, 1, none⟩ = some (.int .i64 c2) := fun W' T H h =>
    ⟨cell_of_heap (new_at W' _ h) rfl, cell_of_heap (new_at W' _ h) rfl⟩
  have HNB := Lib.hid NB
  clear NB CS CI
  go_wp2_with fail
  refine (HOR.out _ _ _ ?_ ?_).mono ?_
  · exact (HNB.out _ _ _ rfl).1
  · exact (HNB.out _ _ _ rfl).2
  rintro e w' ⟨rfl, rfl⟩
  go_wp2_with fail
  go_ret
  have key : ∀ o : Obj, W3.alloc o = Go.Sort.grow (W.drewN 1) (#[.cells #[.int .i64 p, .int .i64 t, .string n] 45] ++ #[.cells #[.int .i64 p', .int .i64 t', .string n'] 45] ++ #[o]) := fun o => by
    rw [← HW3.out, ← HW2.out, Go.Sort.alloc_eq_grow W, Go.Sort.alloc_eq_grow (Go.Sort.grow W _), Go.Sort.grow_grow, Go.Sort.drew_grow, Go.Sort.alloc_eq_grow, Go.Sort.grow_grow]
    rfl
  exact ⟨rfl, 1, _, key _⟩

theorem closure_lays (blk off size : Nat) (w : World) : CmpLays Tryd.prog 38 #[] Df.cells 3 cmpD blk off size w :=
  fun _ _ _ _ x y => closure_is x y _

end Go.Proofs.YtnnhpjpfmmlimaaDoor
