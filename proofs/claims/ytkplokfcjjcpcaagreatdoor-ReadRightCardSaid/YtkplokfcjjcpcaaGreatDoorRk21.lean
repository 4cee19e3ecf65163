/- Joined texts: ReadF ReadH ReadJ. Conditions: as each states. -/
import Derived.Test.YtkplokfcjjcpcaaGreatDoorRk20
import Derived.Test.YtkplokfcjjcpcaaGreatDoorRk13
import Derived.Test.YtkplokfcjjcpcaaGreatDoorPk11
import Derived.Deep.RegionHeld3
import Derived.Deep.DrawnRows
import Derived.StillTailTactics
import Derived.Maps.OwnOps
import Derived.Maps.OwnSet
import Derived.Maps.Views
section
namespace Go.Proofs.YtkplokfcjjcpcaaGreatDoor
open Go Go.RowKit Go.Maps Trm
attribute [local go_sem ↓] Go.wp_at_zero Go.wp_at_succ
def Rc.set (c : Rc) (x : AT) (p : Int) : Rc := { c with k := x.k, n := x.n, s := x.s, sv := x.sv, p := p, bg := true }
def BePost (w : World) (R : Nat) (c : Rc) (x : AT) (p : Int) (e : Ending) (w' : World) : Prop := e = .returned (.tuple #[]) ∧ Keeps (fun j => j = R) w w' ∧ Rd w' R (c.set x p)
set_option maxRecDepth 100000 in
set_option maxHeartbeats 1600000 in
theorem be_is (w : World) (R : Nat) (c : Rc) (x : AT) (p : Int) (h : Rd w R c) (hsv : ∃ a n k, x.sv = .slice a n k) :
    Calls Tryz.prog 148 #[.pointer (some ⟨R, 0, none⟩), x.val, .int .i64 p] w (BePost w R c x p) := by
  obtain ⟨k, hk⟩ : ∃ k, x.k = k := ⟨_, rfl⟩
  obtain ⟨n, hn⟩ : ∃ n, x.n = n := ⟨_, rfl⟩
  obtain ⟨s, hs⟩ : ∃ s, x.s = s := ⟨_, rfl⟩
  obtain ⟨a, m, cp, hv⟩ := hsv
  have HW : Hid (∀ W, Rd W R c → Keeps (fun j => j = R) w W → BePost w R c x p (.returned (.tuple #[])) ((((((W.setCell ⟨R, 9, none⟩ (.int .i64 k)).setCell ⟨R, 10, none⟩ (.int .i64 n)).setCell ⟨R, 11, none⟩ (.string s)).setCell ⟨R, 12, none⟩ (.slice a m cp)).setCell ⟨R, 13, none⟩ (.int .i64 p)).setCell ⟨R, 8, none⟩ (.bool true))) := fun W hr hk' => by
    refine ⟨rfl, (((((hk'.setCell (p := ⟨R, 9, none⟩) (.inl rfl) _).setCell (p := ⟨R, 10, none⟩) (.inl rfl) _).setCell (p := ⟨R, 11, none⟩) (.inl rfl) _).setCell (p := ⟨R, 12, none⟩) (.inl rfl) _).setCell (p := ⟨R, 13, none⟩) (.inl rfl) _).setCell (p := ⟨R, 8, none⟩) (.inl rfl) _, ⟨?_⟩⟩
    have := heap_set (o := 8) (heap_set (o := 13) (heap_set (o := 12) (heap_set (o := 11) (heap_set (o := 10) (heap_set (o := 9) hr.row (.int .i64 k)) (.int .i64 n)) (.string s)) (.slice a m cp)) (.int .i64 p)) (.bool true)
    rw [this, Rc.set, hk, hn, hs, hv]
    rfl
  have hz := h.free
  have RR := Lib.hid (fun o => h.on ((Below.refl w.heap.size w).alloc (Nat.le_refl _) o))
  have KK := Lib.hid (fun o => ((Keeps.refl (fun j => j = R) w).alloc o))
  have z9 := fun o => (RR.out o).free 9
  have z10 := fun o => (RR.out o).free 10
  have z11 := fun o => (RR.out o).free 11
  have z12 := fun o => (RR.out o).free 12
  have z13 := fun o => (RR.out o).free 13
  have z8 := fun o => (RR.out o).free 8
  have y9 := fun o => (RR.out o).c_k
  have y10 := fun o => (RR.out o).c_n
  have y11 := fun o => (RR.out o).c_s
  have y12 := fun o => (RR.out o).c_sv
  have y13 := fun o => (RR.out o).c_p
  have y8 := fun o => (RR.out o).c_bg
  unfold AT.val
  rw [hk, hn, hs, hv]
  clear h hz hk hn hs hv
  go_enter Tryz.func148, Tryz.ntmps148
  go_wp2
  go_end0
  exact HW.out _ (RR.out _) (KK.out _)
def leafA (k n : Int) (s : ByteArray) : AT := .mk k n s (.slice none 0 0) 0 0 []
theorem leafA_mem (k n : Int) (s : ByteArray) (w : World) : (leafA k n s).mem w := ⟨.inl ⟨rfl, rfl⟩, trivial⟩
theorem leafA_ins (k n : Int) (s : ByteArray) (S : Nat → Prop) : (leafA k n s).ins S := ⟨fun h => absurd rfl h, trivial⟩
set_option maxHeartbeats 800000 in
theorem whole_is (n : Int) (w : World) :
    Calls Tryz.prog 178 #[.int .i64 n] w fun e w' => e = .returned (leafA 2 n ⟨#[]⟩).val ∧ Below w.heap.size w w' := by
  have B := Lib.hid (fun o => (Below.refl w.heap.size w).alloc (Nat.le_refl _) o)
  go_enter Tryz.func178, Tryz.ntmps178
  go_wp2_with fail
  refine bodyPost_ret (results_cell_row rfl _ _ w.heap.size 34 _ _ _ rfl (heap_alloc_new w _) Tryz.underlying34 rfl termInfo) rfl ?_
  exact ⟨rfl, B.out _⟩
set_option maxHeartbeats 800000 in
theorem atom_is (s : ByteArray) (w : World) (hs : s.size ≤ 281474976710656) :
    Calls Tryz.prog 182 #[.string s] w fun e w' => e = .returned (leafA 3 0 s).val ∧ Below w.heap.size w w' := by
  have B := Lib.hid (fun o => (Below.refl w.heap.size w).alloc (Nat.le_refl _) o)
  have C := Lib.hid (fun W => Trm.clone_is s W hs)
  have NA := Lib.hid (fun o (W : World) (b : Below (w.alloc o).heap.size (w.alloc o) W) => (b.block w.heap.size (by simp)).trans (heap_alloc_new w o))
  clear hs
  go_enter Tryz.func182, Tryz.ntmps182
  go_wp2_with fail
  refine (C.out _).mono ?_
  rintro e w1 ⟨rfl, b1⟩
  have N1 := Lib.hid (NA.out _ _ b1)
  have q0 := cell_of_heap (o := 0) N1.out rfl
  have q1 := cell_of_heap (o := 1) N1.out rfl
  have q2 := cell_of_heap (o := 2) N1.out rfl
  have q3 := cell_of_heap (o := 3) N1.out rfl
  have z0 := free_of_heap (o := 0) N1.out
  have z1 := free_of_heap (o := 1) N1.out
  have z2 := free_of_heap (o := 2) N1.out
  have z3 := free_of_heap (o := 3) N1.out
  have B1 := Lib.hid ((B.out _).trans (b1.mono (B.out _).size))
  clear b1
  go_wp2_with fail
  refine bodyPost_ret (results_cell_row rfl _ _ w.heap.size 34 _ _ _ rfl (four_heap N1.out _ _ _ _) Tryz.underlying34 rfl termInfo) rfl ?_
  exact ⟨rfl, four_below B1.out (Nat.le_refl _) _ _ _ _⟩
set_option maxHeartbeats 800000 in
theorem comp_is (s : ByteArray) (a : Option Addr) (n k : Nat) (w : World) (hs : s.size ≤ 281474976710656) :
    Calls Tryz.prog 221 #[.string s, .slice a n k] w fun e w' => e = .returned (.agg #[.int .i64 4, .int .i64 0, .string s, .slice a n k]) ∧ Below w.heap.size w w' := by
  have B := Lib.hid (fun o => (Below.refl w.heap.size w).alloc (Nat.le_refl _) o)
  have C := Lib.hid (fun W => Trm.clone_is s W hs)
  have NA := Lib.hid (fun o (W : World) (b : Below (w.alloc o).heap.size (w.alloc o) W) => (b.block w.heap.size (by simp)).trans (heap_alloc_new w o))
  clear hs
  go_enter Tryz.func221, Tryz.ntmps221
  go_wp2_with fail
  refine (C.out _).mono ?_
  rintro e w1 ⟨rfl, b1⟩
  have N1 := Lib.hid (NA.out _ _ b1)
  have q0 := cell_of_heap (o := 0) N1.out rfl
  have q1 := cell_of_heap (o := 1) N1.out rfl
  have q2 := cell_of_heap (o := 2) N1.out rfl
  have q3 := cell_of_heap (o := 3) N1.out rfl
  have z0 := free_of_heap (o := 0) N1.out
  have z1 := free_of_heap (o := 1) N1.out
  have z2 := free_of_heap (o := 2) N1.out
  have z3 := free_of_heap (o := 3) N1.out
  have B1 := Lib.hid ((B.out _).trans (b1.mono (B.out _).size))
  clear b1
  go_wp2_with fail
  refine bodyPost_ret (results_cell_row rfl _ _ w.heap.size 34 _ _ _ rfl (four_heap N1.out _ _ _ _) Tryz.underlying34 rfl termInfo) rfl ?_
  exact ⟨rfl, four_below B1.out (Nat.le_refl _) _ _ _ _⟩
theorem owns_slice2 {w : World} {b n size : Nat} {e : TypeId} {v : Value} {xs : List Value} (h : w.ownsRow b e size v n xs) : ∃ a k, v = .slice a n k := by
  obtain ⟨_, ⟨h, h0⟩ | ⟨g, cap, cur, h, _⟩⟩ := h
  · subst h0; exact ⟨_, _, h⟩
  · exact ⟨_, _, h⟩
theorem info_some {p : Option TypeInfo} {z : Value} {n b : Nat} (h : p.map (fun i => (i.zero, i.size, i.bytes)) = some (some z, n, b)) : ∃ i, p = some i ∧ i.zero = some z ∧ z = z ∧ i.size = n ∧ i.bytes = b := by
  cases p with
  | none => cases h
  | some i =>
    simp only [Option.map_some, Option.some.injEq, Prod.mk.injEq] at h
    exact ⟨i, rfl, h.1, rfl, h.2.1, h.2.2⟩
def WantPost (B : Nat) (w : World) (R : Nat) (c : Rc) (n : Nat) (xs : List Value) (m : Int) (f : Value) (e : Ending) (w' : World) : Prop :=
  e = .returned (.tuple #[]) ∧ ∃ v, w'.ownsRow B 225 2 v (n + 1) (xs ++ [.int .i64 m, f]) ∧ (c.wv.ownBlock = v.ownBlock ∨ ∃ g, v.ownBlock = some g ∧ w.heap.size ≤ g) ∧ Keeps (fun j => j = R ∨ c.wv.ownBlock = some j) w w' ∧ Rd w' R { c with wv := v, bg := false }
set_option maxRecDepth 100000 in
set_option maxHeartbeats 1600000 in
theorem want_is (B : Nat) (w : World) (R : Nat) (c : Rc) (n : Nat) (xs : List Value) (m : Int) (k : Nat) (fa fb : Array Value) (h : Rd w R c) (ho : w.ownsRow B 225 2 c.wv n xs) (hne : c.wv.ownBlock ≠ some R) (hB : B ≤ w.heap.size) (hn : n ≤ 1000000) :
    Calls Tryz.prog 93 #[.pointer (some ⟨R, 0, none⟩), .int .i64 m, .func (.func k) fa fb] w (WantPost B w R c n xs m (.func (.func k) fa fb)) := by
  obtain ⟨i0, hi, hz0, _, hz1, hz2⟩ := info_some (show (Tryz.prog.info? 225).map (fun i => (i.zero, i.size, i.bytes)) = some (some (.agg #[.int .i64 0, .nilFunc]), 2, 16) by kernel_rfl)
  obtain ⟨va, vk, hv⟩ := owns_slice2 ho
  have c5 := h.c_wv
  have hR := h.lt
  have RR := Lib.hid (fun o => h.on ((Below.refl w.heap.size w).alloc (Nat.le_refl _) o))
  have KK := Lib.hid (fun o => ((Keeps.refl (fun j => j = R ∨ c.wv.ownBlock = some j) w).alloc o))
  have HO := Lib.hid ho
  have HNE := Lib.hid hne
  have HV := Lib.hid hv
  rw [hv] at c5
  clear h ho hne hv
  go_enter Tryz.func93, Tryz.ntmps93
  go_wp2_with (at_builtin; refine wpList_append_lies _ rfl (.tmp 10) (.tmp 14) 111 rfl B 225 i0 (.agg #[.int .i64 0, .nilFunc]) 2 16 Tryz.underlying111 hi hz0 hz1 hz2 rfl (by decide) c.wv n xs HV.out.symm (HO.out.alloc _) ⟨w.heap.size, 0, none⟩ 1 1 [.int .i64 m, .func (.func k) fa fb] rfl rfl (World.news_of_block (heap_alloc_new w _)) (by simp [Value.oneCell']) (by omega) ?_ ?_ ?_ (w.heap.size + 1) (by simp) ?_)
  · unfold maxLen; omega
  · omega
  · simp; omega
  intro g cap w1 hown hgrow hat hlt
  have hz : (w.alloc (.cells #[.int .i64 m, .func (.func k) fa fb] 225)).heap.size = w.heap.size + 1 := by simp
  have R1 := (RR.out (.cells #[.int .i64 m, .func (.func k) fa fb] 225)).same (hgrow.block R (by rw [hz]; omega) (fun e => HNE.out e.symm))
  have K1 := Lib.hid ((KK.out (.cells #[.int .i64 m, .func (.func k) fa fb] 225)).grown hgrow (fun j hj => .inl (.inr hj)))
  have y5 := R1.c_wv
  have y6 := R1.c_bg
  have u5 := R1.free 7
  have u6 := R1.free 8
  have HR1 := Lib.hid R1
  have HOWN := Lib.hid hown
  have HG : Hid (c.wv.ownBlock = some g ∨ w.heap.size ≤ g) := by
    rcases hat with h | h
    · exact .inl h
    · exact .inr (by omega)
  have HGR : Hid (g ≠ R) := by
    rcases HG.out with h | h
    · exact fun e => HNE.out (e ▸ h)
    · show g ≠ R
      omega
  rw [HV.out] at y5
  clear hgrow hat hown R1 hlt
  go_wp2
  go_end0
  have HS := heap_set (o := 8) (heap_set (o := 7) HR1.out.row (.slice (some ⟨g, 0, none⟩) (n + 1) cap)) (.bool false)
  refine ⟨rfl, .slice (some ⟨g, 0, none⟩) (n + 1) cap, row_keeps (F := fun j => j = R) HOWN.out (((Keeps.refl (fun j => j = R) w1).setCell (p := ⟨R, 7, none⟩) (.inl rfl) _).setCell (p := ⟨R, 8, none⟩) (.inl rfl) _) (fun g' hg' e => ?_), ?_, (K1.out.setCell (p := ⟨R, 7, none⟩) (.inl (.inl rfl)) _).setCell (p := ⟨R, 8, none⟩) (.inl (.inl rfl)) _, ⟨by rw [HS]; rfl⟩⟩
  · simp [Value.ownBlock] at hg'
    exact HGR.out (hg'.trans e)
  · rcases HG.out with h | h
    · exact .inl h
    · exact .inr ⟨g, rfl, h⟩
end Go.Proofs.YtkplokfcjjcpcaaGreatDoor
end
section
namespace Go.Proofs.YtkplokfcjjcpcaaGreatDoor
open Go Go.RowKit Go.Maps Trm
attribute [local go_sem ↓] Go.wp_at_zero Go.wp_at_succ
def TermPost (w : World) (S : Nat → Prop) (x : Tm) (e : Ending) (w' : World) : Prop :=
  ∃ t : AT, e = .returned t.val ∧ t.erase = x ∧ t.mem w' ∧ t.ins (fun j => S j ∨ w.heap.size ≤ j) ∧ Below w.heap.size w w' ∧ ∃ a n k, t.sv = .slice a n k
theorem lstT_cons (x : Tm) (l : List Tm) (tl : Tm) : lstT tl (x :: l) = compT ⟨#[46]⟩ [x, lstT tl l] := rfl
def rowA (k : Int) (s : ByteArray) (b : Nat) (l : List AT) : AT := .mk k 0 s (.slice (some ⟨b, 0, none⟩) l.length l.length) b 0 l
theorem rowA_mem {W : World} {k : Int} {s : ByteArray} {b : Nat} {l : List AT} {T : TypeId} (hb : W.heap[b]? = some (.cells (headCells l).toArray T (0, 0))) (hm : ∀ t ∈ l, t.mem W) (hl : l.length ≤ 1000000) : (rowA k s b l).mem W := by
  refine ⟨.inr ⟨l.length, rfl, Nat.le_refl _, by unfold maxLen; omega⟩, mem_row hb l 0 (fun j hj => ?_) hm⟩
  simp
theorem ins_list {S : Nat → Prop} : ∀ {l : List AT}, (∀ t ∈ l, t.ins S) → ATs.ins S l
  | [], _ => trivial
  | t :: r, h => ⟨h t (by simp), ins_list fun u hu => h u (by simp [hu])⟩
theorem list_ins {S : Nat → Prop} : ∀ {l : List AT}, ATs.ins S l → ∀ t ∈ l, t.ins S
  | [], _, t, h => by cases h
  | u :: r, hi, t, h => by
    rcases List.mem_cons.1 h with rfl | h
    · exact hi.1
    · exact list_ins hi.2 t h
structure ListR (w : World) (S : Nat → Prop) (l : List AT) (tl : AT) (k : Nat) (x : AT) (wr : World) : Prop where
  box : wr.heap[w.heap.size]? = some (.cells #[.int .i64 x.k, .int .i64 x.n, .string x.s, x.sv] 34 (0, 0))
  res : wr.heap[w.heap.size + 1]? = some (.cells #[.int .i64 0, .int .i64 0, .string ⟨#[]⟩, .slice none 0 0] 34 (0, 0))
  mem : x.mem wr
  ins : x.ins (fun j => S j ∨ w.heap.size + 2 ≤ j)
  tm : x.erase = lstT tl.erase ((ATs.erase l).drop k)
  below : Below w.heap.size w wr
theorem ListR.next {w wr w5 : World} {S : Nat → Prop} {l : List AT} {tl e x : AT} {k : Nat} (hS : ∀ j, S j → j < w.heap.size) (h : ListR w S l tl (k + 1) x wr) (hm : ∀ t ∈ l, t.mem w ∧ t.ins S) (he : l[k]? = some e)
    (hb : Below (wr.drew.alloc (.cells (headCells [e, x]).toArray 34)).heap.size (wr.drew.alloc (.cells (headCells [e, x]).toArray 34)) w5) :
    ListR w S l tl k (rowA 4 ⟨#[46]⟩ wr.heap.size [e, x]) ((((w5.setCell ⟨w.heap.size, 0, none⟩ (.int .i64 4)).setCell ⟨w.heap.size, 1, none⟩ (.int .i64 0)).setCell ⟨w.heap.size, 2, none⟩ (.string ⟨#[46]⟩)).setCell ⟨w.heap.size, 3, none⟩ (.slice (some ⟨wr.heap.size, 0, none⟩) 2 2)) := by
  have h0 := heap_lt h.box
  have h1 := heap_lt h.res
  have hz : (wr.drew.alloc (.cells (headCells [e, x]).toArray 34)).heap.size = wr.heap.size + 1 := by simp
  have BW : Below wr.heap.size wr w5 := (((Below.refl wr.heap.size wr).drew).alloc (Nat.le_refl _) _).trans (hb.mono (by rw [hz]; omega))
  have hne : ∀ j, j ≠ w.heap.size → ((((w5.setCell ⟨w.heap.size, 0, none⟩ (.int .i64 4)).setCell ⟨w.heap.size, 1, none⟩ (.int .i64 0)).setCell ⟨w.heap.size, 2, none⟩ (.string ⟨#[46]⟩)).setCell ⟨w.heap.size, 3, none⟩ (.slice (some ⟨wr.heap.size, 0, none⟩) 2 2)).heap[j]? = w5.heap[j]? := fun j hj => by
    rw [heap_set_ne hj, heap_set_ne hj, heap_set_ne hj, heap_set_ne hj]
  have hem := hm e (List.mem_of_getElem? he)
  have hew : e.mem w5 := AT.mem_below (h.below.trans (BW.mono h.below.size)) (AT.ins_size _ hem.1) hem.1
  have hxw : x.mem w5 := AT.mem_below BW (AT.ins_size _ h.mem) h.mem
  have hrow : w5.heap[wr.heap.size]? = some (.cells (headCells [e, x]).toArray 34 (0, 0)) := (hb.block _ (by rw [hz]; omega)).trans (new_at _ _ (by simp))
  have hwl := h.below.size
  have hXm : (rowA 4 ⟨#[46]⟩ wr.heap.size [e, x]).mem w5 := rowA_mem hrow (fun t ht => by
    simp at ht
    rcases ht with rfl | rfl
    · exact hew
    · exact hxw) (by simp)
  have hXi : (rowA 4 ⟨#[46]⟩ wr.heap.size [e, x]).ins (fun j => S j ∨ w.heap.size + 2 ≤ j) := ⟨fun _ => .inr (by omega), AT.ins_mono (fun j hj => .inl hj) e hem.2, h.ins, trivial⟩
  refine ⟨four_heap (W := w5) ((BW.block _ h0).trans h.box) _ _ _ _, (hne _ (by omega)).trans ((BW.block _ h1).trans h.res), AT.mem_same (S := fun j => S j ∨ w.heap.size + 2 ≤ j) (fun j hj => hne j ?_) _ hXi hXm, hXi, ?_, four_below (h.below.trans (BW.mono h.below.size)) (Nat.le_refl _) _ _ _ _⟩
  · rcases hj with hj | hj
    · have := hS j hj; omega
    · omega
  · have h1 : (ATs.erase l).drop k = e.erase :: (ATs.erase l).drop (k + 1) := by
      obtain ⟨h3, h4⟩ := List.getElem?_eq_some_iff.1 (erase_get he)
      rw [List.drop_eq_getElem_cons h3, h4]
    rw [h1, lstT_cons, ← h.tm]
    rfl
set_option maxRecDepth 100000 in
set_option maxHeartbeats 3200000 in
theorem list_is (l : List AT) (tl : AT) (a : Option Addr) (k : Nat) (w : World) (S : Nat → Prop) (hS : ∀ j, S j → j < w.heap.size) (hl : l.length ≤ 100000) (G : Nat) (ha : 0 < l.length → a = some ⟨G, 0, none⟩)
    (hlm : ATs.mem w G l 0) (hm : ∀ t ∈ l, t.mem w ∧ t.ins S) (ht : tl.mem w) (hti : tl.ins S) :
    Calls Tryz.prog 180 #[.slice a l.length k, tl.val] w (TermPost w S (lstT tl.erase (ATs.erase l))) := by
  obtain ⟨ta, tc, tsv, _⟩ := sv_form (AT.mem_mk.1 ht).1
  obtain ⟨n, hn⟩ : ∃ n, l.length = n := ⟨_, rfl⟩
  have BA := Lib.hid (fun o1 o2 => ((Below.refl w.heap.size w).alloc (Nat.le_refl _) o1).alloc (by simp) o2)
  have START : Hid (ListR w S l tl n tl ((w.alloc (.cells #[.int .i64 tl.k, .int .i64 tl.n, .string tl.s, tl.sv] 34)).alloc (.cells #[.int .i64 0, .int .i64 0, .string ⟨#[]⟩, .slice none 0 0] 34))) := by
    refine ⟨?_, new_at _ _ (by simp), AT.mem_below (BA.out _ _) (AT.ins_size _ ht) ht, AT.ins_mono (fun j hj => .inl hj) tl hti, ?_, BA.out _ _⟩
    · rw [Below.heap_alloc _ _ _ (by simp)]
      exact new_at _ _ rfl
    · rw [List.drop_eq_nil_of_le (by rw [erase_len, hn]; exact Nat.le_refl _)]
      rfl
  have HM := Lib.hid hm
  have HLM := Lib.hid hlm
  have HA := Lib.hid ha
  have HS := Lib.hid hS
  have HN := Lib.hid hn
  rw [hn] at hl ⊢
  unfold AT.val
  rw [tsv] at START ⊢
  clear ha hlm hm ht hti hn tsv hS
  go_enter Tryz.func180, Tryz.ntmps180
  go_wp2_with fail
  go_loopw [5] (fun vi wr => ∃ (j : Nat) (x : AT), vi = .int .i64 ((j : Int) - 1) ∧ j ≤ n ∧ Hid (ListR w S l tl j x wr)) (fun vi _ => (intOf vi + 1).toNat)
  case atStart => exact ⟨n, tl, by simp, Nat.le_refl _, START.out⟩
  case round =>
    obtain ⟨j, x, rfl, hj, HR⟩ := hrel
    have hbox := HR.out.box
    obtain ⟨xa, xc, xsv, _⟩ := sv_form (AT.mem_mk.1 HR.out.mem).1
    have XSV := Lib.hid xsv
    rw [xsv] at hbox
    have c0 : wr.cell? ⟨w.heap.size, 0, none⟩ = some (.int .i64 x.k) := cell_of_heap hbox rfl
    have c1 : wr.cell? ⟨w.heap.size, 1, none⟩ = some (.int .i64 x.n) := cell_of_heap hbox rfl
    have c2 : wr.cell? ⟨w.heap.size, 2, none⟩ = some (.string x.s) := cell_of_heap hbox rfl
    have c3 : wr.cell? ⟨w.heap.size, 3, none⟩ = some (.slice xa x.l.length xc) := cell_of_heap hbox rfl
    cases j with
    | zero =>
      have hr := HR.out.res
      have d0 : wr.cell? ⟨w.heap.size + 1, 0, none⟩ = some (.int .i64 0) := cell_of_heap hr rfl
      have d1 : wr.cell? ⟨w.heap.size + 1, 1, none⟩ = some (.int .i64 0) := cell_of_heap hr rfl
      have d2 : wr.cell? ⟨w.heap.size + 1, 2, none⟩ = some (.string ⟨#[]⟩) := cell_of_heap hr rfl
      have d3 : wr.cell? ⟨w.heap.size + 1, 3, none⟩ = some (.slice none 0 0) := cell_of_heap hr rfl
      have y0 := free_of_heap (o := 0) hr
      have y1 := free_of_heap (o := 1) hr
      have y2 := free_of_heap (o := 2) hr
      have y3 := free_of_heap (o := 3) hr
      have RES := Lib.hid hr
      have e1 : decide ((0 : Int) ≤ ((0 : Nat) : Int) - 1) = false := by decide
      clear hr hbox xsv
      go_wp2_with fail
      refine bodyPost_ret (results_cell_row rfl _ _ (w.heap.size + 1) 34 _ _ _ rfl (four_heap RES.out _ _ _ _) Tryz.underlying34 rfl termInfo) rfl ?_
      refine ⟨x, by unfold AT.val; rw [XSV.out], by rw [HR.out.tm, List.drop_zero], AT.mem_same (S := fun j => S j ∨ w.heap.size + 2 ≤ j) (fun q hq => ?_) x HR.out.ins HR.out.mem, AT.ins_mono (fun q hq => hq.elim .inl fun h => .inr (by omega)) x HR.out.ins, four_below HR.out.below (by omega) _ _ _ _, ⟨_, _, _, XSV.out⟩⟩
      have hq1 : q ≠ w.heap.size + 1 := by
        rcases hq with h | h
        · have := HS.out q h; omega
        · omega
      rw [heap_set_ne hq1, heap_set_ne hq1, heap_set_ne hq1, heap_set_ne hq1]
    | succ j =>
      obtain ⟨e, he⟩ : ∃ e, l[j]? = some e := ⟨l[j]'(by rw [HN.out]; omega), List.getElem?_eq_getElem _⟩
      obtain ⟨⟨_, e0, e1, e2, e3⟩, hem⟩ := mem_get HLM.out he
      obtain ⟨ea, ec, esv, _⟩ := sv_form (AT.mem_mk.1 hem).1
      have hg := World.block_lt_of_cell? _ _ e0
      have hbl := HR.out.below
      replace e0 := (hbl.cell (p := ⟨G, 0 + j * 4, none⟩) hg).trans e0
      replace e1 := (hbl.cell (p := ⟨G, 0 + j * 4 + 1, none⟩) hg).trans e1
      replace e2 := (hbl.cell (p := ⟨G, 0 + j * 4 + 2, none⟩) hg).trans e2
      replace e3 := (hbl.cell (p := ⟨G, 0 + j * 4 + 3, none⟩) hg).trans e3
      rw [esv] at e3
      simp only [Nat.zero_add] at e0 e1 e2 e3
      obtain rfl := HA.out (by rw [HN.out]; omega)
      have hcells : (headCells [e, x]).toArray = #[.int .i64 e.k, .int .i64 e.n, .string e.s, .slice ea e.l.length ec, .int .i64 x.k, .int .i64 x.n, .string x.s, .slice xa x.l.length xc] := by simp [headCells, esv, xsv]
      have NEXT := Lib.hid (fun w5 hb => HR.out.next (w5 := w5) HS.out HM.out he hb)
      rw [hcells] at NEXT
      have BOX := Lib.hid (fun w5 (hb : Below (wr.drew.alloc (.cells #[.int .i64 e.k, .int .i64 e.n, .string e.s, .slice ea e.l.length ec, .int .i64 x.k, .int .i64 x.n, .string x.s, .slice xa x.l.length xc] 34)).heap.size (wr.drew.alloc (.cells #[.int .i64 e.k, .int .i64 e.n, .string e.s, .slice ea e.l.length ec, .int .i64 x.k, .int .i64 x.n, .string x.s, .slice xa x.l.length xc] 34)) w5) => (((((Below.refl wr.heap.size wr).drew).alloc (Nat.le_refl _) _).trans (hb.mono (by simp))).block _ (heap_lt hbox)).trans hbox)
      have C := Lib.hid (fun W => comp_is ⟨#[46]⟩ (some ⟨wr.heap.size, 0, none⟩) 2 2 W (by decide))
      have i1 : (0 : Int) ≤ (j : Int) := by omega
      have i2 : (j : Int) < (n : Int) := by omega
      have t1 : decide ((0 : Int) ≤ (j : Int)) = true := decide_eq_true i1
      clear he hem hcells esv xsv hbox hg hbl
      rw [show ((j + 1 : Nat) : Int) - 1 = (j : Int) from by omega]
      go_wp2_with fail
      go_still_tail 5, (by kernel_rfl)
      go_wp2_with fail
      refine (C.out _).mono ?_
      rintro e5 w5 ⟨rfl, b5⟩
      have B5 := BOX.out w5 b5
      have NX := Lib.hid (NEXT.out w5 b5)
      have y0 := free_of_heap (o := 0) B5
      have y1 := free_of_heap (o := 1) B5
      have y2 := free_of_heap (o := 2) B5
      have y3 := free_of_heap (o := 3) B5
      have x0 := cell_of_heap (o := 0) B5 rfl
      have x1 := cell_of_heap (o := 1) B5 rfl
      have x2 := cell_of_heap (o := 2) B5 rfl
      have x3 := cell_of_heap (o := 3) B5 rfl
      clear b5 B5 NEXT BOX c0 c1 c2 c3 e0 e1 e2 e3 C
      go_wp2_with fail
      go_roundw
      case rel => exact ⟨j, _, by go_num, by omega, NX.out⟩
      case measure => simp [intOf]
end Go.Proofs.YtkplokfcjjcpcaaGreatDoor
end
section
namespace Go.Proofs.YtkplokfcjjcpcaaGreatDoor
open Go Go.RowKit Go.Maps Trm
open Go.WideMaps Go.WideElems
attribute [local go_sem ↓] Go.wp_at_zero Go.wp_at_succ
theorem strKeyR : Keyed Tryz.prog 9 := string_keyed Tryz.underlying9
theorem keyOf_strR {s : ByteArray} (hs : s.size ≤ maxLen) : keyOf Tryz.prog 9 (.string s) = some (.string s.data.toList) := keyOf_string_mk Tryz.underlying9 hs
theorem wf_64R {n : Int} (h1 : -9223372036854775808 ≤ n) (h2 : n ≤ 9223372036854775807) : (Lit.int .i64 n).wf = true := by go_wf
def NM (w : World) (b m : Nat) (D : DataW Unit) : Prop := w.ownsMap Tryz.prog 9 (plainElem (H := Unit) Tryz.prog 2) b m D
theorem look_name {w : World} {b m : Nat} {D : DataW Unit} (h : NM w b m D) (s : ByteArray) (v : Int) (ok : Bool) (hs : s.size ≤ maxLen)
    (hv : D.atKey (.string s.data.toList) (.lit (.int .i64 0)) = .lit (.int .i64 v)) (hok : Maps.has D (.string s.data.toList) = ok) :
    (Instr.lookup 108 (.map (some b)) (.string s) true).run Tryz.prog w = .ok (.tuple #[.int .i64 v, .bool ok]) w := by
  obtain ⟨x, ps, hrun, hx⟩ := World.ownsMap.look_ok h strKeyR Tryz.underlying108 (z := .int .i64 0) (by kernel_rfl) (plainElem_int Tryz.underlying2 (by decide)) (keyOf_strR hs)
  obtain ⟨y, rfl, hy, _⟩ := plainElem_int_inv Tryz.underlying2 hx
  rw [hv] at hy
  cases hy
  rw [hrun, hok]
theorem name_bytes {a b : ByteArray} (h : a.data.toList = b.data.toList) : a = b := by
  rcases a with ⟨⟨a⟩⟩
  rcases b with ⟨⟨b⟩⟩
  simp at h
  rw [h]
theorem fndV_snoc (vs : List (ByteArray × Int)) (s u : ByteArray) (n : Int) : fndV (vs ++ [(s, n)]) u = (fndV vs u).or (if (s.toList == u.toList) = true then some n else none) := by
  unfold fndV
  rw [List.find?_append]
  cases h : vs.find? fun p => p.1.toList == u.toList with
  | some p => simp
  | none =>
    simp only [Option.none_or, Option.map_none, List.find?_cons, List.find?_nil]
    by_cases hq : (s.toList == u.toList) = true
    · rw [if_pos hq]; simp [hq]
    · rw [if_neg hq]; simp [hq]
theorem varMap_put {D : DataW Unit} {vs : List (ByteArray × Int)} (h : VarMap D vs) {s : ByteArray} {n : Int} (hs : s.size ≤ maxLen) (hf : fndV vs s = none) : VarMap (D.put (.string s.data.toList) (.lit (.int .i64 n))) (vs ++ [(s, n)]) := by
  have hk : WideAt.IsKeyLit (.string s.data.toList) := strKeyR.key (keyOf_strR hs)
  refine ⟨h.1.put _ _, fun u hu => ?_⟩
  rw [fndV_snoc]
  by_cases hq : (s.toList == u.toList) = true
  · have e : s = u := name_bytes (by rw [← Lib.toList_data, ← Lib.toList_data]; exact beq_iff_eq.1 hq)
    subst e
    rw [hf, if_pos hq, Maps.has_put_same h.1 hk, Maps.atKey_put_same h.1 hk]
    exact ⟨rfl, rfl⟩
  · have hne : (Lit.string u.data.toList) ≠ .string s.data.toList := fun e => hq (by
      cases name_bytes (Lit.string.inj e)
      simp)
    rw [Maps.has_put_other hne, Maps.atKey_put_other hne, if_neg hq, Option.or_none]
    exact h.2 u hu
theorem bindCells_snoc (vs : List (ByteArray × Int)) (s : ByteArray) (n : Int) : bindCells (vs ++ [(s, n)]) = bindCells vs ++ [.string s, .int .i64 n] := by simp [bindCells]
theorem nodup_swap {a b : Nat} {o o' : Option Nat} {rest : List Nat} (h : (a :: b :: (o.toList ++ rest)).Nodup) (h' : o' = o ∨ ∃ g, o' = some g ∧ g ∉ a :: b :: rest) : (a :: b :: (o'.toList ++ rest)).Nodup := by
  rcases h' with rfl | ⟨g, rfl, hg⟩
  · exact h
  · have hs : (a :: b :: rest).Nodup := h.sublist (.cons_cons _ (.cons_cons _ (List.sublist_append_right _ _)))
    simp only [List.mem_cons, not_or] at hg
    simp only [Option.toList_some, List.cons_append, List.nil_append, List.nodup_cons, List.mem_cons, not_or] at hs ⊢
    exact ⟨⟨hs.1.1, Ne.symm hg.1, hs.1.2⟩, ⟨Ne.symm hg.2.1, hs.2.1⟩, hg.2.2, hs.2.2⟩
theorem MemX.names' {F : Nat → Prop} {B : Nat} {w w' : World} {R : Nat} {c d : Rc} {fr : List FrA} {so : AT} {vs vs' : List (ByteArray × Int)} {E : List Nat} (h : MemX B w R c fr so vs E) (hk : Keeps F w w') (hF : ∀ j, F j → j = R ∨ j = c.nb ∨ c.nv.ownBlock = some j ∨ w.heap.size ≤ j) (hd : Rd w' R d) (hB : B ≤ w.heap.size)
    (e1 : d.nb = c.nb) (e3 : d.wv = c.wv) (e4 : d.k = c.k) (e5 : d.n = c.n) (e6 : d.s = c.s) (e7 : d.sv = c.sv)
    (hn : d.nv.ownBlock = c.nv.ownBlock ∨ ∃ g, d.nv.ownBlock = some g ∧ w.heap.size ≤ g) (hnums : ∃ m D, NM w' c.nb m D ∧ m ≤ vs'.length ∧ VarMap D vs') (hnames : w'.ownsRow B 59 2 d.nv vs'.length (bindCells vs')) : MemX B w' R d fr so vs' E := by
  have hnd := h.nodup
  have hlt := h.low
  have hold : ∀ j, j ∈ R :: c.nb :: (c.wv.ownBlock.toList ++ (fr.flatMap (fun f => f.k.own) ++ E)) → j ∈ ownL R c fr E := fun j hj => by
    simp only [List.mem_cons] at hj
    rcases hj with h1 | h1 | h1
    · exact mem_ownL.2 (.inl h1)
    · exact mem_ownL.2 (.inr (.inl h1))
    · simp only [ownL, List.mem_cons, List.mem_append] at h1 ⊢
      exact .inr (.inr (.inr h1))
  have hO : ∀ j, j ∈ ownL R d fr E → j ∈ ownL R c fr E ∨ w.heap.size ≤ j := fun j hj => by
    rcases mem_ownL.1 hj with h1 | h1 | h1 | h1 | h1 | h1
    · exact .inl (mem_ownL.2 (.inl h1))
    · exact .inl (mem_ownL.2 (.inr (.inl (h1.trans e1))))
    · rcases hn with h2 | ⟨g, h2, h3⟩
      · exact .inl (mem_ownL.2 (.inr (.inr (.inl (h2 ▸ h1)))))
      · rw [h2] at h1
        cases h1
        exact .inr h3
    · exact .inl (mem_ownL.2 (.inr (.inr (.inr (.inl (e3 ▸ h1))))))
    · exact .inl (mem_ownL.2 (.inr (.inr (.inr (.inr (.inl h1))))))
    · exact .inl (mem_ownL.2 (.inr (.inr (.inr (.inr (.inr h1))))))
  have hFo : ∀ j, F j → j ∈ [R, c.nb] ++ c.nv.ownBlock.toList ∨ w.heap.size ≤ j := fun j hj => by
    rcases hF j hj with h1 | h1 | h1 | h1
    · exact .inl (by simp [h1])
    · exact .inl (by simp [h1])
    · exact .inl (by simp [h1])
    · exact .inr h1
  have hrest : ∀ j, j ∈ c.wv.ownBlock.toList ++ (fr.flatMap (fun f => f.k.own) ++ E) → ¬ F j := fun j hj hFj => by
    have hm : j ∈ ownL R c fr E := hold j (List.mem_cons_of_mem _ (List.mem_cons_of_mem _ hj))
    have hnd2 : ([R, c.nb] ++ c.nv.ownBlock.toList ++ (c.wv.ownBlock.toList ++ (fr.flatMap (fun f => f.k.own) ++ E))).Nodup := by simpa [ownL] using hnd
    rcases hFo j hFj with h1 | h1
    · exact (List.nodup_append.1 hnd2).2.2 j h1 j hj rfl
    · have := (hlt j hm).2; omega
  have hS : ∀ j, Still w (ownL R c fr E) j → ¬ F j := fun j hj hFj => by
    rcases hF j hFj with h1 | h1 | h1 | h1
    · exact hj.2 (mem_ownL.2 (.inl h1))
    · exact hj.2 (mem_ownL.2 (.inr (.inl h1)))
    · exact hj.2 (mem_ownL.2 (.inr (.inr (.inl h1))))
    · have := hj.1; omega
  have hS' : ∀ j, Still w (ownL R c fr E) j → Still w' (ownL R d fr E) j := fun j hj => ⟨Nat.lt_of_lt_of_le hj.1 hk.size, fun hm => by
    rcases hO j hm with h1 | h1
    · exact hj.2 h1
    · have := hj.1; omega⟩
  refine ⟨hd, e4.trans h.k, e5.trans h.n, e6.trans h.s, e7.trans h.sv, ?_, by rw [e1]; exact hnums, hnames, ?_, fun j hj => ?_, fun f hf => ?_, AT.mem_keeps hk h.soi hS h.som, AT.ins_mono hS' so h.soi⟩
  · rw [e3]
    exact row_keeps h.wait hk fun g hg => hrest g (by simp [hg])
  · unfold ownL
    rw [e1, e3]
    refine nodup_swap (o := c.nv.ownBlock) hnd ?_
    rcases hn with h2 | ⟨g, h2, h3⟩
    · exact .inl h2
    · exact .inr ⟨g, h2, fun hm => by have := (hlt g (hold g hm)).2; omega⟩
  · rcases hO j hj with h1 | h1
    · exact ⟨(hlt j h1).1, Nat.lt_of_lt_of_le (hlt j h1).2 hk.size⟩
    · refine ⟨Nat.le_trans hB h1, ?_⟩
      rcases mem_ownL.1 hj with h2 | h2 | h2 | h2 | ⟨f, hf, h2⟩ | h2
      · rw [h2]; exact hd.lt
      · have := (hlt _ (mem_ownL.2 (.inr (.inl (h2.trans e1))))).2; omega
      · exact (hnames.lt j h2).2
      · have := (hlt _ (mem_ownL.2 (.inr (.inr (.inr (.inl (e3 ▸ h2))))))).2; omega
      · have := (hlt _ (mem_ownL.2 (.inr (.inr (.inr (.inr (.inl ⟨f, hf, h2⟩))))))).2; omega
      · have := (hlt _ (mem_ownL.2 (.inr (.inr (.inr (.inr (.inr h2))))))).2; omega
  · refine KtA.mem_keeps (h.frs f hf) hk hS hS' fun j hj => hrest j ?_
    simp only [List.mem_append, List.mem_flatMap]
    exact .inr (.inl ⟨f, hf, hj⟩)
def VNumPost (B : Nat) (w : World) (R : Nat) (c : Rc) (fr : List FrA) (so : AT) (vs : List (ByteArray × Int)) (E : List Nat) (s : ByteArray) (e : Ending) (w' : World) : Prop :=
  ∃ n nv cnt vs', e = .returned (.int .i64 n) ∧ MemX B w' R { c with nv := nv, cnt := cnt } fr so vs' E ∧ Below B w w' ∧ (Keeps (fun j => j ∈ ownL R c fr E ∨ w.heap.size ≤ j) w w' ∧ ∀ j ∈ ownL R { c with nv := nv, cnt := cnt } fr E, j ∈ ownL R c fr E ∨ w.heap.size ≤ j) ∧
    ((fndV vs s = some n ∧ cnt = c.cnt ∧ vs' = vs) ∨ (fndV vs s = none ∧ n = c.cnt ∧ cnt = c.cnt + 1 ∧ vs' = if (s.data.toList == [95]) = true then vs else vs ++ [(s, c.cnt)]))
theorem MemX.cnt {B : Nat} {w : World} {R : Nat} {c : Rc} {fr : List FrA} {so : AT} {vs : List (ByteArray × Int)} {E : List Nat} (h : MemX B w R c fr so vs E) (x : Int) : MemX B (w.setCell ⟨R, 6, none⟩ (.int .i64 x)) R { c with cnt := x } fr so vs E :=
  h.keep (F := fun j => j = R) ((Keeps.refl (fun j => j = R) w).setCell (p := ⟨R, 6, none⟩) (.inl rfl) _) (fun _ hj => .inl hj) (h.rd.set 6 _ rfl) rfl rfl rfl rfl rfl rfl rfl
theorem MemX.R_low {B : Nat} {w : World} {R : Nat} {c : Rc} {fr : List FrA} {so : AT} {vs : List (ByteArray × Int)} {E : List Nat} (h : MemX B w R c fr so vs E) : B ≤ R := (h.low R (mem_ownL.2 (.inl rfl))).1
theorem MemX.apart {B : Nat} {w : World} {R : Nat} {c : Rc} {fr : List FrA} {so : AT} {vs : List (ByteArray × Int)} {E : List Nat} (h : MemX B w R c fr so vs E) : c.nb ≠ R ∧ c.nv.ownBlock ≠ some R ∧ c.nv.ownBlock ≠ some c.nb ∧ c.wv.ownBlock ≠ some R ∧ ∀ f ∈ fr, ∀ j ∈ f.k.own, j ≠ R := by
  have hnd := h.nodup
  unfold ownL at hnd
  obtain ⟨h1, h2⟩ := List.nodup_cons.1 hnd
  obtain ⟨h3, _⟩ := List.nodup_cons.1 h2
  simp only [List.mem_cons, List.mem_append, not_or, Option.mem_toList, List.mem_flatMap] at h1 h3
  refine ⟨fun e => h1.1 e.symm, h1.2.1, h3.1, h1.2.2.1, fun f hf j hj e => h1.2.2.2.1 ⟨f, hf, e ▸ hj⟩⟩
set_option maxRecDepth 100000 in
set_option maxHeartbeats 3200000 in
theorem vnumber_is (B : Nat) (w : World) (R : Nat) (c : Rc) (fr : List FrA) (so : AT) (vs : List (ByteArray × Int)) (E : List Nat) (s : ByteArray) (h : MemX B w R c fr so vs E) (hB : B ≤ w.heap.size) (hs : s.size ≤ 1000000) (h0 : 0 ≤ c.cnt) (h1 : c.cnt ≤ 1000000) (hl : vs.length ≤ 1000000) :
    Calls Tryz.prog 179 #[.pointer (some ⟨R, 4, none⟩), .string s] w (VNumPost B w R c fr so vs E s) := by
  obtain ⟨m, D, n1, n2, n3⟩ := h.nums
  have hsm : s.size ≤ maxLen := by unfold maxLen; omega
  obtain ⟨v1, v2⟩ := n3.2 s hsm
  have hlk : ∀ W, NM W c.nb m D → (Instr.lookup 108 (.map (some c.nb)) (.string s) true).run Tryz.prog W = .ok (.tuple #[.int .i64 ((fndV vs s).getD 0), .bool (fndV vs s).isSome]) W := fun W hW => look_name hW s _ _ hsm v2 v1
  have c4 := h.rd.c_nb
  have c6 := h.rd.c_cnt
  have z6 := h.rd.free 6
  have hap := h.apart
  obtain ⟨ct, hct⟩ : ∃ ct, c.cnt = ct := ⟨_, rfl⟩
  obtain ⟨nb, hnb⟩ : ∃ nb, c.nb = nb := ⟨_, rfl⟩
  cases hf : fndV vs s with
  | some n =>
    have hk := hlk w n1
    rw [hf, hnb] at hk
    rw [hnb] at c4
    simp only [Option.getD_some, Option.isSome_some] at hk
    have HH := Lib.hid h
    have HF := Lib.hid hf
    clear h n1 n2 n3 v1 v2 hlk hf c6 z6 hap hct hnb
    go_enter Tryz.func179, Tryz.ntmps179
    go_wp2_with fail
    go_ret
    exact ⟨n, c.nv, c.cnt, vs, rfl, HH.out, Below.refl _ _, ⟨Keeps.refl _ _, fun j hj => .inl hj⟩, .inl ⟨HF.out, rfl, rfl⟩⟩
  | none =>
    have hk := hlk w n1
    rw [hf, hnb] at hk
    rw [hnb] at c4
    simp only [Option.getD_none, Option.isSome_none] at hk
    have M1 := Lib.hid (h.cnt (ct + 1))
    have B1 := Lib.hid ((Below.refl B w).setCell (p := ⟨R, 6, none⟩) h.R_low (.int .i64 (ct + 1)))
    rw [hct] at c6 h0 h1
    by_cases hu : (s.toList == [95]) = true
    · have hu2 : (s.data.toList == [95]) = true := by rwa [← Lib.toList_data]
      have HF := Lib.hid hf
      clear h n1 n2 n3 v1 v2 hlk hf hap hnb
      go_enter Tryz.func179, Tryz.ntmps179
      go_wp2_with fail
      go_ret
      exact ⟨ct, c.nv, ct + 1, vs, rfl, M1.out, B1.out, ⟨(Keeps.refl _ w).setCell (p := ⟨R, 6, none⟩) (.inl (.inl (mem_ownL.2 (.inl rfl)))) _, fun j hj => .inl hj⟩, .inr ⟨HF.out, hct.symm, by rw [hct], by rw [if_pos hu2]⟩⟩
    · have hu2 : ¬ (s.data.toList == [95]) = true := by rwa [← Lib.toList_data]
      have hu3 : (s.toList == [95]) = false := by simpa using hu
      obtain ⟨i0, hi, hz0, _, hz1, hz2⟩ := info_some (show (Tryz.prog.info? 59).map (fun i => (i.zero, i.size, i.bytes)) = some (some (.agg #[.string ⟨#[]⟩, .int .i64 0]), 2, 24) by kernel_rfl)
      obtain ⟨W0, hW0⟩ : ∃ W0, w.setCell ⟨R, 6, none⟩ (.int .i64 (ct + 1)) = W0 := ⟨_, rfl⟩
      have n1' : NM W0 nb m D := by
        obtain ⟨es, clock, hb, r⟩ := n1
        refine ⟨es, clock, ?_, r⟩
        rw [← hW0, heap_set_ne (by rw [← hnb]; exact hap.1)]
        rw [← hnb]
        exact hb
      obtain ⟨w1, hrun, u1, u2⟩ := World.ownsMap.update (w := W0) n1' strKeyR Tryz.underlying108 (val := .int .i64 ct) (by unfold maxLen; omega) (keyOf_strR hsm) (plainElem_int Tryz.underlying2 (wf_64R (by omega) (by omega)))
      rw [hW0] at M1 B1
      have hRW : R < W0.heap.size := M1.out.rd.lt
      have hRn : R ≠ nb := by rw [← hnb]; exact hap.1.symm
      have R1 : Rd w1 R { c with cnt := ct + 1 } := M1.out.rd.same (u2.block R hRW (by simp; exact hRn))
      have K1 : Keeps (fun j => j = nb) W0 w1 := (Keeps.refl (fun j => j = nb) W0).grown u2 (fun k hk => by cases hk; exact .inl rfl)
      have own1 : w1.ownsRow B 59 2 c.nv vs.length (bindCells vs) := row_keeps M1.out.names K1 fun g hg e => hap.2.2.1 (by rw [hg, e, hnb])
      obtain ⟨va, vk, hv⟩ := owns_slice2 own1
      have hBw1 : B ≤ w1.heap.size := by have := u2.size; have := B1.out.size; omega
      have t5 := R1.c_nv
      have f5 := R1.free 5
      have hR1 := R1.lt
      have BB1 : Below B w w1 := B1.out.grown u2 (by have := B1.out.size; omega) (fun k hk => by cases hk; rw [← hnb]; exact (h.low _ (mem_ownL.2 (.inr (.inl rfl)))).1)
      have FIN : Hid (∀ w2 o w7 g cap, Below w1.heap.size w1 w2 → ((w2 : World).alloc o).grownBy w7 c.nv.ownBlock → (c.nv.ownBlock = some g ∨ g = w2.heap.size + 1) → w7.ownsRow B 59 2 (.slice (some ⟨g, 0, none⟩) (vs.length + 1) cap) (vs.length + 1) (bindCells vs ++ [.string s, .int .i64 ct]) →
          VNumPost B w R c fr so vs E s (.returned (.int .i64 ct)) (w7.setCell ⟨R, 5, none⟩ (.slice (some ⟨g, 0, none⟩) (vs.length + 1) cap))) := fun w2 o w7 g cap b2 hg hat hown => by
        have hsz : ((w2 : World).alloc o).heap.size = w2.heap.size + 1 := by simp
        have b2s := b2.size
        have hgR : g ≠ R := by
          rcases hat with hh | hh
          · exact fun e => hap.2.1 (by rw [hh, e])
          · omega
        have hgn : g ≠ nb := by
          rcases hat with hh | hh
          · exact fun e => hap.2.2.1 (by rw [hh, e, hnb])
          · have := u1.lt; omega
        have far : ∀ j, j < w1.heap.size → c.nv.ownBlock ≠ some j → w7.heap[j]? = w1.heap[j]? := fun j hj hne => by
          rw [hg.block j (by omega) (fun e => hne e.symm), Below.heap_alloc _ _ _ (by omega), b2.block j hj]
        have R7 : Rd w7 R { c with cnt := ct + 1 } := R1.same (far R hR1 hap.2.1)
        have K7 : Keeps (fun j => j = R ∨ j = c.nb ∨ c.nv.ownBlock = some j ∨ W0.heap.size ≤ j) W0 w7 :=
          (((((Keeps.refl (fun j => j = R ∨ j = c.nb ∨ c.nv.ownBlock = some j ∨ W0.heap.size ≤ j) W0).grown u2 (fun k hk => by cases hk; exact .inl (.inr (.inl hnb.symm)))).trans (keeps_below (F := fun _ => False) b2) (fun _ h => h.elim)).alloc o).grown hg (fun k hk => .inl (.inr (.inr (.inl hk)))))
        have hR8 := R7.set 5 (d := { c with nv := .slice (some ⟨g, 0, none⟩) (vs.length + 1) cap, cnt := ct + 1 }) (.slice (some ⟨g, 0, none⟩) (vs.length + 1) cap) rfl
        have hlen1 : (vs ++ [(s, ct)]).length = vs.length + 1 := by simp
        have K8 : Keeps (fun j => j ∈ ownL R c fr E ∨ w.heap.size ≤ j) w (w7.setCell ⟨R, 5, none⟩ (.slice (some ⟨g, 0, none⟩) (vs.length + 1) cap)) := by
          have k0 : Keeps (fun j => j ∈ ownL R c fr E ∨ w.heap.size ≤ j) w W0 := by
            rw [← hW0]
            exact (Keeps.refl _ w).setCell (p := ⟨R, 6, none⟩) (.inl (.inl (mem_ownL.2 (.inl rfl)))) _
          refine k0.trans (K7.setCell (p := ⟨R, 5, none⟩) (.inl (.inl rfl)) _) fun j hj => ?_
          rcases hj with h1 | h1 | h1 | h1
          · exact .inl (.inl (mem_ownL.2 (.inl h1)))
          · exact .inl (.inl (mem_ownL.2 (.inr (.inl h1))))
          · exact .inl (.inl (mem_ownL.2 (.inr (.inr (.inl h1)))))
          · exact .inr (by have := k0.size; omega)
        have hOw : ∀ j ∈ ownL R { c with nv := .slice (some ⟨g, 0, none⟩) (vs.length + 1) cap, cnt := ct + 1 } fr E, j ∈ ownL R c fr E ∨ w.heap.size ≤ j := fun j hj => by
          rcases mem_ownL.1 hj with h1 | h1 | h1 | h1 | h1 | h1
          · exact .inl (mem_ownL.2 (.inl h1))
          · exact .inl (mem_ownL.2 (.inr (.inl h1)))
          · simp [Value.ownBlock] at h1
            subst h1
            rcases hat with hh | hh
            · exact .inl (mem_ownL.2 (.inr (.inr (.inl hh))))
            · refine .inr ?_
              have q1 : w.heap.size = W0.heap.size := by rw [← hW0]; simp [World.setCell]
              have q2 := u2.size
              omega
          · exact .inl (mem_ownL.2 (.inr (.inr (.inr (.inl h1)))))
          · exact .inl (mem_ownL.2 (.inr (.inr (.inr (.inr (.inl h1))))))
          · exact .inl (mem_ownL.2 (.inr (.inr (.inr (.inr (.inr h1))))))
        refine ⟨ct, .slice (some ⟨g, 0, none⟩) (vs.length + 1) cap, ct + 1, vs ++ [(s, ct)], rfl, ?_, ?_, ⟨K8, hOw⟩, .inr ⟨hf, hct.symm, by rw [hct], by rw [if_neg hu2, hct]⟩⟩
        · refine M1.out.names' (F := fun j => j = R ∨ j = c.nb ∨ c.nv.ownBlock = some j ∨ W0.heap.size ≤ j) (K7.setCell (p := ⟨R, 5, none⟩) (.inl (.inl rfl)) _) (fun j hj => hj) hR8 (by have := B1.out.size; omega) rfl rfl rfl rfl rfl rfl ?_ ⟨m + 1, _, ?_, by rw [hlen1]; omega, varMap_put n3 hsm hf⟩ ?_
          · rcases hat with hh | hh
            · exact .inl hh.symm
            · refine .inr ⟨g, rfl, ?_⟩
              have := u2.size
              omega
          · obtain ⟨es, clock, hb, r⟩ := u1
            refine ⟨es, clock, ?_, r⟩
            show (w7.setCell _ _).heap[c.nb]? = _
            rw [hnb, heap_set_ne hRn.symm, far nb (heap_lt hb) (by rw [← hnb]; exact hap.2.2.1)]
            exact hb
          · rw [hlen1, bindCells_snoc]
            exact row_keeps (F := fun j => j = R) hown ((Keeps.refl (fun j => j = R) w7).setCell (p := ⟨R, 5, none⟩) (.inl rfl) _) fun g' hg' e => hgR (by simp [Value.ownBlock] at hg'; omega)
        · have b7 : Below B w w7 := ((BB1.trans (b2.mono hBw1)).alloc (by omega) o).grown hg (by omega) (fun k hk => (own1.lt k hk).1)
          exact b7.setCell (p := ⟨R, 5, none⟩) h.R_low _
      rw [hv] at t5 own1 FIN
      have CL := Lib.hid (fun W (bW : Below w1.heap.size w1 W) => (Trm.clone_is s W (by omega)).mono (R' := fun e w' => e = .returned (.string s) ∧ Hid (Below w1.heap.size w1 w') ∧ w'.cell? ⟨R, 5, none⟩ = some (.slice va vs.length vk) ∧ w'.frozen? ⟨R, 5, none⟩ = false ∧ R < w'.heap.size ∧ B ≤ w'.heap.size ∧ Hid (w'.ownsRow B 59 2 (.slice va vs.length vk) vs.length (bindCells vs))) fun e w' hh => by
        obtain ⟨rfl, b⟩ := hh
        have bb := bW.trans (b.mono bW.size)
        exact ⟨rfl, bb, (bb.cell (p := ⟨R, 5, none⟩) hR1).trans t5, (World.frozen?_of_block (bb.block R hR1)).trans f5, Nat.lt_of_lt_of_le hR1 bb.size, Nat.le_trans hBw1 bb.size, row_keeps (F := fun _ => False) own1 (keeps_below bb) (fun _ _ h => h)⟩)
      obtain ⟨vn, hvn⟩ : ∃ vn, vs.length = vn := ⟨_, rfl⟩
      rw [hvn] at t5 CL FIN hl
      have T7 := Lib.hid (fun (w2 : World) (hw2 : w2.cell? ⟨R, 5, none⟩ = some (.slice va vn vk)) (hz2 : w2.frozen? ⟨R, 5, none⟩ = false) (hlt : R < w2.heap.size) o (w7 : World) (hg : (w2.alloc o).grownBy w7 (Value.slice va vn vk).ownBlock) => show w7.cell? ⟨R, 5, none⟩ = some (.slice va vn vk) ∧ w7.frozen? ⟨R, 5, none⟩ = false from by
        have e : w7.heap[R]? = w2.heap[R]? := by
          rw [hg.block R (by simp; omega) (fun e => hap.2.1 (by rw [hv, hvn]; exact e.symm)), Below.heap_alloc _ _ _ hlt]
        exact ⟨(World.cell?_of_block e).trans hw2, (World.frozen?_of_block e).trans hz2⟩)
      have NEWS := Lib.hid (fun (W : World) (H : Nat) (hH : W.heap.size = H) => show ∀ j u, [Value.string s, .int .i64 ct][j]? = some u → (W.alloc (.cells #[.string s, .int .i64 ct] 59)).cell? ((⟨H, 0, none⟩ : Addr).add j) = some u from by
        subst hH
        exact World.news_of_block (heap_alloc_new W _))
      have ONE : Hid (∀ u ∈ [Value.string s, .int .i64 ct], u.oneCell' = true) := by
        show ∀ u ∈ [Value.string s, .int .i64 ct], u.oneCell' = true
        intro u hu
        simp at hu
        rcases hu with rfl | rfl <;> rfl
      have HV := Lib.hid hv
      clear h n1 n2 n3 v1 v2 hlk hf hap hnb n1' u1 u2 K1 own1 R1 BB1 M1 B1 hu hu2 hv
      subst hW0
      go_enter Tryz.func179, Tryz.ntmps179
      go_wp2_with fail
      go_region_law (first | (refine step_append_lies _ (by rfl) (.tmp 41) (.tmp 46) 35 (by rfl) B 59 i0 (.agg #[.string ⟨#[]⟩, .int .i64 0]) 2 24 Tryz.underlying35 hi hz0 hz1 hz2 (by rfl) (by decide) (.slice va vn vk) vn (bindCells vs) (by rfl) (OW.out.alloc _) ⟨w2.heap.size, 0, none⟩ 1 1 [.string s, .int .i64 ct] (by rfl) (by rfl) (NEWS.out _ _ (by simp)) ONE.out (by omega) (by unfold maxLen; omega) (by omega) (by simp; omega) (w2.heap.size + 1) (by simp) ?_; intro g cap w7 hown hgrow hat hlt2; obtain ⟨t7, f7⟩ := T7.out w2 t5' f5' lw5 _ w7 hgrow) | (go_simp; go_at_call 63; refine (CL.out _ (by first | exact Below.refl _ _ | exact (Below.refl _ _).drew)).mono ?_; rintro _ w2 ⟨rfl, B2, t5', f5', lw5, lB, OW⟩))
      all_goals
        have HF := FIN.out w2 _ w7 g cap B2.out hgrow hat hown
        have HFF := Lib.hid HF
        clear HF hown hgrow hat hlt2 FIN
        go_wp2
        go_ret
        exact HFF.out
end Go.Proofs.YtkplokfcjjcpcaaGreatDoor
end
