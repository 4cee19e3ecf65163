/- Size, Deep and Check: what is told of the parts, one by one. Conditions: what memory holds of the term; at most 900000 parts. -/
import Derived.Test.YtkidcchafdiofaaTermE
import Derived.BigGuardPart
namespace Go.Proofs.Ytkidcchafdiofaa
open Go Go.RowKit

/-- what was told of the parts so far stands at block q -/
def MeasAt (w : World) (q : Nat) (p d : Int) (b : Bool) : Prop := w.heap[q]? = some (.cells #[.int .i64 p, .int .i64 d, .bool b] 53 (0, 0))
def TakePost (w : World) (q : Nat) (p d : Int) (b : Bool) (e : Ending) (w' : World) : Prop := e = .returned (.bool true) ∧ MeasAt w' q p d b ∧ Keeps (fun j => j = q) w w'

set_option maxRecDepth 100000 in
set_option maxHeartbeats 800000 in
theorem take_is (q : Nat) (p d e : Int) (b : Bool) (pt : Value) (w : World) (hm : MeasAt w q p d b) (h0 : 0 ≤ p) (h1 : p ≤ 1000000) :
    Calls Try.prog 36 #[.pointer (some ⟨q, 0, none⟩), pt, .int .i64 e] w (TakePost w q (p + 1) (max d e) b) := by
  have c0 := cell_of_heap (o := 0) hm rfl
  have c1 := cell_of_heap (o := 1) hm rfl
  have z0 := free_of_heap (o := 0) hm
  have z1 := free_of_heap (o := 1) hm
  have HM := Lib.hid hm
  clear hm
  have hf : ∀ x : Int, TakePost w q (p + 1) x b (.returned (.bool true)) ((w.setCell ⟨q, 0, none⟩ (.int .i64 (p + 1))).setCell ⟨q, 1, none⟩ (.int .i64 x)) := fun x =>
    ⟨rfl, by unfold MeasAt; rw [heap_set (heap_set HM.out _) _]; rfl, ((Keeps.refl (fun j => j = q) w).setCell (p := ⟨q, 0, none⟩) (.inl rfl) _).setCell (p := ⟨q, 1, none⟩) (.inl rfl) _⟩
  have HF := Lib.hid hf
  clear hf
  go_enter Try.func36, Try.ntmps36
  go_wp2
  go_ret
  exact HF.out _

/-- a part's cells -/
structure RowAt (w : World) (B o : Nat) (k n : Int) (s : ByteArray) (a : Nat) : Prop where
  k : w.cell? ⟨B, o, none⟩ = some (.int .i64 k)
  n : w.cell? ⟨B, o + 1, none⟩ = some (.int .i64 n)
  s : w.cell? ⟨B, o + 2, none⟩ = some (.string s)
  a : ∃ ad cap, w.cell? ⟨B, o + 3, none⟩ = some (.slice ad a cap) ∧ a ≤ cap
/-- may a part be, whatever its Args are? -/
def mayB (k n : Int) (s : ByteArray) (a : Nat) : Bool :=
  if k = 1 then decide (0 ≤ n) && s.toList.isEmpty && a == 0 else if k = 2 then s.toList.isEmpty && a == 0
  else if k = 3 then n == 0 && decide (s.size ≤ 1000) && a == 0 else if k = 4 then n == 0 && decide (s.size ≤ 1000) && decide (1 ≤ a) && decide (a ≤ 255) else false

set_option maxRecDepth 100000 in
set_option maxHeartbeats 1600000 in
theorem may_is (B o : Nat) (k n : Int) (s : ByteArray) (a : Nat) (w : World) (h : RowAt w B o k n s a) :
    Calls Try.prog 49 #[.pointer (some ⟨B, o, none⟩)] w fun e w' => e = .returned (.bool (mayB k n s a)) ∧ w = w' := by
  obtain ⟨c0, c1, c2, ad, cap, c3, hc⟩ := h
  obtain ⟨r, hr⟩ : ∃ r, mayB k n s a = r := ⟨_, rfl⟩
  rw [hr]
  have HR := Lib.hid hr
  clear hr
  go_enter Try.func49, Try.ntmps49
  go_wp2
  all_goals
    go_ret
    refine ⟨congrArg (fun b => Ending.returned (Value.bool b)) ?_, rfl⟩
    rw [← HR.out]
    clear HR c0 c1 c2 c3
    simp only [beq_iff_eq, beq_eq_false_iff_ne, ne_eq] at *
    unfold mayB
    first | (simp [*]; done) | (rw [Bool.eq_iff_iff]; simp [*]; first | done | omega)

def CheckPost (w : World) (q : Nat) (p d e : Int) (r : Bool) (en : Ending) (w' : World) : Prop :=
  en = .returned (.bool r) ∧ MeasAt w' q (if r then p + 1 else p) (if r then max d e else d) (!r) ∧ Keeps (fun j => j = q) w w'
set_option maxRecDepth 100000 in
set_option maxHeartbeats 800000 in
theorem check_is (q B o : Nat) (p d e : Int) (b : Bool) (k n : Int) (s : ByteArray) (a : Nat) (w : World) (hm : MeasAt w q p d b) (h : RowAt w B o k n s a) (h0 : 0 ≤ p) (h1 : p ≤ 1000000) :
    Calls Try.prog 34 #[.pointer (some ⟨q, 0, none⟩), .pointer (some ⟨B, o, none⟩), .int .i64 e] w (CheckPost w q p d e (mayB k n s a)) := by
  have c2 := cell_of_heap (o := 2) hm rfl
  have z2 := free_of_heap (o := 2) hm
  have M := Lib.hid (may_is B o k n s a w h)
  obtain ⟨r, hr⟩ : ∃ r, mayB k n s a = r := ⟨_, rfl⟩
  rw [hr] at M ⊢
  have hm1 : MeasAt (w.setCell ⟨q, 2, none⟩ (.bool (!r))) q p d (!r) := by unfold MeasAt; rw [heap_set hm]; rfl
  have T := Lib.hid (take_is q p d e (!r) (.pointer (some ⟨B, o, none⟩)) (w.setCell ⟨q, 2, none⟩ (.bool (!r))) hm1 h0 h1)
  have hk : Keeps (fun j => j = q) w (w.setCell ⟨q, 2, none⟩ (.bool (!r))) := (Keeps.refl (fun j => j = q) w).setCell (p := ⟨q, 2, none⟩) (.inl rfl) _
  have HK := Lib.hid hk
  have HM1 := Lib.hid hm1
  clear hm h hr hk hm1
  cases r
  · go_enter Try.func34, Try.ntmps34
    go_wp2_with fail
    refine M.out.mono ?_
    rintro _ _ ⟨rfl, rfl⟩
    go_wp2
    go_ret
    exact ⟨rfl, HM1.out, HK.out⟩
  · go_enter Try.func34, Try.ntmps34
    go_wp2_with fail
    refine M.out.mono ?_
    rintro _ _ ⟨rfl, rfl⟩
    go_wp2_with fail
    refine T.out.mono ?_
    rintro _ w2 ⟨rfl, t1, t2⟩
    have HT := Lib.hid t1
    have HT2 := Lib.hid t2
    clear t1 t2
    go_wp2
    go_ret
    exact ⟨rfl, HT.out, HK.out.trans HT2.out (fun j hj => .inl hj)⟩

/-- what memory holds of a part, whole -/
def FullOk (w : World) (x : Nd) : Prop := Head w x.B x.o x.t ∧ SvOk x.t.sv x.t.G x.t.off x.t.l.length
theorem FullOk.nd {w : World} {x : Nd} (h : FullOk w x) : NdOk w x := ⟨h.1.1, h.1.2.2.2.2, h.2⟩
theorem FullOk.row {w : World} {x : Nd} (h : FullOk w x) : RowAt w x.B x.o x.t.k x.t.n x.t.s x.t.l.length := by
  refine ⟨h.1.2.1, h.1.2.2.1, h.1.2.2.2.1, ?_⟩
  have h3 := h.1.2.2.2.2
  rcases h.2 with ⟨h1, h2⟩ | ⟨c, h1, h2, _⟩
  · rw [h1] at h3; exact ⟨none, 0, by rw [h2]; exact h3, by omega⟩
  · rw [h1] at h3; exact ⟨_, c, h3, h2⟩
theorem Head.same {w w' : World} {B o : Nat} {t : AT} (h : Head w B o t) (hh : w'.heap[B]? = w.heap[B]?) : Head w' B o t :=
  ⟨h.1.same hh, (World.cell?_of_block hh).trans h.2.1, (World.cell?_of_block hh).trans h.2.2.1, (World.cell?_of_block hh).trans h.2.2.2.1, (World.cell?_of_block hh).trans h.2.2.2.2⟩
theorem FullOk.kept {F : Nat → Prop} {w w' : World} {x : Nd} (h : FullOk w x) (hk : Keeps F w w') (hF : ¬ F x.B) : FullOk w' x := ⟨h.1.same (hk.block _ h.1.1.lt hF), h.2⟩
mutual
theorem AT.full {w : World} : ∀ (t : AT) (d : Nat), t.mem w → ∀ x ∈ t.flat d, FullOk w x
  | .mk _ _ _ _ G off l, d, hm => ATs.full l d off G hm.2
theorem ATs.full {w : World} : ∀ (l : List AT) (d off G : Nat), ATs.mem w G l off → ∀ x ∈ ATs.flat G d l off, FullOk w x
  | [], _, _, _, _ => fun x hx => by cases hx
  | t :: r, d, off, G, hm => fun x hx => by
    rw [ATs.flat, List.mem_cons, List.mem_append] at hx
    rcases hx with rfl | hx | hx
    · exact ⟨hm.1, (AT.mem_mk.1 hm.2.1).1⟩
    · exact AT.full t (d + 1) hm.2.1 x hx
    · exact ATs.full r d (off + 4) G hm.2.2 x hx
end

/-- a state that stands in blocks of its own, and in those that were there ahead of the way -/
structure Own (H0 : Nat) (S : Nat → World → (Nat → Prop) → Prop) : Prop where
  lt : ∀ i w F, S i w F → ∀ j, F j → j < w.heap.size
  stay : ∀ i w w' F, S i w F → w.heap.size ≤ w'.heap.size → (∀ j, (F j ∨ j < H0) → w'.heap[j]? = w.heap[j]?) → S i w' F
def CInv (H0 : Nat) (L : List Nd) (S : Nat → World → (Nat → Prop) → Prop) (i : Nat) (w : World) (F : Nat → Prop) : Prop :=
  (∀ x ∈ L, FullOk w x ∧ x.B < H0 ∧ ¬ F x.B) ∧ H0 ≤ w.heap.size ∧ S i w F
theorem cb_of {K : Nat} {pv : Value} {L : List Nd} {H0 : Nat} {S : Nat → World → (Nat → Prop) → Prop} {go : Nat → Bool} (ho : Own H0 S)
    (hc : ∀ i w F x, S i w F → (∀ y ∈ L, FullOk w y ∧ ¬ F y.B) → H0 ≤ w.heap.size → (∀ j, j < i → go j = true) → L[i]? = some x → Calls Try.prog K #[pv, .pointer (some ⟨x.B, x.o, none⟩), .int .i64 x.d] w (CBPost S go i w F)) : CB K pv L H0 (CInv H0 L S) go where
  lt := fun i w F h => ho.lt i w F h.2.2
  ok := fun i w F h x hx => ⟨(h.1 x hx).1.nd, (h.1 x hx).2.1⟩
  stay := fun i w w' F G h hk hG => by
    refine ⟨fun x hx => ⟨(h.1 x hx).1.kept hk (fun hg => by have := (hG _ hg).2; have := (h.1 x hx).2.1; omega), (h.1 x hx).2⟩, Nat.le_trans h.2.1 hk.size, ho.stay i w w' F h.2.2 hk.size (fun j hj => ?_)⟩
    rcases hj with hj | hj
    · exact hk.block j (ho.lt i w F h.2.2 j hj) (fun hg => (hG j hg).1 hj)
    · exact hk.block j (Nat.lt_of_lt_of_le hj h.2.1) (fun hg => by have := (hG j hg).2; omega)
  call := fun i w F x h hg hx => (hc i w F x h.2.2 (fun y hy => ⟨(h.1 y hy).1, (h.1 y hy).2.2⟩) h.2.1 hg hx).mono fun e w' hp => by
    obtain ⟨h1, F', h2, h3, h4⟩ := hp
    refine ⟨h1, F', ⟨fun y hy => ⟨(h.1 y hy).1.kept h3 (h.1 y hy).2.2, (h.1 y hy).2.1, fun hF => ?_⟩, Nat.le_trans h.2.1 h3.size, h2⟩, h3, h4⟩
    rcases h4 _ hF with h5 | h5
    · exact (h.1 y hy).2.2 h5
    · have := (h.1 y hy).2.1
      have := h.2.1
      omega

end Go.Proofs.Ytkidcchafdiofaa
