/- Compare is an order: the mathematics of cmpT; how great Good's terms are. Conditions: none. -/
import Derived.Test.YtkidcchafdiofaaTermZ
namespace Go.Proofs.Ytkidcchafdiofaa
open Go Go.RowKit

/-- what three answers of an order are to one another -/
def T3 (a b d : Int) : Prop := a ≤ 0 → b ≤ 0 → d ≤ 0 ∧ (d = 0 → a = 0 ∧ b = 0)
theorem t3_or {a b d a' b' d' : Int} (h : T3 a b d) (h' : T3 a' b' d') : T3 (if a ≠ 0 then a else a') (if b ≠ 0 then b else b') (if d ≠ 0 then d else d') := by
  unfold T3 at *
  intro h1 h2
  split at h1 <;> split at h2 <;> split <;> omega
theorem t3_int (x y z : Int) : T3 (Lib.compareInt x y) (Lib.compareInt y z) (Lib.compareInt x z) := by
  unfold T3 Lib.compareInt
  intro h1 h2
  split at h1 <;> split at h2 <;> split <;> (try split at h1) <;> (try split at h2) <;> (try split) <;> omega
theorem int_neg (x y : Int) : Lib.compareInt y x = - Lib.compareInt x y := by
  unfold Lib.compareInt
  split <;> split <;> (try split) <;> (try split) <;> omega
theorem int_rng (x y : Int) : Lib.compareInt x y = -1 ∨ Lib.compareInt x y = 0 ∨ Lib.compareInt x y = 1 := by
  unfold Lib.compareInt
  split
  · exact .inl rfl
  · split
    · exact .inr (.inr rfl)
    · exact .inr (.inl rfl)
theorem int_self (x : Int) : Lib.compareInt x x = 0 := by
  unfold Lib.compareInt
  rw [if_neg (by omega), if_neg (by omega)]

def cmpB : List UInt8 → List UInt8 → Int
  | [], [] => 0
  | [], _ :: _ => -1
  | _ :: _, [] => 1
  | a :: x, b :: y => if Lib.compareInt a.toNat b.toNat ≠ 0 then Lib.compareInt a.toNat b.toNat else cmpB x y
theorem cmpB_is : ∀ x y : List UInt8, (if Op.bytesLess x y = true then (-1 : Int) else if (x == y) = true then 0 else 1) = cmpB x y
  | [], [] => rfl
  | [], _ :: _ => rfl
  | _ :: _, [] => rfl
  | a :: x, b :: y => by
    rw [cmpB, ← cmpB_is x y]
    rw [show Op.bytesLess (a :: x) (b :: y) = (decide (a < b) || (a == b && Op.bytesLess x y)) from rfl]
    unfold Lib.compareInt
    rcases Nat.lt_trichotomy a.toNat b.toNat with h | h | h
    · have h1 : a < b := UInt8.lt_iff_toNat_lt.2 h
      have h2 : (a.toNat : Int) < b.toNat := by omega
      simp [h1, h2]
    · have h1 : a = b := UInt8.toNat_inj.1 h
      subst h1
      have h2 : ¬ a < a := fun h2 => by have := UInt8.lt_iff_toNat_lt.1 h2; omega
      simp [h2]
    · have h1 : ¬ a < b := fun h2 => by have := UInt8.lt_iff_toNat_lt.1 h2; omega
      have h2 : ¬ (a.toNat : Int) < b.toNat := by omega
      have h3 : (b.toNat : Int) < a.toNat := by omega
      have h4 : a ≠ b := fun h2 => by subst h2; omega
      simp [h1, h2, h3, h4]
theorem t3_bytes : ∀ x y z : List UInt8, T3 (cmpB x y) (cmpB y z) (cmpB x z)
  | [], [], [] => fun _ _ => ⟨by decide, fun _ => ⟨rfl, rfl⟩⟩
  | [], [], _ :: _ => fun _ _ => ⟨by simp [cmpB], fun h => by simp [cmpB] at h⟩
  | [], _ :: _, [] => fun _ h => by simp [cmpB] at h
  | [], _ :: _, _ :: _ => fun _ _ => ⟨by simp [cmpB], fun h => by simp [cmpB] at h⟩
  | _ :: _, [], _ => fun h _ => by simp [cmpB] at h
  | _ :: _, _ :: _, [] => fun _ h => by simp [cmpB] at h
  | a :: x, b :: y, c :: z => by
    rw [cmpB, cmpB, cmpB]
    exact t3_or (t3_int _ _ _) (t3_bytes x y z)
theorem bytes_neg : ∀ x y : List UInt8, cmpB y x = - cmpB x y
  | [], [] => rfl
  | [], _ :: _ => rfl
  | _ :: _, [] => rfl
  | a :: x, b :: y => by
    rw [cmpB, cmpB, int_neg a.toNat b.toNat, bytes_neg x y]
    split <;> split <;> omega
theorem bytes_rng : ∀ x y : List UInt8, cmpB x y = -1 ∨ cmpB x y = 0 ∨ cmpB x y = 1
  | [], [] => .inr (.inl rfl)
  | [], _ :: _ => .inl rfl
  | _ :: _, [] => .inr (.inr rfl)
  | a :: x, b :: y => by
    rw [cmpB]
    split
    · exact int_rng _ _
    · exact bytes_rng x y
theorem bytes_self : ∀ x : List UInt8, cmpB x x = 0
  | [] => rfl
  | a :: x => by rw [cmpB, int_self, if_neg (by omega), bytes_self x]
theorem cmpS_bytes (x y : ByteArray) : cmpS x y = cmpB x.toList y.toList := cmpB_is _ _

theorem t3_row (x y z : AT) : T3 (cmpRow x y) (cmpRow y z) (cmpRow x z) := by
  unfold cmpRow or4
  refine t3_or (t3_int _ _ _) (t3_or (t3_int _ _ _) (t3_or (t3_int _ _ _) ?_))
  rw [cmpS_bytes, cmpS_bytes, cmpS_bytes]
  exact t3_bytes _ _ _
theorem row_neg (x y : AT) : cmpRow y x = - cmpRow x y := by
  unfold cmpRow or4
  rw [int_neg x.k, int_neg x.n, int_neg (x.l.length : Int), cmpS_bytes, cmpS_bytes, bytes_neg x.s.toList]
  split <;> split <;> (try split) <;> (try split) <;> (try split) <;> (try split) <;> omega
theorem row_rng (x y : AT) : cmpRow x y = -1 ∨ cmpRow x y = 0 ∨ cmpRow x y = 1 := by
  unfold cmpRow or4
  split
  · exact int_rng _ _
  · split
    · exact int_rng _ _
    · split
      · exact int_rng _ _
      · rw [cmpS_bytes]; exact bytes_rng _ _
theorem row_eq {x y : AT} (h1 : x.k = y.k) (h2 : x.n = y.n) (h3 : x.l.length = y.l.length) (h4 : x.s = y.s) : cmpRow x y = 0 := by
  unfold cmpRow or4
  rw [h1, h2, h3, h4, int_self, int_self, int_self, cmpS_bytes, bytes_self]
  rfl

/-- just as many parts as are wanted -/
def Full : Nat → List AT → Prop
  | n, [] => n = 0
  | n, t :: r => 0 < n ∧ Full (n - 1 + t.l.length) r
mutual
theorem AT.fullP : ∀ (t : AT) (n : Nat) (r : List AT), Full n r → Full (n + t.l.length) (t.parts ++ r)
  | .mk _ _ _ _ _ _ l, n, r, h => ATs.fullP l n r h
theorem ATs.fullP : ∀ (l : List AT) (n : Nat) (r : List AT), Full n r → Full (n + l.length) (ATs.parts l ++ r)
  | [], n, r, h => h
  | t :: l, n, r, h => by
    rw [ATs.parts, List.cons_append, List.append_assoc]
    refine ⟨by simp <;> omega, ?_⟩
    rw [show n + (t :: l).length - 1 + t.l.length = n + l.length + t.l.length from by simp]
    exact AT.fullP t _ _ (ATs.fullP l n r h)
end
theorem full_one (x : AT) : Full 1 (x :: x.parts) := by
  refine ⟨by omega, ?_⟩
  have := AT.fullP x 0 [] rfl
  simpa using this

theorem parts_neg : ∀ l m : List AT, cmpP m l = - cmpP l m
  | [], [] => rfl
  | [], _ :: _ => rfl
  | _ :: _, [] => rfl
  | x :: l, y :: m => by
    rw [cmpP, cmpP, row_neg x y, parts_neg l m]
    split <;> split <;> omega
theorem parts_rng : ∀ l m : List AT, cmpP l m = -1 ∨ cmpP l m = 0 ∨ cmpP l m = 1
  | [], [] => .inr (.inl rfl)
  | [], _ :: _ => .inr (.inl rfl)
  | _ :: _, [] => .inr (.inl rfl)
  | x :: l, y :: m => by
    rw [cmpP]
    split
    · exact row_rng _ _
    · exact parts_rng l m
theorem t3_parts : ∀ (n : Nat) (l m o : List AT), Full n l → Full n m → Full n o → T3 (cmpP l m) (cmpP m o) (cmpP l o)
  | n, [], [], [], _, _, _ => fun _ _ => ⟨by simp [cmpP], fun _ => ⟨rfl, rfl⟩⟩
  | n, [], [], _ :: _, h, _, h2 => by have h3 : n = 0 := h; have := h2.1; omega
  | n, [], _ :: _, _, h, h2, _ => by have h3 : n = 0 := h; have := h2.1; omega
  | n, _ :: _, [], _, h2, h, _ => by have h3 : n = 0 := h; have := h2.1; omega
  | n, _ :: _, _ :: _, [], h2, _, h => by have h3 : n = 0 := h; have := h2.1; omega
  | n, x :: l, y :: m, z :: o, h1, h2, h3 => by
    rw [cmpP, cmpP, cmpP]
    by_cases hxy : cmpRow x y = 0
    · by_cases hyz : cmpRow y z = 0
      · have e1 := (cmpRow_zero hxy).2.2.1
        have e2 := (cmpRow_zero hyz).2.2.1
        have f2 := h2.2
        have f3 := h3.2
        rw [← e1] at f2
        rw [← e2, ← e1] at f3
        exact t3_or (t3_row x y z) (t3_parts _ l m o h1.2 f2 f3)
      · have h := t3_row x y z
        unfold T3 at h ⊢
        rw [if_pos hyz]
        intro h4 h5
        have h6 := h (by omega) h5
        rw [if_pos (by intro h7; exact hyz (h6.2 h7).2)]
        exact ⟨h6.1, fun h7 => absurd (h6.2 h7).2 hyz⟩
    · have h := t3_row x y z
      unfold T3 at h ⊢
      rw [if_pos hxy]
      intro h4 h5
      have h5' : cmpRow y z ≤ 0 := by
        split at h5 <;> omega
      have h6 := h h4 h5'
      rw [if_pos (by intro h7; exact hxy (h6.2 h7).1)]
      exact ⟨h6.1, fun h7 => absurd (h6.2 h7).1 hxy⟩

mutual
theorem AT.cmp_same : ∀ (t u : AT) (r r' : List AT), cmpP (t :: (t.parts ++ r)) (u :: (u.parts ++ r')) = 0 ↔ (t.same u = true ∧ cmpP r r' = 0)
  | .mk k n s sv G off l, u, r, r' => by
    rw [cmpP]
    by_cases h : cmpRow (.mk k n s sv G off l) u = 0
    · rw [if_neg (by simp [h])]
      obtain ⟨h1, h2, h3, h4⟩ := cmpRow_zero h
      have h3' : l.length = u.l.length := h3
      have := ATs.cmp_same l u.l r r' h3'
      rw [show u.parts = ATs.parts u.l from by cases u; rfl, AT.parts, this, AT.same]
      have h1' : k = u.k := h1
      have h2' : n = u.n := h2
      have h4' : s = u.s := h4
      simp [h1', h2', h3', h4']
    · rw [if_pos h]
      refine ⟨fun h2 => absurd h2 h, fun h2 => absurd ?_ h⟩
      have h3 := h2.1
      rw [AT.same] at h3
      simp only [Bool.and_eq_true, beq_iff_eq] at h3
      obtain ⟨⟨⟨⟨a1, a2⟩, a3⟩, a4⟩, _⟩ := h3
      rw [ByteArray.toList_eq, ByteArray.toList_eq] at a3
      exact row_eq a1 a2 a4 (WideShapes.bytes_inj a3)
theorem ATs.cmp_same : ∀ (l m : List AT) (r r' : List AT), l.length = m.length → (cmpP (ATs.parts l ++ r) (ATs.parts m ++ r') = 0 ↔ (ATs.same l m = true ∧ cmpP r r' = 0))
  | [], [], r, r', _ => by simp [ATs.parts, ATs.same]
  | [], _ :: _, _, _, h => by simp at h
  | _ :: _, [], _, _, h => by simp at h
  | t :: l, u :: m, r, r', h => by
    rw [ATs.parts, ATs.parts, List.cons_append, List.cons_append, List.append_assoc, List.append_assoc, AT.cmp_same t u, ATs.cmp_same l m r r' (by simpa using h), ATs.same, Bool.and_eq_true, and_assoc]
end

theorem cmp_zero (x y : AT) : cmpT x y = 0 ↔ x.same y = true := by
  have := AT.cmp_same x y [] []
  simpa [cmpT, cmpP] using this
theorem cmp_neg (x y : AT) : cmpT y x = - cmpT x y := parts_neg _ _
theorem cmp_rng (x y : AT) : cmpT x y = -1 ∨ cmpT x y = 0 ∨ cmpT x y = 1 := parts_rng _ _
theorem cmp_t3 (x y z : AT) : T3 (cmpT x y) (cmpT y z) (cmpT x z) := t3_parts 1 _ _ _ (full_one x) (full_one y) (full_one z)
theorem cmp_self (x : AT) : cmpT x x = 0 := by have := cmp_neg x x; omega

theorem Tm.nodes_pos (t : Tm) : 1 ≤ t.nodes := by cases t; rw [Tm.nodes]; omega
mutual
theorem mendT_nodes : ∀ t : Tm, (mendT t).nodes ≤ t.nodes
  | .mk k n s l => by
    have h0 : 1 ≤ (Tm.mk k n s l).nodes := Tm.nodes_pos _
    have h1 := mendL_nodes l
    rw [mendT]
    split
    · exact h0
    · split
      · exact h0
      · split
        · exact h0
        · split
          · exact h0
          · split
            · split
              · exact h0
              · rw [Tm.nodes, Tm.nodes]; omega
            · exact h0
theorem mendL_nodes : ∀ l : List Tm, Tms.nodes (mendL l) ≤ Tms.nodes l
  | [] => Nat.le_refl _
  | t :: r => by
    have h1 := mendT_nodes t
    have h2 := mendL_nodes r
    rw [mendL, Tms.nodes, Tms.nodes]; omega
end
theorem good_nodes (ps : List PRow) : (goodT ps).nodes ≤ 8 * ps.length + 1 := by
  have h1 := mendT_nodes (ofT ps.length ps).1
  have h2 := ofT_le ps.length ps
  unfold goodT
  omega

end Go.Proofs.Ytkidcchafdiofaa
