/- Numbering: the mathematics. Conditions: none. -/
import Derived.Test.YtkidcchafdiofaaTermAg
namespace Go.Proofs.Ytkidcchafdiofaa
open Go Go.RowKit

/-- one more variable, if it is new -/
def meetP (vs : List Int) (x : Int × Int) : List Int := if x.1 = 1 ∧ x.2 ∉ vs then vs ++ [x.2] else vs
def numP (vs : List Int) (x : Int × Int) : Int × Int := (x.1, if x.1 = 1 then (vs.idxOf x.2 : Int) else x.2)
def upTo (m : Nat) : List Int := (List.range m).map fun i : Nat => (i : Int)
theorem upTo_succ (m : Nat) : upTo (m + 1) = upTo m ++ [(m : Int)] := by simp [upTo, List.range_succ]
theorem mem_upTo {m i : Nat} : ((i : Int) ∈ upTo m) ↔ i < m := by
  unfold upTo
  rw [List.mem_map]
  constructor
  · rintro ⟨j, hj, he⟩
    have := List.mem_range.1 hj
    omega
  · exact fun h => ⟨i, List.mem_range.2 h, rfl⟩
theorem meetP_pre (vs : List Int) (x : Int × Int) : ∃ r, meetP vs x = vs ++ r := by
  unfold meetP
  split
  · exact ⟨_, rfl⟩
  · exact ⟨[], by simp⟩
theorem fold_pre (l : List (Int × Int)) : ∀ vs, ∃ r, l.foldl meetP vs = vs ++ r := by
  induction l with
  | nil => exact fun vs => ⟨[], by simp⟩
  | cons x l ih =>
    intro vs
    obtain ⟨r, h⟩ := meetP_pre vs x
    obtain ⟨r', h'⟩ := ih (meetP vs x)
    exact ⟨r ++ r', by rw [List.foldl_cons, h', h, List.append_assoc]⟩
theorem fold_num (V : List Int) (l : List (Int × Int)) : ∀ vs, (∃ r, V = l.foldl meetP vs ++ r) → (l.map (numP V)).foldl meetP (upTo vs.length) = upTo (l.foldl meetP vs).length := by
  induction l with
  | nil => exact fun vs _ => rfl
  | cons x l ih =>
    intro vs hV
    obtain ⟨r, hr⟩ := hV
    rw [List.foldl_cons] at hr
    rw [List.map_cons, List.foldl_cons, List.foldl_cons]
    obtain ⟨r1, h1⟩ := fold_pre l (meetP vs x)
    have hm : meetP (upTo vs.length) (numP V x) = upTo (meetP vs x).length := by
      obtain ⟨k, n⟩ := x
      unfold numP
      by_cases hk : k = 1
      · subst hk
        by_cases hn : n ∈ vs
        · have e1 : meetP vs (1, n) = vs := by unfold meetP; rw [if_neg (by simp [hn])]
          rw [e1] at h1 ⊢
          have hi : V.idxOf n < vs.length := by
            rw [hr, e1, h1, List.append_assoc, List.idxOf_append, if_pos hn]
            exact List.idxOf_lt_length_of_mem hn
          unfold meetP
          rw [if_neg (fun h => h.2 (by simpa using mem_upTo.2 hi))]
        · have e1 : meetP vs (1, n) = vs ++ [n] := by unfold meetP; rw [if_pos ⟨rfl, hn⟩]
          rw [e1] at h1 ⊢
          have hi : V.idxOf n = vs.length := by
            rw [hr, e1, h1, List.append_assoc, List.append_assoc, List.idxOf_append, if_neg hn]
            simp
          unfold meetP
          simp only [if_true, hi]
          rw [if_pos ⟨trivial, fun h => Nat.lt_irrefl _ (mem_upTo.1 h)⟩, List.length_append, List.length_singleton, upTo_succ]
      · have e1 : meetP vs (k, n) = vs := by unfold meetP; rw [if_neg (fun h => hk h.1)]
        rw [e1]
        unfold meetP
        rw [if_neg (fun h => hk h.1)]
    rw [hm]
    exact ih (meetP vs x) ⟨r, hr⟩

theorem fold_same (l : List (Int × Int)) (m : Nat) (h : ∀ x ∈ l, x.1 = 1 → 0 ≤ x.2 ∧ x.2 < m) : ∀ x ∈ l, numP (upTo m) x = x := fun x hx => by
    obtain ⟨k, n⟩ := x
    unfold numP
    by_cases hk : k = 1
    · subst hk
      obtain ⟨h1, h2⟩ := h _ hx rfl
      simp only at h1 h2
      obtain ⟨i, rfl⟩ : ∃ i : Nat, n = i := ⟨n.toNat, by omega⟩
      have hi : i < m := by omega
      have : (upTo m).idxOf (i : Int) = i := by
        have hg : (upTo m)[i]? = some (i : Int) := by simp [upTo, hi]
        have hn : (upTo m).Nodup := by
          unfold upTo
          exact List.Pairwise.map _ (fun a b hab he => hab (by omega)) List.nodup_range
        obtain ⟨hl, he⟩ := List.getElem?_eq_some_iff.1 hg
        have := hn.idxOf_getElem i hl
        rw [he] at this
        exact this
      rw [if_pos rfl, this]
    · rw [if_neg hk]

mutual
/-- kinds and numbers, part by part -/
def Tm.kns : Tm → List (Int × Int)
  | .mk k n _ l => (k, n) :: Tms.kns l
def Tms.kns : List Tm → List (Int × Int)
  | [] => []
  | t :: r => Tm.kns t ++ Tms.kns r
end
def knA (t : AT) : Int × Int := (t.k, t.n)
mutual
theorem AT.kns : ∀ t : AT, (t :: t.parts).map knA = t.erase.kns
  | .mk k n s sv G off l => by
    have := ATs.kns l
    rw [AT.parts, AT.erase, Tm.kns, List.map_cons, this]; rfl
theorem ATs.kns : ∀ l : List AT, (ATs.parts l).map knA = Tms.kns (ATs.erase l)
  | [] => rfl
  | t :: r => by
    have h1 := AT.kns t
    rw [ATs.parts, ATs.erase, Tms.kns, ← h1, ← ATs.kns r, ← List.cons_append, List.map_append]
end
theorem vars_kns (t : AT) : varsT t = t.erase.kns.foldl meetP [] := by
  rw [← AT.kns, varsT, List.foldl_map]
  rfl
mutual
theorem Tm.kns_ren (vs : List Int) : ∀ t : Tm, (t.ren vs).kns = t.kns.map (numP vs)
  | .mk k n s l => by rw [Tm.ren, Tm.kns, Tm.kns, Tms.kns_ren vs l]; rfl
theorem Tms.kns_ren (vs : List Int) : ∀ l : List Tm, Tms.kns (Tms.ren vs l) = (Tms.kns l).map (numP vs)
  | [] => rfl
  | t :: r => by rw [Tms.ren, Tms.kns, Tms.kns, Tm.kns_ren vs t, Tms.kns_ren vs r, List.map_append]
end
/-- a numbered term's variables are 0, 1, and so on -/
theorem num_vars {t u : AT} (h : u.erase = t.erase.ren (varsT t)) : varsT u = upTo (varsT t).length := by
  rw [vars_kns u, h, Tm.kns_ren]
  have := fold_num (varsT t) t.erase.kns [] ⟨[], by rw [List.append_nil, vars_kns]⟩
  rw [show upTo ([] : List Int).length = [] from rfl, ← vars_kns t] at this
  exact this
mutual
theorem Tm.ren_same (vs : List Int) : ∀ t : Tm, (∀ x ∈ t.kns, numP vs x = x) → t.ren vs = t
  | .mk k n s l, h => by
    have h0 := h (k, n) (by rw [Tm.kns]; exact List.mem_cons_self)
    unfold numP at h0
    simp only [Prod.mk.injEq, true_and] at h0
    rw [Tm.ren, h0, Tms.ren_same vs l (fun x hx => h x (by rw [Tm.kns]; exact List.mem_cons_of_mem _ hx))]
theorem Tms.ren_same (vs : List Int) : ∀ l : List Tm, (∀ x ∈ Tms.kns l, numP vs x = x) → Tms.ren vs l = l
  | [], _ => rfl
  | t :: r, h => by
    rw [Tms.ren, Tm.ren_same vs t (fun x hx => h x (by rw [Tms.kns]; exact List.mem_append_left _ hx)), Tms.ren_same vs r (fun x hx => h x (by rw [Tms.kns]; exact List.mem_append_right _ hx))]
end

theorem fold_has (l : List (Int × Int)) : ∀ vs, (∀ n ∈ vs, n ∈ l.foldl meetP vs) ∧ ∀ y ∈ l, y.1 = 1 → y.2 ∈ l.foldl meetP vs := by
  induction l with
  | nil => exact fun vs => ⟨fun n h => h, fun y hy => by cases hy⟩
  | cons x l ih =>
    intro vs
    obtain ⟨h1, h2⟩ := ih (meetP vs x)
    obtain ⟨r, hr⟩ := meetP_pre vs x
    refine ⟨fun n h => h1 n (by rw [hr]; exact List.mem_append_left _ h), fun y hy hk => ?_⟩
    rcases List.mem_cons.1 hy with rfl | hy
    · refine h1 _ ?_
      unfold meetP
      by_cases hn : y.2 ∈ vs
      · rw [if_neg (fun h => h.2 hn)]; exact hn
      · rw [if_pos ⟨hk, hn⟩]; simp
    · exact h2 y hy hk
/-- numbered twice is numbered once -/
theorem num_twice {t u : AT} (h : u.erase = t.erase.ren (varsT t)) : u.erase.ren (varsT u) = u.erase := by
  rw [num_vars h]
  refine Tm.ren_same _ _ (fold_same _ _ (fun x hx hk => ?_))
  rw [h, Tm.kns_ren] at hx
  obtain ⟨y, hy, rfl⟩ := List.mem_map.1 hx
  have hk' : y.1 = 1 := hk
  have hm : y.2 ∈ varsT t := by rw [vars_kns]; exact (fold_has t.erase.kns []).2 y hy hk'
  have hlt := List.idxOf_lt_length_of_mem hm
  unfold numP
  rw [if_pos hk']
  simp only
  omega
mutual
def Tm.dp : Tm → Nat
  | .mk _ _ _ l => Tms.dp l + 1
def Tms.dp : List Tm → Nat
  | [] => 0
  | t :: r => max (Tm.dp t) (Tms.dp r)
end
mutual
theorem AT.dp_erase : ∀ t : AT, t.erase.dp = t.dp
  | .mk _ _ _ _ _ _ l => by rw [AT.erase, Tm.dp, AT.dp, ATs.dp_erase l]
theorem ATs.dp_erase : ∀ l : List AT, Tms.dp (ATs.erase l) = ATs.dp l
  | [] => rfl
  | t :: r => by rw [ATs.erase, Tms.dp, ATs.dp, AT.dp_erase t, ATs.dp_erase r]
end
mutual
theorem Tm.dp_ren (vs : List Int) : ∀ t : Tm, (t.ren vs).dp = t.dp ∧ (t.ren vs).nodes = t.nodes
  | .mk _ _ _ l => by rw [Tm.ren, Tm.dp, Tm.dp, Tm.nodes, Tm.nodes, (Tms.dp_ren vs l).1, (Tms.dp_ren vs l).2]; exact ⟨rfl, rfl⟩
theorem Tms.dp_ren (vs : List Int) : ∀ l : List Tm, Tms.dp (Tms.ren vs l) = Tms.dp l ∧ Tms.nodes (Tms.ren vs l) = Tms.nodes l
  | [] => ⟨rfl, rfl⟩
  | t :: r => by rw [Tms.ren, Tms.dp, Tms.dp, Tms.nodes, Tms.nodes, (Tm.dp_ren vs t).1, (Tm.dp_ren vs t).2, (Tms.dp_ren vs r).1, (Tms.dp_ren vs r).2]; exact ⟨rfl, rfl⟩
end
/-- size and depth stay -/
theorem num_dims {t u : AT} (h : u.erase = t.erase.ren (varsT t)) : u.dp = t.dp ∧ u.nodes = t.nodes := by
  rw [← AT.dp_erase, ← AT.nodes_erase, h, ← AT.dp_erase t, ← AT.nodes_erase t]
  exact Tm.dp_ren _ _
mutual
/-- what a predicate says of all parts -/
def Tm.all (p : Int → Int → ByteArray → Prop) : Tm → Prop
  | .mk k n s l => p k n s ∧ Tms.all p l
def Tms.all (p : Int → Int → ByteArray → Prop) : List Tm → Prop
  | [] => True
  | t :: r => Tm.all p t ∧ Tms.all p r
end
mutual
theorem AT.all_of (p : Int → Int → ByteArray → Prop) : ∀ t : AT, t.erase.all p → ∀ u ∈ t :: t.parts, p u.k u.n u.s
  | .mk k n s sv G off l, h, u, hu => by
    rw [AT.erase, Tm.all] at h
    rcases List.mem_cons.1 hu with rfl | hu
    · exact h.1
    · rw [AT.parts] at hu
      exact ATs.all_of p l h.2 u hu
theorem ATs.all_of (p : Int → Int → ByteArray → Prop) : ∀ l : List AT, Tms.all p (ATs.erase l) → ∀ u ∈ ATs.parts l, p u.k u.n u.s
  | [], _, u, hu => by rw [ATs.parts] at hu; cases hu
  | t :: r, h, u, hu => by
    rw [ATs.erase, Tms.all] at h
    rw [ATs.parts, ← List.cons_append] at hu
    rcases List.mem_append.1 hu with hu | hu
    · exact AT.all_of p t h.1 u hu
    · exact ATs.all_of p r h.2 u hu
end

theorem all_app (p : Int → Int → ByteArray → Prop) (l m : List Tm) : Tms.all p (l ++ m) ↔ Tms.all p l ∧ Tms.all p m := by
  induction l with
  | nil => simp [Tms.all]
  | cons t r ih => rw [List.cons_append, Tms.all, Tms.all, ih, and_assoc]
theorem atomA_all {p : Int → Int → ByteArray → Prop} (h : p 3 0 ⟨#[97]⟩) : atomA.all p := ⟨h, trivial⟩
theorem ofL_all {g : List PRow → Tm × Nat} (p : Int → Int → ByteArray → Prop) (q : PRow → Prop) (hg : ∀ r, (∀ x ∈ r, q x) → (g r).1.all p) : ∀ (c : Nat) (r : List PRow), (∀ x ∈ r, q x) → Tms.all p (ofL g c r).1
  | 0, _, _ => trivial
  | c + 1, r, h => by
    rw [ofL]
    exact (all_app p _ _).2 ⟨ofL_all p q hg c r h, hg _ (fun x hx => h x (List.mem_of_mem_drop hx)), trivial⟩
theorem ofT_all (p : Int → Int → ByteArray → Prop) (h0 : p 3 0 ⟨#[97]⟩) : ∀ (f : Nat) (ps : List PRow), (∀ x ∈ ps, p x.k x.n x.s) → (ofT f ps).1.all p
  | 0, ps, _ => by rw [ofT]; exact atomA_all h0
  | f + 1, [], _ => by rw [ofT]; exact atomA_all h0
  | f + 1, x :: r, h => by
    rw [ofT, Tm.all]
    exact ⟨h x List.mem_cons_self, ofL_all p (fun x => p x.k x.n x.s) (fun r hr => ofT_all p h0 f r hr) _ r (fun y hy => h y (List.mem_cons_of_mem _ hy))⟩
theorem r64_zero : R64 0 := by unfold R64; omega
mutual
theorem mendT_all : ∀ t : Tm, t.all (fun _ n _ => R64 n) → (mendT t).all (fun _ n s => R64 n ∧ s.size ≤ 20)
  | .mk k n s l, h => by
    have ha : atomA.all (fun _ n s => R64 n ∧ s.size ≤ 20) := atomA_all ⟨r64_zero, by decide⟩
    have hl := mendL_all l h.2
    have hn : R64 n := h.1
    rw [mendT]
    split
    · exact ha
    · rename_i hs
      split
      · exact ⟨⟨by unfold R64 at hn ⊢; omega, by decide⟩, trivial⟩
      · split
        · exact ⟨⟨hn, by decide⟩, trivial⟩
        · split
          · exact ⟨⟨r64_zero, by omega⟩, trivial⟩
          · split
            · split
              · exact ha
              · exact ⟨⟨r64_zero, by omega⟩, hl⟩
            · exact ha
theorem mendL_all : ∀ l : List Tm, Tms.all (fun _ n _ => R64 n) l → Tms.all (fun _ n s => R64 n ∧ s.size ≤ 20) (mendL l)
  | [], _ => trivial
  | t :: r, h => ⟨mendT_all t h.1, mendL_all r h.2⟩
end
theorem good_all {ps : List PRow} (h : ∀ x ∈ ps, R64 x.n) : (goodT ps).all (fun _ n s => R64 n ∧ s.size ≤ 20) :=
  mendT_all _ (ofT_all (fun _ n _ => R64 n) r64_zero _ ps h)

end Go.Proofs.Ytkidcchafdiofaa
