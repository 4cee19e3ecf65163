/- Joined texts: RdQ RdR RdS RdT. Conditions: as each states. -/
import Derived.Test.YtkplokfcjjcpcaaGreatDoorRk36
import Derived.Test.YtkplokfcjjcpcaaGreatDoorRk13
import Derived.Test.YtkplokfcjjcpcaaGreatDoorRk29
import Derived.Test.YtkplokfcjjcpcaaGreatDoorRk17
import Derived.Test.YtkplokfcjjcpcaaGreatDoorRk14
section
namespace Go.Proofs.YtkplokfcjjcpcaaGreatDoor
open Go Go.RowKit Trm
mutual
def Trm.Tm.oc : Tm → List Int
  | .mk k n _ l => (if k = 1 then [n] else []) ++ Trm.Tms.oc l
def Trm.Tms.oc : List Tm → List Int
  | [] => []
  | t :: r => Trm.Tm.oc t ++ Trm.Tms.oc r
end
theorem ocs_app (l m : List Tm) : Tms.oc (l ++ m) = Tms.oc l ++ Tms.oc m := by
  induction l with
  | nil => rfl
  | cons t r ih => simp [Tms.oc, ih]
theorem oc_comp (s : ByteArray) (l : List Tm) : (compT s l).oc = Tms.oc l := by simp [compT, Tm.oc]
theorem oc_atm (s : ByteArray) : (atmT s).oc = [] := by simp [atmT, Tm.oc, Tms.oc]
theorem oc_int (n : Int) : (intT n).oc = [] := by simp [intT, Tm.oc, Tms.oc]
theorem oc_var (n : Int) : (varT n).oc = [n] := by simp [varT, Tm.oc, Tms.oc]
theorem oc_one (t : Tm) : Tms.oc [t] = t.oc := by simp [Tms.oc]
theorem oc_two (t u : Tm) : Tms.oc [t, u] = t.oc ++ u.oc := by simp [Tms.oc]
theorem oc_lst (tl : Tm) : ∀ l : List Tm, (lstT tl l).oc = Tms.oc l ++ tl.oc
  | [] => by simp [lstT, Tms.oc]
  | x :: r => by rw [lstT, oc_comp, oc_two, oc_lst tl r]; simp [Tms.oc]
theorem oc_nil : nilT.oc = [] := oc_atm _
theorem oc_codes (l : List UInt8) : Tms.oc (codesT l) = [] := by
  unfold codesT
  induction l.take 2000 with
  | nil => rfl
  | cons c r ih => simp [Tms.oc, oc_int] at ih ⊢; exact ih
def ocK : Kt → List Int
  | .args L _ => Tms.oc L
  | .tail L => Tms.oc L
  | .inf _ so _ => so.oc
  | _ => []
def ocF (stk : List Fr) : List Int := stk.reverse.flatMap fun f => ocK f.k
theorem ocF_cons (f : Fr) (r : List Fr) : ocF (f :: r) = ocF r ++ ocK f.k := by simp [ocF]
def Ms.seq (σ : Ms) : List Int := ocF σ.stk ++ (if σ.begun = true then σ.so.oc else [])
theorem seq_be (σ : Ms) (x : Tm) (p : Int) : (σ.be x p).seq = ocF σ.stk ++ x.oc := rfl
theorem seq_want (σ : Ms) (m : Int) (k : Kt) : (σ.want m k).seq = ocF σ.stk ++ ocK k := by
  show ocF (⟨m, k⟩ :: σ.stk) ++ [] = _
  rw [ocF_cons, List.append_nil]
structure Kept (σ : Ms) (s : List Int) (τ : Ms) : Prop where
  cnt : τ.cnt = σ.cnt
  vs : τ.vs = σ.vs
  seq : τ.seq = s
theorem kept_expect {l : List Tok} {σ τ : Ms} {c : List UInt8} {go : Ms → Ms} {s : List Int} (he : expectZ l σ c go = .on τ) (hg : Kept σ s (go (σ.to (σ.i + 1)))) : Kept σ s τ := by
  obtain ⟨_, rfl⟩ := expect_on he
  exact hg
theorem kept_all {l : List Tok} {σ τ : Ms} {L : List Tm} {al : Al} (he : allZ l σ L al = .on τ) : Kept σ (ocF σ.stk ++ Tms.oc L) τ := by
  cases al with
  | comp s =>
    simp only [allZ] at he
    exact kept_expect he ⟨rfl, rfl, by rw [seq_be, oc_comp]; rfl⟩
  | items =>
    simp only [allZ] at he
    split at he
    · obtain rfl := Out.on.inj he
      exact ⟨rfl, rfl, by rw [seq_want]; rfl⟩
    · exact kept_expect he ⟨rfl, rfl, by rw [seq_be, oc_lst, oc_nil, List.append_nil]; rfl⟩
theorem kept_then {l : List Tok} {σ τ : Ms} {x : Tm} {k : Kt} (he : thenZ l σ x k = .on τ) : Kept σ (ocF σ.stk ++ (ocK k ++ x.oc)) τ := by
  cases k with
  | stop =>
    simp only [thenZ] at he
    split at he
    · obtain rfl := Out.on.inj he
      exact ⟨rfl, rfl, by rw [seq_be]; rfl⟩
    · cases he
  | round =>
    simp only [thenZ] at he
    exact kept_expect he ⟨rfl, rfl, by rw [seq_be]; rfl⟩
  | braces =>
    simp only [thenZ] at he
    exact kept_expect he ⟨rfl, rfl, by rw [seq_be, oc_comp, oc_one]; rfl⟩
  | args L al =>
    simp only [thenZ] at he
    split at he
    · obtain rfl := Out.on.inj he
      exact ⟨rfl, rfl, by rw [seq_want]; show _ ++ Tms.oc (L ++ [x]) = _; rw [ocs_app, oc_one]; rfl⟩
    · have h := kept_all he
      rw [ocs_app, oc_one] at h
      exact h
  | tail L =>
    simp only [thenZ] at he
    exact kept_expect he ⟨rfl, rfl, by rw [seq_be, oc_lst]; rfl⟩
  | pre s p =>
    simp only [thenZ] at he
    obtain rfl := Out.on.inj he
    exact ⟨rfl, rfl, by rw [seq_be, oc_comp, oc_one]; rfl⟩
  | inf s so p =>
    simp only [thenZ] at he
    obtain rfl := Out.on.inj he
    exact ⟨rfl, rfl, by rw [seq_be, oc_comp, oc_two]; rfl⟩
theorem kept_end {l : List Tok} {σ τ : Ms} (hb : σ.begun = true) (he : endZ l σ = .on τ) : Kept σ σ.seq τ := by
  unfold endZ at he
  split at he
  · obtain rfl := Out.on.inj he
    exact ⟨rfl, rfl, rfl⟩
  · rename_i f r h1
    have h := kept_then (σ := { σ with stk := r }) he
    refine ⟨h.cnt, h.vs, h.seq.trans ?_⟩
    show ocF r ++ (ocK f.k ++ σ.so.oc) = ocF σ.stk ++ _
    rw [h1, ocF_cons, if_pos hb, List.append_assoc]
theorem kept_goOn {L : List Ops.Df} {l : List Tok} {σ τ : Ms} (hb : σ.begun = true) (he : goOnZ L l σ = .on τ) : Kept σ σ.seq τ := by
  have hs : σ.seq = ocF σ.stk ++ σ.so.oc := by unfold Ms.seq; rw [if_pos hb]
  unfold goOnZ at he
  simp only at he
  split at he
  · split at he
    · obtain rfl := Out.on.inj he
      exact ⟨rfl, rfl, by rw [seq_want, hs]; rfl⟩
    · split at he
      · obtain rfl := Out.on.inj he
        exact ⟨rfl, rfl, by rw [seq_be, oc_comp, oc_one, hs]; rfl⟩
      · exact kept_end hb he
  · exact kept_end hb he
theorem kept_args {l : List Tok} {σ τ : Ms} {s : ByteArray} (he : argsZ l σ s = .on τ) : Kept σ (ocF σ.stk) τ :=
  kept_expect he ⟨rfl, rfl, by rw [seq_want]; exact List.append_nil _⟩
theorem kept_closes {l : List Tok} {σ τ : Ms} {c : List UInt8} {s : ByteArray} {m : Int} {k : Kt} (hk : ocK k = []) (he : closesZ l σ c s (fun ρ => ρ.want m k) = .on τ) : Kept σ (ocF σ.stk) τ := by
  unfold closesZ at he
  split at he
  · split at he
    · have k := kept_args (σ := σ.to (σ.i + 1)) he
      exact ⟨k.cnt, k.vs, k.seq⟩
    · obtain rfl := Out.on.inj he
      exact ⟨rfl, rfl, by rw [seq_be, oc_atm]; exact List.append_nil _⟩
  · obtain rfl := Out.on.inj he
    exact ⟨rfl, rfl, by rw [seq_want, hk]; exact List.append_nil _⟩
theorem kept_word {L : List Ops.Df} {l : List Tok} {σ τ : Ms} {t : Tok} (he : wordZ L l σ t = .on τ) : Kept σ (ocF σ.stk) τ := by
  unfold wordZ at he
  split at he
  · obtain rfl := Out.on.inj he
    exact ⟨rfl, rfl, by rw [seq_be, oc_int]; exact List.append_nil _⟩
  · split at he
    · exact kept_args he
    · split at he
      · obtain rfl := Out.on.inj he
        exact ⟨rfl, rfl, by rw [seq_want]; exact List.append_nil _⟩
      · obtain rfl := Out.on.inj he
        exact ⟨rfl, rfl, by rw [seq_be, oc_atm]; exact List.append_nil _⟩
def meetI (V : List Int) (n : Int) : List Int := if n ∈ V then V else V ++ [n]
def firsts (xs : List Int) : List Int := xs.foldl meetI []
theorem firsts_snoc (xs : List Int) (n : Int) : firsts (xs ++ [n]) = meetI (firsts xs) n := by simp [firsts]
def upI (n : Nat) : List Int := (List.range n).map fun i : Nat => (i : Int)
theorem upI_succ (n : Nat) : upI (n + 1) = upI n ++ [(n : Int)] := by simp [upI, List.range_succ]
theorem mem_upI {n : Nat} {z : Int} : z ∈ upI n ↔ 0 ≤ z ∧ z < n := by
  unfold upI
  rw [List.mem_map]
  constructor
  · rintro ⟨i, hi, rfl⟩
    have := List.mem_range.1 hi
    omega
  · rintro ⟨h0, h1⟩
    exact ⟨z.toNat, List.mem_range.2 (by omega), by omega⟩
structure VO (σ : Ms) : Prop where
  c0 : 0 ≤ σ.cnt
  seq : firsts σ.seq = upI σ.cnt.toNat
  vs : ∀ p ∈ σ.vs, 0 ≤ p.2 ∧ p.2 < σ.cnt
  inc : σ.vs.Pairwise fun p q => p.2 < q.2
  nm : σ.vs.Pairwise fun p q => p.1 ≠ q.1
  us : ∀ p ∈ σ.vs, p.1 ≠ ⟨#[95]⟩
theorem VO.kept {σ τ : Ms} (h : VO σ) (k : Kept σ σ.seq τ) : VO τ := by
  obtain ⟨h1, h2, h3⟩ := k
  exact ⟨by rw [h1]; exact h.c0, by rw [h1, h3]; exact h.seq, by rw [h1, h2]; exact h.vs, by rw [h2]; exact h.inc, by rw [h2]; exact h.nm, by rw [h2]; exact h.us⟩
theorem fndV_none {vs : List (ByteArray × Int)} {s : ByteArray} (h : fndV vs s = none) : ∀ p ∈ vs, p.1 ≠ s := fun p hp e => by
  unfold fndV at h
  rw [Option.map_eq_none_iff, List.find?_eq_none] at h
  have := h p hp
  rw [e] at this
  simp at this
theorem VO.number {σ : Ms} (h : VO σ) (hb : σ.begun = false) (s : List UInt8) (i : Nat) : VO ((((σ.to i).number s).1).be (varT ((σ.to i).number s).2) 0) := by
  have hs : σ.seq = ocF σ.stk := by unfold Ms.seq; rw [hb]; exact List.append_nil _
  have h2 := h.seq
  rw [hs] at h2
  have hc : ((σ.cnt.toNat : Nat) : Int) = σ.cnt := by have := h.c0; omega
  have new : firsts (ocF σ.stk ++ [σ.cnt]) = upI (σ.cnt + 1).toNat := by
    rw [firsts_snoc, h2, show (σ.cnt + 1).toNat = σ.cnt.toNat + 1 by have := h.c0; omega, upI_succ, hc]
    unfold meetI
    rw [if_neg]
    rw [mem_upI]
    omega
  unfold Ms.number
  split
  · rename_i n hn
    obtain ⟨p, hp, rfl⟩ := fndV_mem hn
    obtain ⟨h3, h4⟩ := h.vs p hp
    refine ⟨h.c0, ?_, h.vs, h.inc, h.nm, h.us⟩
    rw [seq_be, oc_var]
    show firsts (ocF σ.stk ++ [p.2]) = upI σ.cnt.toNat
    rw [firsts_snoc, h2]
    unfold meetI
    rw [if_pos]
    rw [mem_upI]
    omega
  · rename_i hn
    have h0 := h.c0
    split
    · refine ⟨by show 0 ≤ σ.cnt + 1; omega, by rw [seq_be, oc_var]; exact new, fun p hp => ?_, h.inc, h.nm, h.us⟩
      have := h.vs p hp
      show 0 ≤ p.2 ∧ p.2 < σ.cnt + 1
      omega
    · rename_i hu
      have hmem : ∀ p ∈ σ.vs ++ [(bsOf s, σ.cnt)], p ∈ σ.vs ∨ p = (bsOf s, σ.cnt) := fun p hp => by simpa using hp
      refine ⟨by show 0 ≤ σ.cnt + 1; omega, by rw [seq_be, oc_var]; exact new, fun p hp => ?_, ?_, ?_, fun p hp => ?_⟩
      · show 0 ≤ p.2 ∧ p.2 < σ.cnt + 1
        rcases hmem p hp with h3 | rfl
        · have := h.vs p h3
          omega
        · exact ⟨h0, by show σ.cnt < σ.cnt + 1; omega⟩
      · exact List.pairwise_append.2 ⟨h.inc, List.pairwise_singleton _ _, fun p hp q hq => by
          obtain rfl := List.mem_singleton.1 hq
          exact (h.vs p hp).2⟩
      · exact List.pairwise_append.2 ⟨h.nm, List.pairwise_singleton _ _, fun p hp q hq => by
          obtain rfl := List.mem_singleton.1 hq
          exact fndV_none hn p hp⟩
      · rcases hmem p hp with h3 | rfl
        · exact h.us p h3
        · intro e
          apply hu
          have := congrArg (fun b : ByteArray => b.data.toList) e
          simp [bsOf] at this
          simp [this]
theorem VO.begin_ {L : List Ops.Df} {l : List Tok} {σ τ : Ms} (h : VO σ) (hb : σ.begun = false) (he : beginZ L l σ = .on τ) : VO τ := by
  have hs : σ.seq = ocF σ.stk := by unfold Ms.seq; rw [hb]; exact List.append_nil _
  have hk : ∀ {ρ : Ms}, Kept (σ.to (σ.i + 1)) (ocF σ.stk) ρ → VO ρ := fun {ρ} k => h.kept ⟨k.cnt, k.vs, k.seq.trans hs.symm⟩
  unfold beginZ at he
  simp only at he
  split at he
  · split at he
    · cases he
    · obtain rfl := Out.on.inj he
      exact hk ⟨rfl, rfl, by rw [seq_be, oc_int]; exact List.append_nil _⟩
  · split at he
    · obtain rfl := Out.on.inj he
      exact h.number hb _ _
    · split at he
      · obtain rfl := Out.on.inj he
        exact hk ⟨rfl, rfl, by rw [seq_be, oc_lst, oc_codes, oc_nil]; exact List.append_nil _⟩
      · split at he
        · split at he
          · obtain rfl := Out.on.inj he
            exact hk ⟨rfl, rfl, by rw [seq_want]; exact List.append_nil _⟩
          · split at he
            · exact hk (kept_closes (k := .args [] .items) rfl he)
            · split at he
              · exact hk (kept_closes (k := .braces) rfl he)
              · cases he
        · split at he
          · exact hk (kept_word he)
          · cases he
theorem VO.step {L : List Ops.Df} {l : List Tok} {σ τ : Ms} (h : VO σ) (he : stepZ L l σ = .on τ) : VO τ := by
  unfold stepZ at he
  split at he
  · rename_i hb
    exact h.kept (kept_goOn hb he)
  · rename_i hb
    exact h.begin_ (by simpa using hb) he
theorem VO.start (i : Nat) : VO (start i) := ⟨Int.le_refl 0, rfl, (fun p hp => by cases hp), List.Pairwise.nil, List.Pairwise.nil, (fun p hp => by cases hp)⟩
theorem VO.run {L : List Ops.Df} {l : List Tok} {τ : Ms} : ∀ (N : Nat) (σ : Ms), VO σ → runZ L l N σ = .on τ → VO τ
  | 0, σ, h, hr => by
    obtain rfl := Out.on.inj hr
    exact h
  | N + 1, σ, h, hr => by
    rw [runZ] at hr
    split at hr
    · obtain rfl := Out.on.inj hr
      exact h
    · split at hr
      · cases hr
      · rename_i ρ hq
        exact VO.run N ρ (h.step hq) hr
theorem clause_vo {L : List Ops.Df} {l : List Tok} {i : Nat} {τ : Ms} (h : clauseZ L l i = .on τ) : VO τ := (VO.start i).run _ _ h
end Go.Proofs.YtkplokfcjjcpcaaGreatDoor
end
section
namespace Go.Proofs.YtkplokfcjjcpcaaGreatDoor
open Go Go.RowKit Trm
mutual
def Trm.Tm.r64 : Tm → Prop
  | .mk _ n _ l => R64 n ∧ Trm.Tms.r64 l
def Trm.Tms.r64 : List Tm → Prop
  | [] => True
  | t :: r => Trm.Tm.r64 t ∧ Trm.Tms.r64 r
end
theorem r64_all {l : List Tm} (h : ∀ t ∈ l, Trm.Tm.r64 t) : Trm.Tms.r64 l := by
  induction l with
  | nil => trivial
  | cons t r ih => exact ⟨h t (by simp), ih fun u hu => h u (by simp [hu])⟩
theorem r64_0 : R64 0 := by unfold R64; omega
theorem r64_cl : Cl Trm.Tm.r64 where
  atom s := ⟨r64_0, trivial⟩
  comp s L h := ⟨r64_0, r64_all h⟩
  int n h1 h2 := ⟨⟨h1, h2⟩, trivial⟩
  var n h1 h2 := ⟨⟨by omega, by omega⟩, trivial⟩
mutual
theorem AT.r64_parts : ∀ t : AT, t.erase.r64 → ∀ u ∈ t :: t.parts, R64 u.n
  | .mk k n s sv G off l, h, u, hu => by
    rw [AT.erase, Trm.Tm.r64] at h
    rcases List.mem_cons.1 hu with rfl | hu
    · exact h.1
    · rw [AT.parts] at hu
      exact ATs.r64_parts l h.2 u hu
theorem ATs.r64_parts : ∀ l : List AT, Trm.Tms.r64 (ATs.erase l) → ∀ u ∈ ATs.parts l, R64 u.n
  | [], _, u, hu => by rw [ATs.parts] at hu; cases hu
  | t :: r, h, u, hu => by
    rw [ATs.erase, Trm.Tms.r64] at h
    rw [ATs.parts] at hu
    rcases List.mem_cons.1 hu with e | hu
    · rw [e]
      exact AT.r64_parts t h.1 t (by simp)
    · rcases List.mem_append.1 hu with hu | hu
      · exact AT.r64_parts t h.1 u (List.mem_cons_of_mem _ hu)
      · exact ATs.r64_parts r h.2 u hu
end
theorem meet_one (V : List Int) (t : AT) : meetV V t = (if t.k = 1 then [t.n] else []).foldl meetI V := by
  unfold meetV
  by_cases h : t.k = 1
  · rw [if_pos h]
    show _ = meetI V t.n
    unfold meetI
    by_cases h2 : t.n ∈ V
    · rw [if_pos h2, if_neg (fun e => e.2 h2)]
    · rw [if_neg h2, if_pos ⟨h, h2⟩]
  · rw [if_neg h, if_neg (fun e => h e.1)]
    rfl
mutual
theorem AT.vars_oc : ∀ (t : AT) (V : List Int), (t :: t.parts).foldl meetV V = t.erase.oc.foldl meetI V
  | .mk k n s sv G off l, V => by
    rw [List.foldl_cons, AT.parts, ATs.vars_oc l, meet_one, AT.erase, Trm.Tm.oc, List.foldl_append]
    rfl
theorem ATs.vars_oc : ∀ (l : List AT) (V : List Int), (ATs.parts l).foldl meetV V = (Trm.Tms.oc (ATs.erase l)).foldl meetI V
  | [], V => by rw [ATs.parts, ATs.erase, Trm.Tms.oc]; rfl
  | t :: r, V => by
    rw [ATs.parts, ATs.erase, Trm.Tms.oc, List.foldl_append, ← List.cons_append, List.foldl_append, AT.vars_oc t, ATs.vars_oc r]
end
theorem varsT_oc (t : AT) : varsT t = firsts t.erase.oc := AT.vars_oc t []
structure RightOk (τ : Ms) : Prop where
  r64 : τ.so.r64
  two : 2 ≤ τ.i
  vo : VO τ
  seq : firsts τ.so.oc = upI τ.cnt.toNat
def Two (σ : Ms) : Prop := (σ.begun = false ∧ Sk σ.stk) ∨ (1 ≤ σ.i ∧ Sk σ.stk) ∨ (2 ≤ σ.i ∧ σ.stk = [])
theorem two_step {L : List Ops.Df} {l : List Tok} {σ τ : Ms} (hs : σ.stk ≠ []) (h : Two σ) (he : stepZ L l σ = .on τ) : Two τ := by
  rcases h with ⟨hb, hk⟩ | ⟨h1, hk⟩ | ⟨_, h2⟩
  · unfold stepZ at he
    rw [if_neg (by rw [hb]; simp)] at he
    have h1 := begin_i he
    exact .inr (.inl ⟨by omega, sk_begin hk he⟩)
  · have h2 := step_i hk he
    rcases sk_step hk he with h3 | ⟨h3, _⟩
    · exact .inr (.inl ⟨by omega, h3⟩)
    · have := h2.2 h3
      exact .inr (.inr ⟨by omega, h3⟩)
  · exact absurd h2 hs
theorem right_ok {L : List Ops.Df} {l : List Tok} {τ : Ms} (h : TkOk l) (hr : clauseZ L l 0 = .on τ) : RightOk τ := by
  have hv := clause_vo hr
  rw [clause_run] at hr
  obtain ⟨⟨h1, h2, h3, h4⟩, h5⟩ := runN_keeps (I := fun σ => Fit l l.length 1 σ ∧ QS Trm.Tm.r64 σ ∧ Two σ ∧ SK l σ) (fun σ ρ hs hI he => ⟨hI.1.step (Nat.le_refl _) h.s_at he, hI.2.1.step r64_cl (fun i => ⟨(h.at i).2.2.1, (h.at i).2.2.2⟩) hI.1.c0 (by have := hI.1.c1; have := hI.1.i; have := h.len; omega) he, two_step hs hI.2.2.1 he, by
      rcases hI.2.2.2 with h6 | h6
      · exact sk_step h6 he
      · exact absurd h6.1 hs⟩)
    ⟨start_fit (Nat.zero_le _), ⟨fun e => (by cases e), fun f hf => (by simp [start] at hf; subst hf; trivial), fun p hp => (by cases hp)⟩, .inl ⟨rfl, [], rfl, fun f hf => (by cases hf)⟩, .inl ⟨[], rfl, fun f hf => (by cases hf)⟩⟩ hr
  rcases h4 with h4 | ⟨_, h6, _⟩
  · exact absurd h5 h4.ne
  · refine ⟨h2.so h6, ?_, hv, ?_⟩
    · rcases h3 with ⟨_, h7⟩ | ⟨_, h7⟩ | ⟨h7, _⟩
      · exact absurd h5 h7.ne
      · exact absurd h5 h7.ne
      · exact h7
    · have h7 := hv.seq
      unfold Ms.seq at h7
      rw [if_pos h6, h5] at h7
      exact h7
end Go.Proofs.YtkplokfcjjcpcaaGreatDoor
end
section
namespace Go.Proofs.YtkplokfcjjcpcaaGreatDoor
open Go Go.RowKit Go.Maps Trm
attribute [local go_sem ↓] Go.wp_at_zero Go.wp_at_succ
theorem readZ_err {L : List Ops.Df} {l : List Tok} {u : Tm} {vs : List (ByteArray × Int)} {line next er : Int} (h : readZ L l 0 = (⟨u, vs, line, next⟩, er)) (he : ¬ er = 0) : u = nilTm ∧ vs = [] := by
  unfold readZ at h
  split at h
  · simp only [Prod.mk.injEq, Cz.mk.injEq] at h
    exact ⟨h.1.1.symm, h.1.2.1.symm⟩
  · split at h
    · simp only [Prod.mk.injEq, Cz.mk.injEq] at h
      exact ⟨h.1.1.symm, h.1.2.1.symm⟩
    · split at h
      · simp only [Prod.mk.injEq] at h
        exact absurd h.2.symm he
      · split at h
        all_goals
          simp only [Prod.mk.injEq, Cz.mk.injEq] at h
          exact ⟨h.1.1.symm, h.1.2.1.symm⟩
structure Told (L : List Ops.Df) (l : List Tok) (u : Tm) (vs : List (ByteArray × Int)) (line next : Int) (j c : Nat) : Prop where
  er : u.errno = 0
  r64 : u.r64
  nx : next = (j : Int) + 1
  two : 1 ≤ j
  lt : j < l.length
  stop : (tokAt l j).k = 7
  line : line = (tokAt l 0).line
  inc : vs.Pairwise fun p q => p.2 < q.2
  nm : vs.Pairwise fun p q => p.1 ≠ q.1
  us : ∀ p ∈ vs, p.1 ≠ ⟨#[95]⟩
  lo : ∀ p ∈ vs, 0 ≤ p.2
  seq : firsts u.oc = upI c
theorem readZ_told {L : List Ops.Df} {l : List Tok} {u : Tm} {vs : List (ByteArray × Int)} {line next : Int} (h : readZ L l 0 = (⟨u, vs, line, next⟩, 0)) (hl : TkOk l) : ∃ j c, Told L l u vs line next j c := by
  unfold readZ at h
  split at h
  · simp at h
  · split at h
    · simp at h
    · rename_i τ hτ
      have hR := right_ok hl hτ
      have hE := clause_end hl (Nat.zero_le _) hτ
      split at h
      · rename_i h0
        simp only [Prod.mk.injEq, Cz.mk.injEq, and_true] at h
        obtain ⟨rfl, rfl, rfl, rfl⟩ := h
        have h2 := hR.two
        refine ⟨τ.i - 1, τ.cnt.toNat, h0, hR.r64, by omega, by omega, ?_, hE.stop, rfl, hR.vo.inc, hR.vo.nm, hR.vo.us, fun p hp => (hR.vo.vs p hp).1, hR.seq⟩
        have := hE.fit.i
        omega
      · split at h <;> simp at h
set_option maxRecDepth 100000 in
set_option maxHeartbeats 3200000 in
theorem right_far (ad : Option Addr) (n cap : Nat) (X : ByteArray) (w : World) (ht : LayA w) (h : 100 < n ∨ 1500 < X.size) :
    Calls Tryz.prog 5 #[.slice ad n cap, .string X] w fun e w' => e = .returned (.bool true) ∧ Below w.heap.size w w' := by
  have AL := Lib.hid (alive6_is w ht)
  have ch : 100 < n ∨ (¬ 100 < n ∧ 1500 < X.size) := by omega
  clear ht h
  rcases ch with h1 | ⟨h1, h2⟩
  · have e1 : decide ((100 : Int) < (n : Int)) = true := by simp; omega
    go_enter Tryz.func5, Tryz.ntmps5
    go_wp2_with fail
    refine AL.out.mono ?_
    rintro e w1 ⟨rfl, b1⟩
    have B1 := Lib.hid b1
    clear b1
    go_wp2_with fail
    go_ret
    exact ⟨rfl, B1.out⟩
  · have e1 : decide ((100 : Int) < (n : Int)) = false := by simp; omega
    have e2 : decide ((1500 : Int) < (X.size : Int)) = true := by simp; omega
    go_enter Tryz.func5, Tryz.ntmps5
    go_wp2_with fail
    refine AL.out.mono ?_
    rintro e w1 ⟨rfl, b1⟩
    have B1 := Lib.hid b1
    clear b1
    go_wp2_with fail
    go_ret
    exact ⟨rfl, B1.out⟩
end Go.Proofs.YtkplokfcjjcpcaaGreatDoor
end
section
namespace Go.Proofs.YtkplokfcjjcpcaaGreatDoor
open Go Go.RowKit Go.Maps Trm
open Go.WideMaps Go.WideElems
attribute [local go_sem ↓] Go.wp_at_zero Go.wp_at_succ
theorem number_vs (σ : Ms) (s : List UInt8) : (σ.number s).1.vs = σ.vs ∨ ∃ n, (σ.number s).1.vs = σ.vs ++ [(bsOf s, n)] := by
  unfold Ms.number
  split
  · exact .inl rfl
  · split
    · exact .inl rfl
    · exact .inr ⟨_, rfl⟩
theorem step_vs {L : List Ops.Df} {l : List Tok} {σ τ : Ms} (he : stepZ L l σ = .on τ) : τ.vs = σ.vs ∨ ∃ n, τ.vs = σ.vs ++ [(bsOf (tokAt l σ.i).s, n)] := by
  unfold stepZ at he
  split at he
  · rename_i hb
    exact .inl (kept_goOn hb he).vs
  · unfold beginZ at he
    simp only at he
    split at he
    · split at he
      · cases he
      · obtain rfl := Out.on.inj he
        exact .inl rfl
    · split at he
      · obtain rfl := Out.on.inj he
        exact number_vs (σ.to (σ.i + 1)) _
      · split at he
        · obtain rfl := Out.on.inj he
          exact .inl rfl
        · split at he
          · split at he
            · obtain rfl := Out.on.inj he
              exact .inl rfl
            · split at he
              · exact .inl (kept_closes (σ := σ.to (σ.i + 1)) (k := .args [] .items) rfl he).vs
              · split at he
                · exact .inl (kept_closes (σ := σ.to (σ.i + 1)) (k := .braces) rfl he).vs
                · cases he
          · split at he
            · exact .inl (kept_word he).vs
            · cases he
theorem clause_names {L : List Ops.Df} {l : List Tok} {τ : Ms} (h : TkOk l) (hr : clauseZ L l 0 = .on τ) : ∀ p ∈ τ.vs, p.1.size ≤ 5000 := by
  rw [clause_run] at hr
  refine (runN_keeps (I := fun σ => ∀ p ∈ σ.vs, p.1.size ≤ 5000) (fun σ ρ hs hI he => ?_) (fun p hp => by cases hp) hr).1
  rcases step_vs he with e | ⟨n, e⟩
  · rw [e]; exact hI
  · rw [e]
    intro p hp
    rcases List.mem_append.1 hp with h1 | h1
    · exact hI p h1
    · obtain rfl := List.mem_singleton.1 h1
      show (bsOf (tokAt l σ.i).s).size ≤ 5000
      rw [Lib.size_eq]
      exact h.s_at σ.i
theorem told_names {L : List Ops.Df} {l : List Tok} {u : Tm} {vs : List (ByteArray × Int)} {line next : Int} (h : readZ L l 0 = (⟨u, vs, line, next⟩, 0)) (hl : TkOk l) : ∀ p ∈ vs, p.1.size ≤ 5000 := by
  unfold readZ at h
  split at h
  · simp at h
  · split at h
    · simp at h
    · rename_i τ hτ
      split at h
      · simp only [Prod.mk.injEq, Cz.mk.injEq, and_true] at h
        rw [← h.2.1]
        exact clause_names hl hτ
      · split at h <;> simp at h
def SB (w : World) (b m : Nat) (D : DataW Unit) : Prop := w.ownsMap Tryz.prog 9 (plainElem (H := Unit) Tryz.prog 4) b m D
def Seen (D : DataW Unit) (vs : List (ByteArray × Int)) : Prop :=
  Maps.IsMap D ∧ ∀ s : ByteArray, (∀ p ∈ vs, p.1 ≠ s) → Maps.has D (.string s.data.toList) = false
theorem seen_nil : Seen (.map []) [] := ⟨⟨[], rfl⟩, fun _ _ => rfl⟩
theorem seen_put {D : DataW Unit} {vs : List (ByteArray × Int)} (h : Seen D vs) (s : ByteArray) (n : Int) (d : DataW Unit) : Seen (D.put (.string s.data.toList) d) (vs ++ [(s, n)]) := by
  refine ⟨h.1.put _ _, fun u hu => ?_⟩
  have h1 : s ≠ u := hu (s, n) (by simp)
  have hne : (Lit.string u.data.toList) ≠ .string s.data.toList := fun e => h1 (name_bytes (Lit.string.inj e)).symm
  rw [Maps.has_put_other hne]
  exact h.2 u fun p hp => hu p (by simp [hp])
theorem bool_inv {P : Program} {e : TypeId} (he : P.underlying e = some .bool) {v : Value} {z : DataW Unit × List MemPlace} (h : plainElem P e v = some z) : ∃ b, v = .bool b ∧ z.1 = .lit (.bool b) := by
  unfold plainElem at h
  rw [he] at h
  cases v <;> simp at h
  subst h
  exact ⟨_, rfl, rfl⟩
theorem look_seen {w : World} {b m : Nat} {D : DataW Unit} {vs : List (ByteArray × Int)} (h : SB w b m D) (hD : Seen D vs) (s : ByteArray) (hs : s.size ≤ 5000) (hn : ∀ p ∈ vs, p.1 ≠ s) :
    (Instr.lookup 57 (.map (some b)) (.string s) false).run Tryz.prog w = .ok (.bool false) w := by
  have hsm : s.size ≤ maxLen := by unfold maxLen; omega
  obtain ⟨v, ps, hrun, hx⟩ := World.ownsMap.lookup h strKeyR Tryz.underlying57 (z := .bool false) (by kernel_rfl) (plainElem_bool Tryz.underlying4 false) (keyOf_strR hsm)
  obtain ⟨x, rfl, hy⟩ := bool_inv Tryz.underlying4 hx
  rw [Maps.atKey_of_not_has (hD.2 s hn)] at hy
  cases hy
  exact hrun
theorem put_seen {w : World} {b m : Nat} {D : DataW Unit} (h : SB w b m D) (s : ByteArray) (hs : s.size ≤ 5000) (hm : m ≤ 100000) :
    ∃ w', (Instr.mapUpdate 57 (.map (some b)) (.string s) (.bool true)).run Tryz.prog w = .ok () w' ∧ SB w' b (m + 1) (D.put (.string s.data.toList) (.lit (.bool true))) ∧ w.grownBy w' (some b) := by
  have hsm : s.size ≤ maxLen := by unfold maxLen; omega
  have hmm : m < maxLen := by unfold maxLen; omega
  exact World.ownsMap.update (w := w) h strKeyR Tryz.underlying57 (val := .bool true) hmm (keyOf_strR hsm) (plainElem_bool Tryz.underlying4 true)
def lastZ (vs : List (ByteArray × Int)) : Nat → Int
  | 0 => -1
  | i + 1 => (vs[i]?.map Prod.snd).getD 0
structure RtSt (w0 wr : World) (q : Nat) (vs : List (ByteArray × Int)) (i : Nat) : Prop where
  below : Below w0.heap.size w0 wr
  low : w0.heap.size ≤ q
  map : ∃ m D, m ≤ i ∧ SB wr q m D ∧ Seen D (vs.take i)
theorem RtSt.put {w0 wr w1 : World} {q : Nat} {vs : List (ByteArray × Int)} {i : Nat} {p : ByteArray × Int} (h : RtSt w0 wr q vs i) (b : Below wr.heap.size wr w1) (hp : vs[i]? = some p) (hi : i ≤ 100000) (hs : p.1.size ≤ 5000) :
    ∃ w2, (Instr.mapUpdate 57 (.map (some q)) (.string p.1) (.bool true)).run Tryz.prog w1 = .ok () w2 ∧ RtSt w0 w2 q vs (i + 1) ∧ w1.grownBy w2 (some q) := by
  obtain ⟨m, D, hm, hS, hD⟩ := h.map
  obtain ⟨es, clock, hb, r⟩ := hS
  have hS1 : SB w1 q m D := ⟨es, clock, (b.block q (heap_lt hb)).trans hb, r⟩
  obtain ⟨w2, hrun, h2, h3⟩ := put_seen hS1 p.1 hs (by omega)
  refine ⟨w2, hrun, ⟨(bt h.below b).grown h3 (bt h.below b).size (fun j hj => by cases hj; exact h.low), h.low, m + 1, _, by omega, h2, ?_⟩, h3⟩
  rw [List.take_add_one, hp]
  exact seen_put hD p.1 p.2 _
theorem RtSt.look {w0 wr w1 : World} {q : Nat} {vs : List (ByteArray × Int)} {i : Nat} {p : ByteArray × Int} (h : RtSt w0 wr q vs i) (b : Below wr.heap.size wr w1) (hp : vs[i]? = some p) (hnm : vs.Pairwise fun p q => p.1 ≠ q.1) (hs : p.1.size ≤ 5000) :
    (Instr.lookup 57 (.map (some q)) (.string p.1) false).run Tryz.prog w1 = .ok (.bool false) w1 := by
  obtain ⟨m, D, hm, hS, hD⟩ := h.map
  obtain ⟨es, clock, hb, r⟩ := hS
  have hS1 : SB w1 q m D := ⟨es, clock, (b.block q (heap_lt hb)).trans hb, r⟩
  refine look_seen hS1 hD p.1 hs fun x hx => ?_
  obtain ⟨j, hj, rfl⟩ := List.getElem_of_mem hx
  rw [List.length_take] at hj
  have hpi := List.getElem?_eq_some_iff.1 hp
  obtain ⟨hi, hpe⟩ := hpi
  rw [List.getElem_take]
  have := List.pairwise_iff_getElem.1 hnm j i (by omega) hi (by omega)
  rw [hpe] at this
  exact this
theorem last_lt {vs : List (ByteArray × Int)} {i : Nat} {p : ByteArray × Int} (hp : vs[i]? = some p) (hinc : vs.Pairwise fun p q => p.2 < q.2) (hlo : ∀ p ∈ vs, 0 ≤ p.2) : lastZ vs i < p.2 := by
  cases i with
  | zero =>
    have := hlo p (List.mem_of_getElem? hp)
    show -1 < p.2
    omega
  | succ i =>
    obtain ⟨hi, hpe⟩ := List.getElem?_eq_some_iff.1 hp
    have h1 : vs[i]? = some (vs[i]'(by omega)) := List.getElem?_eq_getElem _
    have h2 := List.pairwise_iff_getElem.1 hinc i (i + 1) (by omega) hi (by omega)
    rw [hpe] at h2
    show (vs[i]?.map Prod.snd).getD 0 < p.2
    rw [h1]
    exact h2
theorem last_next {vs : List (ByteArray × Int)} {i : Nat} {p : ByteArray × Int} (hp : vs[i]? = some p) : lastZ vs (i + 1) = p.2 := by
  show (vs[i]?.map Prod.snd).getD 0 = p.2
  rw [hp]
  rfl
end Go.Proofs.YtkplokfcjjcpcaaGreatDoor
end
