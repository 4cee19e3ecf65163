/- The document's Vars: the mathematics, and what stands while they are gathered. Conditions: none. The document's Vars: a contract. Conditions: memory holds the term; it has at most 700000 parts. -/
import Derived.Test.YtkidcchafdiofaaTermAt
import Derived.Test.YtkidcchafdiofaaTermAq
import Derived.Deep.AppendLies
namespace Go.Proofs.Ytkidcchafdiofaa
open Go Go.RowKit

def addV (vs : List Int) (n : Int) : List Int := if n ∈ vs then vs else vs ++ [n]
mutual
def Tm.vsR : Tm → List Int
  | .mk k n _ l => if k = 1 then [n] else Tms.vsR l []
def Tms.vsR : List Tm → List Int → List Int
  | [], acc => acc
  | t :: r, acc => Tms.vsR r ((Tm.vsR t).foldl addV acc)
end
theorem addV_mem {vs : List Int} {n m : Int} (h : m ∈ vs) : m ∈ addV vs n := by
  unfold addV
  split
  · exact h
  · exact List.mem_append_left _ h
theorem addV_has (vs : List Int) (n : Int) : n ∈ addV vs n := by
  unfold addV
  split
  · assumption
  · simp
theorem fold_mem : ∀ (L A : List Int) (m : Int), (m ∈ A ∨ m ∈ L) → m ∈ L.foldl addV A
  | [], A, m, h => by simpa using h
  | x :: L, A, m, h => by
    rw [List.foldl_cons]
    refine fold_mem L _ m ?_
    rcases h with h | h
    · exact .inl (addV_mem h)
    · rcases List.mem_cons.1 h with rfl | h
      · exact .inl (addV_has _ _)
      · exact .inr h
theorem fold_snoc (A B : List Int) (x : Int) : (addV B x).foldl addV A = addV (B.foldl addV A) x := by
  by_cases h : x ∈ B
  · have h2 := fold_mem B A x (.inr h)
    rw [show addV B x = B from by unfold addV; rw [if_pos h]]
    rw [show addV (B.foldl addV A) x = B.foldl addV A from by rw [addV, if_pos h2]]
  · rw [show addV B x = B ++ [x] from by unfold addV; rw [if_neg h], List.foldl_append]
    rfl
theorem fold_fold : ∀ (L A B : List Int), (L.foldl addV B).foldl addV A = L.foldl addV (B.foldl addV A)
  | [], _, _ => rfl
  | x :: L, A, B => by
    rw [List.foldl_cons, List.foldl_cons, fold_fold L A (addV B x), fold_snoc]
mutual
/-- all that the terms of a list have, one behind the other -/
def Tms.raw : List Tm → List Int
  | [] => []
  | t :: r => Tm.vsR t ++ Tms.raw r
end
theorem vsR_raw : ∀ (l : List Tm) (acc : List Int), Tms.vsR l acc = (Tms.raw l).foldl addV acc
  | [], acc => by simp [Tms.vsR, Tms.raw]
  | t :: r, acc => by rw [Tms.vsR, Tms.raw, List.foldl_append, vsR_raw r]
theorem vsR_idem (t : Tm) : t.vsR.foldl addV [] = t.vsR := by
  obtain ⟨k, n, s, l⟩ := t
  rw [Tm.vsR]
  split
  · rfl
  · rw [vsR_raw, fold_fold]
    rfl
theorem vsR_take : ∀ (l : List Tm) (i : Nat) (t : Tm) (acc : List Int), l[i]? = some t → Tms.vsR (l.take (i + 1)) acc = t.vsR.foldl addV (Tms.vsR (l.take i) acc)
  | [], _, _, _, h => by simp at h
  | a :: r, 0, t, acc, h => by simp at h; subst h; simp [Tms.vsR]
  | a :: r, i + 1, t, acc, h => by
    rw [List.take_succ_cons, List.take_succ_cons, Tms.vsR, Tms.vsR]
    exact vsR_take r i t _ (by simpa using h)
theorem addV_len (vs : List Int) (n : Int) : (addV vs n).length ≤ vs.length + 1 := by
  unfold addV
  split <;> simp
theorem fold_len : ∀ (L A : List Int), (L.foldl addV A).length ≤ A.length + L.length
  | [], _ => by simp
  | x :: L, A => by
    rw [List.foldl_cons, List.length_cons]
    have h1 := fold_len L (addV A x)
    have h2 := addV_len A x
    omega
mutual
theorem Tm.vsR_len : ∀ t : Tm, t.vsR.length ≤ t.nodes
  | .mk k n s l => by
    rw [Tm.vsR, Tm.nodes]
    split
    · simp
    · have := Tms.vsR_len l []
      simp at this
      omega
theorem Tms.vsR_len : ∀ (l : List Tm) (acc : List Int), (Tms.vsR l acc).length ≤ acc.length + Tms.nodes l
  | [], acc => by simp [Tms.vsR]
  | t :: r, acc => by
    rw [Tms.vsR, Tms.nodes]
    have h1 := Tms.vsR_len r (t.vsR.foldl addV acc)
    have h2 := fold_len t.vsR acc
    have h3 := Tm.vsR_len t
    omega
end
mutual
theorem Tm.vs_eq : ∀ (t : Tm), t.shp → ∀ acc, t.kns.foldl meetP acc = t.vsR.foldl addV acc
  | .mk k n s l, h, acc => by
    rw [Tm.kns, Tm.vsR, List.foldl_cons]
    by_cases hk : k = 1
    · have hl : l = [] := by
        rcases h.1 with ⟨_, _, h3⟩ | ⟨h1, _⟩
        · exact h3
        · omega
      subst hl hk
      rw [if_pos rfl, Tms.kns]
      simp only [List.foldl_nil, List.foldl_cons, meetP, addV]
      by_cases hm : n ∈ acc <;> simp [hm]
    · rw [if_neg hk, show meetP acc (k, n) = acc from by unfold meetP; rw [if_neg (fun h => hk h.1)], Tms.vs_eq l h.2 acc, vsR_raw, vsR_raw, fold_fold]
      rfl
theorem Tms.vs_eq : ∀ (l : List Tm), Tms.shp l → ∀ acc, (Tms.kns l).foldl meetP acc = Tms.vsR l acc
  | [], _, acc => rfl
  | t :: r, h, acc => by rw [Tms.kns, List.foldl_append, Tm.vs_eq t h.1, Tms.vsR, Tms.vs_eq r h.2]
end
theorem varsT_R {x : AT} (h : x.erase.shp) : varsT x = x.erase.vsR := by
  rw [vars_kns, Tm.vs_eq x.erase h [], vsR_idem]

/-- a row of numbers that is gathered -/
structure RowSt (w : World) (vs : List Int) (v : Value) (wr : World) : Prop where
  own : wr.ownsRow 0 2 1 v vs.length (vs.map (Value.int .i64))
  far : ∀ k, v.ownBlock = some k → w.heap.size ≤ k
  below : Below w.heap.size w wr
theorem RowSt.on {w wr w1 : World} {vs : List Int} {v : Value} (h : RowSt w vs v wr) (hb : Below wr.heap.size wr w1) : RowSt w vs v w1 :=
  ⟨owns_same h.own (fun g hg => hb.block g (h.own.lt g hg).2), h.far, h.below.trans (hb.mono h.below.size)⟩
theorem row_next {w wr w7 : World} {vs : List Int} {v : Value} {g cap' : Nat} {n : Int} {o : Obj} (h : RowSt w vs v wr) (hown : w7.ownsRow 0 2 1 (.slice (some ⟨g, 0, none⟩) (vs.length + 1) cap') (vs.length + 1) (vs.map (Value.int .i64) ++ [.int .i64 n])) (hgrow : (wr.alloc o).grownBy w7 v.ownBlock) (hat : v.ownBlock = some g ∨ g = wr.heap.size + 1) :
    RowSt w (vs ++ [n]) (.slice (some ⟨g, 0, none⟩) (vs.length + 1) cap') w7 := by
  refine ⟨by simpa using hown, fun k hk => ?_, ?_⟩
  · obtain rfl : g = k := by simpa [Value.ownBlock] using hk
    rcases hat with h1 | h1
    · exact h.far g h1
    · have := h.below.size; omega
  · have h2 := h.below.alloc h.below.size o
    exact h2.grown hgrow (by simp; have := h.below.size; omega) (fun k hk => h.far k hk)
theorem row_far2 {wr w7 : World} {v : Value} {o : Obj} {G : Nat} (hg : (wr.alloc o).grownBy w7 v.ownBlock) (h1 : v.ownBlock ≠ some G) (h2 : G < wr.heap.size) : w7.heap[G]? = wr.heap[G]? := by
  rw [hg.block G (by simp; omega) (fun e => h1 e.symm), Below.heap_alloc _ _ _ h2]

end Go.Proofs.Ytkidcchafdiofaa

namespace Go.Proofs.Ytkidcchafdiofaa
open Go Go.RowKit

theorem one_int (n : Int) : ∀ u ∈ [Value.int .i64 n], u.oneCell' = true := by
  intro u hu
  simp at hu
  subst hu
  rfl
set_option maxRecDepth 100000 in
set_option maxHeartbeats 8000000 in
theorem varsR_step (m : Nat) (ih : ∀ (x : AT) (w : World), x.nodes ≤ m → x.mem w → x.nodes ≤ 700000 → Calls Try.prog 20 #[.agg #[.int .i64 x.k, .int .i64 x.n, .string x.s, x.sv]] w (VarsPost w x.erase.vsR))
    (x : AT) (w : World) (hn : x.nodes ≤ m + 1) (hx : x.mem w) (hnx : x.nodes ≤ 700000) :
    Calls Try.prog 20 #[.agg #[.int .i64 x.k, .int .i64 x.n, .string x.s, x.sv]] w (VarsPost w x.erase.vsR) := by
  obtain ⟨hxs, hxm⟩ := AT.mem_mk.1 hx
  obtain ⟨ad, cx, ex, lx, mx, ax⟩ := sv_form hxs
  have hlx := len_nodes x.l
  have hnx2 := hnx
  rw [AT.nodes_mk] at hnx2
  obtain ⟨i0, hi, hz0, hz1, hz2⟩ := info_parts (show (Try.prog.info? 2).map (fun i => (i.zero, i.size, i.bytes)) = some (some (.int .i64 0), 1, 8) by kernel_rfl)
  obtain ⟨R, hR⟩ : ∃ R, x.erase.vsR = R := ⟨_, rfl⟩
  rw [hR, ex]
  rw [AT.erase_mk, Tm.vsR] at hR
  have HR := Lib.hid hR
  have HN := Lib.hid hn
  have HNX := Lib.hid hnx2
  have HX := Lib.hid hxm
  have HAX := Lib.hid ax
  have HI := Lib.hid ih
  have hl1 : x.l.length ≤ 700000 := by omega
  obtain ⟨nx, hnx'⟩ : ∃ n, x.l.length = n := ⟨_, rfl⟩
  rw [hnx'] at lx hl1 HAX ⊢
  have HLX := Lib.hid hnx'
  unfold maxLen at mx
  clear hR hxm ax ex ih hn hnx hx hxs hlx hnx2 hnx'
  obtain ⟨k1, hk1⟩ : ∃ k, x.k = k := ⟨_, rfl⟩
  obtain ⟨n1, hn1⟩ : ∃ k, x.n = k := ⟨_, rfl⟩
  obtain ⟨s1, hs1⟩ : ∃ k, x.s = k := ⟨_, rfl⟩
  rw [hk1, hn1] at HR
  rw [hk1, hn1, hs1]
  clear hk1 hn1 hs1
  by_cases hk : k1 = 1
  · subst hk
    have hRR : R = [n1] := by have := HR.out; rw [if_pos rfl] at this; exact this.symm
    subst hRR
    clear HR
    go_enter Try.func20, Try.ntmps20
    go_wp2
    go_ret
    refine ⟨_, rfl, ⟨rfl, .inr ⟨w.heap.size + 1, 1, #[.int .i64 n1], rfl, Nat.zero_le _, new_at _ _ (by simp), Nat.le_refl _, by unfold maxLen; omega, rfl, rfl⟩⟩, ((Below.refl _ _).alloc (Nat.le_refl _) _).alloc (by simp) _, fun k hk => ?_⟩
    simp [Value.ownBlock] at hk
    omega
  have hk1 : (k1 == 1) = false := beq_eq_false_iff_ne.2 hk
  have HRR : Hid (R = Tms.vsR (ATs.erase x.l) []) := by
    have := HR.out
    rw [if_neg hk] at this
    exact this.symm
  clear hk HR
  go_enter Try.func20, Try.ntmps20
  go_wp2
  go_loopw [3, 17] (fun v vi wr => ∃ (i : Nat) (vs : List Int), vi = .int .i64 i ∧ i ≤ nx ∧ vs.length ≤ 700000 ∧ Hid (RowSt w vs v wr) ∧ Hid (vs = Tms.vsR ((ATs.erase x.l).take i) [])) (fun _ vi _ => nx - (intOf vi).toNat)
  case atStart => exact ⟨0, [], rfl, Nat.zero_le _, Nat.zero_le _, ⟨⟨rfl, .inl ⟨rfl, rfl⟩⟩, fun k hk => (by cases hk), (Below.refl _ _).alloc (Nat.le_refl _) _⟩, by show [] = _; simp [Tms.vsR]⟩
  case round =>
    obtain ⟨i, vs, rfl, hin, hvl, HS, HV⟩ := hrel
    by_cases hlt : i < nx
    · obtain ⟨tx, htx⟩ : ∃ t, x.l[i]? = some t := ⟨x.l[i]'(by rw [HLX.out]; exact hlt), List.getElem?_eq_getElem _⟩
      obtain rfl : ad = some ⟨x.G, x.off, none⟩ := HAX.out (by omega)
      obtain ⟨⟨_, e0, e1, e2, e3⟩, em⟩ := mem_get HX.out htx
      have hb := HS.out.below
      replace e0 := (hb.cell (World.block_lt_of_cell? _ _ e0)).trans e0
      replace e1 := (hb.cell (World.block_lt_of_cell? _ _ e1)).trans e1
      replace e2 := (hb.cell (World.block_lt_of_cell? _ _ e2)).trans e2
      replace e3 := (hb.cell (World.block_lt_of_cell? _ _ e3)).trans e3
      have hntx := nodes_mem (List.mem_of_getElem? htx)
      have hN := HN.out
      have hNX := HNX.out
      rw [AT.nodes_mk] at hN
      obtain ⟨tad, tcap, tsv, _, _, _⟩ := sv_form (AT.mem_mk.1 em).1
      have hc1 := fun (w1 : World) (h1 : Below wr.heap.size wr w1) => HI.out tx w1 (by omega) (AT.mem_below (hb.trans (h1.mono hb.size)) (AT.ins_size _ em) em) (by omega)
      rw [tsv] at e3 hc1
      have C := Lib.hid hc1
      have hul : tx.erase.vsR.length ≤ 700000 := by
        have := Tm.vsR_len tx.erase
        rw [AT.nodes_erase] at this
        omega
      have HNEXT : Hid (∀ vs' : List Int, vs' = tx.erase.vsR.foldl addV vs → vs' = Tms.vsR ((ATs.erase x.l).take (i + 1)) [] ∧ vs'.length ≤ 700000) := fun vs' h => by
        have h1 : vs' = Tms.vsR ((ATs.erase x.l).take (i + 1)) [] := by rw [h, HV.out, vsR_take _ i tx.erase _ (erase_get htx)]
        refine ⟨h1, ?_⟩
        rw [h1]
        have h2 := Tms.vsR_len ((ATs.erase x.l).take (i + 1)) []
        have h3 : Tms.nodes ((ATs.erase x.l).take (i + 1)) ≤ Tms.nodes (ATs.erase x.l) := by
          rw [← erase_take2, ATs.nodes_erase, ATs.nodes_erase]
          exact nodes_take2 x.l (i + 1)
        rw [ATs.nodes_erase] at h3
        simp at h2
        omega
      obtain ⟨us, hus⟩ : ∃ us, tx.erase.vsR = us := ⟨_, rfl⟩
      rw [hus] at C hul HNEXT
      have i1 : (0 : Int) ≤ (i : Int) := by omega
      have i2 : (i : Int) < (nx : Int) := by omega
      have hi1 : i ≤ 700000 := by omega
      have HS1 := Lib.hid (HS.out.on ((Below.refl wr.heap.size wr).alloc (Nat.le_refl _) (.cells #[.int .i64 tx.k, .int .i64 tx.n, .string tx.s, .slice tad tx.l.length tcap] 27)))
      clear hntx hN hNX em hb htx hc1 tsv HS HV hus
      go_wp2_with fail
      refine (C.out _ ((Below.refl _ _).alloc (Nat.le_refl _) _)).mono ?_
      rintro _ w5 ⟨uv, rfl, hu1, hu2, hu3⟩
      obtain ⟨uad, ucap, ug, rfl, r1, r2, r3, r4⟩ := row_vals hu1
      have HS5 := Lib.hid (HS1.out.on hu2)
      have HU : Hid (LMem w5 ug us ∧ (0 < us.length → uad = some ⟨ug, 0, none⟩) ∧ ∀ k, u3.ownBlock = some k → 0 < us.length → k ≠ ug) := by
        refine ⟨r4, r3, fun k hk h0 e => ?_⟩
        have h1 := (HS1.out.own.lt k hk).2
        have h2 := hu3 ug (by rw [r3 h0]; rfl)
        subst e
        omega
      clear hu1 hu2 hu3 r3 r4 C HS1 e0 e1 e2 e3
      go_wp2
      obtain ⟨wo, rfl⟩ : ∃ wo : World, wo = w5 := ⟨_, rfl⟩
      go_loopw [3, 24] (fun v vj wi => ∃ (j : Nat) (vs' : List Int), vj = .int .i64 j ∧ j ≤ us.length ∧ vs'.length ≤ 1400000 ∧ Hid (RowSt w vs' v wi) ∧ Hid (vs' = (us.take j).foldl addV vs) ∧ Hid (LMem wi ug us ∧ ∀ k, v.ownBlock = some k → 0 < us.length → k ≠ ug)) (fun _ vj _ => us.length - (intOf vj).toNat)
      case atStart => exact ⟨0, vs, rfl, Nat.zero_le _, by omega, HS5.out, by show vs = _; simp, HU.out.1, HU.out.2.2⟩
      case round =>
        obtain ⟨j, vs', rfl, hj, hvl', HSi, HVi, HUi⟩ := hrel
        by_cases hltj : j < us.length
        · obtain ⟨n, hnj⟩ : ∃ n, us[j]? = some n := ⟨us[j], List.getElem?_eq_getElem hltj⟩
          obtain rfl := HU.out.2.1 (by omega)
          have f0 := HUi.out.1 j n hnj
          obtain ⟨vad, vcap, vg, rfl, v1, v2, v3, v4⟩ := row_vals HSi.out.own
          have PL := Lib.hid (fun w1 (h1 : wr = w1) => place_is vs' n vad vcap vg w1 v1 v2 v3 (by subst h1; exact v4))
          have PL2 := Lib.hid (place_is vs' n vad vcap vg wr v1 v2 v3 v4)
          have hstep : (us.take (j + 1)).foldl addV vs = addV vs' n := by
            rw [HVi.out, List.take_add_one, hnj, List.foldl_append]
            rfl
          have i3 : (0 : Int) ≤ (j : Int) := by omega
          have i4 : (j : Int) < (us.length : Int) := by omega
          have hvl2 : vs'.length ≤ vs.length + j := by
            rw [HVi.out]
            have := fold_len (us.take j) vs
            rw [List.length_take] at this
            omega
          by_cases hm : n ∈ vs'
          · have hp : placeI vs' n = (vs'.idxOf n : Int) := by unfold placeI; rw [if_pos hm]
            rw [hp] at PL2
            have t1 : decide ((vs'.idxOf n : Int) < 0) = false := decide_eq_false (by omega)
            have HNV : Hid (vs' = (us.take (j + 1)).foldl addV vs) := by show _ = _; rw [hstep, addV, if_pos hm]
            clear hp hm hstep hnj v3 v4 PL
            go_wp2_with fail
            refine PL2.out.mono ?_
            rintro _ _ ⟨rfl, rfl⟩
            go_wp2
            go_roundw
            case rel => exact ⟨j + 1, vs', by go_num, by omega, by omega, HSi.out, HNV.out, HUi.out⟩
            case measure => simp [intOf]; omega
          · have hp : placeI vs' n = -1 := by unfold placeI; rw [if_neg hm]
            rw [hp] at PL2
            have HNV : Hid (vs' ++ [n] = (us.take (j + 1)).foldl addV vs) := by show _ = _; rw [hstep, addV, if_neg hm]
            have NEXT := Lib.hid (fun g cap' w7 o hown hgrow hat => row_next (g := g) (cap' := cap') (w7 := w7) (n := n) (o := o) HSi.out hown hgrow hat)
            have HOWN := Lib.hid HSi.out.own
            have hug := World.block_lt_of_cell? _ _ f0
            have FAR := Lib.hid (fun w7 o (hg : (wr.alloc o).grownBy w7 (Value.slice vad vs'.length vcap).ownBlock) => row_far2 (G := ug) hg (fun e => HUi.out.2 ug e (by omega) rfl) hug)
            have HUL := Lib.hid HUi.out.1
            have HUK := Lib.hid HUi.out.2
            have hugs : ug < wr.heap.size := hug
            clear hp hm hstep hnj v3 v4 PL hug
            go_wp2_with fail
            refine PL2.out.mono ?_
            rintro _ _ ⟨rfl, rfl⟩
            go_wp2_with (at_builtin; refine wpList_append_lies _ rfl (.tmp 32) (.tmp 34) 34 rfl 0 2 i0 (.int .i64 0) 1 8 Try.underlying34 hi hz0 hz1 hz2 rfl (by decide) _ _ _ rfl (HOWN.out.alloc _) ⟨wr.heap.size, 0, none⟩ 1 1 [.int .i64 n] rfl rfl (World.news_of_block (heap_alloc_new wr _)) (one_int n) (by omega) ?_ ?_ ?_ (wr.heap.size + 1) (by simp) ?_)
            · unfold maxLen; omega
            · omega
            · simp
            intro g' cap' w7 hown hgrow hat hlt2
            have HNX := Lib.hid (NEXT.out _ _ _ _ hown hgrow hat)
            have hfar := FAR.out _ _ hgrow
            have HUN : Hid (LMem w7 ug us ∧ ∀ k, (Value.slice (some ⟨g', 0, none⟩) (vs'.length + 1) cap').ownBlock = some k → 0 < us.length → k ≠ ug) := by
              refine ⟨fun i n hin => (World.cell?_of_block hfar).trans (HUL.out i n hin), fun k hk h0 => ?_⟩
              obtain rfl : g' = k := by simpa [Value.ownBlock] using hk
              rcases hat with h1 | h1
              · exact HUK.out g' h1 h0
              · omega
            clear hown hgrow hat hlt2 NEXT HOWN FAR HUL HUK hfar
            go_wp2
            go_roundw
            case rel => exact ⟨j + 1, vs' ++ [n], by go_num, by omega, by simp; omega, HNX.out, HNV.out, HUN.out⟩
            case measure => simp [intOf]; omega
        · have hje : j = us.length := by omega
          have HQ : Hid (vs' = us.foldl addV vs) := by
            show _ = _
            rw [HVi.out, hje, List.take_length]
          have HQ2 := Lib.hid (HNEXT.out vs' HQ.out)
          have hq3 := HQ2.out.2
          clear hje
          go_wp2
          go_roundw
          case rel => exact ⟨i + 1, vs', by go_num, by omega, hq3, HSi.out, HQ2.out.1⟩
          case measure => simp [intOf]; omega
    · have hie : i = nx := by omega
      have hvR : vs = R := by
        rw [HV.out, HRR.out, List.take_of_length_le (by rw [erase_len, HLX.out]; omega)]
      subst hvR
      have HE : Hid (wr.ownsRow 0 2 1 u3 vs.length (vs.map (Value.int .i64)) ∧ Below w.heap.size w wr ∧ ∀ k, u3.ownBlock = some k → w.heap.size ≤ k) := ⟨HS.out.own, HS.out.below, HS.out.far⟩
      clear HS HV HRR hie
      go_wp2
      go_ret
      exact ⟨_, rfl, HE.out⟩
where
  erase_take2 : ∀ {l : List AT} {n : Nat}, ATs.erase (l.take n) = (ATs.erase l).take n
    | [], n => by simp [ATs.erase]
    | t :: r, 0 => rfl
    | t :: r, n + 1 => by rw [List.take_succ_cons, ATs.erase, ATs.erase, List.take_succ_cons, erase_take2]
  nodes_take2 : ∀ (l : List AT) (n : Nat), ATs.nodes (l.take n) ≤ ATs.nodes l
    | [], n => by simp
    | t :: r, 0 => by simp [ATs.nodes]
    | t :: r, n + 1 => by rw [List.take_succ_cons, ATs.nodes, ATs.nodes]; have := nodes_take2 r n; omega
theorem varsR_is : ∀ (m : Nat) (x : AT) (w : World), x.nodes ≤ m → x.mem w → x.nodes ≤ 700000 → Calls Try.prog 20 #[.agg #[.int .i64 x.k, .int .i64 x.n, .string x.s, x.sv]] w (VarsPost w x.erase.vsR)
  | 0, x, _, h, _, _ => by have := nodes_pos x; omega
  | m + 1, x, w, h, hx, h1 => varsR_step m (varsR_is m) x w h hx h1

end Go.Proofs.Ytkidcchafdiofaa
