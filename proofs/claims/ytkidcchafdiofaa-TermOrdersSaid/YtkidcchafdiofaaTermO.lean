/- The document's Mend and Good: contracts. Conditions: memory holds the term, or the parts; there are at most 1000 parts. -/
import Derived.Test.YtkidcchafdiofaaTermN
import Derived.Deep.RegionLaw
namespace Go.Proofs.Ytkidcchafdiofaa
open Go Go.RowKit
attribute [local go_sem ↓] Go.wp_at_zero Go.wp_at_succ

mutual
/-- a term with the atom a for what may not be -/
def mendT : Tm → Tm
  | .mk k n s l => if 20 < s.size then atomA else if k = 1 then .mk 1 (max 0 n) ⟨#[]⟩ [] else if k = 2 then .mk 2 n ⟨#[]⟩ [] else if k = 3 then .mk 3 0 s [] else if k = 4 then (if l.length = 0 then atomA else .mk 4 0 s (mendL l)) else atomA
def mendL : List Tm → List Tm
  | [] => []
  | t :: r => mendT t :: mendL r
end
theorem mendL_take (l : List Tm) (i : Nat) (t : Tm) (h : l[i]? = some t) : mendL (l.take (i + 1)) = mendL (l.take i) ++ [mendT t] := by
  induction l generalizing i with
  | nil => simp at h
  | cons a r ih =>
    cases i with
    | zero => simp at h; subst h; simp [mendL]
    | succ i => rw [List.take_succ_cons, List.take_succ_cons, mendL, mendL, ih i (by simpa using h), List.cons_append]
/-- what Mend leaves: a term in new memory -/
def MendPost (w : World) (r : Tm) (e : Ending) (w' : World) : Prop :=
  ∃ t : AT, e = .returned (.agg #[.int .i64 t.k, .int .i64 t.n, .string t.s, t.sv]) ∧ t.erase = r ∧ t.mem w' ∧ t.ins (fun j => w.heap.size ≤ j) ∧ Below w.heap.size w w'
theorem leaf_post {w w' : World} {k n : Int} {s : ByteArray} (hb : Below w.heap.size w w') : MendPost w (.mk k n s []) (.returned (.agg #[.int .i64 k, .int .i64 n, .string s, .slice none 0 0])) w' :=
  ⟨.mk k n s (.slice none 0 0) 0 0 [], rfl, rfl, ⟨.inl ⟨rfl, rfl⟩, trivial⟩, ⟨fun h => absurd rfl h, trivial⟩, hb⟩
theorem below3 {w : World} {a b c : Obj} : Below w.heap.size w (((w.alloc a).alloc b).alloc c) := (((Below.refl _ _).alloc (Nat.le_refl _) _).alloc (by simp) _).alloc (by simp; omega) _

set_option maxRecDepth 100000 in
set_option maxHeartbeats 4000000 in
theorem mend_leaf (k n : Int) (s : ByteArray) (ad : Option Addr) (nx cx : Nat) (l : List Tm) (hl : l.length = nx) (w : World) (hcx : nx ≤ cx) (h4 : 20 < s.size ∨ k ≠ 4 ∨ nx = 0) :
    Calls Try.prog 37 #[.agg #[.int .i64 k, .int .i64 n, .string s, .slice ad nx cx]] w (MendPost w (mendT (.mk k n s l))) := by
  obtain ⟨R, hR⟩ : ∃ R, mendT (.mk k n s l) = R := ⟨_, rfl⟩
  rw [hR]
  by_cases hs : 20 < s.size
  · rw [mendT, if_pos hs] at hR
    subst hR
    clear h4 hl
    go_enter Try.func37, Try.ntmps37
    go_wp2
    refine bodyPost_ret (v := .agg #[.int .i64 3, .int .i64 0, .string ⟨#[97]⟩, .slice none 0 0]) (by simp [results, Try.results37, go_sem]) rfl ?_
    exact leaf_post below3
  · rw [mendT, if_neg hs] at hR
    by_cases h1 : k = 1
    · rw [if_pos h1] at hR
      subst hR
      subst h1
      clear h4 hl
      go_enter Try.func37, Try.ntmps37
      go_wp2
      refine bodyPost_ret (v := .agg #[.int .i64 1, .int .i64 (max 0 n), .string ⟨#[]⟩, .slice none 0 0]) (by simp [results, Try.results37, go_sem]) rfl ?_
      exact leaf_post below3
    · rw [if_neg h1] at hR
      have k1 : (k == 1) = false := beq_eq_false_iff_ne.2 h1
      clear h1
      by_cases h2 : k = 2
      · rw [if_pos h2] at hR
        subst hR
        subst h2
        clear h4 hl k1
        go_enter Try.func37, Try.ntmps37
        go_wp2
        refine bodyPost_ret (v := .agg #[.int .i64 2, .int .i64 n, .string ⟨#[]⟩, .slice none 0 0]) (by simp [results, Try.results37, go_sem]) rfl ?_
        exact leaf_post below3
      · rw [if_neg h2] at hR
        have k2 : (k == 2) = false := beq_eq_false_iff_ne.2 h2
        clear h2
        by_cases h3 : k = 3
        · rw [if_pos h3] at hR
          subst hR
          subst h3
          clear h4 hl k1 k2
          go_enter Try.func37, Try.ntmps37
          go_wp2
          refine bodyPost_ret (v := .agg #[.int .i64 3, .int .i64 0, .string s, .slice none 0 0]) (by simp [results, Try.results37, go_sem]) rfl ?_
          exact leaf_post below3
        · rw [if_neg h3] at hR
          have k3 : (k == 3) = false := beq_eq_false_iff_ne.2 h3
          clear h3
          by_cases h5 : k = 4
          · rw [if_pos h5, if_pos (by rcases h4 with h | h | h; exact absurd h hs; exact absurd h5 h; omega)] at hR
            obtain rfl : nx = 0 := by rcases h4 with h | h | h; exact absurd h hs; exact absurd h5 h; exact h
            subst hR
            subst h5
            clear h4 hl k1 k2 k3
            go_enter Try.func37, Try.ntmps37
            go_wp2
            refine bodyPost_ret (v := .agg #[.int .i64 3, .int .i64 0, .string ⟨#[97]⟩, .slice none 0 0]) (by simp [results, Try.results37, go_sem]) rfl ?_
            exact leaf_post below3
          · rw [if_neg h5] at hR
            have k4 : (k == 4) = false := beq_eq_false_iff_ne.2 h5
            subst hR
            clear h4 hl h5
            go_enter Try.func37, Try.ntmps37
            go_wp2
            refine bodyPost_ret (v := .agg #[.int .i64 3, .int .i64 0, .string ⟨#[97]⟩, .slice none 0 0]) (by simp [results, Try.results37, go_sem]) rfl ?_
            exact leaf_post below3

/-- what holds ahead of each of Mend's Args -/
def MendSt (w : World) (s : ByteArray) (x : AT) (i : Nat) (wr : World) : Prop :=
  ∃ (l : List AT) (v : Value), l.length = i ∧ ATs.erase l = mendL ((ATs.erase x.l).take i) ∧ wr.ownsRow w.heap.size 27 4 v i (headCells l) ∧
    wr.heap[w.heap.size + 1 + 1 + 1]? = some (.cells #[.int .i64 4, .int .i64 0, .string s, v] 27 (0, 0)) ∧
    wr.heap[w.heap.size + 1]? = some (.cells #[.int .i64 0, .int .i64 0, .string ⟨#[]⟩, .slice none 0 0] 27 (0, 0)) ∧
    (∀ t ∈ l, t.mem wr ∧ t.ins (fun j => w.heap.size + 1 + 1 + 1 < j ∧ v.ownBlock ≠ some j)) ∧ (∀ k, v.ownBlock = some k → w.heap.size + 1 + 1 + 1 < k) ∧ Below w.heap.size w wr

/-- what Mend of one of the Args leaves, beside what the loop holds -/
def MendRec (H B : Nat) (v : Value) (i : Nat) (l : List AT) (W1 : World) (r : Tm) (e : Ending) (w' : World) : Prop :=
  ∃ (t : AT) (vx : Option Addr) (vy vz : Nat), e = .returned (.agg #[.int .i64 t.k, .int .i64 t.n, .string t.s, .slice vx vy vz]) ∧ Hid (t.sv = .slice vx vy vz) ∧ w'.cell? ⟨H, 3, none⟩ = some v ∧ w'.frozen? ⟨H, 3, none⟩ = false ∧ H < w'.heap.size ∧
    Hid (w'.ownsRow B 27 4 v i (headCells l)) ∧ Hid (t.erase = r ∧ t.mem w' ∧ t.ins (fun j => W1.heap.size ≤ j) ∧ Below W1.heap.size W1 w')
theorem mend_rec {w wr : World} {tx : AT} {m i H : Nat} {s : ByteArray} {v : Value} {l : List AT} (hc : ∀ w, tx.nodes ≤ m → tx.mem w → tx.nodes ≤ 800000 → Calls Try.prog 37 #[.agg #[.int .i64 tx.k, .int .i64 tx.n, .string tx.s, tx.sv]] w (MendPost w (mendT tx.erase))) (h1 : tx.nodes ≤ m) (h2 : tx.nodes ≤ 800000) (hm : tx.mem wr)
    (a5 : wr.heap[H]? = some (.cells #[.int .i64 4, .int .i64 0, .string s, v] 27 (0, 0))) (a4 : wr.ownsRow w.heap.size 27 4 v i (headCells l)) (_a8 : ∀ t ∈ l, t.mem wr ∧ t.ins (fun j => H < j ∧ v.ownBlock ≠ some j)) (_a9 : ∀ k, v.ownBlock = some k → H < k) (o : Obj) :
    ∀ w1, Below (wr.alloc o).heap.size (wr.alloc o) w1 → Calls Try.prog 37 #[.agg #[.int .i64 tx.k, .int .i64 tx.n, .string tx.s, tx.sv]] w1 (MendRec H w.heap.size v i l (wr.alloc o) (mendT tx.erase)) := by
  intro w1 hb
  have hm1 : tx.mem (wr.alloc o) := AT.mem_below ((Below.refl wr.heap.size wr).alloc (Nat.le_refl _) o) (AT.ins_size _ hm) hm
  refine (hc w1 h1 (AT.mem_below hb (AT.ins_size _ hm1) hm1) h2).mono ?_
  rintro e w' ⟨t, rfl, b1, b2, b3, b4⟩
  obtain ⟨x, y, hsv, _⟩ := sv_form (AT.mem_mk.1 b2).1
  have hH := (Array.getElem?_eq_some_iff.1 a5).1
  have hb2 : Below (wr.alloc o).heap.size (wr.alloc o) w' := hb.trans (b4.mono hb.size)
  have hsz : (wr.alloc o).heap.size = wr.heap.size + 1 := by simp
  have h5 : w'.heap[H]? = some (.cells #[.int .i64 4, .int .i64 0, .string s, v] 27 (0, 0)) := by
    rw [hb2.block H (by rw [hsz]; omega), Below.heap_alloc _ _ _ hH]
    exact a5
  refine ⟨t, x, t.l.length, y, by rw [hsv], hsv, cell_of_heap h5 rfl, free_of_heap h5, by have := hb2.size; omega, owns_same a4 (fun g hg => ?_), b1, b2, AT.ins_mono (fun j hj => Nat.le_trans hb.size hj) t b3, hb2⟩
  have := (a4.lt g hg).2
  rw [hb2.block g (by rw [hsz]; omega), Below.heap_alloc _ _ _ this]

theorem news_hid (t : AT) {vx : Option Addr} {vy vz : Nat} (h : Hid (t.sv = .slice vx vy vz)) : Hid (∀ (W : World) (H : Nat), W.heap.size = H → ∀ j u, [Value.int .i64 t.k, .int .i64 t.n, .string t.s, .slice vx vy vz][j]? = some u → (W.alloc (.cells #[.int .i64 t.k, .int .i64 t.n, .string t.s, .slice vx vy vz] 27)).cell? ((⟨H, 0, none⟩ : Addr).add j) = some u) := by
  have h1 : t.sv = .slice vx vy vz := h
  have h2 := fun W H h => term_news W t H h
  rw [h1] at h2
  exact h2
theorem one_hid (t : AT) {vx : Option Addr} {vy vz : Nat} (h : Hid (t.sv = .slice vx vy vz)) : Hid (∀ u ∈ [Value.int .i64 t.k, .int .i64 t.n, .string t.s, .slice vx vy vz], u.oneCell' = true) := by
  have h1 : t.sv = .slice vx vy vz := h
  have h2 := term_one (t := t) (by rw [h1]; rfl)
  rw [h1] at h2
  exact h2
theorem row_far {w5 w7 : World} {o : Obj} {b : Option Nat} {H : Nat} (hl : H < w5.heap.size) (hb : ∀ k, b = some k → H < k) (hg : (w5.alloc o).grownBy w7 b) : w7.heap[H]? = w5.heap[H]? := by
  rw [hg.block H (by simp; omega) (fun h => by have := hb H h.symm; omega), Below.heap_alloc _ _ _ hl]
theorem t7_hid {v u : Value} {H : Nat} {w5 : World} (hb : ∀ k, v.ownBlock = some k → H < k) (h : w5.cell? ⟨H, 3, none⟩ = some u) (hl : H < w5.heap.size) : Hid (∀ (o : Obj) (w7 : World), (w5.alloc o).grownBy w7 v.ownBlock → w7.cell? ⟨H, 3, none⟩ = some u) :=
  fun _ _ hg => (World.cell?_of_block (row_far hl hb hg)).trans h
theorem f7_hid {v : Value} {H : Nat} {w5 : World} (hb : ∀ k, v.ownBlock = some k → H < k) (h : w5.frozen? ⟨H, 3, none⟩ = false) (hl : H < w5.heap.size) : Hid (∀ (o : Obj) (w7 : World), (w5.alloc o).grownBy w7 v.ownBlock → w7.frozen? ⟨H, 3, none⟩ = false) :=
  fun _ _ hg => (World.frozen?_of_block (row_far hl hb hg)).trans h

theorem mend_next {w wr w5 w7 : World} {s : ByteArray} {x tx t : AT} {i g cap' : Nat} {l : List AT} {v : Value} {o1 o2 : Obj}
    (h : l.length = i ∧ ATs.erase l = mendL ((ATs.erase x.l).take i) ∧ wr.ownsRow w.heap.size 27 4 v i (headCells l) ∧
      wr.heap[w.heap.size + 1 + 1 + 1]? = some (.cells #[.int .i64 4, .int .i64 0, .string s, v] 27 (0, 0)) ∧
      wr.heap[w.heap.size + 1]? = some (.cells #[.int .i64 0, .int .i64 0, .string ⟨#[]⟩, .slice none 0 0] 27 (0, 0)) ∧
      (∀ t ∈ l, t.mem wr ∧ t.ins (fun j => w.heap.size + 1 + 1 + 1 < j ∧ v.ownBlock ≠ some j)) ∧ (∀ k, v.ownBlock = some k → w.heap.size + 1 + 1 + 1 < k) ∧ Below w.heap.size w wr)
    (htx : x.l[i]? = some tx) (ht : t.erase = mendT tx.erase ∧ t.mem w5 ∧ t.ins (fun j => (wr.alloc o1).heap.size ≤ j) ∧ Below (wr.alloc o1).heap.size (wr.alloc o1) w5)
    (hown : w7.ownsRow w.heap.size 27 4 (.slice (some ⟨g, 0, none⟩) (i + 1) cap') (i + 1) (headCells l ++ [.int .i64 t.k, .int .i64 t.n, .string t.s, t.sv])) (hgrow : (w5.alloc o2).grownBy w7 v.ownBlock) (hat : v.ownBlock = some g ∨ g = w5.heap.size + 1) :
    MendSt w s x (i + 1) (w7.setCell ⟨w.heap.size + 1 + 1 + 1, 3, none⟩ (.slice (some ⟨g, 0, none⟩) (i + 1) cap')) := by
  obtain ⟨a1, a2, a4, a5, a7, a8, a9, a10⟩ := h
  obtain ⟨b1, b2, b3, b4⟩ := ht
  have hw1 := (Array.getElem?_eq_some_iff.1 a5).1
  have hsz : (wr.alloc o1).heap.size = wr.heap.size + 1 := by simp
  have hw5 := b4.size
  have hb5 : Below wr.heap.size wr w5 := ((Below.refl wr.heap.size wr).alloc (Nat.le_refl _) o1).trans (b4.mono (by omega))
  have hg : g ≠ w.heap.size + 1 + 1 + 1 := by
    rcases hat with h | h
    · have := a9 g h; omega
    · omega
  have old : ∀ k, k ≤ w.heap.size + 1 + 1 + 1 → w7.heap[k]? = wr.heap[k]? := fun k hk => by
    rw [hgrow.block k (by simp; omega) (fun h => by have := a9 k h.symm; omega), Below.heap_alloc _ _ _ (by omega), hb5.block k (by omega)]
  have hti : t.ins (fun j => w.heap.size + 1 + 1 + 1 < j ∧ v.ownBlock ≠ some j) := AT.ins_mono (fun j hj => ⟨by omega, fun h => by have := (a4.lt j h).2; omega⟩) t b3
  refine ⟨l ++ [t], .slice (some ⟨g, 0, none⟩) (i + 1) cap', by simp [a1], ?_, grow_close hown hg _, ?_, ?_, ?_, ?_, ?_⟩
  · have he : (ATs.erase x.l)[i]? = some tx.erase := erase_get htx
    rw [erase_app, a2, ATs.erase, b1, mendL_take _ i _ he]; rfl
  · rw [heap_set ((old _ (Nat.le_refl _)).trans a5)]; rfl
  · rw [heap_set_ne (by omega)]; exact (old _ (by omega)).trans a7
  · intro u hu
    rcases List.mem_append.1 hu with hu | hu
    · exact grow_mem (AT.mem_below hb5 (AT.ins_size u (a8 u hu).1) (a8 u hu).1) (a8 u hu).2 hgrow hat _
    · obtain rfl := List.mem_singleton.1 hu
      exact grow_mem b2 hti hgrow hat _
  · intro k hk
    obtain rfl : g = k := by simpa [Value.ownBlock] using hk
    rcases hat with h | h
    · exact a9 g h
    · omega
  · have h1 := a10.trans (hb5.mono (by omega))
    have h2 := h1.alloc (by have := h1.size; omega) o2
    exact (h2.grown hgrow (by simp; have := h1.size; omega) (fun k hk => (a4.lt k hk).1)).setCell (by show w.heap.size ≤ w.heap.size + 1 + 1 + 1; omega) _

set_option maxRecDepth 100000 in
set_option maxHeartbeats 4000000 in
theorem mend_node (m : Nat) (ih : ∀ (x : AT) (w : World), x.nodes ≤ m → x.mem w → x.nodes ≤ 800000 → Calls Try.prog 37 #[.agg #[.int .i64 x.k, .int .i64 x.n, .string x.s, x.sv]] w (MendPost w (mendT x.erase)))
    (x : AT) (w : World) (hn : x.nodes ≤ m + 1) (hx : x.mem w) (hnx : x.nodes ≤ 800000) (hk : x.k = 4) (hs : ¬ 20 < x.s.size) (hl0 : 0 < x.l.length) :
    Calls Try.prog 37 #[.agg #[.int .i64 x.k, .int .i64 x.n, .string x.s, x.sv]] w (MendPost w (mendT x.erase)) := by
  obtain ⟨hxs, hxm⟩ := AT.mem_mk.1 hx
  obtain ⟨ad, cx, ex, lx, mx, ax⟩ := sv_form hxs
  have hlx := len_nodes x.l
  have hnx2 := hnx
  rw [AT.nodes_mk] at hnx2
  obtain ⟨i0, hi, hz0, hz1, hz2⟩ := info_parts (show (Try.prog.info? 27).map (fun i => (i.zero, i.size, i.bytes)) = some (some (.agg #[.int .i64 0, .int .i64 0, .string ⟨#[]⟩, .slice none 0 0]), 4, 56) by kernel_rfl)
  obtain rfl := ax hl0
  obtain ⟨R, hR⟩ : ∃ R, mendT x.erase = R := ⟨_, rfl⟩
  have hRR : R = .mk 4 0 x.s (mendL (ATs.erase x.l)) := by
    rw [← hR, AT.erase_mk, mendT, if_neg hs, if_neg (by omega), if_neg (by omega), if_neg (by omega), if_pos hk, if_neg (by rw [erase_len]; omega)]
  rw [hR, ex, hk]
  obtain ⟨s, hss⟩ : ∃ s, x.s = s := ⟨_, rfl⟩
  obtain ⟨xn, hxn⟩ : ∃ s, x.n = s := ⟨_, rfl⟩
  obtain ⟨nx, hnn⟩ : ∃ s, x.l.length = s := ⟨_, rfl⟩
  rw [hss] at hs hRR
  rw [hnn] at lx hl0 hlx
  have hl1 : nx ≤ 800000 := by omega
  rw [hss, hxn, hnn]
  have HX := Lib.hid hxm
  have HI := Lib.hid ih
  have HN := Lib.hid hn
  have HNX := Lib.hid hnx
  have HR := Lib.hid hRR
  have HL := Lib.hid hnn
  unfold maxLen at mx
  have hn0 : ((nx : Int) == 0) = false := by rw [beq_eq_false_iff_ne]; omega
  clear hR hRR hxm ih hn hnx hx hxs hlx hnx2 hk hss hxn hnn ex ax
  go_enter Try.func37, Try.ntmps37
  go_wp2
  go_loopw [44] (fun vi wr => ∃ i : Nat, vi = .int .i64 i ∧ i ≤ nx ∧ Hid (MendSt w s x i wr)) (fun vi _ => nx - (intOf vi).toNat)
  case atStart =>
    refine ⟨0, rfl, Nat.zero_le _, [], .slice none 0 0, rfl, rfl, ⟨rfl, .inl ⟨rfl, rfl⟩⟩, ?_, ?_, fun t ht => (by cases ht), fun k hk => (by cases hk), (below3.alloc (by simp; omega) _)⟩
    · exact new_at _ _ (by simp)
    · rw [Below.heap_alloc _ _ _ (by simp <;> omega), Below.heap_alloc _ _ _ (by simp)]
      exact new_at _ _ (by simp)
  case round =>
    obtain ⟨i, rfl, hi8, HSt⟩ := hrel
    obtain ⟨l, v, a1, a2, a4, a5, a7, a8, a9, a10⟩ := HSt.out
    have t0 : wr.cell? ⟨w.heap.size + 1 + 1 + 1, 0, none⟩ = some (.int .i64 4) := cell_of_heap a5 rfl
    have t1 : wr.cell? ⟨w.heap.size + 1 + 1 + 1, 1, none⟩ = some (.int .i64 0) := cell_of_heap a5 rfl
    have t2 : wr.cell? ⟨w.heap.size + 1 + 1 + 1, 2, none⟩ = some (.string s) := cell_of_heap a5 rfl
    have t3 : wr.cell? ⟨w.heap.size + 1 + 1 + 1, 3, none⟩ = some v := cell_of_heap a5 rfl
    have r0 : wr.cell? ⟨w.heap.size + 1, 0, none⟩ = some (.int .i64 0) := cell_of_heap a7 rfl
    have r1 : wr.cell? ⟨w.heap.size + 1, 1, none⟩ = some (.int .i64 0) := cell_of_heap a7 rfl
    have r2 : wr.cell? ⟨w.heap.size + 1, 2, none⟩ = some (.string ⟨#[]⟩) := cell_of_heap a7 rfl
    have r3 : wr.cell? ⟨w.heap.size + 1, 3, none⟩ = some (.slice none 0 0) := cell_of_heap a7 rfl
    have z0 := free_of_heap (o := 0) a7
    have z1 := free_of_heap (o := 1) a7
    have z2 := free_of_heap (o := 2) a7
    have z3 := free_of_heap (o := 3) a7
    by_cases hlt : i < nx
    · obtain ⟨tx, htx⟩ : ∃ t, x.l[i]? = some t := ⟨x.l[i]'(by rw [HL.out]; exact hlt), List.getElem?_eq_getElem _⟩
      obtain ⟨⟨_, e0, e1, e2, e3⟩, em⟩ := mem_get HX.out htx
      replace e0 := (a10.cell (World.block_lt_of_cell? _ _ e0)).trans e0
      replace e1 := (a10.cell (World.block_lt_of_cell? _ _ e1)).trans e1
      replace e2 := (a10.cell (World.block_lt_of_cell? _ _ e2)).trans e2
      replace e3 := (a10.cell (World.block_lt_of_cell? _ _ e3)).trans e3
      obtain ⟨tad, tcap, tsv, _, _, _⟩ := sv_form (AT.mem_mk.1 em).1
      have hntx := nodes_mem (List.mem_of_getElem? htx)
      have hN := HN.out
      have hNX := HNX.out
      rw [AT.nodes_mk] at hN hNX
      have emr : tx.mem wr := AT.mem_below a10 (AT.ins_size _ em) em
      have hc := mend_rec (HI.out tx) (by omega) (by omega) emr a5 a4 (fun t ht => a8 t ht) a9 (.cells #[.int .i64 tx.k, .int .i64 tx.n, .string tx.s, tx.sv] 27)
      rw [tsv] at e3 hc
      have C := Lib.hid hc
      have HTX := Lib.hid htx
      have HST := Lib.hid (And.intro a1 (And.intro a2 (And.intro a4 (And.intro a5 (And.intro a7 (And.intro a8 (And.intro a9 a10)))))))
      have i1 : (0 : Int) ≤ (i : Int) := by omega
      have i2 : (i : Int) < (nx : Int) := by omega
      have hwl := (Array.getElem?_eq_some_iff.1 a5).1
      have hxl : x.G < wr.heap.size := World.block_lt_of_cell? _ _ e0
      have f3 := free_of_heap (o := 3) a5
      clear hc htx a1 a2 a4 a5 a7 a8 a9 a10 em emr hntx hN hNX tsv HSt r0 r1 r2 r3 z0 z1 z2 z3 t0 t1 t2
      have h1m : i + 1 ≤ 800001 := by omega
      have hbase : w.heap.size ≤ wr.heap.size := by omega
      go_wp2_with fail
      go_region_law (first | (refine step_append_lies _ (by rfl) (.tmp 49) (.tmp 52) 25 (by rfl) w.heap.size 27 i0 (.agg #[.int .i64 0, .int .i64 0, .string ⟨#[]⟩, .slice none 0 0]) 4 56 Try.underlying25 hi hz0 hz1 hz2 (by rfl) (by decide) v i (headCells l) (by rfl) (HOWN.out.alloc _) ⟨w5.heap.size, 0, none⟩ 1 1 [.int .i64 t.k, .int .i64 t.n, .string t.s, .slice vx vy vz] (by rfl) (by rfl) (NEWS.out _ _ (by simp)) ONE.out (by omega) (by unfold maxLen; omega) (by omega) (by simp; omega) (w5.heap.size + 1) (by simp) ?_; intro g' cap' w7 hown hgrow hat hlt2; have t7 : w7.cell? ⟨w.heap.size + 1 + 1 + 1, 3, none⟩ = some v := T7.out _ _ hgrow; have f7 : w7.frozen? ⟨w.heap.size + 1 + 1 + 1, 3, none⟩ = false := F7.out _ _ hgrow) | (go_simp; go_at_call 37; refine (C.out _ (by first | exact Below.refl _ _ | exact (Below.refl _ _).drew)).mono ?_; rintro _ w5 ⟨t, vx, vy, vz, rfl, HSV, t5, f5, lw5, HOWN, HT⟩; have NEWS := news_hid t HSV; have ONE := one_hid t HSV; have T7 := t7_hid HST.out.2.2.2.2.2.2.1 t5 lw5; have F7 := f7_hid HST.out.2.2.2.2.2.2.1 f5 lw5))
      all_goals
        rw [← HSV.out] at hown
        have NEXT := Lib.hid (mend_next HST.out HTX.out HT.out hown hgrow hat)
        clear hown hgrow hat hlt2
        go_wp2
        go_roundw
        case rel => exact ⟨i + 1, by go_num, by omega, NEXT.out⟩
        case measure => simp [intOf]; omega
    · obtain ⟨G, g1, g2, g3⟩ := row_mem a4 a1 (fun t ht => (a8 t ht).1)
      have hia : i = nx := by omega
      have HE : Hid ((AT.mk 4 0 s v G 0 l).erase = R ∧ (AT.mk 4 0 s v G 0 l).mem wr ∧ (AT.mk 4 0 s v G 0 l).ins (fun j => w.heap.size + 1 < j)) := by
        refine ⟨?_, ⟨g1, g2⟩, fun h => by have := a9 G (g3 h); omega, ins_all fun t ht => AT.ins_mono (fun j hj => by omega) t (a8 t ht).2⟩
        rw [HR.out, AT.erase, a2, List.take_of_length_le (by rw [erase_len, HL.out]; omega)]
      have HB := Lib.hid a10
      have HA7 := Lib.hid a7
      have hov : ∃ x y z, v = .slice x y z := by
        rcases g1 with ⟨h, _⟩ | ⟨c, h, _⟩ <;> exact ⟨_, _, _, h⟩
      obtain ⟨vx, vy, vz, rfl⟩ := hov
      clear a1 a2 a4 a5 a7 a8 a9 a10 g1 g2 g3 HSt hia
      go_wp2
      obtain ⟨q0, q1, q2, q3⟩ := four_cells HA7.out (.int .i64 4) (.int .i64 0) (.string s) (.slice vx vy vz)
      refine bodyPost_ret (v := .agg #[.int .i64 4, .int .i64 0, .string s, .slice vx vy vz]) (by simp [results, Try.results37, go_sem, q0, q1, q2, q3]) rfl ?_
      have hw1 : w.heap.size ≤ w.heap.size + 1 := by omega
      refine ⟨AT.mk 4 0 s (.slice vx vy vz) G 0 l, rfl, HE.out.1, AT.mem_same (S := fun j => w.heap.size + 1 < j) (fun j hj => ?_) _ HE.out.2.2 HE.out.2.1, AT.ins_mono (fun j hj => by omega) _ HE.out.2.2, ((((HB.out.setCell hw1 _).setCell hw1 _).setCell hw1 _).setCell hw1 _)⟩
      rw [heap_set_ne (by omega), heap_set_ne (by omega), heap_set_ne (by omega), heap_set_ne (by omega)]

theorem mend_is : ∀ (m : Nat) (x : AT) (w : World), x.nodes ≤ m → x.mem w → x.nodes ≤ 800000 → Calls Try.prog 37 #[.agg #[.int .i64 x.k, .int .i64 x.n, .string x.s, x.sv]] w (MendPost w (mendT x.erase))
  | 0, x, _, h, _, _ => by have := nodes_pos x; omega
  | m + 1, x, w, h, hx, h1 => by
    by_cases hc : x.k = 4 ∧ ¬ 20 < x.s.size ∧ 0 < x.l.length
    · exact mend_node m (mend_is m) x w h hx h1 hc.1 hc.2.1 hc.2.2
    · obtain ⟨ad, cx, ex, lx, _, _⟩ := sv_form (AT.mem_mk.1 hx).1
      rw [AT.erase_mk, ex]
      exact mend_leaf x.k x.n x.s ad x.l.length cx (ATs.erase x.l) (erase_len _) w lx (by omega)

/-- Good's term -/
def goodT (ps : List PRow) : Tm := mendT (ofT ps.length ps).1
set_option maxRecDepth 100000 in
set_option maxHeartbeats 1600000 in
theorem good_is (ps : List PRow) (B off cap : Nat) (ad : Option Addr) (w : World) (h1 : ps.length ≤ cap) (h2 : cap ≤ 9223372036854775807) (h3 : 0 < ps.length → ad = some ⟨B, off, none⟩) (h4 : PMem w B off ps) (h5 : ps.length ≤ 1000) :
    Calls Try.prog 18 #[.slice ad ps.length cap] w (MendPost w (goodT ps)) := by
  have C := Lib.hid (fun w1 (hb : Below w.heap.size w w1) => of_is ps.length ps B off cap ad w1 (Nat.le_refl _) h1 h2 h3 (h4.below hb (.inl (Nat.le_refl _))) h5)
  have hle := ofT_le ps.length ps
  have HLE := Lib.hid hle
  obtain ⟨n, hn⟩ : ∃ n, ps.length = n := ⟨_, rfl⟩
  unfold goodT
  rw [hn] at C HLE ⊢
  obtain ⟨R, hR⟩ : ∃ R, ofT n ps = R := ⟨_, rfl⟩
  rw [hR] at C HLE ⊢
  clear hle h4 h3 hR
  go_enter Try.func18, Try.ntmps18
  go_wp2_with fail
  refine (C.out _ ((Below.refl _ _).alloc (Nat.le_refl _) _)).mono ?_
  rintro e w5 ⟨t, rfl, b1, b2, b3, b4⟩
  obtain ⟨x, y, hsv, _⟩ := sv_form (AT.mem_mk.1 b2).1
  have HM := Lib.hid (fun w6 (hb : Below w5.heap.size w5 w6) => mend_is t.nodes t w6 (Nat.le_refl _) (AT.mem_below hb (AT.ins_size _ b2) b2) (by
    rw [← AT.nodes_erase, b1]
    have := HLE.out
    omega))
  rw [b1, hsv] at HM
  rw [hsv]
  have HB : Hid (Below w.heap.size w w5) := ((Below.refl _ _).alloc (Nat.le_refl _) _).trans (b4.mono (by simp))
  have h50 : Hid (w5.heap[w.heap.size]? = some (.cells #[.int .i64 0, .int .i64 0, .string ⟨#[]⟩, .slice none 0 0] 27 (0, 0))) := (b4.block _ (by simp)).trans (new_at w _ rfl)
  clear b1 b2 b3 b4 hsv C HLE
  go_wp2_with fail
  refine (HM.out _ ((Below.refl _ _).alloc (Nat.le_refl _) _)).mono ?_
  rintro e w7 ⟨u, rfl, c1, c2, c3, c4⟩
  obtain ⟨vx, vy, vsv, _⟩ := sv_form (AT.mem_mk.1 c2).1
  rw [vsv]
  have hl5 : w.heap.size < w5.heap.size := (Array.getElem?_eq_some_iff.1 h50.out).1
  have h7 : w7.heap[w.heap.size]? = some (.cells #[.int .i64 0, .int .i64 0, .string ⟨#[]⟩, .slice none 0 0] 27 (0, 0)) := by
    rw [c4.block _ (by simp; omega), Below.heap_alloc _ _ _ hl5]
    exact h50.out
  have r0 : w7.cell? ⟨w.heap.size, 0, none⟩ = some (.int .i64 0) := cell_of_heap h7 rfl
  have r1 : w7.cell? ⟨w.heap.size, 1, none⟩ = some (.int .i64 0) := cell_of_heap h7 rfl
  have r2 : w7.cell? ⟨w.heap.size, 2, none⟩ = some (.string ⟨#[]⟩) := cell_of_heap h7 rfl
  have r3 : w7.cell? ⟨w.heap.size, 3, none⟩ = some (.slice none 0 0) := cell_of_heap h7 rfl
  have z0 := free_of_heap (o := 0) h7
  have z1 := free_of_heap (o := 1) h7
  have z2 := free_of_heap (o := 2) h7
  have z3 := free_of_heap (o := 3) h7
  have HB7 : Hid (Below w.heap.size w w7) := HB.out.trans (((Below.refl w5.heap.size w5).alloc (Nat.le_refl _) _).trans (c4.mono (by simp)) |>.mono (by omega))
  have HC : Hid (u.erase = mendT R.1 ∧ u.mem w7 ∧ u.ins (fun j => w.heap.size < j)) := ⟨c1, c2, AT.ins_mono (fun j hj => by simp at hj; omega) u c3⟩
  have HSV := Lib.hid vsv
  have H7 := Lib.hid h7
  clear c1 c2 c3 c4 vsv h7 h50 HM HB
  go_wp2
  obtain ⟨q0, q1, q2, q3⟩ := four_cells H7.out (.int .i64 u.k) (.int .i64 u.n) (.string u.s) (.slice vx u.l.length vy)
  refine bodyPost_ret (v := .agg #[.int .i64 u.k, .int .i64 u.n, .string u.s, .slice vx u.l.length vy]) (by simp [results, Try.results18, go_sem, q0, q1, q2, q3]) rfl ?_
  refine ⟨u, by rw [HSV.out], HC.out.1, AT.mem_same (S := fun j => w.heap.size < j) (fun j hj => ?_) u HC.out.2.2 HC.out.2.1, AT.ins_mono (fun j hj => Nat.le_of_lt hj) u HC.out.2.2, ((((HB7.out.setCell (Nat.le_refl _) _).setCell (Nat.le_refl _) _).setCell (Nat.le_refl _) _).setCell (Nat.le_refl _) _)⟩
  rw [heap_set_ne (by omega), heap_set_ne (by omega), heap_set_ne (by omega), heap_set_ne (by omega)]

end Go.Proofs.Ytkidcchafdiofaa
