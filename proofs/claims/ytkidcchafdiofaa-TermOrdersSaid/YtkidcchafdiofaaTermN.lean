/- The document's Of: a contract. Conditions: memory holds the parts; there are at most 1000. -/
import Derived.Test.YtkidcchafdiofaaTermM
namespace Go.Proofs.Ytkidcchafdiofaa
open Go Go.RowKit

theorem ins_all {S : Nat → Prop} {l : List AT} (h : ∀ t ∈ l, t.ins S) : ATs.ins S l := by
  induction l with
  | nil => trivial
  | cons t r ih => exact ⟨h t (by simp), ih fun u hu => h u (by simp [hu])⟩
theorem new_at (w : World) (o : Obj) {H : Nat} (h : w.heap.size = H) : (w.alloc o).heap[H]? = some o := by
  subst h
  exact heap_alloc_new w o
theorem four_cells {w : World} {b : Nat} {x0 x1 x2 x3 : Value} {T : TypeId} (h : w.heap[b]? = some (.cells #[x0, x1, x2, x3] T (0, 0))) (y0 y1 y2 y3 : Value) :
    (w.setCell ⟨b, 0, none⟩ y0).cell? ⟨b, 0, none⟩ = some y0 ∧ ((w.setCell ⟨b, 0, none⟩ y0).setCell ⟨b, 1, none⟩ y1).cell? ⟨b, 1, none⟩ = some y1 ∧ (((w.setCell ⟨b, 0, none⟩ y0).setCell ⟨b, 1, none⟩ y1).setCell ⟨b, 2, none⟩ y2).cell? ⟨b, 2, none⟩ = some y2 ∧
      ((((w.setCell ⟨b, 0, none⟩ y0).setCell ⟨b, 1, none⟩ y1).setCell ⟨b, 2, none⟩ y2).setCell ⟨b, 3, none⟩ y3).cell? ⟨b, 3, none⟩ = some y3 := by
  have h0 := heap_set (o := 0) h y0
  have h1 := heap_set (o := 1) h0 y1
  have h2 := heap_set (o := 2) h1 y2
  have h3 := heap_set (o := 3) h2 y3
  exact ⟨cell_of_heap h0 rfl, cell_of_heap h1 rfl, cell_of_heap h2 rfl, cell_of_heap h3 rfl⟩
/-- what Of leaves: a term in new memory -/
def OfPost (w : World) (r : Tm × Nat) (e : Ending) (w' : World) : Prop :=
  ∃ t : AT, e = .returned (.tuple #[.agg #[.int .i64 t.k, .int .i64 t.n, .string t.s, t.sv], .int .i64 r.2]) ∧ t.erase = r.1 ∧ t.mem w' ∧ t.ins (fun j => w.heap.size ≤ j) ∧ Below w.heap.size w w'

set_option maxRecDepth 100000 in
set_option maxHeartbeats 800000 in
theorem of_nil (ad : Option Addr) (cap : Nat) (w : World) : Calls Try.prog 11 #[.slice ad 0 cap] w (OfPost w (atomA, 0)) := by
  go_enter Try.func11, Try.ntmps11
  go_wp2
  refine bodyPost_ret (v := .tuple #[.agg #[.int .i64 3, .int .i64 0, .string ⟨#[97]⟩, .slice none 0 0], .int .i64 0]) (by simp [results, Try.results11, go_sem]) rfl ?_
  exact ⟨.mk 3 0 ⟨#[97]⟩ (.slice none 0 0) 0 0 [], rfl, rfl, ⟨.inl ⟨rfl, rfl⟩, trivial⟩, ⟨fun h => absurd rfl h, trivial⟩, (Below.refl _ _).alloc (Nat.le_refl _) _⟩

/-- what holds ahead of each of Of's Args -/
def OfSt (w : World) (f : Nat) (p : PRow) (r : List PRow) (i at' : Nat) (wr : World) : Prop :=
  ∃ (l : List AT) (v : Value), l.length = i ∧ ATs.erase l = (ofL (ofT f) i r).1 ∧ at' = 1 + (ofL (ofT f) i r).2 ∧ wr.ownsRow w.heap.size 27 4 v i (headCells l) ∧
    wr.heap[w.heap.size + 1 + 1]? = some (.cells #[.int .i64 p.k, .int .i64 p.n, .string p.s, v] 27 (0, 0)) ∧ wr.heap[w.heap.size + 1]? = some (.cells #[.int .i64 p.k, .int .i64 p.n, .string p.s, .int .u8 p.a] 51 (0, 0)) ∧
    wr.heap[w.heap.size]? = some (.cells #[.int .i64 0, .int .i64 0, .string ⟨#[]⟩, .slice none 0 0] 27 (0, 0)) ∧
    (∀ t ∈ l, t.mem wr ∧ t.ins (fun j => w.heap.size + 1 + 1 < j ∧ v.ownBlock ≠ some j)) ∧ (∀ k, v.ownBlock = some k → w.heap.size + 1 + 1 < k) ∧ Below w.heap.size w wr

theorem owns_same {w w' : World} {b n : Nat} {e : TypeId} {size : Nat} {v : Value} {xs : List Value} (h : w.ownsRow b e size v n xs) (hh : ∀ g, v.ownBlock = some g → w'.heap[g]? = w.heap[g]?) : w'.ownsRow b e size v n xs := by
  obtain ⟨h1, h2 | ⟨g, cap, cur, hv, h3, h4, r⟩⟩ := h
  · exact ⟨h1, .inl h2⟩
  · exact ⟨h1, .inr ⟨g, cap, cur, hv, h3, by rw [hh g (by rw [hv]; rfl)]; exact h4, r⟩⟩
theorem term_news (w : World) (t : AT) (H : Nat) (h : w.heap.size = H) : ∀ j u, [Value.int .i64 t.k, .int .i64 t.n, .string t.s, t.sv][j]? = some u → (w.alloc (.cells #[.int .i64 t.k, .int .i64 t.n, .string t.s, t.sv] 27)).cell? ((⟨H, 0, none⟩ : Addr).add j) = some u := by
  subst h
  exact World.news_of_block (heap_alloc_new w _)
theorem sv_one {sv : Value} {G off n : Nat} (h : SvOk sv G off n) : sv.oneCell' = true := by
  rcases h with ⟨rfl, _⟩ | ⟨c, rfl, _⟩ <;> rfl
theorem term_one {t : AT} (h : t.sv.oneCell' = true) : ∀ u ∈ [Value.int .i64 t.k, .int .i64 t.n, .string t.s, t.sv], u.oneCell' = true := by
  intro u hu
  simp at hu
  rcases hu with rfl | rfl | rfl | rfl
  · rfl
  · rfl
  · rfl
  · exact h
theorem ins_both {S T U : Nat → Prop} {t : AT} (h1 : t.ins S) (h2 : t.ins T) (h : ∀ j, S j → T j → U j) : t.ins U :=
  AT.ins_mono (S := fun j => S j ∧ T j) (fun j hj => h j hj.1 hj.2) t (AT.mem_keeps.AT.ins_and t h1 h2)

/-- one term more: what holds behind it (the row holds l and, now, t, too) -/
theorem grow_close {w7 : World} {b : Nat} {l : List AT} {t : AT} {i g cap' H0 : Nat} (hown : w7.ownsRow b 27 4 (.slice (some ⟨g, 0, none⟩) (i + 1) cap') (i + 1) (headCells l ++ [.int .i64 t.k, .int .i64 t.n, .string t.s, t.sv])) (hg : g ≠ H0) (x : Value) :
    (w7.setCell ⟨H0, 3, none⟩ x).ownsRow b 27 4 (.slice (some ⟨g, 0, none⟩) (i + 1) cap') (i + 1) (headCells (l ++ [t])) := by
  rw [headCells_app]
  refine owns_same (by simpa [headCells] using hown) (fun k hk => ?_)
  obtain rfl : g = k := by simpa [Value.ownBlock] using hk
  exact heap_set_ne hg _
theorem grow_mem {w5 w7 : World} {v : Value} {u : AT} {g H0 : Nat} {o2 : Obj} (hm : u.mem w5) (hi : u.ins (fun j => H0 < j ∧ v.ownBlock ≠ some j)) (hgrow : (w5.alloc o2).grownBy w7 v.ownBlock) (hat : v.ownBlock = some g ∨ g = w5.heap.size + 1) (x : Value) :
    (AT.mem (w7.setCell ⟨H0, 3, none⟩ x) u) ∧ u.ins (fun j => H0 < j ∧ (some g : Option Nat) ≠ some j) := by
  have hs := AT.ins_size u hm
  have h1 : u.ins (fun j => (H0 < j ∧ v.ownBlock ≠ some j) ∧ j < w5.heap.size) := AT.mem_keeps.AT.ins_and u hi hs
  refine ⟨AT.mem_same (S := fun j => (H0 < j ∧ v.ownBlock ≠ some j) ∧ j < w5.heap.size) (fun j hj => ?_) u h1 hm, AT.ins_mono (fun j hj => ⟨hj.1.1, fun h => ?_⟩) u h1⟩
  · rw [heap_set_ne (by omega), hgrow.block j (by simp; omega) (fun h => hj.1.2 h.symm), Below.heap_alloc _ _ _ hj.2]
  · obtain rfl : g = j := by simpa using h
    rcases hat with h2 | h2
    · exact hj.1.2 h2
    · omega

theorem of_next {w wr w5 w7 : World} {f : Nat} {p : PRow} {r : List PRow} {i at' g cap' : Nat} {l : List AT} {v : Value} {t : AT} {R : Tm × Nat} {o1 o2 : Obj}
    (h : l.length = i ∧ ATs.erase l = (ofL (ofT f) i r).1 ∧ at' = 1 + (ofL (ofT f) i r).2 ∧ wr.ownsRow w.heap.size 27 4 v i (headCells l) ∧
      wr.heap[w.heap.size + 1 + 1]? = some (.cells #[.int .i64 p.k, .int .i64 p.n, .string p.s, v] 27 (0, 0)) ∧ wr.heap[w.heap.size + 1]? = some (.cells #[.int .i64 p.k, .int .i64 p.n, .string p.s, .int .u8 p.a] 51 (0, 0)) ∧
      wr.heap[w.heap.size]? = some (.cells #[.int .i64 0, .int .i64 0, .string ⟨#[]⟩, .slice none 0 0] 27 (0, 0)) ∧
      (∀ t ∈ l, t.mem wr ∧ t.ins (fun j => w.heap.size + 1 + 1 < j ∧ v.ownBlock ≠ some j)) ∧ (∀ k, v.ownBlock = some k → w.heap.size + 1 + 1 < k) ∧ Below w.heap.size w wr)
    (hR : ofT f (r.drop (ofL (ofT f) i r).2) = R) (ht : t.erase = R.1 ∧ t.mem w5 ∧ t.ins (fun j => wr.heap.size ≤ j) ∧ Below wr.heap.size wr w5)
    (hown : w7.ownsRow w.heap.size 27 4 (.slice (some ⟨g, 0, none⟩) (i + 1) cap') (i + 1) (headCells l ++ [.int .i64 t.k, .int .i64 t.n, .string t.s, t.sv])) (hgrow : ((w5.alloc o1).alloc o2).grownBy w7 v.ownBlock) (hat : v.ownBlock = some g ∨ g = w5.heap.size + 1 + 1) :
    OfSt w f p r (i + 1) (at' + R.2) (w7.setCell ⟨w.heap.size + 1 + 1, 3, none⟩ (.slice (some ⟨g, 0, none⟩) (i + 1) cap')) := by
  obtain ⟨a1, a2, a3, a4, a5, a6, a7, a8, a9, a10⟩ := h
  obtain ⟨b1, b2, b3, b4⟩ := ht
  have hw1 := (Array.getElem?_eq_some_iff.1 a5).1
  have hw5 := b4.size
  have hg : g ≠ w.heap.size + 1 + 1 := by
    rcases hat with h | h
    · have := a9 g h; omega
    · omega
  have hown' : ∀ k, k ≤ w.heap.size + 1 + 1 → some k ≠ v.ownBlock := fun k hk h => by have := a9 k h.symm; omega
  have old : ∀ k, k ≤ w.heap.size + 1 + 1 → w7.heap[k]? = wr.heap[k]? := fun k hk => by
    rw [hgrow.block k (by simp; omega) (hown' k hk), Below.heap_alloc _ _ _ (by simp; omega), Below.heap_alloc _ _ _ (by omega), b4.block k (by omega)]
  have hti : t.ins (fun j => w.heap.size + 1 + 1 < j ∧ v.ownBlock ≠ some j) := AT.ins_mono (fun j hj => ⟨by omega, fun h => by have := (a4.lt j h).2; omega⟩) t b3
  have hsz1 : (w5.alloc o1).heap.size = w5.heap.size + 1 := by simp
  refine ⟨l ++ [t], .slice (some ⟨g, 0, none⟩) (i + 1) cap', by simp [a1], ?_, ?_, grow_close hown hg _, ?_, ?_, ?_, ?_, ?_, ?_⟩
  · rw [erase_app, a2, ofL, hR, ATs.erase, b1]; rfl
  · rw [a3, ofL, hR]; simp only; omega
  · rw [heap_set ((old _ (Nat.le_refl _)).trans a5)]; rfl
  · rw [heap_set_ne (by omega)]; exact (old _ (by omega)).trans a6
  · rw [heap_set_ne (by omega)]; exact (old _ (by omega)).trans a7
  · intro u hu
    rcases List.mem_append.1 hu with hu | hu
    · have h1 : u.mem (w5.alloc o1) := AT.mem_below ((Below.refl w5.heap.size w5).alloc (Nat.le_refl _) o1) (AT.ins_size u (AT.mem_below b4 (AT.ins_size u (a8 u hu).1) (a8 u hu).1)) (AT.mem_below b4 (AT.ins_size u (a8 u hu).1) (a8 u hu).1)
      exact grow_mem h1 (a8 u hu).2 hgrow (by rw [hsz1]; exact hat) _
    · obtain rfl := List.mem_singleton.1 hu
      have h1 : u.mem (w5.alloc o1) := AT.mem_below ((Below.refl w5.heap.size w5).alloc (Nat.le_refl _) o1) (AT.ins_size u b2) b2
      exact grow_mem h1 hti hgrow (by rw [hsz1]; exact hat) _
  · intro k hk
    obtain rfl : g = k := by simpa [Value.ownBlock] using hk
    rcases hat with h | h
    · exact a9 g h
    · omega
  · have h1 := a10.trans (b4.mono (by omega))
    have h2 := (h1.alloc (by have := h1.size; omega) o1).alloc (by simp; have := h1.size; omega) o2
    exact (h2.grown hgrow (by simp; have := h1.size; omega) (fun k hk => (a4.lt k hk).1)).setCell (by show w.heap.size ≤ w.heap.size + 1 + 1; omega) _

set_option maxRecDepth 100000 in
set_option maxHeartbeats 4000000 in
theorem of_step (f : Nat) (ih : ∀ (ps : List PRow) (B off cap : Nat) (ad : Option Addr) (w : World), ps.length ≤ f → ps.length ≤ cap → cap ≤ 9223372036854775807 → (0 < ps.length → ad = some ⟨B, off, none⟩) → PMem w B off ps → ps.length ≤ 1000 → Calls Try.prog 11 #[.slice ad ps.length cap] w (OfPost w (ofT f ps)))
    (p : PRow) (r : List PRow) (B off cap : Nat) (w : World) (hf : r.length ≤ f) (hcap : r.length + 1 ≤ cap) (hc2 : cap ≤ 9223372036854775807) (hm : PMem w B off (p :: r)) (hlen : r.length ≤ 999) :
    Calls Try.prog 11 #[.slice (some ⟨B, off, none⟩) (r.length + 1) cap] w (OfPost w (ofT (f + 1) (p :: r))) := by
  obtain ⟨c0, c1, c2, c3, c4⟩ := hm 0 p rfl
  simp only [Nat.zero_mul, Nat.add_zero] at c0 c1 c2 c3
  obtain ⟨i0, hi, hz0, hz1, hz2⟩ := info_parts (show (Try.prog.info? 27).map (fun i => (i.zero, i.size, i.bytes)) = some (some (.agg #[.int .i64 0, .int .i64 0, .string ⟨#[]⟩, .slice none 0 0]), 4, 56) by kernel_rfl)
  obtain ⟨k, hk⟩ : ∃ k, p.k = k := ⟨_, rfl⟩
  obtain ⟨n, hn⟩ : ∃ k, p.n = k := ⟨_, rfl⟩
  obtain ⟨s, hs⟩ : ∃ k, p.s = k := ⟨_, rfl⟩
  obtain ⟨a, ha⟩ : ∃ k, p.a = k := ⟨_, rfl⟩
  rw [hk] at c0
  rw [hn] at c1
  rw [hs] at c2
  rw [ha] at c3 c4
  obtain ⟨m, hmr⟩ : ∃ m, r.length = m := ⟨_, rfl⟩
  rw [hmr] at hcap hlen ⊢
  have hBl : B < w.heap.size := World.block_lt_of_cell? _ _ c0
  have hm0 : ((m : Int) + 1 == 0) = false := by rw [beq_eq_false_iff_ne]; omega
  have HMR := Lib.hid hmr
  have HPK := Lib.hid (And.intro hk (And.intro hn (And.intro hs ha)))
  have HM := Lib.hid hm
  have HI := Lib.hid ih
  have HF := Lib.hid hf
  clear hk hn hs ha hmr hm ih hf
  go_enter Try.func11, Try.ntmps11
  go_wp2
  have h8 : a % 8 < 8 := Nat.mod_lt _ (by omega)
  go_loopw [6, 7] (fun vat vi wr => ∃ i at' : Nat, vi = .int .i64 i ∧ vat = .int .i64 at' ∧ i ≤ a % 8 ∧ at' ≤ m + 1 ∧ 1 ≤ at' ∧ Hid (OfSt w f p r i at' wr)) (fun _ vi _ => 8 - (intOf vi).toNat)
  case atStart =>
    refine ⟨0, 1, rfl, rfl, Nat.zero_le _, by omega, by omega, [], .slice none 0 0, rfl, rfl, rfl, ⟨rfl, .inl ⟨rfl, rfl⟩⟩, ?_, ?_, ?_, fun t ht => (by cases ht), fun k hk => (by cases hk), ((((Below.refl _ _).alloc (Nat.le_refl _) _).alloc (by simp) _).alloc (by simp; omega) _)⟩
    · rw [HPK.out.1, HPK.out.2.1, HPK.out.2.2.1]
      exact new_at _ _ (by simp)
    · rw [HPK.out.1, HPK.out.2.1, HPK.out.2.2.1, HPK.out.2.2.2, Below.heap_alloc _ _ _ (by simp)]
      exact new_at _ _ (by simp)
    · rw [Below.heap_alloc _ _ _ (by simp; omega), Below.heap_alloc _ _ _ (by simp)]
      exact new_at _ _ (by simp)
  case round =>
    obtain ⟨i, at', rfl, rfl, hi8, hat1, hat2, HSt⟩ := hrel
    obtain ⟨l, v, a1, a2, a3, a4, a5, a6, a7, a8, a9, a10⟩ := HSt.out
    obtain ⟨hk, hn, hs, ha⟩ := HPK.out
    have e3 : wr.cell? ⟨w.heap.size + 1, 3, none⟩ = some (.int .u8 a) := by rw [← ha]; exact cell_of_heap a6 rfl
    have t0 : wr.cell? ⟨w.heap.size + 1 + 1, 0, none⟩ = some (.int .i64 k) := by rw [← hk]; exact cell_of_heap a5 rfl
    have t1 : wr.cell? ⟨w.heap.size + 1 + 1, 1, none⟩ = some (.int .i64 n) := by rw [← hn]; exact cell_of_heap a5 rfl
    have t2 : wr.cell? ⟨w.heap.size + 1 + 1, 2, none⟩ = some (.string s) := by rw [← hs]; exact cell_of_heap a5 rfl
    have t3 : wr.cell? ⟨w.heap.size + 1 + 1, 3, none⟩ = some v := cell_of_heap a5 rfl
    have r0 : wr.cell? ⟨w.heap.size, 0, none⟩ = some (.int .i64 0) := cell_of_heap a7 rfl
    have r1 : wr.cell? ⟨w.heap.size, 1, none⟩ = some (.int .i64 0) := cell_of_heap a7 rfl
    have r2 : wr.cell? ⟨w.heap.size, 2, none⟩ = some (.string ⟨#[]⟩) := cell_of_heap a7 rfl
    have r3 : wr.cell? ⟨w.heap.size, 3, none⟩ = some (.slice none 0 0) := cell_of_heap a7 rfl
    have z0 := free_of_heap (o := 0) a7
    have z1 := free_of_heap (o := 1) a7
    have z2 := free_of_heap (o := 2) a7
    have z3 := free_of_heap (o := 3) a7
    clear hk hn hs ha
    by_cases hlt : i < a % 8
    · have hcl : Calls Try.prog 11 #[.slice (some ⟨B, off + at' * 4, none⟩) (m + 1 - at') (cap - at')] wr (OfPost wr (ofT f (r.drop (ofL (ofT f) i r).2))) := by
        have hdl : (r.drop (ofL (ofT f) i r).2).length = m + 1 - at' := by rw [List.length_drop, HMR.out]; omega
        have h1 := HM.out.drop at'
        rw [a3, Nat.add_comm 1, List.drop_succ_cons, ← Nat.add_comm 1, ← a3] at h1
        have h2 := HI.out (r.drop (ofL (ofT f) i r).2) B (off + at' * 4) (cap - at') (some ⟨B, off + at' * 4, none⟩) wr (by have := HF.out; rw [hdl]; have := HMR.out; omega) (by rw [hdl]; omega) (by omega) (fun _ => rfl) (h1.below a10 (.inl (Nat.le_refl _))) (by rw [hdl]; omega)
        rw [hdl] at h2
        exact h2
      have hle := (ofT_le f (r.drop (ofL (ofT f) i r).2)).1
      rw [List.length_drop, HMR.out] at hle
      obtain ⟨R, hR⟩ : ∃ R, ofT f (r.drop (ofL (ofT f) i r).2) = R := ⟨_, rfl⟩
      rw [hR] at hcl hle
      have hle2 : at' + R.2 ≤ m + 1 := by omega
      have HRR := Lib.hid hR
      have CL := Lib.hid hcl
      clear hcl hR hle
      have HST := Lib.hid (And.intro a1 (And.intro a2 (And.intro a3 (And.intro a4 (And.intro a5 (And.intro a6 (And.intro a7 (And.intro a8 (And.intro a9 a10)))))))))
      clear a1 a2 a3 a4 a5 a6 a7 a8 a9 a10 HSt
      have CL0 : Hid (cap ≤ at' → ∀ (ad : Option Addr) (c : Nat), Calls Try.prog 11 #[.slice ad 0 c] wr (OfPost wr R)) := fun hac ad c => by
        have h1 : r.drop (ofL (ofT f) i r).2 = [] := List.drop_eq_nil_of_le (by rw [HMR.out]; have := HST.out.2.2.1; omega)
        have h2 := HRR.out
        rw [h1] at h2
        have h3 : R = (atomA, 0) := by rw [← h2]; cases f <;> rfl
        rw [h3]
        exact of_nil ad c wr
      rcases Nat.lt_or_ge at' cap with hac | hac
      case' inl =>
        go_wp2_with fail
        refine CL.out.mono ?_
      case' inr =>
        have C0 := Lib.hid (CL0.out hac)
        obtain rfl : at' = m + 1 := by omega
        obtain rfl : cap = m + 1 := by omega
        go_wp2_with fail
        refine (C0.out _ _).mono ?_
      all_goals
        rintro e w5 ⟨t, rfl, b1, b2, b3, b4⟩
        have HT := Lib.hid (And.intro b1 (And.intro b2 (And.intro b3 b4)))
        obtain ⟨vx, vy, vz, hsv⟩ : ∃ x y z, t.sv = .slice x y z := by
          obtain ⟨x, y, h, _⟩ := sv_form (AT.mem_mk.1 b2).1
          exact ⟨_, _, _, h⟩
        rw [hsv]
        have HSV := Lib.hid hsv
        obtain ⟨a1, a2, a3, a4, a5, a6, a7, a8, a9, a10⟩ := HST.out
        have hw1 := (Array.getElem?_eq_some_iff.1 a5).1
        have hw5 := b4.size
        have lw5 : w.heap.size + 1 + 1 < w5.heap.size := by omega
        have s5 : w5.heap[w.heap.size + 1 + 1]? = some (.cells #[.int .i64 p.k, .int .i64 p.n, .string p.s, v] 27 (0, 0)) := (b4.block _ hw1).trans a5
        have t3' : w5.cell? ⟨w.heap.size + 1 + 1, 3, none⟩ = some v := cell_of_heap s5 rfl
        have f3' := free_of_heap (o := 3) s5
        have own5 : w5.ownsRow w.heap.size 27 4 v i (headCells l) := owns_same a4 (fun g hg => b4.block g (a4.lt g hg).2)
        have hoc : ∀ k, v.ownBlock = some k → k < w5.heap.size := fun k hk => Nat.lt_of_lt_of_le (a4.lt k hk).2 hw5
        have hmem5 : ∀ u ∈ l, u.mem w5 ∧ u.ins (fun j => w.heap.size + 1 + 1 < j ∧ v.ownBlock ≠ some j) := fun u hu => ⟨AT.mem_below b4 (AT.ins_size u (a8 u hu).1) (a8 u hu).1, (a8 u hu).2⟩
        have hti : t.ins (fun j => w.heap.size + 1 + 1 < j ∧ v.ownBlock ≠ some j) := AT.ins_mono (fun j hj => ⟨by omega, fun h => by have := (a4.lt j h).2; omega⟩) t b3
        have OWN := Lib.hid own5
        have HMEM := Lib.hid hmem5
        have HTI := Lib.hid hti
        have HOC := Lib.hid hoc
        have S5 := Lib.hid s5
        have h77 : i + 1 ≤ 8 := by omega
        have HA9 := Lib.hid a9
        have ONE := Lib.hid (term_one (t := t) (by rw [hsv]; rfl))
        have NEWS := Lib.hid (fun W H h => term_news W t H h)
        rw [hsv] at ONE NEWS
        clear a1 a2 a3 a4 a5 a6 a7 a8 a9 a10 b1 b2 b3 b4 hsv t0 t1 t2 t3 r0 r1 r2 r3 z0 z1 z2 z3 e3 s5 own5 hmem5 hti hoc hw1 hw5 hm0 c0 c1 c2 c3
        go_wp2_with (at_builtin; refine wpList_append_lies _ rfl (.tmp 40) (.tmp 42) 25 rfl w.heap.size 27 i0 (.agg #[.int .i64 0, .int .i64 0, .string ⟨#[]⟩, .slice none 0 0]) 4 56 Try.underlying25 hi hz0 hz1 hz2 rfl (by decide) _ _ _ rfl ((OWN.out.alloc _).alloc _) ⟨w5.heap.size + 1, 0, none⟩ 1 1 [.int .i64 t.k, .int .i64 t.n, .string t.s, .slice vx vy vz] rfl rfl (NEWS.out _ _ (by simp)) ONE.out (by omega) ?_ ?_ ?_ (w5.heap.size + 1 + 1) (by simp) ?_)
        · unfold maxLen; omega
        · omega
        · simp; omega
        intro g' cap' w7 hown hgrow hat hlt2
        have s7 : w7.heap[w.heap.size + 1 + 1]? = some (.cells #[.int .i64 p.k, .int .i64 p.n, .string p.s, v] 27 (0, 0)) := by
          rw [hgrow.block _ (by simp; omega) (fun h => by have := HA9.out _ h.symm; omega), Below.heap_alloc _ _ _ (by simp; omega), Below.heap_alloc _ _ _ (by omega)]
          exact S5.out
        have t7 : w7.cell? ⟨w.heap.size + 1 + 1, 3, none⟩ = some v := cell_of_heap s7 rfl
        have f7 := free_of_heap (o := 3) s7
        rw [← HSV.out] at hown
        have NEXT := Lib.hid (of_next HST.out HRR.out HT.out hown hgrow hat)
        clear hown hgrow hat hlt2 s7 t3' f3'
        go_wp2
        go_roundw
        case rel => first | exact ⟨i + 1, at' + R.2, by go_num, by go_num, by omega, by omega, by omega, NEXT.out⟩ | exact ⟨i + 1, m + 1 + R.2, by go_num, by go_num, by omega, by omega, by omega, NEXT.out⟩
        case measure => simp [intOf]; omega
    · obtain ⟨G, g1, g2, g3⟩ := row_mem a4 a1 (fun t ht => (a8 t ht).1)
      have hia : i = p.a % 8 := by rw [HPK.out.2.2.2]; omega
      have HE : Hid ((AT.mk k n s v G 0 l).erase = (ofT (f + 1) (p :: r)).1 ∧ (AT.mk k n s v G 0 l).mem wr ∧ (AT.mk k n s v G 0 l).ins (fun j => w.heap.size < j)) := by
        refine ⟨?_, ⟨g1, g2⟩, fun h => by have := a9 G (g3 h); omega, ins_all fun t ht => AT.ins_mono (fun j hj => by omega) t (a8 t ht).2⟩
        rw [ofT, AT.erase, a2, hia, HPK.out.1, HPK.out.2.1, HPK.out.2.2.1]
      have HA : Hid (at' = (ofT (f + 1) (p :: r)).2) := by
        show at' = _
        rw [a3, hia, ofT]
      have HB := Lib.hid a10
      have HA7 := Lib.hid a7
      have hov : ∃ x y z, v = .slice x y z := by
        rcases g1 with ⟨h, _⟩ | ⟨c, h, _⟩ <;> exact ⟨_, _, _, h⟩
      obtain ⟨vx, vy, vz, rfl⟩ := hov
      clear a1 a2 a3 a4 a5 a6 a7 a8 a9 a10 g1 g2 g3 HSt
      go_wp2
      obtain ⟨q0, q1, q2, q3⟩ := four_cells HA7.out (.int .i64 k) (.int .i64 n) (.string s) (.slice vx vy vz)
      refine bodyPost_ret (v := .tuple #[.agg #[.int .i64 k, .int .i64 n, .string s, .slice vx vy vz], .int .i64 at']) (by simp [results, Try.results11, go_sem, q0, q1, q2, q3]) rfl ?_
      refine ⟨AT.mk k n s (.slice vx vy vz) G 0 l, by rw [← HA.out]; rfl, HE.out.1, AT.mem_same (S := fun j => w.heap.size < j) (fun j hj => ?_) _ HE.out.2.2 HE.out.2.1, AT.ins_mono (fun j hj => Nat.le_of_lt hj) _ HE.out.2.2, ((((HB.out.setCell (Nat.le_refl _) _).setCell (Nat.le_refl _) _).setCell (Nat.le_refl _) _).setCell (Nat.le_refl _) _)⟩
      rw [heap_set_ne (by omega), heap_set_ne (by omega), heap_set_ne (by omega), heap_set_ne (by omega)]

theorem of_is : ∀ (f : Nat) (ps : List PRow) (B off cap : Nat) (ad : Option Addr) (w : World), ps.length ≤ f → ps.length ≤ cap → cap ≤ 9223372036854775807 → (0 < ps.length → ad = some ⟨B, off, none⟩) → PMem w B off ps → ps.length ≤ 1000 → Calls Try.prog 11 #[.slice ad ps.length cap] w (OfPost w (ofT f ps))
  | 0, [], _, _, cap, ad, w, _, _, _, _, _, _ => of_nil ad cap w
  | _ + 1, [], _, _, cap, ad, w, _, _, _, _, _, _ => of_nil ad cap w
  | 0, p :: r, _, _, _, _, _, h, _, _, _, _, _ => by simp at h
  | f + 1, p :: r, B, off, cap, ad, w, h1, h2, h3, h4, h5, h6 => by
    obtain rfl := h4 (by simp)
    exact of_step f (of_is f) p r B off cap w (by simpa using h1) (by simpa using h2) h3 h5 (by simpa using h6)

end Go.Proofs.Ytkidcchafdiofaa
