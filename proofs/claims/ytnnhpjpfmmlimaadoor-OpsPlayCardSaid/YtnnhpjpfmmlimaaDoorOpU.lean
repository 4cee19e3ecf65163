/- The law's list, and the document's Same of equal rows. Conditions: the operators are at most 256. -/
import Derived.Test.YtnnhpjpfmmlimaaDoorOpR
namespace Go.Proofs.YtnnhpjpfmmlimaaDoor
open Go Go.RowKit Go.Maps
open Go.WideMaps Go.WideElems

def Sorted (S : List Df) : Prop := S.Pairwise fun x y => ¬ cmpD y x < 0
theorem sorted_one : ∀ (S1 S2 : List Df), S1.Perm S2 → Sorted S1 → Sorted S2 → (∀ x ∈ S1, ∀ y ∈ S1, cmpD x y = 0 → x = y) → S1 = S2
  | [], S2, hp, _, _, _ => (List.nil_perm.1 hp).symm
  | x :: r, [], hp, _, _, _ => by have := hp.length_eq; simp at this
  | x :: r, y :: s, hp, h1, h2, he => by
    obtain ⟨a1, a2⟩ := List.pairwise_cons.1 h1
    obtain ⟨b1, b2⟩ := List.pairwise_cons.1 h2
    have hxy : x = y := by
      rcases List.mem_cons.1 (hp.mem_iff.1 List.mem_cons_self) with e | hx
      · exact e
      · rcases List.mem_cons.1 (hp.mem_iff.2 (List.mem_cons_self (a := y) (l := s))) with e | hy
        · exact e.symm
        · refine he x List.mem_cons_self y (List.mem_cons_of_mem _ hy) ?_
          have c1 := b1 x hx
          have c2 := a1 y hy
          rw [def_neg] at c2
          omega
    subst hxy
    rw [sorted_one r s (List.perm_cons x |>.1 hp) a2 b2 (fun a ha b hb => he a (List.mem_cons_of_mem _ ha) b (List.mem_cons_of_mem _ hb))]
theorem wf_zero {L : List Df} (hw : Wf L) : ∀ x ∈ L, ∀ y ∈ L, cmpD x y = 0 → x = y := by
  intro x hx y hy h
  obtain ⟨h1, h2⟩ := def_eq0 h
  by_cases e : x = y
  · exact e
  · exfalso
    have key : ∀ l : List Df, l.Pairwise (fun a b => ¬ (a.name = b.name ∧ srt a.typ = srt b.typ)) → x ∈ l → y ∈ l → False := by
      intro l hl hxl hyl
      induction l with
      | nil => cases hxl
      | cons z l ih =>
        obtain ⟨g1, g2⟩ := List.pairwise_cons.1 hl
        rcases List.mem_cons.1 hxl with hx' | hx'
        · rcases List.mem_cons.1 hyl with hy' | hy'
          · exact e (hx'.trans hy'.symm)
          · rw [← hx'] at g1
            exact g1 y hy' ⟨h1, by rw [h2]⟩
        · rcases List.mem_cons.1 hyl with hy' | hy'
          · rw [← hy'] at g1
            exact g1 x hx' ⟨h1.symm, by rw [h2]⟩
          · exact ih g2 hx' hy'
    exact key L hw.one hx hy
/-- two lists in order of the same operators are one -/
theorem sorted_eq {L L' S S' : List Df} (hw : Wf L) (hL : L.Perm L') (h1 : S.Perm L) (h2 : Sorted S) (h3 : S'.Perm L') (h4 : Sorted S') : S = S' :=
  sorted_one S S' (h1.trans (hL.trans h3.symm)) h2 h4 fun x hx y hy => wf_zero hw x (h1.mem_iff.1 hx) y (h1.mem_iff.1 hy)

set_option maxRecDepth 100000 in
set_option maxHeartbeats 1600000 in
theorem same_is (X : List Df) (ad1 ad2 : Option Addr) (n c1 c2 B1 o1 B2 o2 : Nat) (w : World) (h1 : ArgRow w ad1 n c1 B1 o1 X) (h2 : ArgRow w ad2 n c2 B2 o2 X) :
    Calls Tryd.prog 22 #[.slice ad1 n c1, .slice ad2 n c2] w fun e w' => e = .returned (.bool true) ∧ ∃ q, w' = w.drewN q := by
  have HN := Lib.hid h1.len
  have H1 := Lib.hid h1
  have H2 := Lib.hid h2
  have l1 := h1.fits
  have l2 := h1.max
  have l3 := h2.fits
  have l4 := h2.max
  clear h1 h2
  go_enter Tryd.func22, Tryd.ntmps22
  go_wp2_with fail
  go_loopw [13] (fun vi wr => ∃ i : Nat, vi = .int .i64 i ∧ i ≤ n ∧ ∃ q, wr = w.drewN q) (fun vi _ => n - (intOf vi).toNat)
  case atStart => exact ⟨0, rfl, Nat.zero_le _, 0, rfl⟩
  case round =>
    obtain ⟨i, rfl, hi, q, rfl⟩ := hrel
    by_cases hlt : i < n
    · obtain ⟨d, hd⟩ : ∃ d, X[i]? = some d := ⟨_, List.getElem?_eq_getElem (by rw [HN.out]; exact hlt)⟩
      obtain rfl := H1.out.at' (by omega)
      obtain rfl := H2.out.at' (by omega)
      obtain ⟨p0, p1, p2⟩ := H1.out.mem i d hd
      obtain ⟨q0, q1, q2⟩ := H2.out.mem i d hd
      obtain ⟨dp, dt, dn⟩ := d
      simp only at p0 p1 p2 q0 q1 q2
      have i0 : (0 : Int) ≤ (i : Int) := by omega
      have i1 : (i : Int) < (n : Int) := by omega
      clear hd
      go_wp2_with fail
      go_quiet (fail)
      go_wp2_with fail
      go_round
      case rel => exact ⟨i + 1, by go_num, by omega, q + nq, rfl⟩
      case measure => simp [intOf]; omega
    · obtain rfl : i = n := by omega
      go_wp2_with fail
      go_ret
      exact ⟨rfl, q, rfl⟩

/-- what the law's list answers: the operators in order -/
structure LlPost (w : World) (L : List Df) (e : Ending) (w' : World) : Prop where
  got : ∃ ad cap B S, e = .returned (.slice ad L.length cap) ∧ w.heap.size ≤ w'.heap.size ∧ ArgRow w' ad L.length cap B 0 S ∧ S.Perm L ∧ Sorted S ∧ Below w.heap.size w w' ∧ (S = [] ∨ w.heap.size ≤ B)

theorem info_ref : ∃ i : TypeInfo, Tryd.prog.info? 29 = some i ∧ i.zero = some (.agg #[.int .i64 0, .int .i64 0, .string ⟨#[]⟩]) ∧ i.size = 3 ∧ i.bytes = 32 := by
  have h : (Tryd.prog.info? 29).map (fun i => (i.zero, i.size, i.bytes)) = some (some (.agg #[.int .i64 0, .int .i64 0, .string ⟨#[]⟩]), 3, 32) := by kernel_rfl
  cases hq : Tryd.prog.info? 29 with
  | none => rw [hq] at h; cases h
  | some i =>
    rw [hq] at h
    simp only [Option.map_some, Option.some.injEq, Prod.mk.injEq] at h
    exact ⟨i, rfl, h.1, h.2.1, h.2.2⟩
theorem row_same {w w' : World} {b n : Nat} {e : TypeId} {size : Nat} {v : Value} {xs : List Value} (h : w.ownsRow b e size v n xs) (k : Below w.heap.size w w') : w'.ownsRow b e size v n xs := by
  obtain ⟨h1, h2 | ⟨g, cap, cur, hv, h3, h4, r⟩⟩ := h
  · exact ⟨h1, .inl h2⟩
  · exact ⟨h1, .inr ⟨g, cap, cur, hv, h3, (k.block g (heap_lt h4)).trans h4, r⟩⟩
theorem def_news (c : Df) (T : TypeId) : ∀ (W : World) (H : Nat), W.heap.size = H → ∀ j u, [Value.int .i64 c.pri, .int .i64 c.typ, .string c.name][j]? = some u → (W.alloc (.cells #[.int .i64 c.pri, .int .i64 c.typ, .string c.name] T)).cell? ((⟨H, 0, none⟩ : Addr).add j) = some u := fun W H h => by
  subst h
  exact World.news_of_block (heap_alloc_new W _)
theorem def_one (c : Df) : ∀ u ∈ [Value.int .i64 c.pri, .int .i64 c.typ, .string c.name], u.oneCell' = true := by
  intro u hu
  simp at hu
  rcases hu with rfl | rfl | rfl <;> rfl
theorem owns_slice {w : World} {b n : Nat} {e : TypeId} {size : Nat} {v : Value} {xs : List Value} (h : w.ownsRow b e size v n xs) : ∃ ad cap, v = .slice ad n cap := by
  obtain ⟨_, ⟨rfl, rfl⟩ | ⟨g, cap, _, rfl, _⟩⟩ := h
  · exact ⟨none, 0, rfl⟩
  · exact ⟨_, _, rfl⟩
/-- a slice that owns a row, nil or not -/
theorem owns_any {w : World} {base n : Nat} {e : TypeId} {v : Value} {l : List Df} (h : w.ownsRow base e 3 v n (cellsD l)) : ∃ ad cap B, v = .slice ad n cap ∧ ArgRow w ad n cap B 0 l ∧ (l = [] ∨ base ≤ B) := by
  obtain ⟨h1, ⟨rfl, rfl⟩ | ⟨g, cap, cur, rfl, h3, h4, h5, h6, h7, h8⟩⟩ := h
  · have hl : l = [] := by
      rw [cellsD_len] at h1
      apply List.eq_nil_of_length_eq_zero
      omega
    subst hl
    exact ⟨none, 0, 0, rfl, ⟨rfl, Nat.le_refl _, by omega, fun h => by omega, fun i d hd => by simp at hd⟩, .inl rfl⟩
  · exact ⟨_, cap, g, rfl, owns_arg ⟨h1, .inr ⟨g, cap, cur, rfl, h3, h4, h5, h6, h7, h8⟩⟩, .inr h3⟩

set_option maxRecDepth 100000 in
set_option maxHeartbeats 3200000 in
theorem ll_is (a m : Nat) (L : List Df) (w : World) (hT : Tb w a m L) (hL : L.length ≤ 256) :
    Calls Tryd.prog 23 #[.pointer (some ⟨a, 0, none⟩)] w (LlPost w L) := by
  have LI := Lib.hid (list_is a m L w hT hL)
  obtain ⟨i0, hi, hz0, hz1, hz2⟩ := info_ref
  clear hT
  go_enter Tryd.func23, Tryd.ntmps23
  go_wp2_with fail
  refine LI.out.mono ?_
  rintro e w1 ⟨⟨g, cp, S, rfl, hg, harg, hperm, hsort, hb⟩⟩
  have HARG := Lib.hid harg
  have HPS := Lib.hid (And.intro hperm hsort)
  have B1 := Lib.hid hb
  obtain ⟨nn, hnn⟩ : ∃ nn, L.length = nn := ⟨_, rfl⟩
  have HLEN := Lib.hid (show S.length = nn by rw [← hnn]; exact hperm.length_eq)
  have HNN := Lib.hid hnn
  rw [hnn] at HARG hL ⊢
  have hcp := harg.max
  have hfit := harg.fits
  rw [hnn] at hfit
  clear LI hg harg hperm hsort hb hnn
  go_wp2_with fail
  go_loopw [9, 3] (fun v s wr => ∃ k : Nat, k ≤ nn ∧ v = .int .i64 k ∧ Hid (wr.ownsRow w1.heap.size 29 3 s k (cellsD (S.take k))) ∧ Hid (Below w1.heap.size w1 wr)) (fun v _ _ => nn - (intOf v).toNat)
  case atStart => exact ⟨0, by omega, rfl, Lib.hid (World.ownsRow_nil _ _ _ _), Lib.hid (Below.refl _ _)⟩
  case round =>
    obtain ⟨k, hk, rfl, HO, HB⟩ := hrel
    by_cases hlt : k < nn
    · obtain ⟨c, hc⟩ : ∃ c, S[k]? = some c := ⟨_, List.getElem?_eq_getElem (by rw [HLEN.out]; exact hlt)⟩
      obtain ⟨c0, c1, c2⟩ := (HARG.out.on HB.out).mem k c hc
      simp only [Nat.zero_add] at c0 c1 c2
      have i0' : (0 : Int) ≤ (k : Int) := by omega
      have i1 : (k : Int) < (nn : Int) := by omega
      have hnext : S.take (k + 1) = S.take k ++ [c] := by rw [List.take_add_one, hc]; rfl
      have HNX := Lib.hid hnext
      have K4 : Below wr.heap.size wr (wr.alloc (.cells #[.int .i64 c.pri, .int .i64 c.typ, .string c.name] 45)) := (Below.refl _ _).alloc (Nat.le_refl _) _
      have O4 := Lib.hid (row_same HO.out K4)
      have B4 := Lib.hid (HB.out.trans (K4.mono HB.out.size))
      have N4 : (wr.alloc (.cells #[.int .i64 c.pri, .int .i64 c.typ, .string c.name] 45)).heap[wr.heap.size]? = some (.cells #[.int .i64 c.pri, .int .i64 c.typ, .string c.name] 45 (0, 0)) := new_at _ _ rfl
      obtain ⟨d0, d1, d2, _, _, _⟩ := (Three.mk N4).facts
      obtain ⟨ad, cap, hs⟩ := owns_slice HO.out
      subst hs
      have hz : (wr.alloc (.cells #[.int .i64 c.pri, .int .i64 c.typ, .string c.name] 45)).heap.size = wr.heap.size + 1 := by simp
      have HZ := Lib.hid hz
      have NEWS := Lib.hid (def_news c 29)
      have ONE := Lib.hid (def_one c)
      obtain ⟨p, t, x⟩ := c
      simp only at c0 c1 c2 d0 d1 d2
      clear hc hnext K4 N4 hz
      go_wp2_with (at_builtin; refine wpList_append_lies _ rfl (.tmp 13) (.tmp 15) 22 rfl w1.heap.size 29 i0 (.agg #[.int .i64 0, .int .i64 0, .string ⟨#[]⟩]) 3 32 Tryd.underlying22 hi hz0 hz1 hz2 rfl (by decide) _ _ _ rfl (O4.out.alloc _) ⟨wr.heap.size + 1, 0, none⟩ 1 1 [.int .i64 p, .int .i64 t, .string x] rfl rfl (NEWS.out _ _ (by simp)) ONE.out (by omega) ?_ ?_ ?_ (wr.heap.size + 2) (by simp) ?_)
      · unfold maxLen; omega
      · omega
      · have := B4.out.size; simp at this ⊢; omega
      intro g' cap' w8 hown8 hgrow8 hat8 hlt8
      have OW := Lib.hid (show w8.ownsRow w1.heap.size 29 3 (.slice (some ⟨g', 0, none⟩) (k + 1) cap') (k + 1) (cellsD (S.take (k + 1))) from by
        rw [HNX.out, cellsD_app]
        exact hown8)
      have hbk : ∀ B, (Value.slice ad k cap).ownBlock = some B → w1.heap.size ≤ B := by
        intro B hB
        obtain ⟨_, ⟨h1, _⟩ | ⟨g0, cap0, _, h1, h2, _⟩⟩ := HO.out
        · cases h1; cases hB
        · cases h1; cases hB; exact h2
      have BW := Lib.hid (show Below w1.heap.size w1 w8 from (B4.out.alloc B4.out.size _).grown hgrow8 (by have := B4.out.size; simp at this ⊢; omega) hbk)
      clear hown8 hgrow8 hat8 hlt8 hbk NEWS ONE O4 B4 HO HB
      go_wp2_with fail
      go_roundw
      case rel => exact ⟨k + 1, by omega, by go_num, OW, BW⟩
      case measure => simp [intOf]; omega
    · obtain rfl : k = nn := by omega
      have HP := Lib.hid (show ∃ ad cap B, _ = Value.slice ad k cap ∧ ArgRow wr ad k cap B 0 S ∧ (S = [] ∨ w1.heap.size ≤ B) from by
        have := owns_any HO.out
        rwa [List.take_of_length_le (by rw [HLEN.out]; exact Nat.le_refl _)] at this)
      go_wp2_with fail
      go_ret
      obtain ⟨ad, cap, B, hv, hrow, hbase⟩ := HP.out
      refine ⟨⟨ad, cap, B, S, ?_, ?_, ?_, HPS.out.1, (show Sorted S from HPS.out.2.imp (fun h => by omega)), bt B1.out HB.out, hbase.imp id (Nat.le_trans B1.out.size)⟩⟩
      · rw [HNN.out]; exact congrArg Ending.returned hv
      · exact Nat.le_trans B1.out.size HB.out.size
      · rw [HNN.out]; exact hrow

end Go.Proofs.YtnnhpjpfmmlimaaDoor
