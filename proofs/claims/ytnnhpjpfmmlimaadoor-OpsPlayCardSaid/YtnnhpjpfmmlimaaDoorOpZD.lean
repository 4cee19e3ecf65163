/- The document's table of operators: List, its walk. Conditions: the operators are at most 256. -/
import Derived.Test.YtnnhpjpfmmlimaaDoorOpZC
namespace Go.Proofs.YtnnhpjpfmmlimaaDoor
open Go Go.RowKit Go.Maps
open Go.WideMaps Go.WideElems

theorem row_sameW {w W : World} {b n : Nat} {e : TypeId} {size : Nat} {v : Value} {xs : List Value} (h : w.ownsRow b e size v n xs) (hW : SameW W w) : W.ownsRow b e size v n xs := row_kept h fun g _ _ => by rw [hW.heap]
theorem news_sameW {w W : World} {B o : Nat} {l : List Value} (h : ∀ j u, l[j]? = some u → w.cell? ((⟨B, o, none⟩ : Addr).add j) = some u) (hW : SameW W w) : ∀ j u, l[j]? = some u → W.cell? ((⟨B, o, none⟩ : Addr).add j) = some u := fun j u hu => by
  rw [← h j u hu]
  exact World.cell?_of_block (by rw [hW.heap])
theorem row_take {w : World} {ad : Option Addr} {n cap B : Nat} {l : List Df} (h : ArgRow w ad n cap B 0 l) (a : Nat) : ∀ j u, (cellsD (l.take a))[j]? = some u → w.cell? ((⟨B, 0, none⟩ : Addr).add j) = some u := by
  intro j u hu
  have h0 := row_news h 0 j u
  rw [List.drop_zero, Nat.zero_mul] at h0
  refine h0 ?_
  have e : cellsD l = cellsD (l.take a) ++ cellsD (l.drop a) := by rw [← cellsD_app, List.take_append_drop]
  rw [e, List.getElem?_append_left (List.getElem?_eq_some_iff.1 hu).1]
  exact hu
theorem take_len {S : List Df} {a : Nat} (h : a ≤ S.length) : (cellsD (S.take a)).length = a * 3 := by rw [cellsD_len, List.length_take]; congr 1; omega
theorem drop_len {S : List Df} {a i : Nat} (h : S.length = i) : (cellsD (S.drop a)).length = (i - a) * 3 := by rw [cellsD_len, List.length_drop, h]
theorem cells_one (l : List Df) : ∀ u ∈ cellsD l, u.oneCell' = true := by
  intro u hu
  unfold cellsD at hu
  rw [List.mem_flatMap] at hu
  obtain ⟨d, _, hd⟩ := hu
  exact def_one d u hd
theorem own_ge {w : World} {b n : Nat} {e : TypeId} {size : Nat} {v : Value} {xs : List Value} (h : w.ownsRow b e size v n xs) : ∀ B, v.ownBlock = some B → b ≤ B := by
  intro B hB
  obtain ⟨_, ⟨h1, _⟩ | ⟨g0, cap0, _, h1, h2, _⟩⟩ := h
  · rw [h1] at hB; cases hB
  · rw [h1] at hB; cases hB; exact h2
theorem Below.sameW {B : Nat} {w W X : World} (h : Below B w X) (hW : SameW W X) : Below B w W := ⟨hW.os.trans h.os, hW.tape.trans h.tape, hW.output.trans h.output, by rw [hW.heap]; exact h.size, fun k hk => by rw [hW.heap]; exact h.block k hk⟩
theorem ins_one {Y w8 W w9 : World} {o : Obj} {e : TypeId} {size n : Nat} {v : Value} {xs : List Value} (h : w8.ownsRow Y.heap.size e size v n xs) (hg : W.grownBy w9 v.ownBlock) (hW : SameW W (w8.alloc o)) (k : Below Y.heap.size Y w8) : Below Y.heap.size Y w9 :=
  (Below.sameW (k.alloc k.size o) hW).grown hg (by rw [hW.heap]; simp; have := k.size; omega) (own_ge h)
theorem ins_two {Y w9 W w10 : World} {e : TypeId} {size n : Nat} {v : Value} {xs : List Value} (h : w9.ownsRow Y.heap.size e size v n xs) (hg : W.grownBy w10 v.ownBlock) (hW : SameW W w9) (k : Below Y.heap.size Y w9) : Below Y.heap.size Y w10 :=
  (Below.sameW k hW).grown hg (by rw [hW.heap]; exact k.size) (own_ge h)
theorem ins_fin0 {W : World} {B b a i g c : Nat} {S : List Df} {d : Df} (hS : S.length = i) (ha : a = i) (h : W.ownsRow B 29 3 (.slice (some ⟨g, 0, none⟩) (a + 1) c) (a + 1) (cellsD (S.take a) ++ [.int .i64 d.pri, .int .i64 d.typ, .string d.name])) (hb : b ≤ B) :
    W.ownsRow b 29 3 (.slice (some ⟨g, 0, none⟩) (a + 1) c) (i + 1) (cellsD (S.take a ++ d :: S.drop a)) := by
  subst ha
  have e : S.drop a = [] := List.drop_of_length_le (by omega)
  rw [e, cellsD_app]
  exact own_lower h hb
theorem ins_fin {W : World} {B b a i g c : Nat} {S : List Df} {d : Df} (_hS : S.length = i) (ha : a < i) (h : W.ownsRow B 29 3 (.slice (some ⟨g, 0, none⟩) (a + 1 + (i - a)) c) (a + 1 + (i - a)) (cellsD (S.take a) ++ [.int .i64 d.pri, .int .i64 d.typ, .string d.name] ++ cellsD (S.drop a))) (hb : b ≤ B) :
    W.ownsRow b 29 3 (.slice (some ⟨g, 0, none⟩) (a + 1 + (i - a)) c) (i + 1) (cellsD (S.take a ++ d :: S.drop a)) := by
  have e : a + 1 + (i - a) = i + 1 := by omega
  rw [e] at h ⊢
  rw [cellsD_app, show cellsD (d :: S.drop a) = [.int .i64 d.pri, .int .i64 d.typ, .string d.name] ++ cellsD (S.drop a) from rfl, ← List.append_assoc]
  exact own_lower h hb

set_option maxRecDepth 100000 in
set_option maxHeartbeats 3200000 in
theorem rlist_is (b : Nat) (L : List Df) (w : World) (hR : Rt w b L) (hL : L.length ≤ 256) :
    Calls Tryd.prog 13 #[.pointer (some ⟨b, 0, none⟩)] w (LlPost w L) := by
  obtain ⟨i0, hi, hz0, hz1, hz2⟩ := info_ref
  obtain ⟨ad, cap, B, r0, r1, r2, _⟩ := hR.facts
  obtain ⟨nn, hnn⟩ : ∃ nn, L.length = nn := ⟨_, rfl⟩
  rw [hnn] at r0 r2 hL
  have HA := Lib.hid r2
  have HN := Lib.hid hnn
  have hcp := r2.max
  have hfit := r2.fits
  clear hR r1 r2 hnn
  go_enter Tryd.func13, Tryd.ntmps13
  go_wp2_with fail
  clear r0
  go_loopw [13, 3] (fun v sl wr => ∃ (i : Nat) (S : List Df), i ≤ nn ∧ v = .int .i64 i ∧ Hid (wr.ownsRow w.heap.size 29 3 sl i (cellsD S)) ∧ Hid (S.Perm (L.take i)) ∧ Hid (Sorted S) ∧ Hid (Below w.heap.size w wr)) (fun v _ _ => nn - (intOf v).toNat)
  case atStart => exact ⟨0, [], by omega, rfl, Lib.hid (World.ownsRow_nil _ _ _ _), Lib.hid (by simp), Lib.hid List.Pairwise.nil, Lib.hid (Below.refl _ _)⟩
  case round =>
    obtain ⟨i, S, hin, rfl, HO, HP, HSO, HB⟩ := hrel
    have hSl : S.length = i := by
      have := HP.out.length_eq
      rw [List.length_take, HN.out] at this
      omega
    by_cases hlt : i < nn
    · obtain ⟨d, hd⟩ : ∃ d, L[i]? = some d := ⟨_, List.getElem?_eq_getElem (by rw [HN.out]; exact hlt)⟩
      obtain rfl := HA.out.at' (by omega)
      obtain ⟨c0, c1, c2⟩ := (HA.out.on HB.out).mem i d hd
      simp only [Nat.zero_add] at c0 c1 c2
      have HNX := Lib.hid (show L.take (i + 1) = L.take i ++ [d] by rw [List.take_add_one, hd]; rfl)
      have ii0 : (0 : Int) ≤ (i : Int) := by omega
      have ii1 : (i : Int) < (nn : Int) := by omega
      obtain ⟨ads, caps, hs⟩ := owns_slice HO.out
      subst hs
      obtain ⟨ads', caps', Bs, hsv, harg, hbs⟩ := owns_any HO.out
      cases hsv
      have K4 : Below wr.heap.size wr (wr.alloc (.cells #[.int .i64 d.pri, .int .i64 d.typ, .string d.name] 29)) := (Below.refl _ _).alloc (Nat.le_refl _) _
      have O4 := row_same HO.out K4
      have B4 := HB.out.trans (K4.mono HB.out.size)
      have A4 := harg.on K4
      have hZ := HB.out.size
      have N4 : (wr.alloc (.cells #[.int .i64 d.pri, .int .i64 d.typ, .string d.name] 29)).heap[wr.heap.size]? = some (.cells #[.int .i64 d.pri, .int .i64 d.typ, .string d.name] 29 (0, 0)) := new_at _ _ rfl
      obtain ⟨X, hX⟩ : ∃ X, wr.alloc (.cells #[.int .i64 d.pri, .int .i64 d.typ, .string d.name] 29) = X := ⟨_, rfl⟩
      rw [hX] at O4 B4 A4 N4
      obtain ⟨q0, q1, q2, _, _, _⟩ := (Three.mk N4).facts
      have HX := Lib.hid hX
      have HO4 := Lib.hid O4
      have HB4 := Lib.hid B4
      have HA4 := Lib.hid A4
      have HN4 := Lib.hid N4
      have HBS := Lib.hid hbs
      have hcs := harg.max
      have hfs := harg.fits
      have HSL := Lib.hid hSl
      have HZ := Lib.hid hZ
      obtain ⟨p, t, x⟩ := d
      simp only at c0 c1 c2 q0 q1 q2
      clear hd K4 O4 B4 A4 N4 hX hbs harg HO HB hSl hZ
      go_wp2_with fail
      rw [HX.out]
      clear c0 c1 c2
      go_loopw [6] (fun v wr => ∃ a : Nat, a ≤ i ∧ v = .int .i64 a ∧ Hid (∀ j e, a ≤ j → S[j]? = some e → cmpD ⟨p, t, x⟩ e < 0) ∧ ∃ q, wr = X.drewN q) (fun v _ => (intOf v).toNat)
      case atStart => exact ⟨i, by omega, rfl, Lib.hid (fun j e hj he => by have := (List.getElem?_eq_some_iff.1 he).1; have := HSL.out; omega), 0, rfl⟩
      case round =>
        obtain ⟨a, ha, rfl, HGT, q, rfl⟩ := hrel
        have HA5 := Lib.hid (HA4.out)
        by_cases ha0 : a = 0
        · subst ha0
          go_wp2_with fail
          go_quiet (fail)
          obtain ⟨Y, hY⟩ : ∃ Y, (X.drewN q).drewN nq = Y := ⟨_, rfl⟩
          rw [hY]
          have SY : SameW Y X := by rw [← hY]; exact ⟨rfl, rfl, rfl, rfl⟩
          have KY : Below X.heap.size X Y := by rw [← hY]; exact ⟨rfl, rfl, rfl, Nat.le_refl _, fun _ _ => rfl⟩
          have AY := Lib.hid (HA4.out.on KY)
          have BY := Lib.hid (HB4.out.trans (KY.mono HB4.out.size))
          have NY := Lib.hid (show Y.heap[wr.heap.size]? = some (.cells #[.int .i64 p, .int .i64 t, .string x] 29 (0, 0)) from by rw [SY.heap]; exact HN4.out)
          have YZ := Lib.hid (show w.heap.size ≤ Y.heap.size from BY.out.size)
          have O0 := Lib.hid (own_none Y)
          clear hY SY KY HA4 HB4 HN4 HO4
          go_wp2_with (at_builtin; refine wpList_append0 rfl (.tmp 56) (.tmp 59) 22 rfl Tryd.underlying22 hi rfl O0.out _ _ rfl ?_)
          have O8 := Lib.hid (show (Y.alloc (.cells #[] 29)).ownsRow Y.heap.size 29 3 (.slice (some ⟨Y.heap.size, 0, none⟩) 0 0) 0 (cellsD (S.take 0)) from O0.out)
          have K8 := Lib.hid (show Below Y.heap.size Y (Y.alloc (.cells #[] 29)) from (Below.refl _ _).alloc (Nat.le_refl _) _)
          obtain ⟨w8, hw8⟩ : ∃ w8, Y.alloc (.cells #[] 29) = w8 := ⟨_, rfl⟩
          obtain ⟨g7, hg7⟩ : ∃ g, Y.heap.size = g := ⟨_, rfl⟩
          obtain ⟨c7, hc7⟩ : ∃ c : Nat, 0 = c := ⟨_, rfl⟩
          rw [hw8] at O8 K8 ⊢
          have HC7 := Lib.hid (And.intro hg7 hc7)
          clear hw8 O0 hg7 hc7
          by_cases hai : 0 < i
          · obtain rfl := AY.out.at' (by omega)
            have hs0 : (0 : Nat) < caps := by omega
            have D8 := Lib.hid ((K8.out.block _ (heap_lt NY.out)).trans NY.out)
            obtain ⟨d0, d1, d2, _, _, _⟩ := (Three.mk D8.out).facts
            have KA : Below w8.heap.size w8 (w8.alloc (.cells #[.int .i64 p, .int .i64 t, .string x] 29)) := (Below.refl _ _).alloc (Nat.le_refl _) _
            obtain ⟨f0, f1, f2, _, _, _⟩ := (Three.mk ((KA.block _ (heap_lt D8.out)).trans D8.out)).facts
            have OWNS := Lib.hid (fun W (hW : SameW W (w8.alloc (.cells #[.int .i64 p, .int .i64 t, .string x] 29))) => row_sameW (row_same O8.out KA) hW)
            have NEWS := Lib.hid (fun (W : World) (hW : SameW W (w8.alloc (.cells #[.int .i64 p, .int .i64 t, .string x] 29))) => show ∀ j u, [Value.int .i64 p, .int .i64 t, .string x][j]? = some u → W.cell? ((⟨w8.heap.size, 0, none⟩ : Addr).add j) = some u from fun j u hu => by
              have := def_news ⟨p, t, x⟩ 29 w8 _ rfl j u hu
              rw [← this]
              exact World.cell?_of_block (by rw [hW.heap]))
            have ONE := Lib.hid (def_one ⟨p, t, x⟩)
            have Z8 := Lib.hid (show Y.heap.size ≤ w8.heap.size from K8.out.size)
            clear KA
            go_region_law (first | (refine step_append_lies _ (by rfl) (.tmp 61) (.tmp 63) 22 (by rfl) Y.heap.size 29 i0 (.agg #[.int .i64 0, .int .i64 0, .string ⟨#[]⟩]) 3 32 Tryd.underlying22 hi hz0 hz1 hz2 (by rfl) (by decide) (.slice (some ⟨Y.heap.size, 0, none⟩) 0 0) 0 (cellsD (S.take 0)) (by rfl) (OWNS.out _ ⟨rfl, rfl, rfl, rfl⟩) ⟨w8.heap.size, 0, none⟩ 1 1 [.int .i64 p, .int .i64 t, .string x] (by rfl) (by rfl) (NEWS.out _ ⟨rfl, rfl, rfl, rfl⟩) ONE.out (by omega) (by unfold maxLen; omega) (by omega) (by have := Z8.out; simp; omega) (w8.heap.size + 1) (by simp) ?_; intro g9 c9 w9 hown9 hgrow9 hat9 hlt9; have M9 := Lib.hid (ins_one O8.out hgrow9 ⟨rfl, rfl, rfl, rfl⟩ K8.out); have O9 := Lib.hid hown9; have U9 := Lib.hid (fun W (hW : SameW W w9) => row_sameW hown9 hW); have V9 := Lib.hid (fun W (hW : SameW W w9) => news_sameW (row_news (AY.out.on M9.out) 0) hW)) | (refine step_append_lies _ (by rfl) (.tmp 64) (.tmp 67) 22 (by rfl) Y.heap.size 29 i0 (.agg #[.int .i64 0, .int .i64 0, .string ⟨#[]⟩]) 3 32 Tryd.underlying22 hi hz0 hz1 hz2 (by rfl) (by decide) (.slice (some ⟨g9, 0, none⟩) (0 + 1) c9) (0 + 1) _ (by rfl) (U9.out _ ⟨rfl, rfl, rfl, rfl⟩) ⟨Bs, 0 * 3, none⟩ (i - 0) (caps - 0) (cellsD (S.drop 0)) (by first | rfl | (simp [Act.eval]; omega)) (drop_len (by have := HSL.out; omega)) (V9.out _ ⟨rfl, rfl, rfl, rfl⟩) (cells_one _) (by omega) (by unfold maxLen; omega) (by omega) (M9.out.size) w9.heap.size (by rfl) ?_; intro g10 c10 w10 hown10 hgrow10 hat10 hlt10))
            all_goals
              have REL := Lib.hid (ins_fin (d := ⟨p, t, x⟩) HSL.out (by omega) hown10 YZ.out)
              have BE := Lib.hid (show Below w.heap.size w w10 from BY.out.trans ((ins_two O9.out hgrow10 ⟨rfl, rfl, rfl, rfl⟩ M9.out).mono BY.out.size))
              clear hown9 hgrow9 hat9 hlt9 hown10 hgrow10 hat10 hlt10 M9 O9 U9 V9 OWNS NEWS ONE d0 d1 d2 f0 f1 f2
              go_wp2
              go_roundw
              case rel => exact ⟨i + 1, S.take 0 ++ ⟨p, t, x⟩ :: S.drop 0, by omega, by go_num, Lib.hid (by first | exact REL.out | (have h := REL.out; simp at h ⊢; exact h)), Lib.hid (by rw [HNX.out]; exact put_perm.trans (HP.out.append_right _)), Lib.hid (put_sorted HSO.out HGT.out (.inl rfl)), Lib.hid (by first | exact BE.out | exact bt BE.out ⟨rfl, rfl, rfl, Nat.le_refl _, fun _ _ => rfl⟩)⟩
              case measure => simp [intOf]; omega
          · have hai2 : i = 0 := by omega
            subst hai2
            have D8 := Lib.hid ((K8.out.block _ (heap_lt NY.out)).trans NY.out)
            obtain ⟨d0, d1, d2, _, _, _⟩ := (Three.mk D8.out).facts
            have KA : Below w8.heap.size w8 (w8.alloc (.cells #[.int .i64 p, .int .i64 t, .string x] 29)) := (Below.refl _ _).alloc (Nat.le_refl _) _
            obtain ⟨f0, f1, f2, _, _, _⟩ := (Three.mk ((KA.block _ (heap_lt D8.out)).trans D8.out)).facts
            have OWNS := Lib.hid (fun W (hW : SameW W (w8.alloc (.cells #[.int .i64 p, .int .i64 t, .string x] 29))) => row_sameW (row_same O8.out KA) hW)
            have NEWS := Lib.hid (fun (W : World) (hW : SameW W (w8.alloc (.cells #[.int .i64 p, .int .i64 t, .string x] 29))) => show ∀ j u, [Value.int .i64 p, .int .i64 t, .string x][j]? = some u → W.cell? ((⟨w8.heap.size, 0, none⟩ : Addr).add j) = some u from fun j u hu => by
              have := def_news ⟨p, t, x⟩ 29 w8 _ rfl j u hu
              rw [← this]
              exact World.cell?_of_block (by rw [hW.heap]))
            have ONE := Lib.hid (def_one ⟨p, t, x⟩)
            have Z8 := Lib.hid (show Y.heap.size ≤ w8.heap.size from K8.out.size)
            clear KA
            go_region_law (first | (refine step_append_lies _ (by rfl) (.tmp 61) (.tmp 63) 22 (by rfl) Y.heap.size 29 i0 (.agg #[.int .i64 0, .int .i64 0, .string ⟨#[]⟩]) 3 32 Tryd.underlying22 hi hz0 hz1 hz2 (by rfl) (by decide) (.slice (some ⟨Y.heap.size, 0, none⟩) 0 0) 0 (cellsD (S.take 0)) (by rfl) (OWNS.out _ ⟨rfl, rfl, rfl, rfl⟩) ⟨w8.heap.size, 0, none⟩ 1 1 [.int .i64 p, .int .i64 t, .string x] (by rfl) (by rfl) (NEWS.out _ ⟨rfl, rfl, rfl, rfl⟩) ONE.out (by omega) (by unfold maxLen; omega) (by omega) (by have := Z8.out; simp; omega) (w8.heap.size + 1) (by simp) ?_; intro g9 c9 w9 hown9 hgrow9 hat9 hlt9; have M9 := ins_one O8.out hgrow9 ⟨rfl, rfl, rfl, rfl⟩ K8.out; have O9 := Lib.hid hown9; have U9 := Lib.hid (fun W (hW : SameW W w9) => row_sameW hown9 hW)) | (refine step_append0 (by rfl) (.tmp 64) (.tmp 67) 22 (by rfl) Tryd.underlying22 hi (by rfl) (U9.out _ ⟨rfl, rfl, rfl, rfl⟩) _ _ (by rfl) ?_))
            all_goals
              have REL := Lib.hid (ins_fin0 (d := ⟨p, t, x⟩) HSL.out (by omega) O9.out YZ.out)
              have BE := Lib.hid (show Below w.heap.size w w9 from BY.out.trans (M9.mono BY.out.size))
              clear hown9 hgrow9 hat9 hlt9 M9 O9 U9 OWNS NEWS ONE d0 d1 d2 f0 f1 f2
              go_wp2
              go_roundw
              case rel => exact ⟨0 + 1, S.take 0 ++ ⟨p, t, x⟩ :: S.drop 0, by omega, by go_num, Lib.hid (by first | exact REL.out | (have h := REL.out; simp at h ⊢; exact h)), Lib.hid (by rw [HNX.out]; exact put_perm.trans (HP.out.append_right _)), Lib.hid (put_sorted HSO.out HGT.out (.inl rfl)), Lib.hid (by first | exact BE.out | exact bt BE.out ⟨rfl, rfl, rfl, Nat.le_refl _, fun _ _ => rfl⟩)⟩
              case measure => simp [intOf]; omega
        · obtain ⟨a', rfl⟩ : ∃ a', a = a' + 1 := ⟨a - 1, by omega⟩
          obtain ⟨e, he⟩ : ∃ e, S[a']? = some e := ⟨_, List.getElem?_eq_getElem (by have := HSL.out; omega)⟩
          obtain rfl := HA4.out.at' (by omega)
          obtain ⟨e0, e1, e2⟩ := HA4.out.mem a' e he
          simp only [Nat.zero_add] at e0 e1 e2
          have HG := Lib.hid (gt_iff e ⟨p, t, x⟩)
          have HE := Lib.hid he
          obtain ⟨pe, te, xe⟩ := e
          simp only at e0 e1 e2
          unfold gtD at HG
          simp only at HG
          have hc1 : ((a' + 1 : Nat) : Int) = (a' : Int) + 1 := by omega
          rw [hc1]
          have j0 : (0 : Int) < (a' : Int) + 1 := by omega
          have j1 : (a' : Int) + 1 - 1 = (a' : Int) := by omega
          have j2 : (0 : Int) ≤ (a' : Int) := by omega
          have j3 : (a' : Int) < (i : Int) := by omega
          have j5 : IntKind.i64.wrap (a' : Int) = (a' : Int) := by unfold IntKind.wrap; simp [IntKind.signed, IntKind.bits]; omega
          clear he hc1
          cases g2 : (xe.toList == x.toList)
          · cases g1 : Op.bytesLess xe.toList x.toList
            · have hgo := HG.out.1 (by simp [g1, g2])
              have HGT' := Lib.hid (show ∀ j e, a' ≤ j → S[j]? = some e → cmpD ⟨p, t, x⟩ e < 0 from fun j e hj he => by
                by_cases h : j = a'
                · subst h; rw [HE.out] at he; cases he; exact hgo
                · exact HGT.out j e (by omega) he)
              clear hgo
              go_wp2_with fail
              go_quiet (fail)
              go_wp2_with fail
              go_roundw
              case rel => exact ⟨a', by omega, by go_num, HGT', q + nq, rfl⟩
              case measure => simp [intOf]
            · have hstop := Lib.hid (show a' + 1 = 0 ∨ ∃ e, S[a' + 1 - 1]? = some e ∧ 0 ≤ cmpD ⟨p, t, x⟩ e from .inr ⟨_, HE.out, Int.not_lt.1 fun h => by have := HG.out.2 h; simp [g1, g2] at this; try omega⟩)
              go_wp2_with fail
              go_quiet (fail)
              obtain ⟨a1, ha1⟩ : ∃ a1 : Nat, a' + 1 = a1 := ⟨_, rfl⟩
              have hca : (a' : Int) + 1 = (a1 : Int) := by omega
              rw [hca]
              rw [ha1] at hstop HGT ha
              have ha10 : 0 < a1 := by omega
              clear hca
              obtain ⟨Y, hY⟩ : ∃ Y, (X.drewN q).drewN nq = Y := ⟨_, rfl⟩
              rw [hY]
              have SY : SameW Y X := by rw [← hY]; exact ⟨rfl, rfl, rfl, rfl⟩
              have KY : Below X.heap.size X Y := by rw [← hY]; exact ⟨rfl, rfl, rfl, Nat.le_refl _, fun _ _ => rfl⟩
              have AY := Lib.hid (HA4.out.on KY)
              have BY := Lib.hid (HB4.out.trans (KY.mono HB4.out.size))
              have NY := Lib.hid (show Y.heap[wr.heap.size]? = some (.cells #[.int .i64 p, .int .i64 t, .string x] 29 (0, 0)) from by rw [SY.heap]; exact HN4.out)
              have YZ := Lib.hid (show w.heap.size ≤ Y.heap.size from BY.out.size)
              have O0 := Lib.hid (own_none Y)
              clear hY SY KY HA4 HB4 HN4 HO4
              have N8 := Lib.hid (row_take (AY.out.on ((Below.refl Y.heap.size Y).alloc (Nat.le_refl _) (.cells #[] 29))) a1)
              have L8 := Lib.hid (take_len (S := S) (a := a1) (by have := HSL.out; omega))
              go_wp2_with (at_builtin; refine wpList_append_lies _ rfl (.tmp 56) (.tmp 59) 22 rfl Y.heap.size 29 i0 (.agg #[.int .i64 0, .int .i64 0, .string ⟨#[]⟩]) 3 32 Tryd.underlying22 hi hz0 hz1 hz2 rfl (by decide) _ 0 (cellsD []) rfl O0.out ⟨Bs, 0, none⟩ a1 caps (cellsD (S.take a1)) rfl L8.out N8.out (cells_one _) (by omega) ?_ ?_ ?_ (Y.heap.size + 1) (by simp) ?_)
              · unfold maxLen; omega
              · omega
              · simp
              intro g7 c7 w8 hown8 hgrow8 hat8 hlt8
              try simp only [Nat.zero_add] at hown8
              try simp only [Nat.zero_add]
              have O8 := Lib.hid (show w8.ownsRow Y.heap.size 29 3 (.slice (some ⟨g7, 0, none⟩) a1 c7) a1 (cellsD (S.take a1)) from hown8)
              have K8 := Lib.hid (show Below Y.heap.size Y w8 from ((Below.refl _ _).alloc (Nat.le_refl _) _).grown hgrow8 (by simp) (fun B hB => by simp only [Value.ownBlock, Option.some.injEq] at hB; omega))
              clear hown8 hgrow8 hat8 hlt8 N8 L8 O0
              go_wp2_with fail
              by_cases hai : a1 < i
              · have hs0 : (a1 : Nat) < caps := by omega
                have D8 := Lib.hid ((K8.out.block _ (heap_lt NY.out)).trans NY.out)
                obtain ⟨d0, d1, d2, _, _, _⟩ := (Three.mk D8.out).facts
                have KA : Below w8.heap.size w8 (w8.alloc (.cells #[.int .i64 p, .int .i64 t, .string x] 29)) := (Below.refl _ _).alloc (Nat.le_refl _) _
                obtain ⟨f0, f1, f2, _, _, _⟩ := (Three.mk ((KA.block _ (heap_lt D8.out)).trans D8.out)).facts
                have OWNS := Lib.hid (fun W (hW : SameW W (w8.alloc (.cells #[.int .i64 p, .int .i64 t, .string x] 29))) => row_sameW (row_same O8.out KA) hW)
                have NEWS := Lib.hid (fun (W : World) (hW : SameW W (w8.alloc (.cells #[.int .i64 p, .int .i64 t, .string x] 29))) => show ∀ j u, [Value.int .i64 p, .int .i64 t, .string x][j]? = some u → W.cell? ((⟨w8.heap.size, 0, none⟩ : Addr).add j) = some u from fun j u hu => by
                  have := def_news ⟨p, t, x⟩ 29 w8 _ rfl j u hu
                  rw [← this]
                  exact World.cell?_of_block (by rw [hW.heap]))
                have ONE := Lib.hid (def_one ⟨p, t, x⟩)
                have Z8 := Lib.hid (show Y.heap.size ≤ w8.heap.size from K8.out.size)
                clear KA
                go_region_law (first | (refine step_append_lies _ (by rfl) (.tmp 61) (.tmp 63) 22 (by rfl) Y.heap.size 29 i0 (.agg #[.int .i64 0, .int .i64 0, .string ⟨#[]⟩]) 3 32 Tryd.underlying22 hi hz0 hz1 hz2 (by rfl) (by decide) (.slice (some ⟨g7, 0, none⟩) a1 c7) a1 (cellsD (S.take a1)) (by rfl) (OWNS.out _ ⟨rfl, rfl, rfl, rfl⟩) ⟨w8.heap.size, 0, none⟩ 1 1 [.int .i64 p, .int .i64 t, .string x] (by rfl) (by rfl) (NEWS.out _ ⟨rfl, rfl, rfl, rfl⟩) ONE.out (by omega) (by unfold maxLen; omega) (by omega) (by have := Z8.out; simp; omega) (w8.heap.size + 1) (by simp) ?_; intro g9 c9 w9 hown9 hgrow9 hat9 hlt9; have M9 := Lib.hid (ins_one O8.out hgrow9 ⟨rfl, rfl, rfl, rfl⟩ K8.out); have O9 := Lib.hid hown9; have U9 := Lib.hid (fun W (hW : SameW W w9) => row_sameW hown9 hW); have V9 := Lib.hid (fun W (hW : SameW W w9) => news_sameW (row_news (AY.out.on M9.out) a1) hW)) | (refine step_append_lies _ (by rfl) (.tmp 64) (.tmp 67) 22 (by rfl) Y.heap.size 29 i0 (.agg #[.int .i64 0, .int .i64 0, .string ⟨#[]⟩]) 3 32 Tryd.underlying22 hi hz0 hz1 hz2 (by rfl) (by decide) (.slice (some ⟨g9, 0, none⟩) (a1 + 1) c9) (a1 + 1) _ (by rfl) (U9.out _ ⟨rfl, rfl, rfl, rfl⟩) ⟨Bs, a1 * 3, none⟩ (i - a1) (caps - a1) (cellsD (S.drop a1)) (by first | rfl | (simp [Act.eval]; omega)) (drop_len (by have := HSL.out; omega)) (V9.out _ ⟨rfl, rfl, rfl, rfl⟩) (cells_one _) (by omega) (by unfold maxLen; omega) (by omega) (M9.out.size) w9.heap.size (by rfl) ?_; intro g10 c10 w10 hown10 hgrow10 hat10 hlt10))
                all_goals
                  have REL := Lib.hid (ins_fin (d := ⟨p, t, x⟩) HSL.out (by omega) hown10 YZ.out)
                  have BE := Lib.hid (show Below w.heap.size w w10 from BY.out.trans ((ins_two O9.out hgrow10 ⟨rfl, rfl, rfl, rfl⟩ M9.out).mono BY.out.size))
                  clear hown9 hgrow9 hat9 hlt9 hown10 hgrow10 hat10 hlt10 M9 O9 U9 V9 OWNS NEWS ONE d0 d1 d2 f0 f1 f2
                  go_wp2
                  go_roundw
                  case rel => exact ⟨i + 1, S.take a1 ++ ⟨p, t, x⟩ :: S.drop a1, by omega, by go_num, Lib.hid (by first | exact REL.out | (have h := REL.out; simp at h ⊢; exact h)), Lib.hid (by rw [HNX.out]; exact put_perm.trans (HP.out.append_right _)), Lib.hid (put_sorted HSO.out HGT.out hstop.out), Lib.hid (by first | exact BE.out | exact bt BE.out ⟨rfl, rfl, rfl, Nat.le_refl _, fun _ _ => rfl⟩)⟩
                  case measure => simp [intOf]; omega
              · obtain rfl : a1 = i := by omega
                have D8 := Lib.hid ((K8.out.block _ (heap_lt NY.out)).trans NY.out)
                obtain ⟨d0, d1, d2, _, _, _⟩ := (Three.mk D8.out).facts
                have KA : Below w8.heap.size w8 (w8.alloc (.cells #[.int .i64 p, .int .i64 t, .string x] 29)) := (Below.refl _ _).alloc (Nat.le_refl _) _
                obtain ⟨f0, f1, f2, _, _, _⟩ := (Three.mk ((KA.block _ (heap_lt D8.out)).trans D8.out)).facts
                have OWNS := Lib.hid (fun W (hW : SameW W (w8.alloc (.cells #[.int .i64 p, .int .i64 t, .string x] 29))) => row_sameW (row_same O8.out KA) hW)
                have NEWS := Lib.hid (fun (W : World) (hW : SameW W (w8.alloc (.cells #[.int .i64 p, .int .i64 t, .string x] 29))) => show ∀ j u, [Value.int .i64 p, .int .i64 t, .string x][j]? = some u → W.cell? ((⟨w8.heap.size, 0, none⟩ : Addr).add j) = some u from fun j u hu => by
                  have := def_news ⟨p, t, x⟩ 29 w8 _ rfl j u hu
                  rw [← this]
                  exact World.cell?_of_block (by rw [hW.heap]))
                have ONE := Lib.hid (def_one ⟨p, t, x⟩)
                have Z8 := Lib.hid (show Y.heap.size ≤ w8.heap.size from K8.out.size)
                clear KA
                go_region_law (first | (refine step_append_lies _ (by rfl) (.tmp 61) (.tmp 63) 22 (by rfl) Y.heap.size 29 i0 (.agg #[.int .i64 0, .int .i64 0, .string ⟨#[]⟩]) 3 32 Tryd.underlying22 hi hz0 hz1 hz2 (by rfl) (by decide) (.slice (some ⟨g7, 0, none⟩) a1 c7) a1 (cellsD (S.take a1)) (by rfl) (OWNS.out _ ⟨rfl, rfl, rfl, rfl⟩) ⟨w8.heap.size, 0, none⟩ 1 1 [.int .i64 p, .int .i64 t, .string x] (by rfl) (by rfl) (NEWS.out _ ⟨rfl, rfl, rfl, rfl⟩) ONE.out (by omega) (by unfold maxLen; omega) (by omega) (by have := Z8.out; simp; omega) (w8.heap.size + 1) (by simp) ?_; intro g9 c9 w9 hown9 hgrow9 hat9 hlt9; have M9 := ins_one O8.out hgrow9 ⟨rfl, rfl, rfl, rfl⟩ K8.out; have O9 := Lib.hid hown9; have U9 := Lib.hid (fun W (hW : SameW W w9) => row_sameW hown9 hW)) | (refine step_append0 (by rfl) (.tmp 64) (.tmp 67) 22 (by rfl) Tryd.underlying22 hi (by rfl) (U9.out _ ⟨rfl, rfl, rfl, rfl⟩) _ _ (by rfl) ?_))
                all_goals
                  have REL := Lib.hid (ins_fin0 (d := ⟨p, t, x⟩) HSL.out (by omega) O9.out YZ.out)
                  have BE := Lib.hid (show Below w.heap.size w w9 from BY.out.trans (M9.mono BY.out.size))
                  clear hown9 hgrow9 hat9 hlt9 M9 O9 U9 OWNS NEWS ONE d0 d1 d2 f0 f1 f2
                  go_wp2
                  go_roundw
                  case rel => exact ⟨a1 + 1, S.take a1 ++ ⟨p, t, x⟩ :: S.drop a1, by omega, by go_num, Lib.hid (by first | exact REL.out | (have h := REL.out; simp at h ⊢; exact h)), Lib.hid (by rw [HNX.out]; exact put_perm.trans (HP.out.append_right _)), Lib.hid (put_sorted HSO.out HGT.out hstop.out), Lib.hid (by first | exact BE.out | exact bt BE.out ⟨rfl, rfl, rfl, Nat.le_refl _, fun _ _ => rfl⟩)⟩
                  case measure => simp [intOf]; omega
          · cases g3 : decide (t < te)
            · have hstop := Lib.hid (show a' + 1 = 0 ∨ ∃ e, S[a' + 1 - 1]? = some e ∧ 0 ≤ cmpD ⟨p, t, x⟩ e from .inr ⟨_, HE.out, Int.not_lt.1 fun h => by have := HG.out.2 h; simp [g2] at this; simp at g3; try omega⟩)
              go_wp2_with fail
              go_quiet (fail)
              obtain ⟨a1, ha1⟩ : ∃ a1 : Nat, a' + 1 = a1 := ⟨_, rfl⟩
              have hca : (a' : Int) + 1 = (a1 : Int) := by omega
              rw [hca]
              rw [ha1] at hstop HGT ha
              have ha10 : 0 < a1 := by omega
              clear hca
              obtain ⟨Y, hY⟩ : ∃ Y, (X.drewN q).drewN nq = Y := ⟨_, rfl⟩
              rw [hY]
              have SY : SameW Y X := by rw [← hY]; exact ⟨rfl, rfl, rfl, rfl⟩
              have KY : Below X.heap.size X Y := by rw [← hY]; exact ⟨rfl, rfl, rfl, Nat.le_refl _, fun _ _ => rfl⟩
              have AY := Lib.hid (HA4.out.on KY)
              have BY := Lib.hid (HB4.out.trans (KY.mono HB4.out.size))
              have NY := Lib.hid (show Y.heap[wr.heap.size]? = some (.cells #[.int .i64 p, .int .i64 t, .string x] 29 (0, 0)) from by rw [SY.heap]; exact HN4.out)
              have YZ := Lib.hid (show w.heap.size ≤ Y.heap.size from BY.out.size)
              have O0 := Lib.hid (own_none Y)
              clear hY SY KY HA4 HB4 HN4 HO4
              have N8 := Lib.hid (row_take (AY.out.on ((Below.refl Y.heap.size Y).alloc (Nat.le_refl _) (.cells #[] 29))) a1)
              have L8 := Lib.hid (take_len (S := S) (a := a1) (by have := HSL.out; omega))
              go_wp2_with (at_builtin; refine wpList_append_lies _ rfl (.tmp 56) (.tmp 59) 22 rfl Y.heap.size 29 i0 (.agg #[.int .i64 0, .int .i64 0, .string ⟨#[]⟩]) 3 32 Tryd.underlying22 hi hz0 hz1 hz2 rfl (by decide) _ 0 (cellsD []) rfl O0.out ⟨Bs, 0, none⟩ a1 caps (cellsD (S.take a1)) rfl L8.out N8.out (cells_one _) (by omega) ?_ ?_ ?_ (Y.heap.size + 1) (by simp) ?_)
              · unfold maxLen; omega
              · omega
              · simp
              intro g7 c7 w8 hown8 hgrow8 hat8 hlt8
              try simp only [Nat.zero_add] at hown8
              try simp only [Nat.zero_add]
              have O8 := Lib.hid (show w8.ownsRow Y.heap.size 29 3 (.slice (some ⟨g7, 0, none⟩) a1 c7) a1 (cellsD (S.take a1)) from hown8)
              have K8 := Lib.hid (show Below Y.heap.size Y w8 from ((Below.refl _ _).alloc (Nat.le_refl _) _).grown hgrow8 (by simp) (fun B hB => by simp only [Value.ownBlock, Option.some.injEq] at hB; omega))
              clear hown8 hgrow8 hat8 hlt8 N8 L8 O0
              go_wp2_with fail
              by_cases hai : a1 < i
              · have hs0 : (a1 : Nat) < caps := by omega
                have D8 := Lib.hid ((K8.out.block _ (heap_lt NY.out)).trans NY.out)
                obtain ⟨d0, d1, d2, _, _, _⟩ := (Three.mk D8.out).facts
                have KA : Below w8.heap.size w8 (w8.alloc (.cells #[.int .i64 p, .int .i64 t, .string x] 29)) := (Below.refl _ _).alloc (Nat.le_refl _) _
                obtain ⟨f0, f1, f2, _, _, _⟩ := (Three.mk ((KA.block _ (heap_lt D8.out)).trans D8.out)).facts
                have OWNS := Lib.hid (fun W (hW : SameW W (w8.alloc (.cells #[.int .i64 p, .int .i64 t, .string x] 29))) => row_sameW (row_same O8.out KA) hW)
                have NEWS := Lib.hid (fun (W : World) (hW : SameW W (w8.alloc (.cells #[.int .i64 p, .int .i64 t, .string x] 29))) => show ∀ j u, [Value.int .i64 p, .int .i64 t, .string x][j]? = some u → W.cell? ((⟨w8.heap.size, 0, none⟩ : Addr).add j) = some u from fun j u hu => by
                  have := def_news ⟨p, t, x⟩ 29 w8 _ rfl j u hu
                  rw [← this]
                  exact World.cell?_of_block (by rw [hW.heap]))
                have ONE := Lib.hid (def_one ⟨p, t, x⟩)
                have Z8 := Lib.hid (show Y.heap.size ≤ w8.heap.size from K8.out.size)
                clear KA
                go_region_law (first | (refine step_append_lies _ (by rfl) (.tmp 61) (.tmp 63) 22 (by rfl) Y.heap.size 29 i0 (.agg #[.int .i64 0, .int .i64 0, .string ⟨#[]⟩]) 3 32 Tryd.underlying22 hi hz0 hz1 hz2 (by rfl) (by decide) (.slice (some ⟨g7, 0, none⟩) a1 c7) a1 (cellsD (S.take a1)) (by rfl) (OWNS.out _ ⟨rfl, rfl, rfl, rfl⟩) ⟨w8.heap.size, 0, none⟩ 1 1 [.int .i64 p, .int .i64 t, .string x] (by rfl) (by rfl) (NEWS.out _ ⟨rfl, rfl, rfl, rfl⟩) ONE.out (by omega) (by unfold maxLen; omega) (by omega) (by have := Z8.out; simp; omega) (w8.heap.size + 1) (by simp) ?_; intro g9 c9 w9 hown9 hgrow9 hat9 hlt9; have M9 := Lib.hid (ins_one O8.out hgrow9 ⟨rfl, rfl, rfl, rfl⟩ K8.out); have O9 := Lib.hid hown9; have U9 := Lib.hid (fun W (hW : SameW W w9) => row_sameW hown9 hW); have V9 := Lib.hid (fun W (hW : SameW W w9) => news_sameW (row_news (AY.out.on M9.out) a1) hW)) | (refine step_append_lies _ (by rfl) (.tmp 64) (.tmp 67) 22 (by rfl) Y.heap.size 29 i0 (.agg #[.int .i64 0, .int .i64 0, .string ⟨#[]⟩]) 3 32 Tryd.underlying22 hi hz0 hz1 hz2 (by rfl) (by decide) (.slice (some ⟨g9, 0, none⟩) (a1 + 1) c9) (a1 + 1) _ (by rfl) (U9.out _ ⟨rfl, rfl, rfl, rfl⟩) ⟨Bs, a1 * 3, none⟩ (i - a1) (caps - a1) (cellsD (S.drop a1)) (by first | rfl | (simp [Act.eval]; omega)) (drop_len (by have := HSL.out; omega)) (V9.out _ ⟨rfl, rfl, rfl, rfl⟩) (cells_one _) (by omega) (by unfold maxLen; omega) (by omega) (M9.out.size) w9.heap.size (by rfl) ?_; intro g10 c10 w10 hown10 hgrow10 hat10 hlt10))
                all_goals
                  have REL := Lib.hid (ins_fin (d := ⟨p, t, x⟩) HSL.out (by omega) hown10 YZ.out)
                  have BE := Lib.hid (show Below w.heap.size w w10 from BY.out.trans ((ins_two O9.out hgrow10 ⟨rfl, rfl, rfl, rfl⟩ M9.out).mono BY.out.size))
                  clear hown9 hgrow9 hat9 hlt9 hown10 hgrow10 hat10 hlt10 M9 O9 U9 V9 OWNS NEWS ONE d0 d1 d2 f0 f1 f2
                  go_wp2
                  go_roundw
                  case rel => exact ⟨i + 1, S.take a1 ++ ⟨p, t, x⟩ :: S.drop a1, by omega, by go_num, Lib.hid (by first | exact REL.out | (have h := REL.out; simp at h ⊢; exact h)), Lib.hid (by rw [HNX.out]; exact put_perm.trans (HP.out.append_right _)), Lib.hid (put_sorted HSO.out HGT.out hstop.out), Lib.hid (by first | exact BE.out | exact bt BE.out ⟨rfl, rfl, rfl, Nat.le_refl _, fun _ _ => rfl⟩)⟩
                  case measure => simp [intOf]; omega
              · obtain rfl : a1 = i := by omega
                have D8 := Lib.hid ((K8.out.block _ (heap_lt NY.out)).trans NY.out)
                obtain ⟨d0, d1, d2, _, _, _⟩ := (Three.mk D8.out).facts
                have KA : Below w8.heap.size w8 (w8.alloc (.cells #[.int .i64 p, .int .i64 t, .string x] 29)) := (Below.refl _ _).alloc (Nat.le_refl _) _
                obtain ⟨f0, f1, f2, _, _, _⟩ := (Three.mk ((KA.block _ (heap_lt D8.out)).trans D8.out)).facts
                have OWNS := Lib.hid (fun W (hW : SameW W (w8.alloc (.cells #[.int .i64 p, .int .i64 t, .string x] 29))) => row_sameW (row_same O8.out KA) hW)
                have NEWS := Lib.hid (fun (W : World) (hW : SameW W (w8.alloc (.cells #[.int .i64 p, .int .i64 t, .string x] 29))) => show ∀ j u, [Value.int .i64 p, .int .i64 t, .string x][j]? = some u → W.cell? ((⟨w8.heap.size, 0, none⟩ : Addr).add j) = some u from fun j u hu => by
                  have := def_news ⟨p, t, x⟩ 29 w8 _ rfl j u hu
                  rw [← this]
                  exact World.cell?_of_block (by rw [hW.heap]))
                have ONE := Lib.hid (def_one ⟨p, t, x⟩)
                have Z8 := Lib.hid (show Y.heap.size ≤ w8.heap.size from K8.out.size)
                clear KA
                go_region_law (first | (refine step_append_lies _ (by rfl) (.tmp 61) (.tmp 63) 22 (by rfl) Y.heap.size 29 i0 (.agg #[.int .i64 0, .int .i64 0, .string ⟨#[]⟩]) 3 32 Tryd.underlying22 hi hz0 hz1 hz2 (by rfl) (by decide) (.slice (some ⟨g7, 0, none⟩) a1 c7) a1 (cellsD (S.take a1)) (by rfl) (OWNS.out _ ⟨rfl, rfl, rfl, rfl⟩) ⟨w8.heap.size, 0, none⟩ 1 1 [.int .i64 p, .int .i64 t, .string x] (by rfl) (by rfl) (NEWS.out _ ⟨rfl, rfl, rfl, rfl⟩) ONE.out (by omega) (by unfold maxLen; omega) (by omega) (by have := Z8.out; simp; omega) (w8.heap.size + 1) (by simp) ?_; intro g9 c9 w9 hown9 hgrow9 hat9 hlt9; have M9 := ins_one O8.out hgrow9 ⟨rfl, rfl, rfl, rfl⟩ K8.out; have O9 := Lib.hid hown9; have U9 := Lib.hid (fun W (hW : SameW W w9) => row_sameW hown9 hW)) | (refine step_append0 (by rfl) (.tmp 64) (.tmp 67) 22 (by rfl) Tryd.underlying22 hi (by rfl) (U9.out _ ⟨rfl, rfl, rfl, rfl⟩) _ _ (by rfl) ?_))
                all_goals
                  have REL := Lib.hid (ins_fin0 (d := ⟨p, t, x⟩) HSL.out (by omega) O9.out YZ.out)
                  have BE := Lib.hid (show Below w.heap.size w w9 from BY.out.trans (M9.mono BY.out.size))
                  clear hown9 hgrow9 hat9 hlt9 M9 O9 U9 OWNS NEWS ONE d0 d1 d2 f0 f1 f2
                  go_wp2
                  go_roundw
                  case rel => exact ⟨a1 + 1, S.take a1 ++ ⟨p, t, x⟩ :: S.drop a1, by omega, by go_num, Lib.hid (by first | exact REL.out | (have h := REL.out; simp at h ⊢; exact h)), Lib.hid (by rw [HNX.out]; exact put_perm.trans (HP.out.append_right _)), Lib.hid (put_sorted HSO.out HGT.out hstop.out), Lib.hid (by first | exact BE.out | exact bt BE.out ⟨rfl, rfl, rfl, Nat.le_refl _, fun _ _ => rfl⟩)⟩
                  case measure => simp [intOf]; omega
            · have hgo := HG.out.1 (by simp [g2, g3])
              have HGT' := Lib.hid (show ∀ j e, a' ≤ j → S[j]? = some e → cmpD ⟨p, t, x⟩ e < 0 from fun j e hj he => by
                by_cases h : j = a'
                · subst h; rw [HE.out] at he; cases he; exact hgo
                · exact HGT.out j e (by omega) he)
              clear hgo
              go_wp2_with fail
              go_quiet (fail)
              go_wp2_with fail
              go_roundw
              case rel => exact ⟨a', by omega, by go_num, HGT', q + nq, rfl⟩
              case measure => simp [intOf]
    · obtain rfl : i = nn := by omega
      have hS := HP.out
      rw [List.take_of_length_le (by rw [HN.out]; exact Nat.le_refl _)] at hS
      have HS := Lib.hid hS
      clear hS
      go_wp2_with fail
      go_ret
      obtain ⟨ads, caps, Bs, hsv, harg, hbs⟩ := owns_any HO.out
      exact ⟨ads, caps, Bs, S, by rw [HN.out]; exact congrArg Ending.returned hsv, HB.out.size, by rw [HN.out]; exact harg, HS.out, HSO.out, HB.out, hbs⟩

end Go.Proofs.YtnnhpjpfmmlimaaDoor
