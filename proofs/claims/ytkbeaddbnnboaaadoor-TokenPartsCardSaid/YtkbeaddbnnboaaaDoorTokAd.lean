/- The law TokenParts returns true for every input: its walk where both texts are. Conditions: the library's variables hold what their text lays. -/
import Derived.Test.YtkbeaddbnnboaaaDoorTokAb
import Derived.IntWalk
namespace Go.Proofs.YtkbeaddbnnboaaaDoor
open Go Go.RowKit Go.Maps

set_option maxRecDepth 100000 in
set_option maxHeartbeats 3200000 in
theorem parts_good (a b : ByteArray) (w : World) (ht : Lay w) (hs : a.size ≤ 2000) (hs2 : b.size ≤ 2000) (Y1 : List Tok) (RB : LexR) (n1 m : Nat) (HA : Hid (lexN (a ++ ⟨#[32, 46, 10]⟩).data.toList 1 0 = ⟨Y1, 0, 0⟩)) (HB : Hid (lexN b.data.toList 1 0 = RB)) (hb : RB.e = 0) (hn1 : Y1.length = n1) (hm : RB.toks.length = m) (hm0 : 0 < m) (u v n3 : Nat) (x : Tok) (L : Int) (Y3 : List Tok) (h2 : (n1 : Int) - 2 = (u : Int)) (h3 : (n1 : Int) - 1 = (v : Int)) (hx : Y1[u]? = some x) (hxk : (x.k != 7) = false) (hL : Y1[v]? = some ⟨0, L, 0, [], false, false⟩) (hL1 : 1 ≤ L ∧ L ≤ 5001)
    (H3 : Hid (lexN (a ++ ⟨#[32, 46, 10]⟩ ++ b).data.toList 1 0 = ⟨Y3, 0, 0⟩)) (hY : Y3 = Y1.take v ++ RB.toks.map (Tok.sh (L - 1))) (hn3 : Y3.length = n3) (hn3s : n3 ≤ 6000) (hlines : ∀ t ∈ RB.toks, 1 ≤ t.line ∧ t.line ≤ 5001) :
    Calls Tryd.prog 4 #[.string a, .string b] w fun e w' => e = .returned (.bool true) ∧ Below w.heap.size w w' := by
  obtain ⟨X, lb, eb⟩ := RB
  obtain rfl : eb = 0 := hb
  obtain rfl : X.length = m := hm
  obtain ⟨m, hm⟩ : ∃ m, X.length = m := ⟨_, rfl⟩
  have HT := Lib.hid ht
  have LA : Hid (∀ w, Lay w → Calls Tryd.prog 9 #[.string (a ++ ⟨#[32, 46, 10]⟩)] w (LexPost w ⟨Y1, 0, 0⟩)) := fun w ht => by
    rw [← HA.out]
    exact lex_is _ w (by simp only [ByteArray.size_append]; show a.size + 3 ≤ 5000; omega) ht
  have LB : Hid (∀ w, Lay w → Calls Tryd.prog 9 #[.string b] w (LexPost w ⟨X, lb, 0⟩)) := fun w ht => by
    rw [← HB.out]
    exact lex_is _ w (by omega) ht
  have LC : Hid (∀ w, Lay w → Calls Tryd.prog 9 #[.string (a ++ ⟨#[32, 46, 10]⟩ ++ b)] w (LexPost w ⟨Y3, 0, 0⟩)) := fun w ht => by
    rw [← H3.out]
    exact lex_is _ w (by simp only [ByteArray.size_append]; show a.size + 3 + b.size ≤ 5000; omega) ht
  have hvl : (Y1.take v).length = v := by rw [List.length_take, hn1]; omega
  have h33 : (v : Int) + (m : Int) = (n3 : Int) := by
    have : n3 = v + m := by rw [← hn3, hY, List.length_append, List.length_map, hvl]; simp only; omega
    omega
  have HY := Lib.hid hY
  have HLN := Lib.hid hlines
  have HN1 := Lib.hid hn1
  have HM := Lib.hid hm
  have HN3 := Lib.hid hn3
  have HVL := Lib.hid hvl
  have HM0 := Lib.hid (show 0 < m by rw [← hm]; exact hm0)
  clear ht HA HB H3 hY hlines
  go_enter Tryd.func4, Tryd.ntmps4
  go_wp2_with fail
  refine (alive_is _ HT.out).mono ?_
  rintro e w1 ⟨rfl, b1⟩
  have T1 := Lib.hid (HT.out.on b1)
  have B1 := Lib.hid b1
  clear b1
  go_wp2_with fail
  refine (LA.out _ T1.out).mono ?_
  rintro e w2 ⟨⟨v1, rfl, o1⟩, b2⟩
  have T2 := Lib.hid (T1.out.on b2)
  have B2 := Lib.hid (bt B1.out b2)
  have O1 := Lib.hid o1
  clear b2 o1
  go_wp2_with fail
  refine (LB.out _ T2.out).mono ?_
  rintro e w3 ⟨⟨v2, rfl, o2⟩, b3⟩
  have B3 := Lib.hid (bt B2.out b3)
  have T3 := Lib.hid (T2.out.on b3)
  have o1' := O1.out
  have o2' := o2
  simp only [hn1] at o1'
  simp only [hm] at o2'
  obtain ⟨g1, c1, e1, l1, r1⟩ := row_form o1' (by omega)
  obtain ⟨g2, c2, e2, l2, r2⟩ := row_form o2' (by rw [← hm]; exact hm0)
  subst e1
  subst e2
  have r1' := r1.on b3
  have f1 := r1.fits
  have f2 := r1.max
  have f3 := r2.fits
  have f4 := r2.max
  have q := r1'.cell _ _ (cells_get Y1 u 0 x _ hx rfl)
  simp only [Nat.add_zero] at q
  have o1n := o1'
  have R1 := Lib.hid (And.intro l1 r1')
  have O1' : Hid (w3.ownsRow w1.heap.size 30 6 (.slice (some ⟨g1, 0, none⟩) n1 c1) n1 (tokCells Y1)) := owns_same o1' (fun g hg => b3.block g (o1'.lt g hg).2)
  have O2' : Hid (w3.ownsRow w2.heap.size 30 6 (.slice (some ⟨g2, 0, none⟩) m c2) m (tokCells X)) := o2'
  have R2 := Lib.hid (And.intro l2 r2)
  have HL := Lib.hid hL
  have G1 := Lib.hid r1.lt
  clear b3 o2 o1' o2' r1 r2 r1' O1 l1 l2 hx o1n hL hn1 hm hm0 hn3 hvl
  go_wp2_with fail
  refine (LC.out _ T3.out).mono ?_
  rintro e w4 ⟨⟨v3, rfl, o3⟩, b4⟩
  have B4 := Lib.hid (bt B3.out b4)
  simp only [HN3.out] at o3
  obtain ⟨g3, c3, e3, l3, r3⟩ := row_form o3 (by have := HM0.out; omega)
  subst e3
  have f5 := r3.fits
  have f6 := r3.max
  have q2 := (R1.out.2.on b4).cell _ _ (cells_get Y1 v 1 _ _ HL.out rfl)
  obtain ⟨d, hd⟩ : ∃ d, L - 1 = d := ⟨_, rfl⟩
  have w1' : IntKind.i64.wrap (L - 1) = d := by rw [← hd]; exact IntWalk.i64_in _ (by omega)
  have w2' : wrap64 (L - 1) = d := by rw [← hd]; exact IntWalk.wrap64_in _ (by omega)
  have START : Hid (PtSt w g2 d X (.slice (some ⟨g1, 0, none⟩) n1 c1) (.slice (some ⟨g3, 0, none⟩) n3 c3) n1 n3 Y1 Y3 0 w4) :=
    ⟨B4.out, owns_down (owns_same O1'.out (fun g hg => b4.block g (O1'.out.lt g hg).2)) B1.out.size, owns_down o3 B3.out.size, fun e => by
        have h1 : g1 = g2 := by simpa [Value.ownBlock] using e
        have := G1.out
        have := R2.out.1
        omega,
      fun e => by
        have h1 : g3 = g2 := by simpa [Value.ownBlock] using e
        have := R2.out.2.lt
        omega,
      fun k e1 e2 => by
        have h1 : g3 = k := by simpa [Value.ownBlock] using e1
        have h2 : g1 = k := by simpa [Value.ownBlock] using e2
        have := G1.out
        have := R2.out.1
        have := R2.out.2.lt
        omega,
      (owns_plain O2'.out).on b4, Nat.le_trans B2.out.size R2.out.1, fun j a c u ha hu => (R2.out.2.on b4).cell _ _ (cells_get X j c a u ha (by rw [if_neg (Nat.not_lt_zero j)] at hu; exact hu))⟩
  have HD := Lib.hid hd
  clear o3 l3 r3 b4 hd T1 T2 T3 B1 B2 B3 LA LB LC O1' O2' R1 R2 HL G1
  go_wp2_with fail
  go_loopw [95] (fun vi wr => ∃ i : Nat, vi = .int .i64 i ∧ i ≤ m ∧ Hid (PtSt w g2 d X (.slice (some ⟨g1, 0, none⟩) n1 c1) (.slice (some ⟨g3, 0, none⟩) n3 c3) n1 n3 Y1 Y3 i wr)) (fun vi _ => m - (intOf vi).toNat)
  case atStart => exact ⟨0, rfl, Nat.zero_le _, START⟩
  case round =>
    obtain ⟨i, rfl, hi, HS⟩ := hrel
    by_cases hlt : i < m
    · obtain ⟨t, hgt⟩ : ∃ t, X[i]? = some t := ⟨X[i]'(by rw [HM.out]; exact hlt), List.getElem?_eq_getElem _⟩
      have hln := HLN.out t (List.mem_of_getElem? hgt)
      have cl := fun c u h => HS.out.cells i t c u hgt (by rw [if_neg (Nat.lt_irrefl i)]; exact h)
      have fr := HS.out.plain.free (i * 6 + 1)
      obtain ⟨tk, tl, tn, tz, to, ti⟩ := t
      have p0 := cl 0 _ rfl
      have p1 := cl 1 _ rfl
      have p2 := cl 2 _ rfl
      have p3 := cl 3 _ rfl
      have p4 := cl 4 _ rfl
      have p5 := cl 5 _ rfl
      simp only [Nat.add_zero] at p0 p3 hln
      obtain ⟨S, hS⟩ : ∃ S : ByteArray, (⟨tz.toArray⟩ : ByteArray) = S := ⟨_, rfl⟩
      simp only [hS] at p3
      have NX := HS.out.next hgt (.cells #[.int .i64 tk, .int .i64 tl, .int .i64 tn, .string S, .bool to, .bool ti] 30)
      have ww : wrap64 (tl + d) = tl + d := IntWalk.wrap64_in _ (by have := HD.out; omega)
      have al : Below wr.heap.size wr (wr.alloc (.cells #[.int .i64 tk, .int .i64 tl, .int .i64 tn, .string S, .bool to, .bool ti] 30)) := (Below.refl _ _).alloc (Nat.le_refl _) _
      have z1 : (wr.alloc (.cells #[.int .i64 tk, .int .i64 tl, .int .i64 tn, .string S, .bool to, .bool ti] 30)).cell? ⟨g2, i * 6 + 1, none⟩ = some (.int .i64 tl) := cell_later al p1
      have z2 : (wr.alloc (.cells #[.int .i64 tk, .int .i64 tl, .int .i64 tn, .string S, .bool to, .bool ti] 30)).frozen? ⟨g2, i * 6 + 1, none⟩ = false := (HS.out.plain.on al).free _
      replace NX := Lib.hid NX
      clear cl hgt hS al fr HS
      go_wp2_with fail
      go_round
      case rel => exact ⟨i + 1, by go_num, by omega, NX⟩
      case measure => simp [intOf]; omega
    · obtain rfl : i = m := by omega
      obtain ⟨i0, hi0, hz0, hzz, hz2⟩ := info_parts (show (Tryd.prog.info? 30).map (fun i => (i.zero, i.size, i.bytes)) = some (some (.agg #[.int .i64 0, .int .i64 0, .int .i64 0, .string ⟨#[]⟩, .bool false, .bool false]), 6, 48) by kernel_rfl)
      have OWNP : Hid (wr.ownsRow w.heap.size 30 6 (.slice (some ⟨g1, 0, none⟩) v c1) v (tokCells (Y1.take v))) := by
        have := HS.out.own1
        rw [← List.take_append_drop v Y1] at this
        exact owns_pre this HVL.out (by rw [List.length_drop, HN1.out]; omega)
      have NEWS : Hid (∀ j u, (tokCells (X.map (Tok.sh d)))[j]? = some u → wr.cell? ((⟨g2, 0, none⟩ : Addr).add j) = some u) := by
        have := HS.out
        rw [← HM.out] at this
        exact this.all
      have NLEN : Hid ((tokCells (X.map (Tok.sh d))).length = i * 6) := by
        have := tokCells_len (X.map (Tok.sh d))
        rw [List.length_map, HM.out] at this
        exact this
      have hm1 := HM0.out
      have hb0 := HS.out.below.size
      have HSUM : Hid (v + i = n3) := (by omega : v + i = n3)
      have hn3b : n3 ≤ 6000 := hn3s
      go_wp2_with (at_builtin; refine wpList_append_lies _ rfl (.tmp 114) (.tmp 115) 23 rfl w.heap.size 30 i0 (.agg #[.int .i64 0, .int .i64 0, .int .i64 0, .string ⟨#[]⟩, .bool false, .bool false]) 6 48 Tryd.underlying23 hi0 hz0 hzz hz2 rfl (by decide) _ _ _ rfl OWNP.out ⟨g2, 0, none⟩ i c2 (tokCells (X.map (Tok.sh d))) rfl NLEN.out NEWS.out (tok_ones _) hm1 ?_ ?_ ?_ wr.heap.size rfl ?_)
      · unfold maxLen; omega
      · omega
      · exact hb0
      intro g' cap' w7 hown hgrow hat hlt2
      have hY : tokCells (Y1.take v) ++ tokCells (X.map (Tok.sh d)) = tokCells Y3 := by rw [← tokCells_app, HY.out, HD.out]
      rw [HSUM.out, hY] at hown
      have O3 : Hid (w7.ownsRow w.heap.size 30 6 (.slice (some ⟨g3, 0, none⟩) n3 c3) n3 (tokCells Y3)) := owns_same HS.out.own3 (fun k hk => hgrow.block k (HS.out.own3.lt k hk).2 (fun e => HS.out.ne13 k hk e.symm))
      have BN : Hid (Below w.heap.size w w7) := HS.out.below.grown hgrow hb0 (fun j hj => (HS.out.own1.lt j hj).1)
      have OW := Lib.hid hown
      rw [HSUM.out]
      clear hown hgrow hat hlt2 NEWS NLEN OWNP HS
      go_wp2_with fail
      refine (same_is' Y3 n3 _ _ HN3.out _ _ _ O3.out OW.out).mono ?_
      rintro _ w8 ⟨rfl, qq, rfl⟩
      go_wp2_with fail
      go_ret
      exact ⟨rfl, BN.out.trans ⟨rfl, rfl, rfl, Nat.le_refl _, fun _ _ => rfl⟩⟩

end Go.Proofs.YtkbeaddbnnboaaaDoor
