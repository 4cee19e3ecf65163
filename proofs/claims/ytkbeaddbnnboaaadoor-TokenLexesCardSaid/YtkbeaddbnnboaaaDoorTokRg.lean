/- The document's number: an escape's, and all ways together. Conditions: a place within the text, which has at most 3000 bytes. -/
import Derived.Test.YtkbeaddbnnboaaaDoorTokRd
namespace Go.Proofs.YtkbeaddbnnboaaaDoor
open Go Go.RowKit Go.Maps

set_option maxRecDepth 100000 in
set_option maxHeartbeats 3200000 in
theorem chr_get (s : ByteArray) (p : Nat) (w : World) (hs : s.size ≤ 3000) (hp : p < s.size) (h48 : ((s[p].toNat : Int) == 48) = true) (hl : p + 1 < s.size) (h39 : ((s[p + 1].toNat : Int) == 39) = true) (h2 : p + 2 < s.size) (hc0 : ((s[p + 2].toNat : Int) == 92) = true) (h3 : p + 3 < s.size) :
    Calls Tryd.prog 44 #[.string s, .int .i64 p] w (AttPost w (numberT (s.data.toList.drop p))) := by
  have hd := drop_at s p hp
  have hd2 := drop_at s (p + 1) hl
  obtain ⟨y, hy⟩ : ∃ y, s[p] = y := ⟨_, rfl⟩
  obtain ⟨x, hx⟩ : ∃ x, s[p + 1] = x := ⟨_, rfl⟩
  rw [hy] at hd h48
  rw [hx] at hd2 h39
  obtain rfl : y = 48 := UInt8.toNat_inj.1 (by have := beq_iff_eq.1 h48; show y.toNat = 48; omega)
  obtain rfl : x = 39 := UInt8.toNat_inj.1 (by have := beq_iff_eq.1 h39; show x.toNat = 39; omega)
  rw [hd2] at hd
  have HNUM := Lib.hid (show numberT (s.data.toList.drop p) = charT (48 :: 39 :: s.data.toList.drop (p + 1 + 1)) by rw [hd]; rfl)
  clear hd hd2 h48 h39
  have hd3 := drop_at s (p + 2) h2
  obtain ⟨c, hc⟩ : ∃ c, s[p + 2] = c := ⟨_, rfl⟩
  rw [hc] at hd3 hc0
  obtain rfl : c = 92 := UInt8.toNat_inj.1 (by have := beq_iff_eq.1 hc0; show c.toNat = 92; omega)
  have hd4 := drop_at s (p + 3) h3
  obtain ⟨v, hv⟩ : ∃ v, s[p + 3] = v := ⟨_, rfl⟩
  rw [hv] at hd4
  have hx2 : (s.extract (p + 2) (p + 4) ++ ⟨#[39]⟩ : ByteArray).data.toList = [92, v, 39] := by
    rw [ByteArray.data_append, Array.toList_append, Lib.extract_data, show p + 4 - (p + 2) = 2 by omega, hd3, show p + 2 + 1 = p + 3 from rfl, hd4]
    rfl
  have hxs : (s.extract (p + 2) (p + 4)).size ≤ 4 := by
    have : (s.extract (p + 2) (p + 4)).size = _ := Lib.size_eq _
    rw [this, Lib.extract_data, List.length_take]
    omega
  have G := Lib.hid (fun w => ref_get (s.extract (p + 2) (p + 4) ++ ⟨#[39]⟩) 39 w (by rw [ByteArray.size_append]; show _ + 1 ≤ 4000; omega))
  rw [hx2] at G
  have hfin := chr_92 ⟨v.toNat, v.toNat_lt⟩
  simp only [byte_fin] at hfin
  obtain ⟨o, ho⟩ : ∃ o, getL 39 [92, v, 39] = o := ⟨_, rfl⟩
  rw [ho] at G hfin
  have HC := Lib.hid (show numberT (s.data.toList.drop p) = charO 2 o by
    rw [HNUM.out, show p + 1 + 1 = p + 2 from rfl, hd3, show p + 2 + 1 = p + 3 from rfl, hd4, chrT_92, ho])
  have hxm : (s.extract (p + 2) (p + 4) ++ ⟨#[39]⟩ : ByteArray).size ≤ 5 := by rw [ByteArray.size_append]; show _ + 1 ≤ 5; omega
  clear hd3 hc0 hd4 hx2 ho HNUM
  have F0 := two_facts w 0
  have z0 := cell_of_heap (o := 0) (two_zero w) rfl
  have zf0 := free_of_heap (o := 0) (two_zero w)
  have z1 := cell_of_heap (o := 1) (two_zero w) rfl
  have zf1 := free_of_heap (o := 1) (two_zero w)
  have z2 := cell_of_heap (o := 2) (two_zero w) rfl
  have zf2 := free_of_heap (o := 2) (two_zero w)
  have z3 := cell_of_heap (o := 3) (two_zero w) rfl
  have zf3 := free_of_heap (o := 3) (two_zero w)
  have z4 := cell_of_heap (o := 4) (two_zero w) rfl
  have zf4 := free_of_heap (o := 4) (two_zero w)
  have z5 := cell_of_heap (o := 5) (two_zero w) rfl
  have zf5 := free_of_heap (o := 5) (two_zero w)
  have ax0 := cell_of_heap (o := 0) F0.a rfl
  have bx0 := cell_of_heap (o := 0) F0.t rfl
  have cx0 := free_of_heap (o := 0) F0.a
  have dx0 := free_of_heap (o := 0) F0.t
  have ax1 := cell_of_heap (o := 1) F0.a rfl
  have bx1 := cell_of_heap (o := 1) F0.t rfl
  have cx1 := free_of_heap (o := 1) F0.a
  have dx1 := free_of_heap (o := 1) F0.t
  have ax2 := cell_of_heap (o := 2) F0.a rfl
  have bx2 := cell_of_heap (o := 2) F0.t rfl
  have cx2 := free_of_heap (o := 2) F0.a
  have dx2 := free_of_heap (o := 2) F0.t
  have ax3 := cell_of_heap (o := 3) F0.a rfl
  have bx3 := cell_of_heap (o := 3) F0.t rfl
  have cx3 := free_of_heap (o := 3) F0.a
  have dx3 := free_of_heap (o := 3) F0.t
  have ax4 := cell_of_heap (o := 4) F0.a rfl
  have bx4 := cell_of_heap (o := 4) F0.t rfl
  have cx4 := free_of_heap (o := 4) F0.a
  have dx4 := free_of_heap (o := 4) F0.t
  have ax5 := cell_of_heap (o := 5) F0.a rfl
  have bx5 := cell_of_heap (o := 5) F0.t rfl
  have cx5 := free_of_heap (o := 5) F0.a
  have dx5 := free_of_heap (o := 5) F0.t
  have HF0 := Lib.hid F0
  have HB0 := Lib.hid (two_below w 0)
  clear F0
  rcases o with _ | ⟨b, k⟩
  · have HO := Lib.hid (show numberT (s.data.toList.drop p) = none from HC.out)
    unfold GetPost at G
    unfold twoW at *
    go_enter Tryd.func44, Tryd.ntmps44
    go_wp2_with fail
    refine (G.out _).mono ?_
    rintro e w5 ⟨rfl, b5⟩
    have F5 := HF0.out.on b5
    have HF5 := Lib.hid F5
    have HB5 := Lib.hid (HB0.out.trans (b5.mono HB0.out.size))
    have ay0 := cell_of_heap (o := 0) F5.a rfl
    have by0 := cell_of_heap (o := 0) F5.t rfl
    have cy0 := free_of_heap (o := 0) F5.a
    have dy0 := free_of_heap (o := 0) F5.t
    have ay1 := cell_of_heap (o := 1) F5.a rfl
    have by1 := cell_of_heap (o := 1) F5.t rfl
    have cy1 := free_of_heap (o := 1) F5.a
    have dy1 := free_of_heap (o := 1) F5.t
    have ay2 := cell_of_heap (o := 2) F5.a rfl
    have by2 := cell_of_heap (o := 2) F5.t rfl
    have cy2 := free_of_heap (o := 2) F5.a
    have dy2 := free_of_heap (o := 2) F5.t
    have ay3 := cell_of_heap (o := 3) F5.a rfl
    have by3 := cell_of_heap (o := 3) F5.t rfl
    have cy3 := free_of_heap (o := 3) F5.a
    have dy3 := free_of_heap (o := 3) F5.t
    have ay4 := cell_of_heap (o := 4) F5.a rfl
    have by4 := cell_of_heap (o := 4) F5.t rfl
    have cy4 := free_of_heap (o := 4) F5.a
    have dy4 := free_of_heap (o := 4) F5.t
    have ay5 := cell_of_heap (o := 5) F5.a rfl
    have by5 := cell_of_heap (o := 5) F5.t rfl
    have cy5 := free_of_heap (o := 5) F5.a
    have dy5 := free_of_heap (o := 5) F5.t
    clear b5 F5
    go_wp2_with fail
    obtain ⟨e0, e1, e2, e3, e4, e5⟩ := six_cells HF5.out.a (.int .i64 3) (.int .i64 0) (.int .i64 0) (.string ⟨#[]⟩) (.bool false) (.bool false)
    refine bodyPost_ret (v := .tuple #[.agg #[.int .i64 3, .int .i64 0, .int .i64 0, .string ⟨#[]⟩, .bool false, .bool false], .int .i64 0]) (by simp [results, Tryd.results44, go_sem, e0, e1, e2, e3, e4, e5]) rfl ?_
    exact ⟨⟨⟨3, 0, []⟩, 0, rfl, .inl ⟨HO.out, rfl⟩⟩, below6 HB5.out _ _ _ _ _ _⟩
  · by_cases hb1 : b.length = 1
    · obtain ⟨c, rfl⟩ := List.length_eq_one_iff.1 hb1
      obtain rfl : k = 3 := by simpa using hfin
      have HO := Lib.hid (show numberT (s.data.toList.drop p) = some (⟨3, (c.toNat : Int), []⟩, 4) from HC.out)
      have wr : wrap64 (c.toNat : Int) = (c.toNat : Int) := IntWalk.wrap64_in _ (by have := c.toNat_lt; omega)
      have cx : (ByteArray.mk #[c])[0]'(Nat.zero_lt_one) = c := rfl
      unfold GetPost at G
      unfold twoW at *
      go_enter Tryd.func44, Tryd.ntmps44
      go_wp2_with fail
      refine (G.out _).mono ?_
      rintro e w5 ⟨rfl, b5⟩
      have F5 := HF0.out.on b5
      have HF5 := Lib.hid F5
      have HB5 := Lib.hid (HB0.out.trans (b5.mono HB0.out.size))
      have FN : TwoF (w5.setCell ⟨w.heap.size + 1, 2, none⟩ (.int .i64 c.toNat)) w.heap.size c.toNat := ⟨by rw [heap_set_ne (by omega)]; exact F5.a, heap_set F5.t _⟩
      have ay0 := cell_of_heap (o := 0) F5.a rfl
      have by0 := cell_of_heap (o := 0) F5.t rfl
      have cy0 := free_of_heap (o := 0) F5.a
      have dy0 := free_of_heap (o := 0) F5.t
      have ay1 := cell_of_heap (o := 1) F5.a rfl
      have by1 := cell_of_heap (o := 1) F5.t rfl
      have cy1 := free_of_heap (o := 1) F5.a
      have dy1 := free_of_heap (o := 1) F5.t
      have ay2 := cell_of_heap (o := 2) F5.a rfl
      have by2 := cell_of_heap (o := 2) F5.t rfl
      have cy2 := free_of_heap (o := 2) F5.a
      have dy2 := free_of_heap (o := 2) F5.t
      have ay3 := cell_of_heap (o := 3) F5.a rfl
      have by3 := cell_of_heap (o := 3) F5.t rfl
      have cy3 := free_of_heap (o := 3) F5.a
      have dy3 := free_of_heap (o := 3) F5.t
      have ay4 := cell_of_heap (o := 4) F5.a rfl
      have by4 := cell_of_heap (o := 4) F5.t rfl
      have cy4 := free_of_heap (o := 4) F5.a
      have dy4 := free_of_heap (o := 4) F5.t
      have ay5 := cell_of_heap (o := 5) F5.a rfl
      have by5 := cell_of_heap (o := 5) F5.t rfl
      have cy5 := free_of_heap (o := 5) F5.a
      have dy5 := free_of_heap (o := 5) F5.t
      have an0 := cell_of_heap (o := 0) FN.a rfl
      have bn0 := cell_of_heap (o := 0) FN.t rfl
      have cn0 := free_of_heap (o := 0) FN.a
      have dn0 := free_of_heap (o := 0) FN.t
      have an1 := cell_of_heap (o := 1) FN.a rfl
      have bn1 := cell_of_heap (o := 1) FN.t rfl
      have cn1 := free_of_heap (o := 1) FN.a
      have dn1 := free_of_heap (o := 1) FN.t
      have an2 := cell_of_heap (o := 2) FN.a rfl
      have bn2 := cell_of_heap (o := 2) FN.t rfl
      have cn2 := free_of_heap (o := 2) FN.a
      have dn2 := free_of_heap (o := 2) FN.t
      have an3 := cell_of_heap (o := 3) FN.a rfl
      have bn3 := cell_of_heap (o := 3) FN.t rfl
      have cn3 := free_of_heap (o := 3) FN.a
      have dn3 := free_of_heap (o := 3) FN.t
      have an4 := cell_of_heap (o := 4) FN.a rfl
      have bn4 := cell_of_heap (o := 4) FN.t rfl
      have cn4 := free_of_heap (o := 4) FN.a
      have dn4 := free_of_heap (o := 4) FN.t
      have an5 := cell_of_heap (o := 5) FN.a rfl
      have bn5 := cell_of_heap (o := 5) FN.t rfl
      have cn5 := free_of_heap (o := 5) FN.a
      have dn5 := free_of_heap (o := 5) FN.t
      have HFN := Lib.hid FN
      clear b5 F5 FN
      go_wp2_with fail
      obtain ⟨e0, e1, e2, e3, e4, e5⟩ := six_cells HFN.out.a (.int .i64 3) (.int .i64 0) (.int .i64 c.toNat) (.string ⟨#[]⟩) (.bool false) (.bool false)
      refine bodyPost_ret (v := .tuple #[.agg #[.int .i64 3, .int .i64 0, .int .i64 c.toNat, .string ⟨#[]⟩, .bool false, .bool false], .int .i64 4]) (by simp [results, Tryd.results44, go_sem, e0, e1, e2, e3, e4, e5]) rfl ?_
      exact ⟨⟨⟨3, c.toNat, []⟩, 4, rfl, .inr ⟨HO.out, by omega⟩⟩, below6 (HB5.out.setCell (p := ⟨w.heap.size + 1, 2, none⟩) (Nat.le_succ _) _) _ _ _ _ _ _⟩
    · have HO := Lib.hid (show numberT (s.data.toList.drop p) = none by
        rw [HC.out]
        rcases b with _ | ⟨c, _ | ⟨d, t⟩⟩
        · rfl
        · exact absurd rfl hb1
        · rfl)
      obtain ⟨X, hX⟩ : ∃ X : ByteArray, (⟨b.toArray⟩ : ByteArray) = X := ⟨_, rfl⟩
      have hXs : ¬ (X.size : Int) = 1 := by
        rw [← hX]
        intro e
        have : b.length = 1 := by
          have h1 : (⟨b.toArray⟩ : ByteArray).size = b.length := by rw [Lib.size_eq]
          omega
        exact hb1 this
      unfold GetPost at G
      simp only [hX] at G
      unfold twoW at *
      go_enter Tryd.func44, Tryd.ntmps44
      go_wp2_with fail
      refine (G.out _).mono ?_
      rintro e w5 ⟨rfl, b5⟩
      have F5 := HF0.out.on b5
      have HF5 := Lib.hid F5
      have HB5 := Lib.hid (HB0.out.trans (b5.mono HB0.out.size))
      have ay0 := cell_of_heap (o := 0) F5.a rfl
      have by0 := cell_of_heap (o := 0) F5.t rfl
      have cy0 := free_of_heap (o := 0) F5.a
      have dy0 := free_of_heap (o := 0) F5.t
      have ay1 := cell_of_heap (o := 1) F5.a rfl
      have by1 := cell_of_heap (o := 1) F5.t rfl
      have cy1 := free_of_heap (o := 1) F5.a
      have dy1 := free_of_heap (o := 1) F5.t
      have ay2 := cell_of_heap (o := 2) F5.a rfl
      have by2 := cell_of_heap (o := 2) F5.t rfl
      have cy2 := free_of_heap (o := 2) F5.a
      have dy2 := free_of_heap (o := 2) F5.t
      have ay3 := cell_of_heap (o := 3) F5.a rfl
      have by3 := cell_of_heap (o := 3) F5.t rfl
      have cy3 := free_of_heap (o := 3) F5.a
      have dy3 := free_of_heap (o := 3) F5.t
      have ay4 := cell_of_heap (o := 4) F5.a rfl
      have by4 := cell_of_heap (o := 4) F5.t rfl
      have cy4 := free_of_heap (o := 4) F5.a
      have dy4 := free_of_heap (o := 4) F5.t
      have ay5 := cell_of_heap (o := 5) F5.a rfl
      have by5 := cell_of_heap (o := 5) F5.t rfl
      have cy5 := free_of_heap (o := 5) F5.a
      have dy5 := free_of_heap (o := 5) F5.t
      clear b5 F5
      by_cases h3k : (k : Int) = 3
      all_goals
        go_wp2_with fail
        obtain ⟨e0, e1, e2, e3, e4, e5⟩ := six_cells HF5.out.a (.int .i64 3) (.int .i64 0) (.int .i64 0) (.string ⟨#[]⟩) (.bool false) (.bool false)
        refine bodyPost_ret (v := .tuple #[.agg #[.int .i64 3, .int .i64 0, .int .i64 0, .string ⟨#[]⟩, .bool false, .bool false], .int .i64 0]) (by simp [results, Tryd.results44, go_sem, e0, e1, e2, e3, e4, e5]) rfl ?_
        exact ⟨⟨⟨3, 0, []⟩, 0, rfl, .inl ⟨HO.out, rfl⟩⟩, below6 HB5.out _ _ _ _ _ _⟩

/-- the document's number, in all its ways -/
theorem ref_number_is (s : ByteArray) (p : Nat) (w : World) (hs : s.size ≤ 3000) (hp : p < s.size) :
    Calls Tryd.prog 44 #[.string s, .int .i64 p] w (AttPost w (numberT (s.data.toList.drop p))) := by
  cases h48 : ((s[p].toNat : Int) == 48) with
  | false => exact num_plainR s p w hs hp h48
  | true =>
    by_cases hl : p + 1 < s.size
    · cases x1 : ((s[p + 1].toNat : Int) == 120) with
      | true => exact num_hexR s p w hs hp h48 hl x1
      | false =>
        cases x2 : ((s[p + 1].toNat : Int) == 111) with
        | true => exact num_octR s p w hs hp h48 hl x2
        | false =>
          cases x3 : ((s[p + 1].toNat : Int) == 98) with
          | true => exact num_binR s p w hs hp h48 hl x3
          | false =>
            cases x4 : ((s[p + 1].toNat : Int) == 39) with
            | false => exact num_zeroR s p w hs hp h48 hl x1 x2 x3 x4
            | true =>
              by_cases h2 : p + 2 < s.size
              · cases y1 : ((s[p + 2].toNat : Int) == 39) with
                | true =>
                  by_cases h3 : p + 3 < s.size
                  · cases y2 : ((s[p + 3].toNat : Int) == 39) with
                    | true => exact chr_qYes s p w hs hp h48 hl x4 h2 y1 h3 y2
                    | false => exact chr_qNo s p w hs hp h48 hl x4 h2 y1 h3 y2
                  · exact chr_qEnd s p w hs hp h48 hl x4 h2 y1 h3
                | false =>
                  cases y2 : ((s[p + 2].toNat : Int) == 92) with
                  | true =>
                    by_cases h3 : p + 3 < s.size
                    · exact chr_get s p w hs hp h48 hl x4 h2 y2 h3
                    · exact chr_bEnd s p w hs hp h48 hl x4 h2 y2 h3
                  | false =>
                    cases y3 : ((s[p + 2].toNat : Int) == 10) with
                    | true => exact chr_nl s p w hs hp h48 hl x4 h2 y3
                    | false => exact chr_else_is s p w hs hp h48 hl x4 h2 y1 y2 y3
              · exact chr_end s p w hs hp h48 hl x4 h2
    · exact num_lastR s p w hs hp h48 hl

end Go.Proofs.YtkbeaddbnnboaaaDoor
