/- The document's answer: the byte of digits up to a backslash. Conditions: the text has at most 20000 bytes; the base is 8 or 16. -/
import Derived.Test.YtkbeaddbnnboaaaDoorNameR
namespace Go.Proofs.YtkbeaddbnnboaaaDoor
open Go Go.RowKit

/-- what number comes to: the byte's number and how many bytes, or -1 and 0 -/
def numQ (o : Option (UInt8 × Nat)) : Ending := match o with
  | some (b, k) => .returned (.tuple #[.int .i64 (b.toNat : Int), .int .i64 (k : Int)])
  | none => .returned (.tuple #[.int .i64 (-1), .int .i64 0])
theorem sat_byte {n : Int} (h0 : 0 ≤ n) (h1 : n ≤ 255) : ((UInt8.ofNat n.toNat).toNat : Int) = n := by
  have : (UInt8.ofNat n.toNat).toNat = n.toNat := by rw [UInt8.toNat_ofNat']; omega
  rw [this, Int.toNat_of_nonneg h0]
theorem numQ_none {o : Option (UInt8 × Nat)} (h : none = o) : numQ o = .returned (.tuple #[.int .i64 (-1), .int .i64 0]) := by subst h; rfl
theorem numQ_some {o : Option (UInt8 × Nat)} {n : Int} {k : Nat} (h0 : 0 ≤ n) (h1 : n ≤ 255) (h : some (UInt8.ofNat n.toNat, k + 1) = o) : numQ o = .returned (.tuple #[.int .i64 n, .int .i64 ((k : Int) + 1)]) := by
  subst h
  show Ending.returned (.tuple #[.int .i64 ((UInt8.ofNat n.toNat).toNat : Int), .int .i64 ((k + 1 : Nat) : Int)]) = _
  rw [sat_byte h0 h1]
  rfl

set_option maxHeartbeats 3200000 in
theorem ref_number_8 (t : ByteArray) (hs : t.size ≤ 20000) (w : World) :
    Calls Tryd.prog 64 #[.string t, .int .i64 8] w fun e w' => e = numQ (numAt 8 t.data.toList) ∧ w' = w := by
  obtain ⟨o, ho⟩ : ∃ o, numAt 8 t.data.toList = o := ⟨_, rfl⟩
  rw [ho]
  have HSZ := Lib.hid (show t.data.toList.length = t.size from (Lib.size_eq t).symm)
  have HE := Lib.hid (fun k hk hd he => (numAt_end (base := 8) (by omega) (by omega) t.data.toList k hk hd he).symm.trans ho)
  clear ho
  obtain ⟨q, hq⟩ : ∃ q, numQ o = q := ⟨_, rfl⟩
  rw [hq]
  have HQ := Lib.hid hq
  clear hq
  go_enter Tryd.func64, Tryd.ntmps64
  go_wp2_with fail
  go_loop [6, 7] (fun n i => ∃ k : Nat, k ≤ t.size ∧ i = .int .i64 k ∧ n = .int .i64 (satN 8 (t.data.toList.take k)) ∧ Hid (digL 8 (t.data.toList.take k) = true)) (fun _ i => t.size - (intOf i).toNat)
  case atStart => exact ⟨0, Nat.zero_le _, rfl, rfl, rfl⟩
  case round =>
    obtain ⟨k, hk, rfl, rfl, hall⟩ := hrel
    have hbd := sat_bd 8 (by omega) (t.data.toList.take k)
    obtain ⟨b0, b1⟩ := hbd
    by_cases hlt : k < t.size
    · have hst := sat_snoc 8 (t.data.toList.take k) t[k]
      rw [← take_snoc t k hlt] at hst
      have hdl : digL 8 (t.data.toList.take (k + 1)) = decide (hexZ (t[k].toNat : Int) < 8) := by
        rw [take_snoc t k hlt]
        unfold digL
        rw [List.all_append, show ((t.data.toList.take k).all fun c => decide (hexZ (c.toNat : Int) < 8)) = true from hall.out]
        simp
      have hgk : t.data.toList[k]? = some t[k] := by rw [List.getElem?_eq_getElem (by rw [HSZ.out]; exact hlt)]; rfl
      obtain ⟨d, hd⟩ : ∃ d, t[k] = d := ⟨_, rfl⟩
      rw [hd] at hst hdl hgk
      have HS := Lib.hid hst
      have hd0 : (0 : Int) ≤ (d.toNat : Int) := by omega
      have hd1 : (d.toNat : Int) ≤ 255 := by have := d.toNat_lt; omega
      have D := Lib.hid (fun w => ref_digit (d.toNat : Int) 8 (by omega) w hd0 hd1)
      have hx := hexZ_bd (d.toNat : Int)
      obtain ⟨x0, x1⟩ := hx
      unfold digV at D
      clear hst
      by_cases hb : hexZ (d.toNat : Int) < 8
      · rw [if_pos hb] at D
        rw [decide_eq_true hb] at hdl
        have HD := Lib.hid hdl
        clear hdl hgk
        obtain ⟨x, hxx⟩ : ∃ x, hexZ (d.toNat : Int) = x := ⟨_, rfl⟩
        rw [hxx] at D HS hb x0 x1
        clear hxx
        obtain ⟨n, hn⟩ : ∃ n, satN 8 (t.data.toList.take k) = n := ⟨_, rfl⟩
        rw [hn] at HS b0 b1 ⊢
        clear hn
        go_wp2_with (go_at_call 63; refine (D.out _).mono ?_; rintro e w1 ⟨rfl, hw⟩; obtain rfl := hw.symm; clear hw)
        go_round
        case rel => exact ⟨k + 1, by omega, by go_num, by rw [HS.out], HD⟩
        case measure => simp [intOf]; omega
      · rw [if_neg hb] at D
        have hE := HE.out k (by rw [HSZ.out]; omega) hall.out (.inr ⟨d, hgk, by omega⟩)
        rw [hgk] at hE
        obtain ⟨n, hn⟩ : ∃ n, satN 8 (t.data.toList.take k) = n := ⟨_, rfl⟩
        rw [hn] at hE b0 b1 ⊢
        clear hn HS hdl hgk hb x0 x1 hall
        by_cases hk0 : k = 0
        · rw [if_pos (.inl hk0)] at hE
          have hp := Lib.hid (HQ.out.symm.trans (numQ_none hE))
          subst hk0
          clear hE
          go_wp2_with (go_at_call 63; refine (D.out _).mono ?_; rintro e w1 ⟨rfl, hw⟩; obtain rfl := hw.symm; clear hw)
          go_ret2
          exact ⟨by rw [hp.out]; rfl, rfl⟩
        have k0 : ((k : Int) == 0) = false := beq_eq_false_iff_ne.2 (by omega)
        by_cases h92 : d = 92
        · subst h92
          by_cases hn2 : 255 < n
          · rw [if_pos (.inr (.inr hn2))] at hE
            have hp := Lib.hid (HQ.out.symm.trans (numQ_none hE))
            clear hE
            go_wp2_with (go_at_call 63; refine (D.out _).mono ?_; rintro e w1 ⟨rfl, hw⟩; obtain rfl := hw.symm; clear hw)
            go_ret2
            exact ⟨by rw [hp.out]; rfl, rfl⟩
          · rw [if_neg (by rintro (h | h | h); exact hk0 h; exact h rfl; exact hn2 h)] at hE
            have hp := Lib.hid (HQ.out.symm.trans (numQ_some b0 (by omega) hE))
            have hn3 : n ≤ 255 := by omega
            clear hE
            go_wp2_with (go_at_call 63; refine (D.out _).mono ?_; rintro e w1 ⟨rfl, hw⟩; obtain rfl := hw.symm; clear hw)
            go_ret2
            exact ⟨by rw [hp.out]; rfl, rfl⟩
        · rw [if_pos (.inr (.inl (by intro h; exact h92 (Option.some.inj h))))] at hE
          have hp := Lib.hid (HQ.out.symm.trans (numQ_none hE))
          have hne : ((d.toNat : Int) != 92) = true := bne_iff_ne.2 (fun h => h92 (UInt8.toNat_inj.1 (by show _ = 92; omega)))
          clear hE
          go_wp2_with (go_at_call 63; refine (D.out _).mono ?_; rintro e w1 ⟨rfl, hw⟩; obtain rfl := hw.symm; clear hw)
          go_ret2
          exact ⟨by rw [hp.out]; rfl, rfl⟩
    · obtain rfl : k = t.size := by omega
      have hE := HE.out t.size (by rw [HSZ.out]; omega) hall.out (.inl HSZ.out.symm)
      rw [if_pos (.inr (.inl (by rw [List.getElem?_eq_none (by rw [HSZ.out]; omega)]; simp)))] at hE
      have hp := Lib.hid (HQ.out.symm.trans (numQ_none hE))
      obtain ⟨n, hn⟩ : ∃ n, satN 8 (t.data.toList.take t.size) = n := ⟨_, rfl⟩
      rw [hn] at b0 b1 ⊢
      clear hE hn hall
      by_cases hk0 : t.size = 0
      · have k0 : ((t.size : Int) == 0) = true := beq_iff_eq.2 (by omega)
        clear hk0
        go_wp2_with fail
        go_ret2
        exact ⟨by rw [hp.out]; rfl, rfl⟩
      · have k0 : ((t.size : Int) == 0) = false := beq_eq_false_iff_ne.2 (by omega)
        clear hk0
        go_wp2_with fail
        go_ret2
        exact ⟨by rw [hp.out]; rfl, rfl⟩

set_option maxHeartbeats 3200000 in
theorem ref_number_16 (t : ByteArray) (hs : t.size ≤ 20000) (w : World) :
    Calls Tryd.prog 64 #[.string t, .int .i64 16] w fun e w' => e = numQ (numAt 16 t.data.toList) ∧ w' = w := by
  obtain ⟨o, ho⟩ : ∃ o, numAt 16 t.data.toList = o := ⟨_, rfl⟩
  rw [ho]
  have HSZ := Lib.hid (show t.data.toList.length = t.size from (Lib.size_eq t).symm)
  have HE := Lib.hid (fun k hk hd he => (numAt_end (base := 16) (by omega) (by omega) t.data.toList k hk hd he).symm.trans ho)
  clear ho
  obtain ⟨q, hq⟩ : ∃ q, numQ o = q := ⟨_, rfl⟩
  rw [hq]
  have HQ := Lib.hid hq
  clear hq
  go_enter Tryd.func64, Tryd.ntmps64
  go_wp2_with fail
  go_loop [6, 7] (fun n i => ∃ k : Nat, k ≤ t.size ∧ i = .int .i64 k ∧ n = .int .i64 (satN 16 (t.data.toList.take k)) ∧ Hid (digL 16 (t.data.toList.take k) = true)) (fun _ i => t.size - (intOf i).toNat)
  case atStart => exact ⟨0, Nat.zero_le _, rfl, rfl, rfl⟩
  case round =>
    obtain ⟨k, hk, rfl, rfl, hall⟩ := hrel
    have hbd := sat_bd 16 (by omega) (t.data.toList.take k)
    obtain ⟨b0, b1⟩ := hbd
    by_cases hlt : k < t.size
    · have hst := sat_snoc 16 (t.data.toList.take k) t[k]
      rw [← take_snoc t k hlt] at hst
      have hdl : digL 16 (t.data.toList.take (k + 1)) = decide (hexZ (t[k].toNat : Int) < 16) := by
        rw [take_snoc t k hlt]
        unfold digL
        rw [List.all_append, show ((t.data.toList.take k).all fun c => decide (hexZ (c.toNat : Int) < 16)) = true from hall.out]
        simp
      have hgk : t.data.toList[k]? = some t[k] := by rw [List.getElem?_eq_getElem (by rw [HSZ.out]; exact hlt)]; rfl
      obtain ⟨d, hd⟩ : ∃ d, t[k] = d := ⟨_, rfl⟩
      rw [hd] at hst hdl hgk
      have HS := Lib.hid hst
      have hd0 : (0 : Int) ≤ (d.toNat : Int) := by omega
      have hd1 : (d.toNat : Int) ≤ 255 := by have := d.toNat_lt; omega
      have D := Lib.hid (fun w => ref_digit (d.toNat : Int) 16 (by omega) w hd0 hd1)
      have hx := hexZ_bd (d.toNat : Int)
      obtain ⟨x0, x1⟩ := hx
      unfold digV at D
      clear hst
      by_cases hb : hexZ (d.toNat : Int) < 16
      · rw [if_pos hb] at D
        rw [decide_eq_true hb] at hdl
        have HD := Lib.hid hdl
        clear hdl hgk
        obtain ⟨x, hxx⟩ : ∃ x, hexZ (d.toNat : Int) = x := ⟨_, rfl⟩
        rw [hxx] at D HS hb x0 x1
        clear hxx
        obtain ⟨n, hn⟩ : ∃ n, satN 16 (t.data.toList.take k) = n := ⟨_, rfl⟩
        rw [hn] at HS b0 b1 ⊢
        clear hn
        go_wp2_with (go_at_call 63; refine (D.out _).mono ?_; rintro e w1 ⟨rfl, hw⟩; obtain rfl := hw.symm; clear hw)
        go_round
        case rel => exact ⟨k + 1, by omega, by go_num, by rw [HS.out], HD⟩
        case measure => simp [intOf]; omega
      · rw [if_neg hb] at D
        have hE := HE.out k (by rw [HSZ.out]; omega) hall.out (.inr ⟨d, hgk, by omega⟩)
        rw [hgk] at hE
        obtain ⟨n, hn⟩ : ∃ n, satN 16 (t.data.toList.take k) = n := ⟨_, rfl⟩
        rw [hn] at hE b0 b1 ⊢
        clear hn HS hdl hgk hb x0 x1 hall
        by_cases hk0 : k = 0
        · rw [if_pos (.inl hk0)] at hE
          have hp := Lib.hid (HQ.out.symm.trans (numQ_none hE))
          subst hk0
          clear hE
          go_wp2_with (go_at_call 63; refine (D.out _).mono ?_; rintro e w1 ⟨rfl, hw⟩; obtain rfl := hw.symm; clear hw)
          go_ret2
          exact ⟨by rw [hp.out]; rfl, rfl⟩
        have k0 : ((k : Int) == 0) = false := beq_eq_false_iff_ne.2 (by omega)
        by_cases h92 : d = 92
        · subst h92
          by_cases hn2 : 255 < n
          · rw [if_pos (.inr (.inr hn2))] at hE
            have hp := Lib.hid (HQ.out.symm.trans (numQ_none hE))
            clear hE
            go_wp2_with (go_at_call 63; refine (D.out _).mono ?_; rintro e w1 ⟨rfl, hw⟩; obtain rfl := hw.symm; clear hw)
            go_ret2
            exact ⟨by rw [hp.out]; rfl, rfl⟩
          · rw [if_neg (by rintro (h | h | h); exact hk0 h; exact h rfl; exact hn2 h)] at hE
            have hp := Lib.hid (HQ.out.symm.trans (numQ_some b0 (by omega) hE))
            have hn3 : n ≤ 255 := by omega
            clear hE
            go_wp2_with (go_at_call 63; refine (D.out _).mono ?_; rintro e w1 ⟨rfl, hw⟩; obtain rfl := hw.symm; clear hw)
            go_ret2
            exact ⟨by rw [hp.out]; rfl, rfl⟩
        · rw [if_pos (.inr (.inl (by intro h; exact h92 (Option.some.inj h))))] at hE
          have hp := Lib.hid (HQ.out.symm.trans (numQ_none hE))
          have hne : ((d.toNat : Int) != 92) = true := bne_iff_ne.2 (fun h => h92 (UInt8.toNat_inj.1 (by show _ = 92; omega)))
          clear hE
          go_wp2_with (go_at_call 63; refine (D.out _).mono ?_; rintro e w1 ⟨rfl, hw⟩; obtain rfl := hw.symm; clear hw)
          go_ret2
          exact ⟨by rw [hp.out]; rfl, rfl⟩
    · obtain rfl : k = t.size := by omega
      have hE := HE.out t.size (by rw [HSZ.out]; omega) hall.out (.inl HSZ.out.symm)
      rw [if_pos (.inr (.inl (by rw [List.getElem?_eq_none (by rw [HSZ.out]; omega)]; simp)))] at hE
      have hp := Lib.hid (HQ.out.symm.trans (numQ_none hE))
      obtain ⟨n, hn⟩ : ∃ n, satN 16 (t.data.toList.take t.size) = n := ⟨_, rfl⟩
      rw [hn] at b0 b1 ⊢
      clear hE hn hall
      by_cases hk0 : t.size = 0
      · have k0 : ((t.size : Int) == 0) = true := beq_iff_eq.2 (by omega)
        clear hk0
        go_wp2_with fail
        go_ret2
        exact ⟨by rw [hp.out]; rfl, rfl⟩
      · have k0 : ((t.size : Int) == 0) = false := beq_eq_false_iff_ne.2 (by omega)
        clear hk0
        go_wp2_with fail
        go_ret2
        exact ⟨by rw [hp.out]; rfl, rfl⟩

end Go.Proofs.YtkbeaddbnnboaaaDoor
