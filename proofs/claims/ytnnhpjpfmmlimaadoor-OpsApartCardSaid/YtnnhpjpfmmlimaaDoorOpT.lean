/- The law OpsApart returns true: its walk. Conditions: the listed variables read as the text lays them. -/
import Derived.Test.YtnnhpjpfmmlimaaDoorOpS
namespace Go.Proofs.YtnnhpjpfmmlimaaDoor
open Go Go.RowKit Go.Maps
open Go.WideMaps Go.WideElems

set_option maxRecDepth 100000 in
set_option maxHeartbeats 6400000 in
theorem apart_walk (ad : Option Addr) (n cap B off : Nat) (l : List Df) (w : World) (hl : Lay w) (ha : ArgRow w ad n cap B off l) :
    Calls Tryd.prog 4 #[.slice ad n cap] w fun e w' => e = .returned (.bool true) ∧ Below w.heap.size w w' := by
  have AL := Lib.hid (alive_is w hl)
  have HL := Lib.hid hl
  have HA := Lib.hid ha
  clear hl ha
  by_cases h1 : 400 < n
  · have e1 : decide ((400 : Int) < (n : Int)) = true := by simp; omega
    go_enter Tryd.func4, Tryd.ntmps4
    go_wp2_with fail
    refine AL.out.mono ?_
    rintro e w1 ⟨rfl, b1⟩
    have B1 := Lib.hid b1
    clear b1
    go_wp2_with fail
    go_ret
    exact ⟨rfl, B1.out⟩
  have e1 : decide ((400 : Int) < (n : Int)) = false := by simp; omega
  go_enter Tryd.func4, Tryd.ntmps4
  go_wp2_with fail
  refine AL.out.mono ?_
  rintro e w1 ⟨rfl, b1⟩
  have MD := Lib.hid (made_is ad n cap B off l w1 (HL.out.on b1) (HA.out.on b1))
  have B1 := Lib.hid b1
  clear b1
  go_wp2_with fail
  refine MD.out.mono ?_
  rintro e w2 ⟨rfl, m, hm, ht, hb⟩
  have LI := Lib.hid (list_is w1.heap.size m (madeZ l) w2 ht (made_small l).2)
  have T2 := Lib.hid ht
  have B2 := Lib.hid (bt B1.out hb)
  clear MD hm ht hb
  go_wp2_with fail
  refine LI.out.mono ?_
  rintro e w3 ⟨⟨g, cp, S, rfl, hg, harg, hperm, _, hb⟩⟩
  obtain ⟨a, hA⟩ : ∃ a, w1.heap.size = a := ⟨_, rfl⟩
  obtain ⟨L, hLL⟩ : ∃ L, madeZ l = L := ⟨_, rfl⟩
  have hsm := made_small l
  have hap := made_apart l
  rw [hLL] at harg hperm hsm hap T2 ⊢
  rw [hA] at T2 ⊢
  have T3 := Lib.hid (T2.out.on hb)
  have B3 := Lib.hid (bt B2.out hb)
  have HARG := Lib.hid harg
  have HPERM := Lib.hid hperm
  have HWF := Lib.hid hsm.1
  have HAP := Lib.hid hap
  obtain ⟨nn, hnn⟩ : ∃ nn, L.length = nn := ⟨_, rfl⟩
  rw [hnn] at HARG ⊢
  have hcp := harg.max
  have hfit := harg.fits
  have hn256 : nn ≤ 256 := by rw [← hnn]; exact hsm.2
  rw [hnn] at hfit
  have HLEN := Lib.hid (show S.length = nn by rw [← hnn]; exact hperm.length_eq)
  have HA' := Lib.hid hA
  clear LI hg harg hperm hb hLL hsm hap hnn hA
  go_wp2_with fail
  go_loopw [23] (fun v wr => ∃ k : Nat, k ≤ nn ∧ v = .int .i64 k ∧ Hid (Below w3.heap.size w3 wr)) (fun v _ => nn - (intOf v).toNat)
  case atStart => exact ⟨0, by omega, rfl, Lib.hid (Below.refl _ _)⟩
  case round =>
    obtain ⟨k, hk, rfl, HB⟩ := hrel
    by_cases hlt : k < nn
    · obtain ⟨d, hd⟩ : ∃ d, S[k]? = some d := ⟨_, List.getElem?_eq_getElem (by rw [HLEN.out]; exact hlt)⟩
      obtain ⟨c0, c1, c2⟩ := (HARG.out.on HB.out).mem k d hd
      simp only [Nat.zero_add] at c0 c1 c2
      have hdL : d ∈ L := HPERM.out.mem_iff.1 (List.mem_of_getElem? hd)
      have hst := stand_of HWF.out HAP.out hdL
      have his := is_self HWF.out hdL
      have hsz := HWF.out.name hdL
      have i0 : (0 : Int) ≤ (k : Int) := by omega
      have i1 : (k : Int) < (nn : Int) := by omega
      have kW : Below w3.heap.size w3 (wr.alloc (.cells #[.int .i64 d.pri, .int .i64 d.typ, .string d.name] 45)) := HB.out.alloc HB.out.size _
      have N4 : (wr.alloc (.cells #[.int .i64 d.pri, .int .i64 d.typ, .string d.name] 45)).heap[wr.heap.size]? = some (.cells #[.int .i64 d.pri, .int .i64 d.typ, .string d.name] 45 (0, 0)) := new_at _ _ rfl
      obtain ⟨X, hX⟩ : ∃ X, wr.alloc (.cells #[.int .i64 d.pri, .int .i64 d.typ, .string d.name] 45) = X := ⟨_, rfl⟩
      rw [hX] at kW N4
      have LX := HL.out.on (B3.out.trans (kW.mono B3.out.size))
      have TX := T3.out.on kW
      have P1 := Lib.hid (fun w' (b : Below X.heap.size X w') => prefix_is a m L d.name w' (LX.on b) (TX.on b) hsz)
      have P2 := Lib.hid (fun w' (b : Below X.heap.size X w') => infix_is a m L d.name w' (LX.on b) (TX.on b) hsz)
      have P3 := Lib.hid (fun w' (b : Below X.heap.size X w') => postfix_is a m L d.name w' (LX.on b) (TX.on b) hsz)
      have P4 := Lib.hid (fun w' (b : Below X.heap.size X w') => is_is a m L d.name w' (TX.on b) hsz)
      rw [his] at P4
      obtain ⟨va, hva⟩ : ∃ v, (sidesZ L d.name 1).1 = v := ⟨_, rfl⟩
      obtain ⟨var, hvar⟩ : ∃ v, (sidesZ L d.name 1).2.2 = v := ⟨_, rfl⟩
      obtain ⟨vb, hvb⟩ : ∃ v, (sidesZ L d.name 2).1 = v := ⟨_, rfl⟩
      obtain ⟨vbl, hvbl⟩ : ∃ v, (sidesZ L d.name 2).2.1 = v := ⟨_, rfl⟩
      obtain ⟨vbr, hvbr⟩ : ∃ v, (sidesZ L d.name 2).2.2 = v := ⟨_, rfl⟩
      obtain ⟨vc, hvc⟩ : ∃ v, (sidesZ L d.name 3).1 = v := ⟨_, rfl⟩
      obtain ⟨vcl, hvcl⟩ : ∃ v, (sidesZ L d.name 3).2.1 = v := ⟨_, rfl⟩
      rw [hva, hvar, hvb, hvbl, hvbr, hvc, hvcl] at hst
      rw [hva, hvar] at P1
      rw [hvb, hvbl, hvbr] at P2
      rw [hvc, hvcl] at P3
      have HX := Lib.hid hX
      have HKW := Lib.hid kW
      have N5 := Lib.hid (fun w' (b : Below X.heap.size X w') => (b.block _ (heap_lt N4)).trans N4)
      have HST := Lib.hid hst
      obtain ⟨p, t, x⟩ := d
      simp only at c0 c1 c2 HST
      clear hd hdL hst his hsz kW N4 hX LX TX hva hvar hvb hvbl hvbr hvc hvcl
      have X0 := Lib.hid (Below.refl X.heap.size X)
      go_wp2_with fail
      rw [HX.out]
      clear c0 c1 c2
      refine (P1.out _ X0.out).mono ?_
      rintro e w5 ⟨rfl, b⟩
      have B5 := Lib.hid b
      clear b
      obtain ⟨c0, c1, c2, _, _, _⟩ := (Three.mk (N5.out _ B5.out)).facts
      go_wp2_with fail
      refine (P2.out _ B5.out).mono ?_
      rintro e w6 ⟨rfl, b⟩
      have B6 := Lib.hid (bt B5.out b)
      clear b c0 c1 c2
      obtain ⟨c0, c1, c2, _, _, _⟩ := (Three.mk (N5.out _ B6.out)).facts
      go_wp2_with fail
      refine (P3.out _ B6.out).mono ?_
      rintro e w7 ⟨rfl, b⟩
      have B7 := Lib.hid (bt B6.out b)
      clear b c0 c1 c2
      obtain ⟨c0, c1, c2, _, _, _⟩ := (Three.mk (N5.out _ B7.out)).facts
      go_wp2_with fail
      refine (P4.out _ B7.out).mono ?_
      rintro e w8 ⟨rfl, b⟩
      have B8 := Lib.hid (bt B7.out b)
      clear b c0 c1 c2
      obtain ⟨c0, c1, c2, _, _, _⟩ := (Three.mk (N5.out _ B8.out)).facts
      have BF := Lib.hid (HKW.out.trans (B8.out.mono HKW.out.size))
      obtain ⟨hp, ha0, har, hrest⟩ := HST.out
      have qp1 : decide (p < 1) = false := by simp; omega
      have qp2 : decide (1200 < p) = false := by simp; omega
      rcases hrest with ⟨rfl, rfl, hb0, hb1, hbl, hbr, hpe⟩ | ⟨rfl, rfl, rfl, hc0, hc1, hcl, hpe⟩
      · rcases har with h | h
        · have qvar : (var != va) = false := by simpa using h
          clear h
          rcases hbl with h | h
          · have qvbl : (vbl != vb) = false := by simpa using h
            clear h
            rcases hbr with h | h
            · have qvbr : (vbr != vb) = false := by simpa using h
              clear h
              by_cases hpa : p = va
              · have qa : (p != va) = false := by simpa using hpa
                clear hpa hpe
                go_wp2_with fail
                all_goals
                  go_roundw
                  case rel => exact ⟨k + 1, by omega, by go_num, BF⟩
                  case measure => simp [intOf]; omega
              · have qa : (p != va) = true := by rw [bne_iff_ne]; exact hpa
                have qo : (p != vb) = false := by simpa using hpe.resolve_left hpa
                clear hpa hpe
                go_wp2_with fail
                all_goals
                  go_roundw
                  case rel => exact ⟨k + 1, by omega, by go_num, BF⟩
                  case measure => simp [intOf]; omega
            · have qvbr : (vbr != vb) = true := by rw [bne_iff_ne]; omega
              have qvbr2 : (vbr != vb - 1) = false := by simpa using h
              clear h
              by_cases hpa : p = va
              · have qa : (p != va) = false := by simpa using hpa
                clear hpa hpe
                go_wp2_with fail
                all_goals
                  go_roundw
                  case rel => exact ⟨k + 1, by omega, by go_num, BF⟩
                  case measure => simp [intOf]; omega
              · have qa : (p != va) = true := by rw [bne_iff_ne]; exact hpa
                have qo : (p != vb) = false := by simpa using hpe.resolve_left hpa
                clear hpa hpe
                go_wp2_with fail
                all_goals
                  go_roundw
                  case rel => exact ⟨k + 1, by omega, by go_num, BF⟩
                  case measure => simp [intOf]; omega
          · have qvbl : (vbl != vb) = true := by rw [bne_iff_ne]; omega
            have qvbl2 : (vbl != vb - 1) = false := by simpa using h
            clear h
            rcases hbr with h | h
            · have qvbr : (vbr != vb) = false := by simpa using h
              clear h
              by_cases hpa : p = va
              · have qa : (p != va) = false := by simpa using hpa
                clear hpa hpe
                go_wp2_with fail
                all_goals
                  go_roundw
                  case rel => exact ⟨k + 1, by omega, by go_num, BF⟩
                  case measure => simp [intOf]; omega
              · have qa : (p != va) = true := by rw [bne_iff_ne]; exact hpa
                have qo : (p != vb) = false := by simpa using hpe.resolve_left hpa
                clear hpa hpe
                go_wp2_with fail
                all_goals
                  go_roundw
                  case rel => exact ⟨k + 1, by omega, by go_num, BF⟩
                  case measure => simp [intOf]; omega
            · have qvbr : (vbr != vb) = true := by rw [bne_iff_ne]; omega
              have qvbr2 : (vbr != vb - 1) = false := by simpa using h
              clear h
              by_cases hpa : p = va
              · have qa : (p != va) = false := by simpa using hpa
                clear hpa hpe
                go_wp2_with fail
                all_goals
                  go_roundw
                  case rel => exact ⟨k + 1, by omega, by go_num, BF⟩
                  case measure => simp [intOf]; omega
              · have qa : (p != va) = true := by rw [bne_iff_ne]; exact hpa
                have qo : (p != vb) = false := by simpa using hpe.resolve_left hpa
                clear hpa hpe
                go_wp2_with fail
                all_goals
                  go_roundw
                  case rel => exact ⟨k + 1, by omega, by go_num, BF⟩
                  case measure => simp [intOf]; omega
        · have qvar : (var != va) = true := by rw [bne_iff_ne]; omega
          have qvar2 : (var != va - 1) = false := by simpa using h
          clear h
          rcases hbl with h | h
          · have qvbl : (vbl != vb) = false := by simpa using h
            clear h
            rcases hbr with h | h
            · have qvbr : (vbr != vb) = false := by simpa using h
              clear h
              by_cases hpa : p = va
              · have qa : (p != va) = false := by simpa using hpa
                clear hpa hpe
                go_wp2_with fail
                all_goals
                  go_roundw
                  case rel => exact ⟨k + 1, by omega, by go_num, BF⟩
                  case measure => simp [intOf]; omega
              · have qa : (p != va) = true := by rw [bne_iff_ne]; exact hpa
                have qo : (p != vb) = false := by simpa using hpe.resolve_left hpa
                clear hpa hpe
                go_wp2_with fail
                all_goals
                  go_roundw
                  case rel => exact ⟨k + 1, by omega, by go_num, BF⟩
                  case measure => simp [intOf]; omega
            · have qvbr : (vbr != vb) = true := by rw [bne_iff_ne]; omega
              have qvbr2 : (vbr != vb - 1) = false := by simpa using h
              clear h
              by_cases hpa : p = va
              · have qa : (p != va) = false := by simpa using hpa
                clear hpa hpe
                go_wp2_with fail
                all_goals
                  go_roundw
                  case rel => exact ⟨k + 1, by omega, by go_num, BF⟩
                  case measure => simp [intOf]; omega
              · have qa : (p != va) = true := by rw [bne_iff_ne]; exact hpa
                have qo : (p != vb) = false := by simpa using hpe.resolve_left hpa
                clear hpa hpe
                go_wp2_with fail
                all_goals
                  go_roundw
                  case rel => exact ⟨k + 1, by omega, by go_num, BF⟩
                  case measure => simp [intOf]; omega
          · have qvbl : (vbl != vb) = true := by rw [bne_iff_ne]; omega
            have qvbl2 : (vbl != vb - 1) = false := by simpa using h
            clear h
            rcases hbr with h | h
            · have qvbr : (vbr != vb) = false := by simpa using h
              clear h
              by_cases hpa : p = va
              · have qa : (p != va) = false := by simpa using hpa
                clear hpa hpe
                go_wp2_with fail
                all_goals
                  go_roundw
                  case rel => exact ⟨k + 1, by omega, by go_num, BF⟩
                  case measure => simp [intOf]; omega
              · have qa : (p != va) = true := by rw [bne_iff_ne]; exact hpa
                have qo : (p != vb) = false := by simpa using hpe.resolve_left hpa
                clear hpa hpe
                go_wp2_with fail
                all_goals
                  go_roundw
                  case rel => exact ⟨k + 1, by omega, by go_num, BF⟩
                  case measure => simp [intOf]; omega
            · have qvbr : (vbr != vb) = true := by rw [bne_iff_ne]; omega
              have qvbr2 : (vbr != vb - 1) = false := by simpa using h
              clear h
              by_cases hpa : p = va
              · have qa : (p != va) = false := by simpa using hpa
                clear hpa hpe
                go_wp2_with fail
                all_goals
                  go_roundw
                  case rel => exact ⟨k + 1, by omega, by go_num, BF⟩
                  case measure => simp [intOf]; omega
              · have qa : (p != va) = true := by rw [bne_iff_ne]; exact hpa
                have qo : (p != vb) = false := by simpa using hpe.resolve_left hpa
                clear hpa hpe
                go_wp2_with fail
                all_goals
                  go_roundw
                  case rel => exact ⟨k + 1, by omega, by go_num, BF⟩
                  case measure => simp [intOf]; omega
      · rcases har with h | h
        · have qvar : (var != va) = false := by simpa using h
          clear h
          rcases hcl with h | h
          · have qvcl : (vcl != vc) = false := by simpa using h
            clear h
            by_cases hpa : p = va
            · have qa : (p != va) = false := by simpa using hpa
              clear hpa hpe
              go_wp2_with fail
              all_goals
                go_roundw
                case rel => exact ⟨k + 1, by omega, by go_num, BF⟩
                case measure => simp [intOf]; omega
            · have qa : (p != va) = true := by rw [bne_iff_ne]; exact hpa
              have qo : (p != vc) = false := by simpa using hpe.resolve_left hpa
              clear hpa hpe
              go_wp2_with fail
              all_goals
                go_roundw
                case rel => exact ⟨k + 1, by omega, by go_num, BF⟩
                case measure => simp [intOf]; omega
          · have qvcl : (vcl != vc) = true := by rw [bne_iff_ne]; omega
            have qvcl2 : (vcl != vc - 1) = false := by simpa using h
            clear h
            by_cases hpa : p = va
            · have qa : (p != va) = false := by simpa using hpa
              clear hpa hpe
              go_wp2_with fail
              all_goals
                go_roundw
                case rel => exact ⟨k + 1, by omega, by go_num, BF⟩
                case measure => simp [intOf]; omega
            · have qa : (p != va) = true := by rw [bne_iff_ne]; exact hpa
              have qo : (p != vc) = false := by simpa using hpe.resolve_left hpa
              clear hpa hpe
              go_wp2_with fail
              all_goals
                go_roundw
                case rel => exact ⟨k + 1, by omega, by go_num, BF⟩
                case measure => simp [intOf]; omega
        · have qvar : (var != va) = true := by rw [bne_iff_ne]; omega
          have qvar2 : (var != va - 1) = false := by simpa using h
          clear h
          rcases hcl with h | h
          · have qvcl : (vcl != vc) = false := by simpa using h
            clear h
            by_cases hpa : p = va
            · have qa : (p != va) = false := by simpa using hpa
              clear hpa hpe
              go_wp2_with fail
              all_goals
                go_roundw
                case rel => exact ⟨k + 1, by omega, by go_num, BF⟩
                case measure => simp [intOf]; omega
            · have qa : (p != va) = true := by rw [bne_iff_ne]; exact hpa
              have qo : (p != vc) = false := by simpa using hpe.resolve_left hpa
              clear hpa hpe
              go_wp2_with fail
              all_goals
                go_roundw
                case rel => exact ⟨k + 1, by omega, by go_num, BF⟩
                case measure => simp [intOf]; omega
          · have qvcl : (vcl != vc) = true := by rw [bne_iff_ne]; omega
            have qvcl2 : (vcl != vc - 1) = false := by simpa using h
            clear h
            by_cases hpa : p = va
            · have qa : (p != va) = false := by simpa using hpa
              clear hpa hpe
              go_wp2_with fail
              all_goals
                go_roundw
                case rel => exact ⟨k + 1, by omega, by go_num, BF⟩
                case measure => simp [intOf]; omega
            · have qa : (p != va) = true := by rw [bne_iff_ne]; exact hpa
              have qo : (p != vc) = false := by simpa using hpe.resolve_left hpa
              clear hpa hpe
              go_wp2_with fail
              all_goals
                go_roundw
                case rel => exact ⟨k + 1, by omega, by go_num, BF⟩
                case measure => simp [intOf]; omega
    · have hkn : k = nn := by omega
      subst hkn
      go_wp2_with fail
      go_ret
      exact ⟨rfl, B3.out.trans (HB.out.mono B3.out.size)⟩

end Go.Proofs.YtnnhpjpfmmlimaaDoor
