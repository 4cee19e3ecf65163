/- The law NameBytes returns true for every input: a byte alone is plain just as its sort says; its walk. Conditions: the bytes are some; the library's variables hold what their text lays. -/
import Derived.Test.YtnkkenchabcpoaaDoorNameP
import Derived.Test.YtnkkenchabcpoaaDoorNameBytesM
import Derived.Deep.DeepCutAuto
import Derived.Deep.Light
namespace Go.Proofs.YtnkkenchabcpoaaDoor
open Go Go.RowKit Go.Maps

theorem bcell {W w1 : World} (hb : Below W.heap.size W w1) : ∀ b o v, W.cell? ⟨b, o, none⟩ = some v → (w1.cell? ⟨b, o, none⟩ = some v) = True := fun _ _ _ h => eq_true (cell_later hb h)
theorem al1 (w : World) (o : Obj) : Below w.heap.size w (w.alloc o) := (Below.refl _ _).alloc (Nat.le_refl _) _
theorem dal1 (w : World) (o : Obj) : Below w.heap.size w (w.alloc o).drew := (al1 w o).drew
theorem dal2 (w : World) (o o' : Obj) : Below w.heap.size w ((w.alloc o).alloc o').drew := (bt (al1 w o) (al1 _ o')).drew
theorem lt_two (w : World) : w.heap.size < w.heap.size + 1 + 1 := by omega
theorem lt_two' (w : World) : w.heap.size < w.heap.size + 2 := by omega
theorem bcelq {W w1 : World} (hb : Below W.heap.size W w1) : ∀ b o, b < W.heap.size → w1.cell? ⟨b, o, none⟩ = W.cell? ⟨b, o, none⟩ := fun b o h => hb.cell (p := ⟨b, o, none⟩) h
theorem cells_1 {w : World} {g : Nat} {l : List UInt8} {cs : List Value} (hl : bc l = cs) (h : ∀ j v, cs[j]? = some v → w.cell? ⟨g, j, none⟩ = some v) (cap : Nat) :
    (convert 32 9 (.slice (some ⟨g, 0, none⟩) l.length cap)).run Tryd.prog w = .ok (.string ⟨l.toArray⟩) w := by
  refine run_convert_bytes_back w 32 9 5 ⟨g, 0, none⟩ cap l Tryd.underlying32 Tryd.underlying5 Tryd.underlying9 fun j hj => ?_
  rw [show (⟨g, 0, none⟩ : Addr).add j = ⟨g, j, none⟩ by unfold Addr.add; split <;> simp_all]
  refine h j _ ?_
  rw [← hl]
  simp [hj]
theorem conv_1 (c : Int) (hc : bc [UInt8.ofNat c.toNat] = [.int .u8 c]) : ∀ (w : World) (g : Nat), w.cell? ⟨g, 0, none⟩ = some (.int .u8 c) →
    (convert 32 9 (.slice (some ⟨g, 0, none⟩) 1 1)).run Tryd.prog w = .ok (.string ⟨#[UInt8.ofNat c.toNat]⟩) w := fun w g h =>
  cells_1 hc (fun j v hj => by
    rcases j with _ | j
    · cases hj; exact h
    · simp at hj) 1
theorem conv_2 (c d : Int) (hc : bc [UInt8.ofNat c.toNat, UInt8.ofNat d.toNat] = [.int .u8 c, .int .u8 d]) : ∀ (w : World) (g : Nat), w.cell? ⟨g, 0, none⟩ = some (.int .u8 c) → w.cell? ⟨g, 1, none⟩ = some (.int .u8 d) →
    (convert 32 9 (.slice (some ⟨g, 0, none⟩) 2 2)).run Tryd.prog w = .ok (.string ⟨#[UInt8.ofNat c.toNat, UInt8.ofNat d.toNat]⟩) w := fun w g h h2 =>
  cells_1 hc (fun j v hj => by
    rcases j with _ | _ | j
    · cases hj; exact h
    · cases hj; exact h2
    · simp at hj) 2
theorem plain_bytes (l : List UInt8) (hl : l.length ≤ 4000) (w : World) : Calls Tryd.prog 12 #[.string ⟨l.toArray⟩] w fun e w' => e = .returned (.bool (plainB l)) ∧ Below w.heap.size w w' :=
  plain_is ⟨l.toArray⟩ w (by show l.toArray.size ≤ 4000; simpa using hl)

set_option maxHeartbeats 3200000 in
set_option maxRecDepth 100000 in
theorem bytes_at (c d : Int) (w : World) (c0 : 0 ≤ c) (c1 : c ≤ 255) (d0 : 0 ≤ d) (d1 : d ≤ 255) (htab : Tab w) (p q : Bool)
    (hc : bc [UInt8.ofNat c.toNat] = [.int .u8 c]) (hcd : bc [UInt8.ofNat c.toNat, UInt8.ofNat d.toNat] = [.int .u8 c, .int .u8 d]) (k l : Int) (hk : sortZ c = k) (hl : sortZ d = l) (HP : Hid (p = oneB k c)) (HQ : Hid (q = twoB k l c d)) (HKC : Hid ((c = 91 → k = 7) ∧ (c = 123 → k = 7)))
    (P : Hid (∀ w, Calls Tryd.prog 12 #[.string ⟨#[UInt8.ofNat c.toNat]⟩] w fun e w' => e = .returned (.bool p) ∧ Below w.heap.size w w'))
    (Q : Hid (∀ w, Calls Tryd.prog 12 #[.string ⟨#[UInt8.ofNat c.toNat, UInt8.ofNat d.toNat]⟩] w fun e w' => e = .returned (.bool q) ∧ Below w.heap.size w w')) :
    Calls Tryd.prog 8 #[.int .u8 c, .int .u8 d] w fun e w' => e = .returned (.bool true) ∧ Below w.heap.size w w' := by
  have HT := Lib.hid htab
  have K := Lib.hid (fun w => sort_at c k hk w c0 c1)
  have L := Lib.hid (fun w => sort_at d l hl w d0 d1)
  have HC := Lib.hid hc
  have HCD := Lib.hid hcd
  clear htab hk hl hc hcd
  go_enter Tryd.func8, Tryd.ntmps8
  go_upto_region 4 with (first | (go_at_call 9; refine (alive_is _ HT.out).mono ?_; rintro e w1 ⟨rfl, b1⟩) | (go_at_call_of 10 (Value.int IntKind.u8 c); refine (K.out _).mono ?_; rintro e w2 ⟨rfl, hw⟩; obtain rfl := hw.symm) | (go_at_call_of 10 (Value.int IntKind.u8 d); refine (L.out _).mono ?_; rintro e w2 ⟨rfl, hw⟩; obtain rfl := hw.symm))
  go_cut [7, 8] (fun s7 s8 wx => s7 = .bool p ∧ s8 = .bool q ∧ Below w.heap.size w wx)
  case first =>
    have V1 := conv_1 c HC.out
    have V2 := conv_2 c d HCD.out
    go_region_with (first | (go_at_call_of 12 (Value.string { data := #[UInt8.ofNat c.toNat] }); refine (P.out _).mono ?_; rintro e w3 ⟨rfl, b3⟩; have k3 := bcelq b3; have z3 := lt_two w1; have z4 := lt_two' w1) | (go_at_call_of 12 (Value.string { data := #[UInt8.ofNat c.toNat, UInt8.ofNat d.toNat] }); refine (Q.out _).mono ?_; rintro e w4 ⟨rfl, b4⟩))
    all_goals
      go_wp2_with fail
      go_meet
      first
        | exact ⟨rfl, rfl, bt (bt (bt b1 (dal1 _ _)) b3) (bt (al1 _ _) b4)⟩
        | exact ⟨rfl, rfl, bt (bt (bt b1 (dal2 _ _ _)) b3) b4⟩
  case rest =>
    obtain ⟨rfl, rfl, hbl⟩ := hcut
    have hp := HP.out
    have hq := HQ.out
    unfold oneB at hp
    unfold twoB at hq
    clear P Q K L HC HCD b1 HP HQ HT
    by_cases e91 : c = 91
    · subst e91
      obtain rfl : k = 7 := HKC.out.1 rfl
      simp at hp hq
      subst hp hq
      go_wp2_with fail
      all_goals
        go_ret
        refine ⟨?_, hbl⟩
        go_light
        simp_all
    by_cases e123 : c = 123
    · subst e123
      obtain rfl : k = 7 := HKC.out.2 rfl
      simp at hp hq
      subst hp hq
      go_wp2_with fail
      all_goals
        go_ret
        refine ⟨?_, hbl⟩
        go_light
        simp_all
    have f91 : (c == 91) = false := beq_eq_false_iff_ne.2 e91
    have f123 : (c == 123) = false := beq_eq_false_iff_ne.2 e123
    by_cases k2 : k = 2
    · subst k2
      simp [f91, f123] at hp hq
      subst hp hq
      go_wp2_with fail
      all_goals
        go_ret
        refine ⟨?_, hbl⟩
        go_light
        simp_all
    by_cases k5 : k = 5
    · subst k5
      simp [f91, f123] at hp hq
      subst hp hq
      go_wp2_with fail
      all_goals
        go_ret
        refine ⟨?_, hbl⟩
        go_light
        simp_all
    have g2 : (k == 2) = false := beq_eq_false_iff_ne.2 k2
    have g5 : (k == 5) = false := beq_eq_false_iff_ne.2 k5
    simp [f91, f123, g2, g5] at hp hq
    subst hp hq
    go_wp2_with fail
    all_goals
      go_ret
      refine ⟨?_, hbl⟩
      go_light
      simp_all

theorem bc_one (c : Int) (h0 : 0 ≤ c) (h1 : c ≤ 255) : bc [UInt8.ofNat c.toNat] = [.int .u8 c] := by
  have : (UInt8.ofNat c.toNat).toNat = c.toNat := by rw [UInt8.toNat_ofNat']; omega
  simp only [bc, List.map_cons, List.map_nil, this, Int.toNat_of_nonneg h0]
theorem bytes_walk (c d : Int) (w : World) (c0 : 0 ≤ c) (c1 : c ≤ 255) (d0 : 0 ≤ d) (d1 : d ≤ 255) (htab : Tab w) :
    Calls Tryd.prog 8 #[.int .u8 c, .int .u8 d] w fun e w' => e = .returned (.bool true) ∧ Below w.heap.size w w' := by
  have hc : (UInt8.ofNat c.toNat).toNat = c.toNat := by rw [UInt8.toNat_ofNat']; omega
  have hd : (UInt8.ofNat d.toNat).toNat = d.toNat := by rw [UInt8.toNat_ofNat']; omega
  have h1 := one_eq ⟨c.toNat, by omega⟩
  simp only [Int.toNat_of_nonneg c0] at h1
  have h2 := two_eq (UInt8.ofNat c.toNat) (UInt8.ofNat d.toNat)
  rw [hc, hd, Int.toNat_of_nonneg c0, Int.toNat_of_nonneg d0] at h2
  exact bytes_at c d w c0 c1 d0 d1 htab _ _ (bc_one c c0 c1) (by rw [show [UInt8.ofNat c.toNat, UInt8.ofNat d.toNat] = [UInt8.ofNat c.toNat] ++ [UInt8.ofNat d.toNat] from rfl, bc, List.map_append, ← bc, ← bc, bc_one c c0 c1, bc_one d d0 d1]; rfl) _ _ rfl rfl
    (Lib.hid h1) (Lib.hid h2) (Lib.hid ⟨fun e => by subst e; decide, fun e => by subst e; decide⟩) (Lib.hid fun w => plain_bytes [UInt8.ofNat c.toNat] (by simp) w) (Lib.hid fun w => plain_bytes [UInt8.ofNat c.toNat, UInt8.ofNat d.toNat] (by simp) w)

end Go.Proofs.YtnkkenchabcpoaaDoor
