/- Package token's between: a contract. Conditions: the place stands in memory; its text has at most 5000 bytes; the library's variables hold what their text lays. -/
import Derived.Test.YtkbeaddbnnboaaaDoorTokI
import Derived.Lib.CutLaws
namespace Go.Proofs.YtkbeaddbnnboaaaDoor
open Go Go.RowKit Go.Maps

theorem cut_room {s sep : List UInt8} (h : (Lib.cut s sep).2.2 = true) : (Lib.cut s sep).1.length + sep.length ≤ s.length := by
  have hc := Lib.indexB_cases ⟨s.toArray⟩ ⟨sep.toArray⟩
  have he : Lib.indexB ⟨s.toArray⟩ ⟨sep.toArray⟩ = Lib.index s sep := rfl
  rw [he] at hc
  unfold Lib.cut at h ⊢
  split at h
  · rename_i h0
    rw [if_pos h0]
    rcases hc with hc | ⟨i, hi, hl⟩
    · omega
    · rw [Lib.size_eq, Lib.size_eq] at hl
      simp at hl ⊢
      omega
  · cases h
theorem gapN_le (l : List UInt8) : gapN l ≤ l.length := by
  rcases l with _ | ⟨c, t⟩
  · exact Nat.le_refl _
  · simp only [gapN]
    split
    · simp
    · split
      · exact cut_len _ _
      · split
        · rename_i hp
          split
          · rename_i h
            have := cut_room h
            have h2 := prefix_two hp
            simp at this h2 ⊢
            omega
          · simp
        · simp
theorem skipF_fuel : ∀ (f f' : Nat) (l : List UInt8), l.length < f → l.length < f' → skipF f l = skipF f' l
  | 0, _, _, h, _ => by omega
  | _, 0, _, _, h => by omega
  | f + 1, f' + 1, l, h, h' => by
    unfold skipF
    by_cases h0 : gapN l = 0
    · rw [if_pos h0, if_pos h0]
    · rw [if_neg h0, if_neg h0]
      have := gapN_le l
      rw [skipF_fuel f f' (l.drop (gapN l)) (by rw [List.length_drop]; omega) (by rw [List.length_drop]; omega)]
theorem skipN_0 {l : List UInt8} (h : gapN l = 0) : skipN l = 0 := by unfold skipN skipF; rw [if_pos h]
theorem skipN_on {l : List UInt8} (h : gapN l ≠ 0) : skipN l = gapN l + skipN (l.drop (gapN l)) := by
  have := gapN_le l
  rw [show skipN l = skipF (l.length + 1) l from rfl, skipF, if_neg h, skipF_fuel l.length ((l.drop (gapN l)).length + 1) _ (by rw [List.length_drop]; omega) (by omega)]
  rfl
theorem skipF_le : ∀ (f : Nat) (l : List UInt8), skipF f l ≤ l.length
  | 0, _ => Nat.zero_le _
  | f + 1, l => by
    unfold skipF
    split
    · exact Nat.zero_le _
    · have := skipF_le f (l.drop (gapN l))
      have h2 := gapN_le l
      rw [List.length_drop] at this
      omega
theorem skipN_le (l : List UInt8) : skipN l ≤ l.length := skipF_le _ _
theorem nlC_le (l : List UInt8) : nlC l ≤ l.length := by unfold nlC Lib.countByte; exact List.count_le_length ..

theorem OnlyAt.refl (p : Nat) (w : World) : OnlyAt p w w := ⟨fun _ _ => Below.refl _ _, fun _ _ _ => rfl⟩
theorem OnlyAt.drewN (p : Nat) (w : World) (k : Nat) : OnlyAt p w (w.drewN k) := ⟨fun _ _ => ⟨rfl, rfl, rfl, Nat.le_refl _, fun _ _ => rfl⟩, fun _ _ _ => rfl⟩
theorem OnlyAt.trans {p : Nat} {a b c : World} (h : OnlyAt p a b) (k : OnlyAt p b c) : OnlyAt p a c :=
  ⟨fun H hH => (h.below H hH).trans (k.below H hH), fun i hi hl => (k.other i hi (Nat.lt_of_lt_of_le hl (h.below 0 (Nat.zero_le _)).size)).trans (h.other i hi hl)⟩
theorem OnlyAt.of {p : Nat} {w w' : World} (h : Below w.heap.size w w') (hp : p < w.heap.size) : OnlyAt p w w' := ⟨fun H hH => h.mono (by omega), fun b _ hb => h.block b hb⟩
theorem Lay.at {p : Nat} {w w' : World} (h : Lay w) (hg : ∀ g ∈ [0, 3, 4, 5], g < p) (k : OnlyAt p w w') : Lay w' := by
  have hb := fun g hg' => k.other g (Nat.ne_of_lt (hg g hg'))
  have one : ∀ g ∈ [0, 3, 4, 5], ∀ o v, w.cell? ⟨g, o, none⟩ = some v → w'.cell? ⟨g, o, none⟩ = some v := by
    intro g hg' o v hv
    have hl := World.block_lt_of_cell? _ _ hv
    have := hb g hg' hl
    unfold World.cell? at hv ⊢
    simp only [this]
    exact hv
  obtain ⟨⟨h1, ⟨e2, h2, g2⟩, e3, h3, g3⟩, m, hm⟩ := h
  exact ⟨⟨one _ (by simp) _ _ h1, ⟨e2, one _ (by simp) _ _ h2, g2⟩, e3, one _ (by simp) _ _ h3, g3⟩, m, one _ (by simp) _ _ hm⟩

/-- where between stands after some gaps: k bytes on -/
structure BtSt (p : Nat) (s : ByteArray) (n : Int) (w wr : World) (g : Nat) : Prop where
  ex : ∃ (S : ByteArray) (k : Nat), PL wr p S (n + nlC (s.data.toList.take k)) ∧ S.data.toList = s.data.toList.drop k ∧ k ≤ s.size ∧ g = gapN S.data.toList ∧ skipN s.data.toList = k + skipN S.data.toList
  only : OnlyAt p w wr
def measB (w : World) (p : Nat) : Nat := match w.cell? ⟨p, 0, none⟩ with | some (.string s) => s.size | _ => 0
theorem measB_PL {w : World} {p : Nat} {s : ByteArray} {n : Int} (h : PL w p s n) : measB w p = s.size := by
  unfold measB
  rw [h.cells.1]

set_option maxRecDepth 100000 in
set_option maxHeartbeats 1600000 in
theorem between_is (p : Nat) (s : ByteArray) (n : Int) (w : World) (h : PL w p s n) (hs : s.size ≤ 5000) (hn : 0 ≤ n) (hn2 : n ≤ 5002) (ht : Lay w)
    (hg : ∀ g ∈ [0, 3, 4, 5], g < p) :
    Calls Tryd.prog 16 #[.pointer (some ⟨p, 0, none⟩)] w fun e w' => e = .returned (.bool (decide (0 < skipN s.data.toList))) ∧
      PL w' p ⟨(s.data.toList.drop (skipN s.data.toList)).toArray⟩ (n + nlC (s.data.toList.take (skipN s.data.toList))) ∧ OnlyAt p w w' := by
  obtain ⟨c0, _, _, _⟩ := h.cells
  have G0 := Lib.hid (gap_is p s n w h hs ht)
  have HT := Lib.hid ht
  have HG := Lib.hid hg
  have hn00 : n + (nlC (s.data.toList.take 0) : Int) = n := by simp [nlC, Lib.countByte]
  have H0 := Lib.hid (fun k => (⟨⟨s, 0, by rw [hn00]; exact h, by simp, Nat.zero_le _, rfl, by simp⟩, OnlyAt.drewN p w k⟩ : BtSt p s n w (w.drewN k) (gapN s.data.toList)))
  have hgb := gapN_le s.data.toList
  rw [← Lib.size_eq] at hgb
  clear h ht hg hn00
  go_enter Tryd.func16, Tryd.ntmps16
  go_wp2_with fail
  refine G0.out.mono ?_
  rintro e w' ⟨rfl, k0, rfl⟩
  go_wp2_with fail
  go_loopw [4] (fun v wr => ∃ g : Nat, v = .int .i64 g ∧ Hid (BtSt p s n w wr g)) (fun _ wr => measB wr p)
  case atStart => exact ⟨_, rfl, H0.out k0⟩
  case round =>
    obtain ⟨g, rfl, HS⟩ := hrel
    obtain ⟨⟨S, k, h, hS, hk, hgS, hsk⟩, only⟩ := HS.out
    obtain ⟨d0, _, _, _⟩ := h.cells
    have hSz : S.size = s.size - k := by rw [Lib.size_eq, hS, List.length_drop, ← Lib.size_eq]
    have hSs : S.size ≤ 5000 := by omega
    have hgl : g ≤ S.size := by rw [hgS, Lib.size_eq]; exact gapN_le _
    by_cases hg0 : g = 0
    · subst hg0
      have hsk0 : skipN s.data.toList = k := by rw [hsk, skipN_0 hgS.symm]; omega
      have HP := Lib.hid (show PL wr p ⟨(s.data.toList.drop (skipN s.data.toList)).toArray⟩ (n + nlC (s.data.toList.take (skipN s.data.toList))) by rw [hsk0, ← bytes_eq hS]; exact h)
      have HO := Lib.hid only
      have HB := Lib.hid (show decide (S.size < s.size) = decide (0 < skipN s.data.toList) by rw [hsk0, hSz, decide_eq_decide]; omega)
      clear h hS hgS hsk HS only hsk0 hSz
      go_wp2_with fail
      go_ret
      exact ⟨by rw [← HB.out]; rfl, HP.out, HO.out⟩
    · have hn3 : n + nlC (s.data.toList.take k) ≤ 20000 := by
        have := nlC_le (s.data.toList.take k)
        have h2 := List.length_take_le k s.data.toList
        omega
      have PS := Lib.hid (pass_is p S _ g wr h hSs hgl (by omega) hn3)
      have HPL := Lib.hid h
      have HSV := Lib.hid hS
      have HSK := Lib.hid hsk
      have HGS := Lib.hid hgS
      have HO := Lib.hid only
      clear h hS hgS hsk HS only
      have hg1 : (0 : Int) < (g : Int) := by omega
      go_wp2_with fail
      refine PS.out.mono ?_
      rintro e w1 ⟨rfl, pl, only1⟩
      have hS2 : (S.extract g S.size).data.toList = s.data.toList.drop (k + g) := by
        rw [Lib.extract_data, List.take_of_length_le (by rw [List.length_drop, Lib.size_eq]; omega), HSV.out, List.drop_drop]
      have hS2z : (S.extract g S.size).size = S.size - g := by rw [Lib.size_eq, hS2, List.length_drop, ← Lib.size_eq]; omega
      have G1 := Lib.hid (gap_is p _ _ w1 pl (by omega) (HT.out.at HG.out (HO.out.trans only1)))
      have NX := Lib.hid (fun j => (⟨⟨S.extract g S.size, k + g, by
          have e1 : n + (nlC (s.data.toList.take k) : Int) + (nlC (S.data.toList.take g) : Int) = n + nlC (s.data.toList.take (k + g)) := by
            rw [List.take_add, nlC_app, HSV.out]
            omega
          rw [← e1]
          exact pl, hS2, by omega, rfl, by rw [HSK.out, skipN_on (by rw [← HGS.out]; exact hg0), ← HGS.out, hS2, HSV.out, List.drop_drop]; omega⟩, (HO.out.trans only1).trans (OnlyAt.drewN p w1 j)⟩ : BtSt p s n w (w1.drewN j) (gapN (S.extract g S.size).data.toList)))
      obtain ⟨gn, hgn⟩ : ∃ gn, gapN (S.extract g S.size).data.toList = gn := ⟨_, rfl⟩
      rw [hgn] at G1 NX
      have HM := Lib.hid (fun j => (show measB (w1.drewN j) p < measB wr p by
        rw [measB_PL HPL.out, measB_PL (show PL (w1.drewN j) p (S.extract g S.size) _ from pl)]; omega))
      clear pl only1 hS2 hS2z hgn
      go_wp2_with fail
      refine G1.out.mono ?_
      rintro e w2 ⟨rfl, j, rfl⟩
      go_wp2_with fail
      go_roundw
      case rel => exact ⟨_, rfl, NX.out j⟩
      case measure => exact HM.out j
end Go.Proofs.YtkbeaddbnnboaaaDoor
