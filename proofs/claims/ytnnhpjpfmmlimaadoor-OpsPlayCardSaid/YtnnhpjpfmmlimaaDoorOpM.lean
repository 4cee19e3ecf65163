/- What Op leaves of names and sorts, an argument that is a row of operators, the law's Made and alive. Conditions: the listed variables read as the text lays them. -/
import Derived.Test.YtnnhpjpfmmlimaaDoorOpL
namespace Go.Proofs.YtnnhpjpfmmlimaaDoor
open Go Go.RowKit Go.Maps
open Go.WideMaps Go.WideElems

/-! ### found behind it -/
theorem fnd_rmv_ne {L : List Df} {n n' : ByteArray} {s s' : Int} (h : ¬ (n' = n ∧ s' = s)) : fnd (rmv L n s) n' s' = fnd L n' s' := by
  unfold fnd rmv
  refine Maps.find_filter_keep (fun d hd => ?_) L
  cases hh : d.is n s
  · rfl
  · obtain ⟨h1, h2⟩ := is_iff.1 hd
    obtain ⟨h3, h4⟩ := is_iff.1 hh
    exact absurd ⟨h1.symm.trans h3, h2.symm.trans h4⟩ h
theorem fnd_rmv {L : List Df} {n : ByteArray} {s : Int} : fnd (rmv L n s) n s = none := by
  unfold fnd rmv
  rw [List.find?_eq_none]
  intro d hd
  simpa using (List.mem_filter.1 hd).2
theorem fnd_ins_ne {L : List Df} {d : Df} {n : ByteArray} {s : Int} (h : ¬ (n = d.name ∧ s = srt d.typ)) : fnd (ins L d) n s = fnd L n s := by
  unfold ins
  rw [← fnd_rmv_ne (L := L) h]
  unfold fnd
  rw [List.find?_append]
  have hd : [d].find? (Df.is n s) = none := by
    rw [List.find?_eq_none]
    intro x hx hh
    obtain rfl := List.mem_singleton.1 hx
    obtain ⟨h1, h2⟩ := is_iff.1 hh
    exact h ⟨h1.symm, h2.symm⟩
  rw [hd]
  simp
theorem fnd_ins {L : List Df} {d : Df} : fnd (ins L d) d.name (srt d.typ) = some d := by
  have h0 : (rmv L d.name (srt d.typ)).find? (Df.is d.name (srt d.typ)) = none := fnd_rmv
  unfold ins fnd
  rw [List.find?_append, h0]
  have : d.is d.name (srt d.typ) = true := is_iff.2 ⟨rfl, rfl⟩
  simp [this]
theorem sides_ins_ne {L : List Df} {d : Df} {n : ByteArray} {s : Int} (h : ¬ (n = d.name ∧ s = srt d.typ)) : sidesZ (ins L d) n s = sidesZ L n s := by
  unfold sidesZ
  rw [fnd_ins_ne h]
theorem sides_ins {L : List Df} {d : Df} : sidesZ (ins L d) d.name (srt d.typ) = (d.pri, d.pri - lft d.typ, d.pri - rgt d.typ) := by
  unfold sidesZ
  rw [fnd_ins]

/-- what many Ops leave -/
def madeZ (l : List Df) : List Df := l.foldl (fun L d => (opZ L d).2) firstL
theorem fold_small : ∀ (l L : List Df), Wf L → L.length ≤ 256 → Wf (l.foldl (fun L d => (opZ L d).2) L) ∧ (l.foldl (fun L d => (opZ L d).2) L).length ≤ 256
  | [], _, h, k => ⟨h, k⟩
  | _ :: l, _, h, k => fold_small l _ (op_small h k).1 (op_small h k).2
theorem made_small (l : List Df) : Wf (madeZ l) ∧ (madeZ l).length ≤ 256 := fold_small l _ first_wf (by rw [first_len]; omega)
theorem made_next {l : List Df} {k : Nat} {d : Df} (h : l[k]? = some d) : madeZ (l.take (k + 1)) = (opZ (madeZ (l.take k)) d).2 := by
  unfold madeZ
  rw [List.take_add_one, h, List.foldl_append]
  rfl

/-! ### an argument that is a row of operators -/
structure ArgRow (W : World) (ad : Option Addr) (n cap B off : Nat) (l : List Df) : Prop where
  len : l.length = n
  fits : n ≤ cap
  max : cap ≤ 9223372036854775807
  at' : 0 < n → ad = some ⟨B, off, none⟩
  mem : ∀ i d, l[i]? = some d → W.cell? ⟨B, off + i * 3, none⟩ = some (.int .i64 d.pri) ∧ W.cell? ⟨B, off + i * 3 + 1, none⟩ = some (.int .i64 d.typ) ∧ W.cell? ⟨B, off + i * 3 + 2, none⟩ = some (.string d.name)
theorem ArgRow.on {W w : World} {ad : Option Addr} {n cap B off : Nat} {l : List Df} (h : ArgRow W ad n cap B off l) (b : Below W.heap.size W w) : ArgRow w ad n cap B off l :=
  ⟨h.len, h.fits, h.max, h.at', fun i d hd => by
    obtain ⟨h1, h2, h3⟩ := h.mem i d hd
    have hl := World.block_lt_of_cell? _ _ h1
    exact ⟨(b.cell (p := ⟨B, off + i * 3, none⟩) hl).trans h1, (b.cell (p := ⟨B, off + i * 3 + 1, none⟩) hl).trans h2, (b.cell (p := ⟨B, off + i * 3 + 2, none⟩) hl).trans h3⟩⟩

set_option maxRecDepth 100000 in
set_option maxHeartbeats 1600000 in
theorem made_is (ad : Option Addr) (n cap B off : Nat) (l : List Df) (w : World) (hl : Lay w) (h : ArgRow w ad n cap B off l) :
    Calls Tryd.prog 24 #[.slice ad n cap] w fun e w' => e = .returned (.pointer (some ⟨w.heap.size, 0, none⟩)) ∧ ∃ m, w.heap.size < m ∧ Tb w' w.heap.size m (madeZ l) ∧ Below w.heap.size w w' := by
  have HL := Lib.hid hl
  have NEW := Lib.hid (new_is w hl)
  have HA := Lib.hid h
  have hcap := h.max
  have hfit := h.fits
  have HLEN := Lib.hid h.len
  clear h hl
  go_enter Tryd.func24, Tryd.ntmps24
  go_wp2_with fail
  refine NEW.out.mono ?_
  rintro e w1 ⟨rfl, m, hm, ht, hb⟩
  have HT := Lib.hid ht
  have HB := Lib.hid hb
  have HM := Lib.hid hm
  clear ht hb NEW hm
  go_wp2_with fail
  go_loopw [9] (fun v wr => ∃ k : Nat, k ≤ n ∧ v = .int .i64 k ∧ Hid (Tb wr w.heap.size m (madeZ (l.take k))) ∧ Hid (Below w.heap.size w wr)) (fun v _ => n - (intOf v).toNat)
  case atStart => exact ⟨0, by omega, rfl, HT, HB⟩
  case round =>
    obtain ⟨k, hk, rfl, HTk, HBk⟩ := hrel
    by_cases hlt : k < n
    · obtain rfl := HA.out.at' (by omega)
      obtain ⟨d, hd⟩ : ∃ d, l[k]? = some d := ⟨_, List.getElem?_eq_getElem (by rw [HLEN.out]; exact hlt)⟩
      obtain ⟨c0, c1, c2⟩ := (HA.out.on HBk.out).mem k d hd
      have i0 : (0 : Int) ≤ (k : Int) := by omega
      have i1 : (k : Int) < (n : Int) := by omega
      have hW : Below wr.heap.size wr (wr.alloc (.cells #[.int .i64 d.pri, .int .i64 d.typ, .string d.name] 29)) := (Below.refl _ _).alloc (Nat.le_refl _) _
      have OP := Lib.hid (op_is w.heap.size m (madeZ (l.take k)) d _ ((HL.out.on HBk.out).on hW) (HTk.out.on hW) (made_small _).2)
      have HW := Lib.hid hW
      have HN := Lib.hid (made_next hd)
      clear hd hW
      obtain ⟨p, t, x⟩ := d
      simp only at c0 c1 c2
      go_wp2_with fail
      refine OP.out.mono ?_
      rintro e w2 ⟨rfl, t2, g2⟩
      rw [← HN.out] at t2
      have T2 := Lib.hid t2
      have B2 := Lib.hid ((HBk.out.trans (HW.out.mono HBk.out.size)).grown g2 (Nat.le_trans HBk.out.size HW.out.size) (fun j hj => by cases hj; exact Nat.le_of_lt HM.out))
      clear t2 g2
      go_wp2_with fail
      go_roundw
      case rel => exact ⟨k + 1, by omega, by go_num, T2, B2⟩
      case measure => simp [intOf]; omega
    · have hkn : k = n := by omega
      subst hkn
      go_wp2_with fail
      go_ret
      refine ⟨rfl, m, HM.out, ?_, HBk.out⟩
      have := HTk.out
      rwa [List.take_of_length_le (by rw [HLEN.out]; exact Nat.le_refl _)] at this

end Go.Proofs.YtnnhpjpfmmlimaaDoor
