/- Joined texts: OpH OpI OpJ OpK OpL. Conditions: as each states. -/
import Derived.Test.YtkplokfcjjcpcaaGreatDoorPk15
section
namespace Go.Proofs.YtkplokfcjjcpcaaGreatDoor.Ops
open Go Go.RowKit Go.Maps
open Go.WideMaps Go.WideElems
structure OpPost (w : World) (a m : Nat) (L : List Df) (d : Df) (e : Ending) (w' : World) : Prop where
  ans : e = .returned (.int .i64 (opZ L d).1)
  tab : Tb w' a m (opZ L d).2
  grown : w.grownBy w' (some m)
theorem grown_of {w w' : World} (h : Below w.heap.size w w') (r : Option Nat) : w.grownBy w' r := ⟨h.os, h.tape, h.output, h.size, fun k hk _ => h.block k hk⟩
theorem OpPost.same {w w' : World} {a m : Nat} {L : List Df} {d : Df} {e : Ending} (h : Tb w a m L) (hb : Below w.heap.size w w') (h1 : e = .returned (.int .i64 (opZ L d).1)) (h2 : (opZ L d).2 = L) : OpPost w a m L d e w' :=
  ⟨h1, by rw [h2]; exact h.on hb, grown_of hb _⟩
structure ArgOK (p t : Int) (n : ByteArray) : Prop where
  p0 : 0 ≤ p
  p1 : p ≤ 1200
  t0 : 1 ≤ t
  t1 : t ≤ 7
  n0 : n.size ≤ 1000
structure KeyIn (w W : World) (n : ByteArray) (s : Int) : Prop where
  row : W.heap[w.heap.size]? = some (.cells #[.string n, .int .i64 s] 134 (0, 0))
  below : Below w.heap.size w W
end Go.Proofs.YtkplokfcjjcpcaaGreatDoor.Ops
end
section
namespace Go.Proofs.YtkplokfcjjcpcaaGreatDoor.Ops
open Go Go.RowKit Go.Maps
open Go.WideMaps Go.WideElems
structure OpIn (w W1 : World) (a m : Nat) (L : List Df) (n : ByteArray) (s : Int) : Prop where
  box : w.alloc (.cells #[.string n, .int .i64 s] 134) = W1
  below : Below w.heap.size w W1
  tab : Tb W1 a m L
  lay : Lay rivalsL W1
  row : W1.heap[w.heap.size]? = some (.cells #[.string n, .int .i64 s] 134 (0, 0))
end Go.Proofs.YtkplokfcjjcpcaaGreatDoor.Ops
end
section
namespace Go.Proofs.YtkplokfcjjcpcaaGreatDoor.Ops
open Go Go.RowKit Go.Maps
open Go.WideMaps Go.WideElems
theorem Tb.len {w : World} {a m : Nat} {L : List Df} (h : Tb w a m L) (ty : TypeId) : (Builtin.len_ #[119] ty #[.map (some m)]).run Tryz.prog w = .ok (.int .i64 (L.length : Int)) w := by
  obtain ⟨D, ho, hr⟩ := h.own
  have := ho.len Tryz.underlying119 ty
  rwa [hr.size] at this
end Go.Proofs.YtkplokfcjjcpcaaGreatDoor.Ops
end
section
namespace Go.Proofs.YtkplokfcjjcpcaaGreatDoor.Ops
open Go Go.RowKit Go.Maps
open Go.WideMaps Go.WideElems
def firstN : List (Int × Int × List (List UInt8)) := [(1200, 1, [[58, 45], [45, 45, 62]]), (1200, 4, [[58, 45], [63, 45]]), (1150, 4, [[100, 121, 110, 97, 109, 105, 99]]), (1100, 2, [[59]]), (1050, 2, [[45, 62]]), (1000, 2, [[44]]), (900, 5, [[92, 43]]), (700, 1, [[61], [92, 61], [61, 61], [92, 61, 61], [64, 60], [64, 62], [64, 61, 60], [64, 62, 61], [61, 46, 46], [105, 115], [61, 58, 61], [61, 92, 61], [60], [62], [61, 60], [62, 61]]), (500, 3, [[43], [45], [47, 92], [92, 47], [120, 111, 114]]), (400, 3, [[42], [47], [47, 47], [114, 101, 109], [109, 111, 100], [100, 105, 118], [60, 60], [62, 62]]), (200, 1, [[42, 42]]), (200, 2, [[94]]), (200, 5, [[45], [43], [92]])]
def textsN : List (List UInt8) := [[58, 45, 32, 45, 45, 62], [58, 45, 32, 63, 45], [100, 121, 110, 97, 109, 105, 99], [59], [45, 62], [44], [92, 43], [61, 32, 92, 61, 32, 61, 61, 32, 92, 61, 61, 32, 64, 60, 32, 64, 62, 32, 64, 61, 60, 32, 64, 62, 61, 32, 61, 46, 46, 32, 105, 115, 32, 61, 58, 61, 32, 61, 92, 61, 32, 60, 32, 62, 32, 61, 60, 32, 62, 61], [43, 32, 45, 32, 47, 92, 32, 92, 47, 32, 120, 111, 114], [42, 32, 47, 32, 47, 47, 32, 114, 101, 109, 32, 109, 111, 100, 32, 100, 105, 118, 32, 60, 60, 32, 62, 62], [42, 42], [94], [45, 32, 43, 32, 92]]
def mkD (r : Int × Int × List (List UInt8)) (n : List UInt8) : Df := ⟨r.1, r.2.1, ⟨n.toArray⟩⟩
def rowD (r : Int × Int × List (List UInt8)) : List Df := r.2.2.map (mkD r)
def firstL : List Df := firstN.flatMap rowD
theorem first_len : firstL.length = 43 := by decide +kernel
def pairsN : List (List UInt8 × Int) := firstN.flatMap fun r => r.2.2.map fun n => (n, srt r.2.1)
theorem pairs_apart : pairsN.Pairwise (fun a b => a ≠ b) := by decide +kernel
theorem pairs_of : firstL.map (fun d => (d.name.data.toList, srt d.typ)) = pairsN := by
  unfold firstL pairsN
  rw [List.map_flatMap]
  congr 1
  funext r
  unfold rowD
  rw [List.map_map]
  rfl
theorem first_one : firstL.Pairwise fun a b => ¬ (a.name = b.name ∧ srt a.typ = srt b.typ) := by
  have h := pairs_apart
  rw [← pairs_of, List.pairwise_map] at h
  exact h.imp fun {a b} hne hh => hne (by rw [hh.1, hh.2])
theorem fitN : ∀ r ∈ firstN, (1 ≤ r.1 ∧ r.1 ≤ 1200 ∧ 1 ≤ r.2.1 ∧ r.2.1 ≤ 7) ∧ ∀ n ∈ r.2.2, n.length ≤ 1000 := by decide +kernel
theorem fit_mk {r : Int × Int × List (List UInt8)} (hr : r ∈ firstN) {n : List UInt8} (hn : n ∈ r.2.2) : FitD (mkD r n) := by
  obtain ⟨⟨h1, h2, h3, h4⟩, h5⟩ := fitN r hr
  exact ⟨h1, h2, h3, h4, by have := h5 n hn; simpa [mkD, ByteArray.size] using this⟩
theorem ins_fresh {L : List Df} {d : Df} (h : (L ++ [d]).Pairwise fun a b => ¬ (a.name = b.name ∧ srt a.typ = srt b.typ)) : ins L d = L ++ [d] := by
  unfold ins rmv
  congr 1
  refine List.filter_eq_self.2 fun a ha => ?_
  have := (List.pairwise_append.1 h).2.2 a ha d (List.mem_singleton_self d)
  cases hh : a.is d.name (srt d.typ)
  · rfl
  · exact absurd (is_iff.1 hh) this
def upTo (i j : Nat) : List Df := (firstN.take i).flatMap rowD ++ ((firstN[i]?.map fun r => (rowD r).take j).getD [])
theorem upTo_next {i j : Nat} {r : Int × Int × List (List UInt8)} {n : List UInt8} (hr : firstN[i]? = some r) (hn : r.2.2[j]? = some n) : ins (upTo i j) (mkD r n) = upTo i (j + 1) := by
  have e : upTo i j ++ [mkD r n] = upTo i (j + 1) := by
    unfold upTo
    rw [hr]
    have : (rowD r)[j]? = some (mkD r n) := by unfold rowD; rw [List.getElem?_map, hn]; rfl
    simp only [Option.map_some, Option.getD_some]
    rw [List.append_assoc, List.take_add_one, this]
    rfl
  rw [← e]
  refine ins_fresh ?_
  rw [e]
  have hp : upTo i (j + 1) <+: firstL := by
    unfold upTo firstL
    rw [hr]
    simp only [Option.map_some, Option.getD_some]
    have h1 : firstN = firstN.take i ++ r :: firstN.drop (i + 1) := by
      obtain ⟨hi, he⟩ := List.getElem?_eq_some_iff.1 hr
      rw [← he, ← List.drop_eq_getElem_cons hi, List.take_append_drop]
    conv => rhs; rw [h1]
    rw [List.flatMap_append, List.flatMap_cons]
    exact (List.prefix_append_right_inj _).2 ((List.take_prefix _ _).trans (List.prefix_append _ _))
  exact first_one.sublist hp.sublist
theorem upTo_row {i : Nat} {r : Int × Int × List (List UInt8)} (hr : firstN[i]? = some r) : upTo i r.2.2.length = upTo (i + 1) 0 := by
  unfold upTo
  rw [hr, List.take_add_one, hr]
  simp only [Option.map_some, Option.getD_some, Option.toList_some, List.flatMap_append, List.flatMap_singleton]
  have ht : (rowD r).take r.2.2.length = rowD r := List.take_of_length_le (by unfold rowD; simp)
  rw [ht]
  cases firstN[i + 1]? <;> simp
theorem upTo_end : upTo 13 0 = firstL := by
  unfold upTo firstL
  rw [List.take_of_length_le (by decide)]
  rfl
theorem upTo_len (i j : Nat) : (upTo i j).length ≤ 100 := by
  unfold upTo
  rw [List.length_append]
  have h1 : ((firstN.take i).flatMap rowD).length ≤ firstL.length := by
    have h : firstL = (firstN.take i).flatMap rowD ++ (firstN.drop i).flatMap rowD := by rw [← List.flatMap_append, List.take_append_drop]; rfl
    rw [h, List.length_append]
    omega
  rw [first_len] at h1
  have h2 : ((firstN[i]?.map fun r => (rowD r).take j).getD []).length ≤ 16 := by
    cases h : firstN[i]? with
    | none => simp
    | some r =>
      simp only [Option.map_some, Option.getD_some]
      have : ∀ r ∈ firstN, r.2.2.length ≤ 16 := by decide +kernel
      have := this r (List.mem_of_getElem? h)
      unfold rowD
      simp
      omega
  omega
def rowV (i : Nat) : List Value := match firstN[i]?, textsN[i]? with
  | some r, some t => [.int .i64 r.1, .int .i64 r.2.1, .string ⟨t.toArray⟩]
  | _, _ => []
def rowsV : List Value := (List.range 13).flatMap rowV
set_option maxRecDepth 100000 in
set_option maxHeartbeats 1600000 in
theorem first_is (w : World) : Calls Tryz.prog 57 #[] w fun e w' => e = .returned (.slice (some ⟨w.heap.size, 0, none⟩) 13 13) ∧ w' = w.alloc (.cells rowsV.toArray 125) := by
  go_enter Tryz.func57, Tryz.ntmps57
  go_wp2_with fail
  go_ret
  exact ⟨rfl, rfl⟩
theorem fields_row (i : Nat) (r : Int × Int × List (List UInt8)) (t : List UInt8) (hr : firstN[i]? = some r) (ht : textsN[i]? = some t) : Lib.fields t = r.2.2 := by
  have : ∀ p ∈ firstN.zip textsN, Lib.fields p.2 = p.1.2.2 := by decide +kernel
  refine this (r, t) ?_
  have : (firstN.zip textsN)[i]? = some (r, t) := by rw [List.getElem?_zip_eq_some]; exact ⟨hr, ht⟩
  exact List.mem_of_getElem? this
theorem texts_ascii : ∀ t ∈ textsN, t.length ≤ 100 ∧ ∀ b ∈ t, b.toNat < 128 := by decide +kernel
end Go.Proofs.YtkplokfcjjcpcaaGreatDoor.Ops
end
section
namespace Go.Proofs.YtkplokfcjjcpcaaGreatDoor.Ops
open Go Go.RowKit Go.Maps
open Go.WideMaps Go.WideElems
variable {RV : List Value}
structure NewSt (w0 w : World) (L : List Df) : Prop where
  low : Below w0.heap.size w0 w
  tab : (L = [] ∧ w.heap[w0.heap.size]? = some (.cells #[.map none] 121 (0, 0))) ∨ ∃ m, w0.heap.size < m ∧ Tb w w0.heap.size m L
def KeepC (A : Nat) (w w' : World) : Prop := ∀ b cs T fr, b ≠ A → w.heap[b]? = some (.cells cs T fr) → w'.heap[b]? = some (.cells cs T fr)
theorem KeepC.refl (A : Nat) (w : World) : KeepC A w w := fun _ _ _ _ _ h => h
theorem KeepC.trans {A : Nat} {a b c : World} (h : KeepC A a b) (k : KeepC A b c) : KeepC A a c := fun i cs T fr hi hh => k i cs T fr hi (h i cs T fr hi hh)
theorem KeepC.of {A : Nat} {w w' : World} (h : Below w.heap.size w w') : KeepC A w w' := fun i _ _ _ _ hh => (h.block i (heap_lt hh)).trans hh
theorem NewSt.on {w0 w w' : World} {L : List Df} (h : NewSt w0 w L) (b : Below w.heap.size w w') : NewSt w0 w' L := by
  refine ⟨h.low.trans (b.mono h.low.size), ?_⟩
  rcases h.tab with ⟨h1, h2⟩ | ⟨m, h1, h2⟩
  · exact .inl ⟨h1, (b.block _ (heap_lt h2)).trans h2⟩
  · exact .inr ⟨m, h1, h2.on b⟩
theorem put_st {w0 w : World} {L : List Df} {d : Df} (hl : Lay RV w0) (h : NewSt w0 w L) (hd : FitD d) (hL : L.length ≤ 300) :
    Calls Tryz.prog 59 #[.pointer (some ⟨w0.heap.size, 0, none⟩), .agg #[.int .i64 d.pri, .int .i64 d.typ, .string d.name]] w fun e w' => e = .returned (.tuple #[]) ∧ NewSt w0 w' (ins L d) ∧ KeepC w0.heap.size w w' := by
  have hl' := hl.from h.low hl.low
  rcases h.tab with ⟨rfl, h2⟩ | ⟨m, h1, h2⟩
  · refine (put_nil w0.heap.size d w hl' hl.low h2 hd).mono ?_
    rintro e w' ⟨rfl, m, ht, hm, hg⟩
    have hlt := heap_lt h2
    refine ⟨rfl, ⟨h.low.grown hg h.low.size (fun k hk => by cases hk; omega), .inr ⟨m, by omega, ht⟩⟩, fun i cs T fr hi hh => ?_⟩
    exact (hg.block i (heap_lt hh) (by simpa using hi)).trans hh
  · refine (put_is w0.heap.size m L d w hl' h2 hd hL).mono ?_
    rintro e w' ⟨rfl, ht, hg⟩
    refine ⟨rfl, ⟨h.low.grown hg h.low.size (fun k hk => by cases hk; omega), .inr ⟨m, h1, ht⟩⟩, fun i cs T fr hi hh => ?_⟩
    refine (hg.block i (heap_lt hh) ?_).trans hh
    intro he
    cases he
    obtain ⟨D, ⟨es, cl, hb, _⟩, _⟩ := h2.own
    rw [hb] at hh
    cases hh
theorem row_at {w : World} {B i : Nat} {r : Int × Int × List (List UInt8)} {t : List UInt8} (h : w.heap[B]? = some (.cells rowsV.toArray 125 (0, 0))) (hi : i < 13) (hr : firstN[i]? = some r) (ht : textsN[i]? = some t) :
    w.cell? ⟨B, i * 3, none⟩ = some (.int .i64 r.1) ∧ w.cell? ⟨B, i * 3 + 1, none⟩ = some (.int .i64 r.2.1) ∧ w.cell? ⟨B, i * 3 + 2, none⟩ = some (.string ⟨t.toArray⟩) := by
  have h0 : ∀ i, i < 13 → ∀ r t, firstN[i]? = some r → textsN[i]? = some t → rowsV[i * 3]? = some (.int .i64 r.1) ∧ rowsV[i * 3 + 1]? = some (.int .i64 r.2.1) ∧ rowsV[i * 3 + 2]? = some (.string ⟨t.toArray⟩) := by
    intro i hi r t hr ht
    obtain rfl | rfl | rfl | rfl | rfl | rfl | rfl | rfl | rfl | rfl | rfl | rfl | rfl : i = 0 ∨ i = 1 ∨ i = 2 ∨ i = 3 ∨ i = 4 ∨ i = 5 ∨ i = 6 ∨ i = 7 ∨ i = 8 ∨ i = 9 ∨ i = 10 ∨ i = 11 ∨ i = 12 := by omega
    all_goals
      cases hr
      cases ht
      exact ⟨rfl, rfl, rfl⟩
  obtain ⟨h1, h2, h3⟩ := h0 i hi r t hr ht
  exact ⟨cell_of_heap h (by simpa using h1), cell_of_heap h (by simpa using h2), cell_of_heap h (by simpa using h3)⟩
set_option maxRecDepth 100000 in
set_option maxHeartbeats 3200000 in
theorem new_is (w : World) (hl : Lay RV w) :
    Calls Tryz.prog 22 #[] w fun e w' => e = .returned (.pointer (some ⟨w.heap.size, 0, none⟩)) ∧ ∃ m, w.heap.size < m ∧ Tb w' w.heap.size m firstL ∧ Below w.heap.size w w' := by
  have HL := Lib.hid hl
  have hS0 : NewSt w (w.alloc (.cells #[.map none] 121)) [] := ⟨(Below.refl _ _).alloc (Nat.le_refl _) _, .inl ⟨rfl, new_at _ _ rfl⟩⟩
  have hz : (w.alloc (.cells #[.map none] 121)).heap.size = w.heap.size + 1 := by simp
  have hS := hS0.on ((Below.refl _ _).alloc (Nat.le_refl _) (.cells rowsV.toArray 125))
  have hR : ((w.alloc (.cells #[.map none] 121)).alloc (.cells rowsV.toArray 125)).heap[w.heap.size + 1]? = some (.cells rowsV.toArray 125 (0, 0)) := new_at _ _ hz
  obtain ⟨W1, hW1⟩ : ∃ W1, (w.alloc (.cells #[.map none] 121)).alloc (.cells rowsV.toArray 125) = W1 := ⟨_, rfl⟩
  rw [hW1] at hS hR
  have HS := Lib.hid hS
  have HR := Lib.hid hR
  have HW1 := Lib.hid hW1
  clear hl hS0 hz hS hR hW1
  go_enter Tryz.func22, Tryz.ntmps22
  go_wp2_with fail
  refine (first_is _).mono ?_
  rintro e w' ⟨rfl, rfl⟩
  go_wp2_with fail
  rw [HW1.out]
  go_loopw [10] (fun v wr => ∃ k : Nat, k ≤ 13 ∧ v = .int .i64 k ∧ Hid (NewSt w wr (upTo k 0)) ∧ Hid (wr.heap[w.heap.size + 1]? = some (.cells rowsV.toArray 125 (0, 0)))) (fun v _ => 13 - (intOf v).toNat)
  case atStart => exact ⟨0, by omega, rfl, HS, HR⟩
  case round =>
    obtain ⟨k, hk, rfl, HSk, HRk⟩ := hrel
    rename World => V
    by_cases hlt : k < 13
    · obtain ⟨r, hr⟩ : ∃ r, firstN[k]? = some r := ⟨_, List.getElem?_eq_getElem (by exact hlt)⟩
      obtain ⟨t, ht⟩ : ∃ t, textsN[k]? = some t := ⟨_, List.getElem?_eq_getElem (by exact hlt)⟩
      obtain ⟨c0, c1, c2⟩ := row_at HRk.out hlt hr ht
      have hin : r ∈ firstN := List.mem_of_getElem? hr
      have hta := texts_ascii t (List.mem_of_getElem? ht)
      have hF := fields_row k r t hr ht
      have hUp := fun j n (hn : r.2.2[j]? = some n) => upTo_next hr hn
      have hRow := upTo_row hr
      have hfit := fun n (hn : n ∈ r.2.2) => fit_mk hin hn
      obtain ⟨p, q, ns⟩ := r
      simp only at c0 c1 hF hRow hfit hUp
      obtain ⟨S, hS⟩ : ∃ S : ByteArray, (⟨t.toArray⟩ : ByteArray) = S := ⟨_, rfl⟩
      have hSl : S.data.toList = t := by rw [← hS]
      rw [hS] at c2
      have FLD : ∀ W, Lay RV W → Calls Tryz.prog 58 #[.string S] W fun e w' => e = .returned (.slice (some ⟨W.heap.size, 0, none⟩) ns.length ns.length) ∧ w' = W.alloc (.cells (ns.map fun l => Value.string ⟨l.toArray⟩).toArray 9) := fun W hW => by
        have h := Any.strings_Fields_core Tryz.lays157 (by kernel_rfl) S W (by rw [Lib.size_eq, hSl]; omega) (by intro j b hb; rw [hSl] at hb; exact hta.2 b (List.mem_of_getElem? hb)) hW.sp
        rw [hSl, hF] at h
        exact h
      have HFLD := Lib.hid FLD
      have hz := HSk.out.low.size
      have LW := Lib.hid (HL.out.from HSk.out.low HL.out.low)
      have k1 : Below V.heap.size V (V.alloc (.cells #[.int .i64 p, .int .i64 q, .string S] 125)) := (Below.refl _ _).alloc (Nat.le_refl _) _
      have L1 := Lib.hid (LW.out.on k1)
      have N1 : (V.alloc (.cells #[.int .i64 p, .int .i64 q, .string S] 125)).heap[V.heap.size]? = some (.cells #[.int .i64 p, .int .i64 q, .string S] 125 (0, 0)) := new_at _ _ rfl
      have S1 := HSk.out.on k1
      have R1 := (k1.block _ (heap_lt HRk.out)).trans HRk.out
      obtain ⟨X, hX⟩ : ∃ X, V.alloc (.cells #[.int .i64 p, .int .i64 q, .string S] 125) = X := ⟨_, rfl⟩
      rw [hX] at k1 N1 S1 R1 L1
      have HX := Lib.hid hX
      have k2 : Below X.heap.size X (X.alloc (.cells (ns.map fun l => Value.string ⟨l.toArray⟩).toArray 9)) := (Below.refl _ _).alloc (Nat.le_refl _) _
      have F2 : (X.alloc (.cells (ns.map fun l => Value.string ⟨l.toArray⟩).toArray 9)).heap[X.heap.size]? = some (.cells (ns.map fun l => Value.string ⟨l.toArray⟩).toArray 9 (0, 0)) := new_at _ _ rfl
      have S2 := Lib.hid (S1.on k2)
      have N2 := Lib.hid ((k2.block _ (heap_lt N1)).trans N1)
      have R2 := Lib.hid ((k2.block _ (heap_lt R1)).trans R1)
      have F2' := Lib.hid F2
      have hXA : w.heap.size + 1 < V.heap.size := heap_lt HRk.out
      have hXX : V.heap.size < X.heap.size := heap_lt N1
      obtain ⟨Y, hY⟩ : ∃ Y, X.alloc (.cells (ns.map fun l => Value.string ⟨l.toArray⟩).toArray 9) = Y := ⟨_, rfl⟩
      rw [hY] at S2 N2 R2 F2'
      have HY := Lib.hid hY
      have HUP := Lib.hid hUp
      have HROW := Lib.hid hRow
      have HFIT := Lib.hid hfit
      have i0 : (0 : Int) ≤ (k : Int) := by omega
      have i1 : (k : Int) < 13 := by omega
      have hns : ns.length ≤ 16 := by
        have : ∀ r ∈ firstN, r.2.2.length ≤ 16 := by decide +kernel
        exact this (p, q, ns) hin
      obtain ⟨nl, hnl⟩ : ∃ nl, ns.length = nl := ⟨_, rfl⟩
      rw [hnl] at HFLD hns HROW
      have HNL := Lib.hid hnl
      clear hr ht hin hta hF hUp hRow hfit hS hSl FLD k1 N1 S1 R1 hX k2 F2 hY hnl hz
      go_wp2_with fail
      rw [HX.out]
      refine (HFLD.out _ L1.out).mono ?_
      rintro e w' ⟨rfl, rfl⟩
      go_wp2_with fail
      rw [HY.out]
      go_loopw [18] (fun v wr => ∃ j : Nat, j ≤ nl ∧ v = .int .i64 j ∧ Hid (NewSt w wr (upTo k j)) ∧ Hid (wr.heap[w.heap.size + 1]? = some (.cells rowsV.toArray 125 (0, 0))) ∧ Hid (wr.heap[V.heap.size]? = some (.cells #[.int .i64 p, .int .i64 q, .string S] 125 (0, 0))) ∧ Hid (wr.heap[X.heap.size]? = some (.cells (ns.map fun l => Value.string ⟨l.toArray⟩).toArray 9 (0, 0)))) (fun v _ => nl - (intOf v).toNat)
      case atStart => exact ⟨0, by omega, rfl, S2, R2, N2, F2'⟩
      case round =>
        obtain ⟨j, hj, rfl, HSj, HRj, HNj, HFj⟩ := hrel
        by_cases hjl : j < nl
        · obtain ⟨n, hn⟩ : ∃ n, ns[j]? = some n := ⟨_, List.getElem?_eq_getElem (by rw [HNL.out]; exact hjl)⟩
          obtain ⟨c0, c1, _, _, _, _⟩ := (Three.mk HNj.out).facts
          obtain ⟨sn, hsn⟩ : ∃ s : ByteArray, (⟨n.toArray⟩ : ByteArray) = s := ⟨_, rfl⟩
          have f0 : wr.cell? ⟨X.heap.size, j, none⟩ = some (.string sn) := by
            refine cell_of_heap HFj.out ?_
            simp [hn, hsn]
          have HP := Lib.hid (put_st (d := ⟨p, q, sn⟩) HL.out HSj.out (by have := HFIT.out n (List.mem_of_getElem? hn); unfold mkD at this; rw [hsn] at this; exact this) (Nat.le_trans (upTo_len k j) (by decide)))
          have hnext := HUP.out j n hn
          unfold mkD at hnext
          simp only at hnext
          rw [hsn] at hnext
          rw [hnext] at HP
          have j0 : (0 : Int) ≤ (j : Int) := by omega
          have j1 : (j : Int) < (nl : Int) := by omega
          have HNE := Lib.hid (show w.heap.size + 1 ≠ w.heap.size ∧ V.heap.size ≠ w.heap.size ∧ X.heap.size ≠ w.heap.size by omega)
          clear hn hsn hnext
          go_wp2_with fail
          refine HP.out.mono ?_
          rintro e w' ⟨rfl, st, kc⟩
          have ST := Lib.hid st
          have K1 := Lib.hid (kc _ _ _ _ HNE.out.1 HRj.out)
          have K2 := Lib.hid (kc _ _ _ _ HNE.out.2.1 HNj.out)
          have K3 := Lib.hid (kc _ _ _ _ HNE.out.2.2 HFj.out)
          clear st kc HP
          go_wp2_with fail
          go_roundw
          case rel => exact ⟨j + 1, by omega, by go_num, ST, K1, K2, K3⟩
          case measure => simp [intOf]; omega
        · have hjn : j = nl := by omega
          subst hjn
          go_wp2_with fail
          go_roundw
          case rel => exact ⟨k + 1, by omega, by go_num, by rw [← HROW.out]; exact HSj, HRj⟩
          case measure => simp [intOf]; omega
    · have hk13 : k = 13 := by omega
      subst hk13
      have HT := Lib.hid HSk.out.tab
      have HB := Lib.hid HSk.out.low
      go_wp2_with fail
      go_ret
      rcases HT.out with ⟨h0, _⟩ | ⟨m, h1, h2⟩
      · exact absurd h0 (by rw [upTo_end]; decide)
      · exact ⟨rfl, m, h1, by rw [← upTo_end]; exact h2, HB.out⟩
end Go.Proofs.YtkplokfcjjcpcaaGreatDoor.Ops
end
