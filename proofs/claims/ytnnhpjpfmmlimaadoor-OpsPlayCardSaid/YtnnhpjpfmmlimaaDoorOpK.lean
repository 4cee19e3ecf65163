/- The operators that there are at first: as a list, and as the program's text lays them. Conditions: none. -/
import Derived.Test.YtnnhpjpfmmlimaaDoorOpJ
namespace Go.Proofs.YtnnhpjpfmmlimaaDoor
open Go Go.RowKit Go.Maps
open Go.WideMaps Go.WideElems

/-- priority, type, names -/
def firstN : List (Int × Int × List (List UInt8)) := [(1200, 1, [[58, 45], [45, 45, 62]]), (1200, 4, [[58, 45], [63, 45]]), (1150, 4, [[100, 121, 110, 97, 109, 105, 99]]), (1100, 2, [[59]]), (1050, 2, [[45, 62]]), (1000, 2, [[44]]), (900, 5, [[92, 43]]), (700, 1, [[61], [92, 61], [61, 61], [92, 61, 61], [64, 60], [64, 62], [64, 61, 60], [64, 62, 61], [61, 46, 46], [105, 115], [61, 58, 61], [61, 92, 61], [60], [62], [61, 60], [62, 61]]), (500, 3, [[43], [45], [47, 92], [92, 47], [120, 111, 114]]), (400, 3, [[42], [47], [47, 47], [114, 101, 109], [109, 111, 100], [100, 105, 118], [60, 60], [62, 62]]), (200, 1, [[42, 42]]), (200, 2, [[94]]), (200, 5, [[45], [43], [92]])]
def textsN : List (List UInt8) := [[58, 45, 32, 45, 45, 62], [58, 45, 32, 63, 45], [100, 121, 110, 97, 109, 105, 99], [59], [45, 62], [44], [92, 43], [61, 32, 92, 61, 32, 61, 61, 32, 92, 61, 61, 32, 64, 60, 32, 64, 62, 32, 64, 61, 60, 32, 64, 62, 61, 32, 61, 46, 46, 32, 105, 115, 32, 61, 58, 61, 32, 61, 92, 61, 32, 60, 32, 62, 32, 61, 60, 32, 62, 61], [43, 32, 45, 32, 47, 92, 32, 92, 47, 32, 120, 111, 114], [42, 32, 47, 32, 47, 47, 32, 114, 101, 109, 32, 109, 111, 100, 32, 100, 105, 118, 32, 60, 60, 32, 62, 62], [42, 42], [94], [45, 32, 43, 32, 92]]
def mkD (r : Int × Int × List (List UInt8)) (n : List UInt8) : Df := ⟨r.1, r.2.1, ⟨n.toArray⟩⟩
def rowD (r : Int × Int × List (List UInt8)) : List Df := r.2.2.map (mkD r)
def firstL : List Df := firstN.flatMap rowD
theorem first_len : firstL.length = 43 := by decide +kernel
theorem mk_name {r r' : Int × Int × List (List UInt8)} {n n' : List UInt8} (h : (mkD r n).name = (mkD r' n').name) : n = n' := by
  simp [mkD] at h
  exact h
/-- the same, in numbers and lists alone -/
def pairsN : List (List UInt8 × Int) := firstN.flatMap fun r => r.2.2.map fun n => (n, srt r.2.1)
theorem pairs_apart : pairsN.Pairwise (fun a b => a ≠ b) := by decide +kernel
theorem pairs_of : firstL.map (fun d => (d.name.data.toList, srt d.typ)) = pairsN := by
  unfold firstL pairsN
  rw [List.map_flatMap]
  congr 1
  funext r
  unfold rowD
  rw [List.map_map]
  rfl
theorem first_one : firstL.Pairwise fun a b => ¬ (a.name = b.name ∧ srt a.typ = srt b.typ) := by
  have h := pairs_apart
  rw [← pairs_of, List.pairwise_map] at h
  exact h.imp fun {a b} hne hh => hne (by rw [hh.1, hh.2])
theorem fitN : ∀ r ∈ firstN, (1 ≤ r.1 ∧ r.1 ≤ 1200 ∧ 1 ≤ r.2.1 ∧ r.2.1 ≤ 7) ∧ ∀ n ∈ r.2.2, n.length ≤ 1000 := by decide +kernel
theorem fit_mk {r : Int × Int × List (List UInt8)} (hr : r ∈ firstN) {n : List UInt8} (hn : n ∈ r.2.2) : FitD (mkD r n) := by
  obtain ⟨⟨h1, h2, h3, h4⟩, h5⟩ := fitN r hr
  exact ⟨h1, h2, h3, h4, by have := h5 n hn; simpa [mkD, ByteArray.size] using this⟩
theorem first_wf : Wf firstL := by
  refine ⟨first_one, fun d hd => ?_⟩
  unfold firstL rowD at hd
  rw [List.mem_flatMap] at hd
  obtain ⟨r, hr, hd⟩ := hd
  obtain ⟨n, hn, rfl⟩ := List.mem_map.1 hd
  exact fit_mk hr hn

theorem ins_fresh {L : List Df} {d : Df} (h : (L ++ [d]).Pairwise fun a b => ¬ (a.name = b.name ∧ srt a.typ = srt b.typ)) : ins L d = L ++ [d] := by
  unfold ins rmv
  congr 1
  refine List.filter_eq_self.2 fun a ha => ?_
  have := (List.pairwise_append.1 h).2.2 a ha d (List.mem_singleton_self d)
  cases hh : a.is d.name (srt d.typ)
  · rfl
  · exact absurd (is_iff.1 hh) this

/-- what there is ahead of the j-th name of the i-th row -/
def upTo (i j : Nat) : List Df := (firstN.take i).flatMap rowD ++ ((firstN[i]?.map fun r => (rowD r).take j).getD [])
theorem upTo_next {i j : Nat} {r : Int × Int × List (List UInt8)} {n : List UInt8} (hr : firstN[i]? = some r) (hn : r.2.2[j]? = some n) : ins (upTo i j) (mkD r n) = upTo i (j + 1) := by
  have e : upTo i j ++ [mkD r n] = upTo i (j + 1) := by
    unfold upTo
    rw [hr]
    have : (rowD r)[j]? = some (mkD r n) := by unfold rowD; rw [List.getElem?_map, hn]; rfl
    simp only [Option.map_some, Option.getD_some]
    rw [List.append_assoc, List.take_add_one, this]
    rfl
  rw [← e]
  refine ins_fresh ?_
  rw [e]
  have hp : upTo i (j + 1) <+: firstL := by
    unfold upTo firstL
    rw [hr]
    simp only [Option.map_some, Option.getD_some]
    have h1 : firstN = firstN.take i ++ r :: firstN.drop (i + 1) := by
      obtain ⟨hi, he⟩ := List.getElem?_eq_some_iff.1 hr
      rw [← he, ← List.drop_eq_getElem_cons hi, List.take_append_drop]
    conv => rhs; rw [h1]
    rw [List.flatMap_append, List.flatMap_cons]
    exact (List.prefix_append_right_inj _).2 ((List.take_prefix _ _).trans (List.prefix_append _ _))
  exact first_one.sublist hp.sublist
theorem upTo_row {i : Nat} {r : Int × Int × List (List UInt8)} (hr : firstN[i]? = some r) : upTo i r.2.2.length = upTo (i + 1) 0 := by
  unfold upTo
  rw [hr, List.take_add_one, hr]
  simp only [Option.map_some, Option.getD_some, Option.toList_some, List.flatMap_append, List.flatMap_singleton]
  have ht : (rowD r).take r.2.2.length = rowD r := List.take_of_length_le (by unfold rowD; simp)
  rw [ht]
  cases firstN[i + 1]? <;> simp
theorem upTo_end : upTo 13 0 = firstL := by
  unfold upTo firstL
  rw [List.take_of_length_le (by decide)]
  rfl
theorem upTo_len (i j : Nat) : (upTo i j).length ≤ 100 := by
  unfold upTo
  rw [List.length_append]
  have h1 : ((firstN.take i).flatMap rowD).length ≤ firstL.length := by
    have h : firstL = (firstN.take i).flatMap rowD ++ (firstN.drop i).flatMap rowD := by rw [← List.flatMap_append, List.take_append_drop]; rfl
    rw [h, List.length_append]
    omega
  rw [first_len] at h1
  have h2 : ((firstN[i]?.map fun r => (rowD r).take j).getD []).length ≤ 16 := by
    cases h : firstN[i]? with
    | none => simp
    | some r =>
      simp only [Option.map_some, Option.getD_some]
      have : ∀ r ∈ firstN, r.2.2.length ≤ 16 := by decide +kernel
      have := this r (List.mem_of_getElem? h)
      unfold rowD
      simp
      omega
  omega

/-! ### the program's own rows -/
def rowV (i : Nat) : List Value := match firstN[i]?, textsN[i]? with
  | some r, some t => [.int .i64 r.1, .int .i64 r.2.1, .string ⟨t.toArray⟩]
  | _, _ => []
def rowsV : List Value := (List.range 13).flatMap rowV
set_option maxRecDepth 100000 in
set_option maxHeartbeats 1600000 in
theorem first_is (w : World) : Calls Tryd.prog 27 #[] w fun e w' => e = .returned (.slice (some ⟨w.heap.size, 0, none⟩) 13 13) ∧ w' = w.alloc (.cells rowsV.toArray 59) := by
  go_enter Tryd.func27, Tryd.ntmps27
  go_wp2_with fail
  go_ret
  exact ⟨rfl, rfl⟩
theorem fields_row (i : Nat) (r : Int × Int × List (List UInt8)) (t : List UInt8) (hr : firstN[i]? = some r) (ht : textsN[i]? = some t) : Lib.fields t = r.2.2 := by
  have : ∀ p ∈ firstN.zip textsN, Lib.fields p.2 = p.1.2.2 := by decide +kernel
  refine this (r, t) ?_
  have : (firstN.zip textsN)[i]? = some (r, t) := by rw [List.getElem?_zip_eq_some]; exact ⟨hr, ht⟩
  exact List.mem_of_getElem? this
theorem texts_ascii : ∀ t ∈ textsN, t.length ≤ 100 ∧ ∀ b ∈ t, b.toNat < 128 := by decide +kernel

end Go.Proofs.YtnnhpjpfmmlimaaDoor
