/- Joined texts: ReadBehindL. Conditions: as each states. -/
import Derived.Test.YtkplokfcjjcpcaaGreatDoorQk39
import Derived.Test.YtkplokfcjjcpcaaGreatDoorQk35
namespace Go.Proofs.YtkplokfcjjcpcaaGreatDoor
open Go Go.ChangeShapes Go.WideShapes Go.ChangeAt Go.WideMaps Go.WideElems Go.RowKit Go.Deep Go.Joins
open Go.ChangeMaps (open_string shut_string)
theorem cells_behind : Tryz.prog.cellsOf 52 = 5 := by kernel_rfl
set_option maxRecDepth 100000 in
theorem open_behind {H : Type} {enc : TypeId × Value → H} {W : World} {base : Nat} {v : Value} {d : DataW H} {p : List MemPlace} (hv : Value.okWide Tryz.prog W .any base 52 v) (h : DataW.Trod enc Tryz.prog W 0 (fun _ => true) true 52 v d p) :
    ∃ (A B : ByteArray) (nm T P : Nat), v = .agg #[.string A, .string B, .int .u8 nm, .int .u8 T, .int .u16 P] ∧ nm ≤ 255 ∧ T ≤ 255 ∧ P ≤ 65535 := by
  obtain ⟨cs, rfl, hsz⟩ := okWide_struct Tryz.underlying52 hv
  rw [cells_behind] at hsz
  obtain ⟨l⟩ := cs
  obtain ⟨fuel, hf⟩ := h
  match l, hsz with
  | [c0, c1, c2, c3, c4], _ =>
    obtain ⟨xs, n, _, _, _, hlen, hx⟩ := DataW.trod_struct Tryz.underlying52 hf
    match xs, hlen with
    | [y0, y1, y2, y3, y4], _ =>
      have h0 := hx 0 _ rfl
      have h1 := hx 1 _ rfl
      have h2 := hx 2 _ rfl
      have h3 := hx 3 _ rfl
      have h4 := hx 4 _ rfl
      have e0 : Tryz.prog.cellsOf 9 = 1 := by kernel_rfl
      have e1 : Tryz.prog.cellsOf 5 = 1 := by kernel_rfl
      have e2 : Tryz.prog.cellsOf 50 = 1 := by kernel_rfl
      simp [Value.cells, e0, e1, e2] at h0 h1 h2 h3 h4
      obtain ⟨A, a0, _, _⟩ := DataW.trod_string Tryz.underlying9 h0
      obtain ⟨B, a1, _, _⟩ := DataW.trod_string Tryz.underlying9 h1
      obtain ⟨k2, a2, _, hk2⟩ := DataW.trod_int Tryz.underlying5 h2
      obtain ⟨k3, a3, _, hk3⟩ := DataW.trod_int Tryz.underlying5 h3
      obtain ⟨k4, a4, _, hk4⟩ := DataW.trod_int Tryz.underlying50 h4
      simp at a0 a1 a2 a3 a4
      subst a0 a1 a2 a3 a4
      have b2 := bounds_u8 hk2
      have b3 := bounds_u8 hk3
      have b4 := bounds_u16 hk4
      refine ⟨A, B, k2.toNat, k3.toNat, k4.toNat, ?_, by omega, by omega, by omega⟩
      rw [show (k2.toNat : Int) = k2 by omega, show (k3.toNat : Int) = k3 by omega, show (k4.toNat : Int) = k4 by omega]
theorem behind_walk (A B : ByteArray) (nm T P : Nat) (w : World) (ht : LayA w ∧ Ops.Lay Ops.rivalsL w) (hn : nm ≤ 255) (hT : T ≤ 255) (hP : P ≤ 65535) :
    Calls Tryz.prog 4 #[.agg #[.string A, .string B, .int .u8 nm, .int .u8 T, .int .u16 P]] w fun e w' => e = .returned (.bool true) ∧ Below w.heap.size w w' := by
  by_cases h1 : A.size ≤ 800
  · by_cases h2 : B.size ≤ 800
    · exact behind_near A B nm T P w ht.1 ht.2 h1 h2 hn hT hP
    · exact behind_far A B nm T P w ht.1 (.inr (by omega))
  · exact behind_far A B nm T P w ht.1 (.inl (by omega))
set_option maxRecDepth 100000 in
set_option linter.unusedVariables false in
theorem readBehind_lifted (os : Os) (started : os.Started) (H : Type) (enc : TypeId × Value → H) :
    ReturnsInHanded {} Tryz.checked os 4 .any (fun w args => (Rows.readBehindSpec.pre enc Tryz.prog Tryz.f4 [] false w args ∧ laidMetH Tryz.prog laid9 w) ∧ sizedMet enc Tryz.prog Tryz.f4 (OpenSpec.ofChange Rows.readBehindSpec) false w args)
      (Rows.readBehindSpec.post enc Tryz.prog Tryz.f4 false true false false) := by
  refine lift_shaped (C := Tryz.checked) (X := fun w _ => laidMetH Tryz.prog laid9 w) (fun _ _ _ hh h => h.of_heap hh) own started (by kernel_rfl) Tryz.func4
    (ChangeSpec.witness_shaped (enc := enc) (C := Tryz.checked) (os := os) (X := fun w _ => laidMetH Tryz.prog laid9 w) false (World.doorLaid Tryz.prog 103 os) #[.agg #[.string ByteArray.empty, .string ByteArray.empty, .int .u8 0, .int .u8 0, .int .u16 0]] 8 rfl (World.shaped_of_RefB (by kernel_rfl) (by kernel_rfl)) (by kernel_rfl) (by kernel_rfl) (by kernel_rfl) (door_met9 os _)) ?_
  intro W base args ds gs before hval0 hW hL hS
  have hval : ∀ (j : Nat) t v, Tryz.f4.params[j]? = some t → args[j]? = some v → Value.okWide Tryz.prog W .any base t v := hval0
  have hW' := hW
  obtain ⟨p, q, hA0, hV, rfl, hfz, hnd⟩ := hW
  have hA : DataW.TrodAll enc Tryz.prog W 0 (fun _ => true) true Tryz.f4.params.toList args.toList ds p := hA0
  rw [Tryz.params4] at hA hval
  obtain ⟨v0, vs0, d0, ds0, p0, q0, hargs, rfl, rfl, h0, r0⟩ := trodAll_cons hA
  obtain ⟨rfl, rfl, rfl⟩ := trodAll_nil r0
  obtain rfl : args = #[v0] := by cases args; simp_all
  obtain ⟨rfl, rfl⟩ := trodVars_none hV
  obtain ⟨A, B, nm, T, P, rfl, hn, hT, hP⟩ := open_behind (hval 0 52 v0 rfl rfl) h0
  clear hA0 hval0
  simp only [List.append_nil] at hW'
  have hlt : ∀ x ∈ p0, x.block < W.heap.size := fun x hx => by simpa using hW'.lt x (by simp [hx])
  refine (behind_walk A B nm T P W (lay9_of hL hS) hn hT hP).mono fun e W' ⟨he, hg⟩ => ?_
  subst he
  have t0 := Below.trod Ops.laidOut (by kernel_rfl) (of_decide_eq_true (by kernel_rfl)) h0 hg hlt
  exact ⟨_, rfl, _, _, _, [], _, [], hW', (trodAll_cons_mk (shut_bool Tryz.underlying4 _) trodAll_mk0), (trodAll_cons_mk t0 trodAll_mk0), rfl, hg.frame _, fun h => by cases h⟩
end Go.Proofs.YtkplokfcjjcpcaaGreatDoor
