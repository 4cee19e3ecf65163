/- Joined texts: NameG NameH NameI NameJ NameK. Conditions: as each states. -/
import Derived.Test.YtkplokfcjjcpcaaGreatDoorPk02
import Derived.Test.YtkplokfcjjcpcaaGreatDoorPk01
import Derived.Lib.AppendIntMem
import Derived.Lib.OwnKind
import Derived.OwnWalk
import Derived.LoopN
import Derived.BigCall
import Derived.BigGuard
import Derived.CellFam
import Derived.Maps.OwnOps
import Derived.Maps.OwnSet
import Derived.Maps.AppendAt
import Derived.Laws.IdiomStrings
import Derived.Laws.BytesArg
import Derived.Laws.AppendOwnNone
import Derived.Laws.Rows
import Derived.Lib.IndexBytes
import Derived.Deep.QuietTactic
import Derived.BigQuiet
section
namespace Go.Proofs.YtkplokfcjjcpcaaGreatDoor
open Go Go.RowKit
set_option maxHeartbeats 400000 in
theorem tz_is (w : World) (htab : w.cell? ⟨7, 15, none⟩ = some (.int .u8 4)) :
    Calls Tryz.prog 234 #[.int .u64 16] w fun e w' => e = .returned (.int .i64 4) ∧ w' = w := by
  have key : IntKind.u64.wrap (bits BinOp.and IntKind.u64 16 (IntKind.u64.wrap (-16)) * 285870213051353865) / 288230376151711744 = 15 := by decide +kernel
  go_enter Tryz.func234, Tryz.ntmps234
  go_wp2_with fail
  go_ret
  exact ⟨rfl, rfl⟩
set_option maxHeartbeats 400000 in
theorem tz2_is (w : World) (htab : w.cell? ⟨7, 15, none⟩ = some (.int .u8 4)) :
    Calls Tryz.prog 203 #[.int .u64 16] w fun e w' => e = .returned (.int .i64 4) ∧ w' = w := by
  go_enter Tryz.func203, Tryz.ntmps203
  go_wp2_with fail
  refine (tz_is _ htab).mono ?_
  rintro e w1 ⟨rfl, rfl⟩
  go_wp2_with fail
  go_ret
  exact ⟨rfl, rfl⟩
set_option maxHeartbeats 400000 in
theorem pow_is (w : World) :
    Calls Tryz.prog 202 #[.int .i64 16] w fun e w' => e = .returned (.bool true) ∧ w' = w := by
  go_enter Tryz.func202, Tryz.ntmps202
  go_wp2_with fail
  go_ret
  exact ⟨rfl, rfl⟩
def hexd (k : Nat) : UInt8 := #[48, 49, 50, 51, 52, 53, 54, 55, 56, 57, 97, 98, 99, 100, 101, 102].getD k 0
def hexL (u : Nat) : List UInt8 := if u < 16 then [hexd u] else [hexd (u / 16), hexd (u % 16)]
theorem hexd_at : ∀ k : Fin 16, (ByteArray.mk #[48, 49, 50, 51, 52, 53, 54, 55, 56, 57, 97, 98, 99, 100, 101, 102, 103, 104, 105, 106, 107, 108, 109, 110, 111, 112, 113, 114, 115, 116, 117, 118, 119, 120, 121, 122])[k.val]'(by have := k.isLt; show k.val < 36; omega) = hexd k.val := by decide +kernel
theorem byteInfo : (Tryz.prog.info? 5).map (fun i => (i.zero, i.size, i.bytes)) = some (some (.int .u8 0), 1, 1) := by kernel_rfl
abbrev bc (l : List UInt8) : List Value := l.map fun b => Value.int .u8 (b.toNat : Int)
set_option maxHeartbeats 800000 in
theorem format_low (B n u : Nat) (hu : u < 16) (sv : Value) (xs : List Value) (w : World) (hown : w.ownsRow B 5 1 sv n xs) (hBw : B ≤ w.heap.size) (hlim : n ≤ 100000)
    (htab : w.cell? ⟨7, 15, none⟩ = some (.int .u8 4)) (hg : 7 < w.heap.size) :
    Calls Tryz.prog 162 #[sv, .int .u64 u, .int .i64 16, .bool false, .bool true] w fun e w' => ∃ v', e = .returned (.tuple #[v', .string ⟨#[]⟩]) ∧ w'.ownsRow B 5 1 v' (n + 1) (xs ++ bc [hexd u]) ∧ Below B w w' := by
  have T := Lib.hid (fun (w1 : World) (h : w1.cell? ⟨7, 15, none⟩ = some (.int .u8 4)) => tz2_is w1 h)
  have hd := hexd_at ⟨u, hu⟩
  simp only at hd
  obtain ⟨D, hD⟩ : ∃ D, hexd u = D := ⟨_, rfl⟩
  rw [hD] at hd ⊢
  clear hD
  have hu' : (u : Int) < 16 := by omega
  have hd' : decide (16 ≤ (u : Int)) = false := by simp; omega
  obtain ⟨i0, hi, hz0, hz1, hz2⟩ := info_parts byteInfo
  have HOWN := Lib.hid hown
  clear hown
  go_enter Tryz.func162, Tryz.ntmps162
  go_wp2_with fail
  refine (pow_is _).mono ?_
  rintro e w1 ⟨rfl, rfl⟩
  go_wp2_with fail
  refine (T.out _ ?_).mono ?_
  · go_simp
  rintro e w1 ⟨rfl, rfl⟩
  clear T htab hg
  go_wp2_with fail
  refine wp_loop_rounds 1 ?_
  rw [rounds_succ]
  go_wp2_with (at_builtin; refine wpList_append_own _ rfl _ _ 151 rfl B 5 i0 (.int .u8 0) 1 1 Tryz.underlying151 hi hz0 hz1 hz2 rfl (by decide) _ _ _ rfl (HOWN.out.alloc _) ⟨w.heap.size, 64, none⟩ 1 1 [.int .u8 (D.toNat : Int)] rfl rfl ?c1 ?c2 ?c3 ?c4 ?c5 ?_)
  case c1 =>
    intro j u' hj
    obtain rfl : j = 0 := by
      rcases j with _ | j
      · rfl
      · simp at hj
    simp at hj
    subst hj
    go_simp
  case c2 => intro u hu; simp at hu; subst hu; rfl
  case c3 => unfold maxLen; omega
  case c4 => omega
  case c5 => simp; omega
  intro v2 w3 hown' hgrow _
  go_wp2
  go_ret2
  exact ⟨v2, rfl, hown', ((Below.refl B _).alloc hBw _).grown hgrow (by simp; omega) (fun k hk => (HOWN.out.lt k hk).1)⟩
theorem and_15 : ∀ k : Fin 256, bits BinOp.and IntKind.u64 (k.val : Int) 15 = ((k.val % 16 : Nat) : Int) := by decide +kernel
set_option maxHeartbeats 800000 in
set_option maxRecDepth 100000 in
theorem format_high (B n u : Nat) (hl : 16 ≤ u) (hu : u < 256) (sv : Value) (xs : List Value) (w : World) (hown : w.ownsRow B 5 1 sv n xs) (hBw : B ≤ w.heap.size) (hlim : n ≤ 100000)
    (htab : w.cell? ⟨7, 15, none⟩ = some (.int .u8 4)) (hg : 7 < w.heap.size) :
    Calls Tryz.prog 162 #[sv, .int .u64 u, .int .i64 16, .bool false, .bool true] w fun e w' => ∃ v', e = .returned (.tuple #[v', .string ⟨#[]⟩]) ∧ w'.ownsRow B 5 1 v' (n + 2) (xs ++ bc [hexd (u / 16), hexd (u % 16)]) ∧ Below B w w' := by
  have T := Lib.hid (fun (w1 : World) (h : w1.cell? ⟨7, 15, none⟩ = some (.int .u8 4)) => tz2_is w1 h)
  have hd := hexd_at ⟨u / 16, by omega⟩
  have hf := hexd_at ⟨u % 16, by omega⟩
  have ha := and_15 ⟨u, hu⟩
  simp only at hd hf ha
  obtain ⟨D, hD⟩ : ∃ D, hexd (u / 16) = D := ⟨_, rfl⟩
  obtain ⟨F, hF⟩ : ∃ F, hexd (u % 16) = F := ⟨_, rfl⟩
  rw [hD] at hd ⊢
  rw [hF] at hf ⊢
  clear hD hF
  have hd' : decide (16 ≤ (u : Int)) = true := by simp; omega
  have hd2 : decide (16 ≤ (u : Int) / 16) = false := by simp; omega
  have hu2 : u / 16 < 16 := by omega
  have hu3 : u % 16 < 16 := by omega
  have hu4 : (u : Int) < 256 := by omega
  obtain ⟨i0, hi, hz0, hz1, hz2⟩ := info_parts byteInfo
  have HOWN := Lib.hid hown
  clear hown
  go_enter Tryz.func162, Tryz.ntmps162
  go_wp2_with fail
  refine (pow_is _).mono ?_
  rintro e w1 ⟨rfl, rfl⟩
  go_wp2_with fail
  refine (T.out _ ?_).mono ?_
  · go_simp
  rintro e w1 ⟨rfl, rfl⟩
  clear T htab hg
  go_wp2_with fail
  refine wp_loop_rounds 2 ?_
  rw [rounds_succ]
  go_wp2_with fail
  rw [rounds_succ]
  go_wp2_with (at_builtin; refine wpList_append_own _ rfl _ _ 151 rfl B 5 i0 (.int .u8 0) 1 1 Tryz.underlying151 hi hz0 hz1 hz2 rfl (by decide) _ _ _ rfl (HOWN.out.alloc _) ⟨w.heap.size, 63, none⟩ 2 2 [.int .u8 (D.toNat : Int), .int .u8 (F.toNat : Int)] rfl rfl ?c1 ?c2 ?c3 ?c4 ?c5 ?_)
  case c1 =>
    intro j u' hj
    rcases j with _ | _ | j
    · simp at hj
      subst hj
      go_simp
    · simp at hj
      subst hj
      go_simp
    · simp at hj
  case c2 => intro u hu; simp at hu; rcases hu with rfl | rfl <;> rfl
  case c3 => unfold maxLen; omega
  case c4 => omega
  case c5 => simp; omega
  intro v2 w3 hown' hgrow _
  go_wp2
  go_ret2
  exact ⟨v2, rfl, hown', ((Below.refl B _).alloc hBw _).grown hgrow (by simp; omega) (fun k hk => (HOWN.out.lt k hk).1)⟩
theorem cell_lt {w : World} {a : Addr} {v : Value} (h : w.cell? a = some v) : a.block < w.heap.size := by
  rcases Nat.lt_or_ge a.block w.heap.size with h' | h'
  · exact h'
  · unfold World.cell? at h
    rw [Array.getElem?_eq_none h'] at h
    simp at h
theorem format_is (B n u : Nat) (hu : u < 256) (sv : Value) (xs : List Value) (w : World) (hown : w.ownsRow B 5 1 sv n xs) (hBw : B ≤ w.heap.size) (hlim : n ≤ 100000)
    (htab : w.cell? ⟨7, 15, none⟩ = some (.int .u8 4)) :
    Calls Tryz.prog 162 #[sv, .int .u64 u, .int .i64 16, .bool false, .bool true] w fun e w' => ∃ v', e = .returned (.tuple #[v', .string ⟨#[]⟩]) ∧ w'.ownsRow B 5 1 v' (n + (hexL u).length) (xs ++ bc (hexL u)) ∧ Below B w w' := by
  unfold hexL
  by_cases h : u < 16
  · rw [if_pos h]
    exact format_low B n u h sv xs w hown hBw hlim htab (cell_lt htab)
  · rw [if_neg h]
    exact format_high B n u (by omega) hu sv xs w hown hBw hlim htab (cell_lt htab)
set_option maxHeartbeats 400000 in
theorem inner_append (B n u : Nat) (hu : u < 256) (sv : Value) (xs : List Value) (w : World) (hown : w.ownsRow B 5 1 sv n xs) (hBw : B ≤ w.heap.size) (hlim : n ≤ 100000)
    (htab : w.cell? ⟨7, 15, none⟩ = some (.int .u8 4)) :
    Calls Tryz.prog 235 #[sv, .int .u64 u, .int .i64 16] w fun e w' => ∃ v', e = .returned v' ∧ w'.ownsRow B 5 1 v' (n + (hexL u).length) (xs ++ bc (hexL u)) ∧ Below B w w' := by
  have C := Lib.hid (format_is B n u hu sv xs w hown hBw hlim htab)
  clear hown htab
  go_enter Tryz.func235, Tryz.ntmps235
  go_wp2_with fail
  refine C.out.mono ?_
  rintro e w1 ⟨v', rfl, h1, h2⟩
  go_wp2_with fail
  go_ret
  exact ⟨v', rfl, h1, h2⟩
set_option maxHeartbeats 400000 in
theorem append_is (B n u : Nat) (hu : u < 256) (sv : Value) (xs : List Value) (w : World) (hown : w.ownsRow B 5 1 sv n xs) (hBw : B ≤ w.heap.size) (hlim : n ≤ 100000)
    (htab : w.cell? ⟨7, 15, none⟩ = some (.int .u8 4)) :
    Calls Tryz.prog 205 #[sv, .int .u64 u, .int .i64 16] w fun e w' => ∃ v', e = .returned v' ∧ w'.ownsRow B 5 1 v' (n + (hexL u).length) (xs ++ bc (hexL u)) ∧ Below B w w' := by
  have C := Lib.hid (inner_append B n u hu sv xs w hown hBw hlim htab)
  clear hown htab
  go_enter Tryz.func205, Tryz.ntmps205
  go_wp2_with fail
  refine C.out.mono ?_
  rintro e w1 ⟨v', rfl, h1, h2⟩
  go_wp2_with fail
  go_ret
  exact ⟨v', rfl, h1, h2⟩
end Go.Proofs.YtkplokfcjjcpcaaGreatDoor
end
section
namespace Go.Proofs.YtkplokfcjjcpcaaGreatDoor
open Go Go.RowKit Go.Maps
open Go.WideMaps Go.WideElems
theorem u8Key : Keyed Tryz.prog 5 := int_keyed Tryz.underlying5
theorem wf_u8 {c : Int} (h0 : 0 ≤ c) (h1 : c ≤ 255) : (Lit.int .u8 c).wf = true := by
  go_wf
theorem keyOf_u8 {c : Int} (h0 : 0 ≤ c) (h1 : c ≤ 255) : keyOf Tryz.prog 5 (.int .u8 c) = some (.int .u8 c) := keyOf_int_mk Tryz.underlying5 (wf_u8 h0 h1)
theorem wpList_insert_u8 (w : World) {ops : Array Oper} {rest : List Oper} {o : Oper} {a : Act} {Q : Exit → Act → World → Prop}
    (hg : o.guard = none) (m x v : Operand) (hop : o.op = Op.insert 277 m x v) (b n : Nat) (D : DataW Unit)
    (hm : a.eval m = .map (some b)) (hown : w.ownsMap Tryz.prog 5 (plainElem (H := Unit) Tryz.prog 5) b n D) (hn : n < maxLen) (k y : Int) (hx : a.eval x = .int .u8 k) (h0 : 0 ≤ k) (h1 : k ≤ 255)
    (hv : a.eval v = .int .u8 y) (h2 : 0 ≤ y) (h3 : y ≤ 255)
    (hK : ∀ w', w'.ownsMap Tryz.prog 5 (plainElem (H := Unit) Tryz.prog 5) b (n + 1) (D.put (.int .u8 k) (.lit (.int .u8 y))) → w.grownBy w' (some b) → wpList Tryz.prog ops Q rest (a.put o.dst undef) w') :
    wpList Tryz.prog ops Q (o :: rest) a w := by
  refine wpList_plain hg fun K' hK' => ?_
  obtain ⟨w', hrun, r1, r2⟩ := hown.update u8Key Tryz.underlying277 hn (keyOf_u8 h0 h1) (plainElem_int Tryz.underlying5 (wf_u8 h2 h3))
  unfold Oper.wp
  simp [execOp, hop, hm, hx, hv, hrun, Result.andThen]
  exact hK' _ _ (hK w' r1 r2)
theorem ownsMap_below {w w' : World} {b n B : Nat} {D : DataW Unit} (h : w.ownsMap Tryz.prog 5 (plainElem (H := Unit) Tryz.prog 5) b n D) (hb : Below B w w') (hB : b < B) : w'.ownsMap Tryz.prog 5 (plainElem (H := Unit) Tryz.prog 5) b n D := by
  obtain ⟨es, clock, h1, h2⟩ := h
  exact ⟨es, clock, by rw [hb.block b hB]; exact h1, h2⟩
theorem look_u8 {w : World} {b n : Nat} {D : DataW Unit} (h : w.ownsMap Tryz.prog 5 (plainElem (H := Unit) Tryz.prog 5) b n D) (c v : Int) (ok : Bool) (h0 : 0 ≤ c) (h1 : c ≤ 255)
    (hv : D.atKey (.int .u8 c) (.lit (.int .u8 0)) = .lit (.int .u8 v)) (hok : Maps.has D (.int .u8 c) = ok) :
    (Instr.lookup 277 (.map (some b)) (.int .u8 c) true).run Tryz.prog w = .ok (.tuple #[.int .u8 v, .bool ok]) w := by
  obtain ⟨x, ps, hrun, hx⟩ := h.look_ok u8Key Tryz.underlying277 (z := .int .u8 0) (by kernel_rfl) (plainElem_int Tryz.underlying5 (by decide)) (keyOf_u8 h0 h1)
  obtain ⟨y, rfl, hy, _⟩ := plainElem_int_inv Tryz.underlying5 hx
  rw [hv] at hy
  cases hy
  rw [hrun, hok]
def litI (d : DataW Unit) : Int := match d with | .lit (.int .u8 a) => a | _ => -1
theorem litI_inv {d : DataW Unit} {v : Int} (h : litI d = v) (hv : 0 ≤ v) : d = .lit (.int .u8 v) := by
  unfold litI at h
  split at h
  · rw [h]
  · omega
def writtenD : DataW Unit :=
  DataW.put (DataW.put (DataW.put (DataW.put (.map []) (.int .u8 39) (.lit (.int .u8 39))) (.int .u8 92) (.lit (.int .u8 92))) (.int .u8 10) (.lit (.int .u8 110))) (.int .u8 9) (.lit (.int .u8 116))
def wrV (c : Int) : Int := if c = 39 then 39 else if c = 92 then 92 else if c = 10 then 110 else if c = 9 then 116 else 0
def wrO (c : Int) : Bool := c == 39 || c == 92 || c == 10 || c == 9
theorem written_at : ∀ k : Fin 256, litI (writtenD.atKey (.int .u8 (k.val : Int)) (.lit (.int .u8 0))) = wrV k.val ∧ Maps.has writtenD (.int .u8 (k.val : Int)) = wrO k.val := by decide +kernel
theorem wrV_nn (c : Int) : 0 ≤ wrV c := by unfold wrV; repeat' split
                                           all_goals omega
theorem look_written {w : World} {b : Nat} (h : w.ownsMap Tryz.prog 5 (plainElem (H := Unit) Tryz.prog 5) b 4 writtenD) (c : Int) (h0 : 0 ≤ c) (h1 : c ≤ 255) :
    (Instr.lookup 277 (.map (some b)) (.int .u8 c) true).run Tryz.prog w = .ok (.tuple #[.int .u8 (wrV c), .bool (wrO c)]) w := by
  obtain ⟨h2, h3⟩ := written_at ⟨c.toNat, by omega⟩
  simp only [Int.toNat_of_nonneg h0] at h2 h3
  exact look_u8 h c _ _ h0 h1 (litI_inv h2 (wrV_nn c)) h3
set_option maxRecDepth 100000 in
set_option maxHeartbeats 800000 in
theorem written_is (w : World) :
    Calls Tryz.prog 204 #[] w fun e w' => e = .returned (.map (some w.heap.size)) ∧ w'.ownsMap Tryz.prog 5 (plainElem (H := Unit) Tryz.prog 5) w.heap.size 4 writtenD ∧ Below w.heap.size w w' ∧ w.heap.size < w'.heap.size := by
  have hmm := run_makeMap (P := Tryz.prog) 277 w
  have h0 := World.ownsMap_made w Tryz.prog 5 (plainElem (H := Unit) Tryz.prog 5)
  have b0 : Below w.heap.size w (w.alloc (.map #[] 0)) := (Below.refl _ _).alloc (Nat.le_refl _) _
  obtain ⟨w0, hw0⟩ : ∃ w0, w0 = w.alloc (.map #[] 0) := ⟨_, rfl⟩
  rw [← hw0] at h0 b0
  simp only [← hw0] at hmm
  clear hw0
  go_enter Tryz.func204, Tryz.ntmps204
  go_wp2_with (first | (refine wpList_insert_u8 w0 rfl _ _ _ rfl _ _ _ rfl h0 (by unfold maxLen; omega) _ _ rfl (by omega) (by omega) rfl (by omega) (by omega) ?_; intro w1 h1 g1; have b1 := b0.grown g1 (by have := b0.size; omega) (fun _ e => by cases e; exact Nat.le_refl _); clear h0 g1 b0) | (refine wpList_insert_u8 w1 rfl _ _ _ rfl _ _ _ rfl h1 (by unfold maxLen; omega) _ _ rfl (by omega) (by omega) rfl (by omega) (by omega) ?_; intro w2 h2 g2; have b2 := b1.grown g2 (by have := b1.size; omega) (fun _ e => by cases e; exact Nat.le_refl _); clear h1 g2 b1) | (refine wpList_insert_u8 w2 rfl _ _ _ rfl _ _ _ rfl h2 (by unfold maxLen; omega) _ _ rfl (by omega) (by omega) rfl (by omega) (by omega) ?_; intro w3 h3 g3; have b3 := b2.grown g3 (by have := b2.size; omega) (fun _ e => by cases e; exact Nat.le_refl _); clear h2 g3 b2) | (refine wpList_insert_u8 w3 rfl _ _ _ rfl _ _ _ rfl h3 (by unfold maxLen; omega) _ _ rfl (by omega) (by omega) rfl (by omega) (by omega) ?_; intro w4 h4 g4; have b4 := b3.grown g4 (by have := b3.size; omega) (fun _ e => by cases e; exact Nat.le_refl _); clear h3 g4 b3))
  go_ret
  exact ⟨rfl, h4, b4, h4.lt⟩
def putC (c : UInt8) : List UInt8 :=
  if wrO (c.toNat : Int) = true then [92, UInt8.ofNat (wrV (c.toNat : Int)).toNat] else if c.toNat < 32 ∨ c.toNat = 127 then [92, 120] ++ hexL c.toNat ++ [92] else [c]
def putB (l : List UInt8) : List UInt8 := 39 :: l.flatMap putC
def putL (l : List UInt8) : List UInt8 := if plainB l = true then l else putB l ++ [39]
theorem hexL_len (u : Nat) : (hexL u).length ≤ 2 := by unfold hexL; split <;> simp
theorem putC_len (c : UInt8) : (putC c).length ≤ 5 := by
  unfold putC
  have := hexL_len c.toNat
  split
  · simp
  · split <;> simp; omega
theorem putB_snoc (l : List UInt8) (c : UInt8) : putB (l ++ [c]) = putB l ++ putC c := by unfold putB; simp
theorem putB_len (l : List UInt8) : (putB l).length ≤ 1 + 5 * l.length := by
  unfold putB
  induction l with
  | nil => simp
  | cons a t ih => have := putC_len a; simp at ih ⊢; omega
theorem conv_own {w : World} {B : Nat} {v : Value} {l : List UInt8} (h : w.ownsRow B 5 1 v l.length (bc l)) :
    (convert 151 9 v).run Tryz.prog w = .ok (.string ⟨l.toArray⟩) w := by
  have hc := h
  rcases h.2 with ⟨rfl, h0⟩ | ⟨g, cap, cur, rfl, _⟩
  · have : l = [] := List.eq_nil_of_length_eq_zero h0
    subst this
    rw [run_convert_bytes_string w 151 9 5 none 0 0 Tryz.underlying151 Tryz.underlying5 Tryz.underlying9]
    rfl
  · refine run_convert_bytes_back w 151 9 5 ⟨g, 0, none⟩ cap l Tryz.underlying151 Tryz.underlying5 Tryz.underlying9 fun j hj => ?_
    exact hc.cells rfl j _ (by simp [hj])
end Go.Proofs.YtkplokfcjjcpcaaGreatDoor
end
section
namespace Go.Proofs.YtkplokfcjjcpcaaGreatDoor
open Go Go.RowKit Go.Maps
open Go.WideMaps Go.WideElems
theorem cell_two_new (w : World) (x y : Value) (t : TypeId) : ∀ j u, [x, y][j]? = some u → (w.alloc (.cells #[x, y] t)).cell? ((⟨w.heap.size, 0, none⟩ : Addr).add j) = some u := by
  intro j u hj
  rcases j with _ | _ | j
  · simp at hj
    subst hj
    go_simp
  · simp at hj
    subst hj
    go_simp
  · simp at hj
theorem owns_lit (w : World) (x : Value) (B : Nat) (hB : B ≤ w.heap.size) : (w.alloc (.cells #[x] 5)).ownsRow B 5 1 (.slice (some ⟨w.heap.size, 0, none⟩) 1 1) 1 [x] :=
  ⟨rfl, .inr ⟨w.heap.size, 1, #[x], rfl, hB, heap_alloc_new w _, Nat.le_refl _, by unfold maxLen; omega, rfl, rfl⟩⟩
theorem one_1 {x : Int} : ∀ u ∈ [Value.int .u8 x], u.oneCell' = true := by
  intro u hu
  simp at hu
  subst hu
  rfl
theorem one_2 {x y : Int} : ∀ u ∈ [Value.int .u8 x, Value.int .u8 y], u.oneCell' = true := by
  intro u hu
  simp at hu
  rcases hu with rfl | rfl <;> rfl
theorem own_more {w : World} {B m : Nat} {v : Value} {L N X : List UInt8} {cells : List Value} (h : w.ownsRow B 5 1 v (L.length + m) (bc L ++ cells)) (hX : X = L ++ N) (hm : N.length = m) (hc : cells = bc N) :
    w.ownsRow B 5 1 v X.length (bc X) := by
  subst hX hc
  rw [List.length_append, hm]
  simpa [bc] using h
theorem below_app {B : Nat} {a w w' : World} {T : TypeId} {o : Obj} {v : Value} {n : Nat} {xs : List Value} (h : Below B a w) (hB : B ≤ a.heap.size) (ho : w.ownsRow B T 1 v n xs) (hg : (w.alloc o).grownBy w' v.ownBlock) : Below B a w' :=
  (h.alloc (Nat.le_trans hB h.size) o).grown hg (by have := h.size; simp; omega) (fun k hk => (ho.lt k hk).1)
theorem wrV_bd (c : Int) : wrV c ≤ 255 := by
  unfold wrV
  repeat' split
  all_goals omega
theorem append_int (B n : Nat) (c : Int) (h0 : 0 ≤ c) (h1 : c ≤ 255) (sv : Value) (xs : List Value) (w : World) (hown : w.ownsRow B 5 1 sv n xs) (hBw : B ≤ w.heap.size) (hlim : n ≤ 100000) (htab : Tab w) :
    Calls Tryz.prog 205 #[sv, .int .u64 c, .int .i64 16] w fun e w' => ∃ v', e = .returned v' ∧ w'.ownsRow B 5 1 v' (n + (hexL c.toNat).length) (xs ++ bc (hexL c.toNat)) ∧ Below B w w' := by
  have := append_is B n c.toNat (by omega) sv xs w hown hBw hlim htab.1
  rw [Int.toNat_of_nonneg h0] at this
  exact this
set_option maxHeartbeats 1600000 in
theorem put_quoted (s : ByteArray) (w : World) (hs : s.size ≤ 4000) (htab : Tab w) (hp : plainB s.data.toList = false) :
    Calls Tryz.prog 164 #[.string s] w fun e w' => e = .returned (.string ⟨(putB s.data.toList ++ [39]).toArray⟩) ∧ Below w.heap.size w w' := by
  have P := Lib.hid (fun w => plain_is s w hs)
  rw [hp] at P
  clear hp
  obtain ⟨i0, hi, hz0, hz1, hz2⟩ := info_parts byteInfo
  have HT := Lib.hid htab
  clear htab
  go_enter Tryz.func164, Tryz.ntmps164
  go_wp2_with fail
  refine (P.out _).mono ?_
  rintro e w1 ⟨rfl, b1⟩
  have HB1 := Lib.hid b1
  clear b1 P
  go_wp2_with fail
  refine (written_is _).mono ?_
  rintro e w2 ⟨rfl, hm, b2, lt2⟩
  have HB2 := Lib.hid (bt HB1.out b2)
  have HM := Lib.hid hm
  clear hm b2
  obtain ⟨bm, hbm⟩ : ∃ bm, bm = w1.heap.size := ⟨_, rfl⟩
  rw [← hbm] at HM lt2 ⊢
  clear hbm HB1
  go_wp2_with fail
  go_loopw [4, 17] (fun v i wr => ∃ k : Nat, k ≤ s.size ∧ i = .int .i64 k ∧ Hid (wr.ownsRow w2.heap.size 5 1 v (putB (s.data.toList.take k)).length (bc (putB (s.data.toList.take k)))) ∧ Hid (Below w2.heap.size w2 wr)) (fun _ i _ => s.size - (intOf i).toNat)
  case atStart => exact ⟨0, Nat.zero_le _, rfl, owns_lit w2 (.int .u8 39) _ (Nat.le_refl _), (Below.refl _ _).alloc (Nat.le_refl _) _⟩
  case round =>
    obtain ⟨k, hk, rfl, hown, hbl⟩ := hrel
    by_cases hlt : k < s.size
    · have hl1 := putB_len (s.data.toList.take k)
      have hl2 : (s.data.toList.take k).length ≤ 4000 := by simp; omega
      have hst := putB_snoc (s.data.toList.take k) s[k]
      rw [← take_snoc s k hlt] at hst
      have HS := Lib.hid hst
      have HL := Lib.hid (show (putB (s.data.toList.take k)).length ≤ 20001 by omega)
      clear hst hl1 hl2
      generalize putB (s.data.toList.take k) = L at *
      have hl := HL.out
      have hc0 : (0 : Int) ≤ (s[k].toNat : Int) := by omega
      have hc1 : (s[k].toNat : Int) ≤ 255 := by have := s[k].toNat_lt; omega
      have hlook := look_written (ownsMap_below HM.out hbl.out lt2) (s[k].toNat : Int) hc0 hc1
      cases hO : wrO (s[k].toNat : Int)
      · rw [hO] at hlook
        by_cases h32 : (s[k].toNat : Int) < 32
        · have hp2 : putC s[k] = [92, 120] ++ hexL s[k].toNat ++ [92] := by
            unfold putC
            rw [hO, if_neg (by simp), if_pos (by omega)]
          rw [hp2] at HS
          have HH := Lib.hid (show L ++ ([92, 120] ++ hexL s[k].toNat ++ [92]) = ((L ++ [92, 120]) ++ hexL s[k].toNat) ++ [92] by simp)
          clear hp2
          go_wp2_with (at_builtin; refine wpList_append_own _ rfl (.tmp 46) (.tmp 47) 151 rfl w2.heap.size 5 i0 (.int .u8 0) 1 1 Tryz.underlying151 hi hz0 hz1 hz2 rfl (by decide) _ _ _ rfl (hown.out.alloc _) ⟨wr.heap.size, 0, none⟩ 2 2 [.int .u8 92, .int .u8 120] rfl rfl (cell_two_new _ _ _ _) one_2 ?_ ?_ ?_ ?_)
          · unfold maxLen; omega
          · omega
          · have := hbl.out.size; simp; omega
          intro v3 w3 hown3 hg3 _
          obtain ⟨X3, hX3⟩ : ∃ X, X = L ++ [92, 120] := ⟨_, rfl⟩
          have HO3 := Lib.hid (own_more hown3 hX3 rfl rfl)
          have HX3 := Lib.hid hX3
          have l3 : X3.length ≤ 20003 := by rw [hX3]; simp; omega
          clear hX3
          have hb3 := Lib.hid (below_app hbl.out (Nat.le_refl _) hown.out hg3)
          clear hown3 hg3 hown hbl
          go_wp2_with fail
          refine (append_int w2.heap.size _ _ hc0 hc1 _ _ _ HO3.out hb3.out.size (by omega) ((HT.out.on HB2.out).on hb3.out)).mono ?_
          rintro e w4 ⟨v4, rfl, hown4, b4⟩
          rw [Int.toNat_natCast] at hown4
          obtain ⟨X4, hX4⟩ : ∃ X, X = X3 ++ hexL s[k].toNat := ⟨_, rfl⟩
          have HO4 := Lib.hid (own_more hown4 hX4 rfl rfl)
          have HX4 := Lib.hid hX4
          have l4 : X4.length ≤ 20005 := by have := hexL_len s[k].toNat; rw [hX4, List.length_append]; omega
          clear hX4
          have hb4 := Lib.hid (hb3.out.trans b4)
          clear hown4 b4 HO3 hb3
          go_wp2_with (at_builtin; refine wpList_append_own _ rfl (.tmp 53) (.tmp 54) 151 rfl w2.heap.size 5 i0 (.int .u8 0) 1 1 Tryz.underlying151 hi hz0 hz1 hz2 rfl (by decide) _ _ _ rfl (HO4.out.alloc _) ⟨w4.heap.size, 0, none⟩ 1 1 [.int .u8 92] rfl rfl (cell_one_new _ _ _) one_1 ?_ ?_ ?_ ?_)
          · unfold maxLen; omega
          · omega
          · have := hb4.out.size; simp; omega
          intro v5 w5 hown5 hg5 _
          have HO5 := Lib.hid (own_more (X := X4 ++ [92]) (N := [92]) hown5 rfl rfl rfl)
          have hb5 := Lib.hid (below_app hb4.out (Nat.le_refl _) HO4.out hg5)
          clear hown5 hg5 HO4 hb4
          go_wp2
          go_roundw
          case rel => exact ⟨k + 1, by omega, by go_num, by rw [HS.out, HH.out, ← HX3.out, ← HX4.out]; exact HO5, hb5⟩
          case measure => simp [intOf]; omega
        cases h127 : ((s[k].toNat : Int) == 127)
        · have hp2 : putC s[k] = [s[k]] := by
            unfold putC
            rw [hO, if_neg (by simp), if_neg (by rintro (h | h); · omega
                                                 · rw [h] at h127; cases h127)]
          rw [hp2] at HS
          have h32' : ¬ (s[k].toNat : Int) < 32 := h32
          clear hp2
          go_wp2_with (at_builtin; refine wpList_append_own _ rfl (.tmp 29) (.tmp 31) 151 rfl w2.heap.size 5 i0 (.int .u8 0) 1 1 Tryz.underlying151 hi hz0 hz1 hz2 rfl (by decide) _ _ _ rfl (hown.out.alloc _) ⟨wr.heap.size, 0, none⟩ 1 1 [.int .u8 (s[k].toNat : Int)] rfl rfl (cell_one_new _ _ _) one_1 ?_ ?_ ?_ ?_)
          · unfold maxLen; omega
          · omega
          · have := hbl.out.size; simp; omega
          intro v3 w3 hown3 hg3 _
          have HO3 := Lib.hid (own_more (X := L ++ [s[k]]) (N := [s[k]]) hown3 rfl rfl rfl)
          have hb3 := Lib.hid (below_app hbl.out (Nat.le_refl _) hown.out hg3)
          clear hown3 hg3 hown hbl
          go_wp2
          go_roundw
          case rel => exact ⟨k + 1, by omega, by go_num, by rw [HS.out]; exact HO3, hb3⟩
          case measure => simp [intOf]; omega
        · have hx127 : s[k].toNat = 127 := by have := beq_iff_eq.1 h127; omega
          have HX := Lib.hid hx127
          clear hx127
          have hp2 : putC s[k] = [92, 120] ++ hexL s[k].toNat ++ [92] := by
            unfold putC
            rw [hO, if_neg (by simp), if_pos (Or.inr HX.out)]
          rw [hp2] at HS
          have HH := Lib.hid (show L ++ ([92, 120] ++ hexL s[k].toNat ++ [92]) = ((L ++ [92, 120]) ++ hexL s[k].toNat) ++ [92] by simp)
          clear hp2
          go_wp2_with (at_builtin; refine wpList_append_own _ rfl (.tmp 46) (.tmp 47) 151 rfl w2.heap.size 5 i0 (.int .u8 0) 1 1 Tryz.underlying151 hi hz0 hz1 hz2 rfl (by decide) _ _ _ rfl (hown.out.alloc _) ⟨wr.heap.size, 0, none⟩ 2 2 [.int .u8 92, .int .u8 120] rfl rfl (cell_two_new _ _ _ _) one_2 ?_ ?_ ?_ ?_)
          · unfold maxLen; omega
          · omega
          · have := hbl.out.size; simp; omega
          intro v3 w3 hown3 hg3 _
          obtain ⟨X3, hX3⟩ : ∃ X, X = L ++ [92, 120] := ⟨_, rfl⟩
          have HO3 := Lib.hid (own_more hown3 hX3 rfl rfl)
          have HX3 := Lib.hid hX3
          have l3 : X3.length ≤ 20003 := by rw [hX3]; simp; omega
          clear hX3
          have hb3 := Lib.hid (below_app hbl.out (Nat.le_refl _) hown.out hg3)
          clear hown3 hg3 hown hbl
          go_wp2_with fail
          refine (append_int w2.heap.size _ _ hc0 hc1 _ _ _ HO3.out hb3.out.size (by omega) ((HT.out.on HB2.out).on hb3.out)).mono ?_
          rintro e w4 ⟨v4, rfl, hown4, b4⟩
          rw [Int.toNat_natCast] at hown4
          obtain ⟨X4, hX4⟩ : ∃ X, X = X3 ++ hexL s[k].toNat := ⟨_, rfl⟩
          have HO4 := Lib.hid (own_more hown4 hX4 rfl rfl)
          have HX4 := Lib.hid hX4
          have l4 : X4.length ≤ 20005 := by have := hexL_len s[k].toNat; rw [hX4, List.length_append]; omega
          clear hX4
          have hb4 := Lib.hid (hb3.out.trans b4)
          clear hown4 b4 HO3 hb3
          go_wp2_with (at_builtin; refine wpList_append_own _ rfl (.tmp 53) (.tmp 54) 151 rfl w2.heap.size 5 i0 (.int .u8 0) 1 1 Tryz.underlying151 hi hz0 hz1 hz2 rfl (by decide) _ _ _ rfl (HO4.out.alloc _) ⟨w4.heap.size, 0, none⟩ 1 1 [.int .u8 92] rfl rfl (cell_one_new _ _ _) one_1 ?_ ?_ ?_ ?_)
          · unfold maxLen; omega
          · omega
          · have := hb4.out.size; simp; omega
          intro v5 w5 hown5 hg5 _
          have HO5 := Lib.hid (own_more (X := X4 ++ [92]) (N := [92]) hown5 rfl rfl rfl)
          have hb5 := Lib.hid (below_app hb4.out (Nat.le_refl _) HO4.out hg5)
          clear hown5 hg5 HO4 hb4
          go_wp2
          go_roundw
          case rel => exact ⟨k + 1, by omega, by go_num, by rw [HS.out, HH.out, ← HX3.out, ← HX4.out]; exact HO5, hb5⟩
          case measure => simp [intOf]; omega
      · rw [hO] at hlook
        have hv0 := wrV_nn (s[k].toNat : Int)
        have hv1 := wrV_bd (s[k].toNat : Int)
        have hp2 : putC s[k] = [92, UInt8.ofNat (wrV (s[k].toNat : Int)).toNat] := by
          unfold putC
          rw [hO, if_pos rfl]
        rw [hp2] at HS
        have HV := Lib.hid (show bc [92, UInt8.ofNat (wrV (s[k].toNat : Int)).toNat] = [.int .u8 92, .int .u8 (wrV (s[k].toNat : Int))] by
          have h1 : (UInt8.ofNat (wrV (s[k].toNat : Int)).toNat).toNat = (wrV (s[k].toNat : Int)).toNat := by rw [UInt8.toNat_ofNat']; omega
          simp only [bc, List.map_cons, List.map_nil, h1, Int.toNat_of_nonneg hv0]
          rfl)
        clear hp2
        go_wp2_with (at_builtin; refine wpList_append_own _ rfl (.tmp 35) (.tmp 37) 151 rfl w2.heap.size 5 i0 (.int .u8 0) 1 1 Tryz.underlying151 hi hz0 hz1 hz2 rfl (by decide) _ _ _ rfl (hown.out.alloc _) ⟨wr.heap.size, 0, none⟩ 2 2 [.int .u8 92, .int .u8 (wrV (s[k].toNat : Int))] rfl rfl (cell_two_new _ _ _ _) one_2 ?_ ?_ ?_ ?_)
        · unfold maxLen; omega
        · omega
        · have := hbl.out.size; simp; omega
        intro v3 w3 hown3 hg3 _
        have HO3 := Lib.hid (own_more (X := L ++ [92, UInt8.ofNat (wrV (s[k].toNat : Int)).toNat]) (N := [92, UInt8.ofNat (wrV (s[k].toNat : Int)).toNat]) hown3 rfl rfl HV.out.symm)
        have hb3 := Lib.hid (below_app hbl.out (Nat.le_refl _) hown.out hg3)
        clear hown3 hg3 hown hbl
        go_wp2
        go_roundw
        case rel => exact ⟨k + 1, by omega, by go_num, by rw [HS.out]; exact HO3, hb3⟩
        case measure => simp [intOf]; omega
    · have hfull : s.data.toList.take k = s.data.toList := List.take_of_length_le (by simp; omega)
      have hl1 := putB_len s.data.toList
      rw [hfull] at hown
      have HL := Lib.hid (show (putB s.data.toList).length ≤ 20001 by simp at hl1; omega)
      clear hfull hl1
      obtain ⟨L, hLL⟩ : ∃ L, L = putB s.data.toList := ⟨_, rfl⟩
      rw [← hLL] at hown HL
      have HLL := Lib.hid hLL
      clear hLL
      have hsz := HL.out
      go_wp2_with (at_builtin; refine wpList_append_own _ rfl (.tmp 57) (.tmp 58) 151 rfl w2.heap.size 5 i0 (.int .u8 0) 1 1 Tryz.underlying151 hi hz0 hz1 hz2 rfl (by decide) _ _ _ rfl (hown.out.alloc _) ⟨wr.heap.size, 0, none⟩ 1 1 [.int .u8 39] rfl rfl (cell_one_new _ _ _) one_1 ?_ ?_ ?_ ?_)
      · unfold maxLen; omega
      · omega
      · have := hbl.out.size; simp; omega
      intro v3 w3 hown3 hg3 _
      have HO3 := own_more (X := L ++ [39]) (N := [39]) hown3 rfl rfl rfl
      have hb3 := Lib.hid (below_app hbl.out (Nat.le_refl _) hown.out hg3)
      have hcv := conv_own HO3
      clear hown3 hg3 hown hbl HO3
      go_wp2
      go_ret
      exact ⟨by rw [← HLL.out]; rfl, bt HB2.out hb3.out⟩
set_option maxHeartbeats 400000 in
theorem put_plain (s : ByteArray) (w : World) (hs : s.size ≤ 4000) (hp : plainB s.data.toList = true) :
    Calls Tryz.prog 164 #[.string s] w fun e w' => e = .returned (.string s) ∧ Below w.heap.size w w' := by
  have P := Lib.hid (fun w => plain_is s w hs)
  rw [hp] at P
  clear hp
  go_enter Tryz.func164, Tryz.ntmps164
  go_wp2_with fail
  refine (P.out _).mono ?_
  rintro e w1 ⟨rfl, b1⟩
  go_wp2_with fail
  refine (clone_is s (by omega) _).mono ?_
  rintro e w2 ⟨rfl, b2⟩
  go_wp2_with fail
  go_ret
  exact ⟨rfl, bt b1 b2⟩
theorem put_is (s : ByteArray) (w : World) (hs : s.size ≤ 4000) (htab : Tab w) :
    Calls Tryz.prog 164 #[.string s] w fun e w' => e = .returned (.string ⟨(putL s.data.toList).toArray⟩) ∧ Below w.heap.size w w' := by
  cases hp : plainB s.data.toList
  · unfold putL
    rw [hp, if_neg (by simp)]
    exact put_quoted s w hs htab hp
  · unfold putL
    rw [hp, if_pos rfl]
    have := put_plain s w hs hp
    obtain ⟨⟨l⟩⟩ := s
    exact this
end Go.Proofs.YtkplokfcjjcpcaaGreatDoor
end
section
namespace Go.Proofs.YtkplokfcjjcpcaaGreatDoor
open Go Go.RowKit Go.Maps
open Go.WideMaps Go.WideElems
def escD : DataW Unit :=
  DataW.put (DataW.put (DataW.put (DataW.put (DataW.put (DataW.put (DataW.put (DataW.put (DataW.put (DataW.put (DataW.put (DataW.put (.map []) (.int .u8 110) (.lit (.int .u8 10))) (.int .u8 114) (.lit (.int .u8 13))) (.int .u8 116) (.lit (.int .u8 9))) (.int .u8 97) (.lit (.int .u8 7)))
    (.int .u8 98) (.lit (.int .u8 8))) (.int .u8 102) (.lit (.int .u8 12))) (.int .u8 118) (.lit (.int .u8 11))) (.int .u8 48) (.lit (.int .u8 0))) (.int .u8 92) (.lit (.int .u8 92))) (.int .u8 39) (.lit (.int .u8 39))) (.int .u8 34) (.lit (.int .u8 34))) (.int .u8 96) (.lit (.int .u8 96))
def RD (w : World) (br : Nat) (l g : List UInt8) : Prop :=
  ∃ (s : ByteArray) (gv mv : Value), s.data.toList = l ∧ w.heap[br]? = some (.cells #[.string s, gv, mv] 283 (0, 0)) ∧ w.ownsRow (br + 1) 5 1 gv g.length (bc g) ∧
    (mv = .map none ∨ ∃ bm, mv = .map (some bm) ∧ br < bm ∧ w.ownsMap Tryz.prog 5 (plainElem (H := Unit) Tryz.prog 5) bm 12 escD)
theorem heap_lt {w : World} {b : Nat} {o : Obj} (h : w.heap[b]? = some o) : b < w.heap.size := (Array.getElem?_eq_some_iff.1 h).1
theorem ownsRow_below {w w' : World} {B : Nat} {v : Value} {n : Nat} {xs : List Value} (h : w.ownsRow B 5 1 v n xs) (hb : Below w.heap.size w w') : w'.ownsRow B 5 1 v n xs := by
  obtain ⟨h1, h2⟩ := h
  refine ⟨h1, ?_⟩
  rcases h2 with h2 | ⟨g, cap, cur, hv, hg, hc, rest⟩
  · exact .inl h2
  · exact .inr ⟨g, cap, cur, hv, hg, by rw [hb.block g (heap_lt hc)]; exact hc, rest⟩
theorem RD.below {w w' : World} {br : Nat} {l g : List UInt8} (h : RD w br l g) (hb : Below w.heap.size w w') : RD w' br l g := by
  obtain ⟨s, gv, mv, h1, h2, h3, h4⟩ := h
  refine ⟨s, gv, mv, h1, by rw [hb.block br (heap_lt h2)]; exact h2, ownsRow_below h3 hb, ?_⟩
  rcases h4 with h4 | ⟨bm, h5, h6, h7⟩
  · exact .inl h4
  · exact .inr ⟨bm, h5, h6, ownsMap_below h7 hb h7.lt⟩
theorem reader_cells {w : World} {br : Nat} {x y z : Value} (h : w.heap[br]? = some (.cells #[x, y, z] 283 (0, 0))) :
    w.cell? ⟨br, 0, none⟩ = some x ∧ w.cell? ⟨br, 1, none⟩ = some y ∧ w.cell? ⟨br, 2, none⟩ = some z ∧ w.frozen? ⟨br, 0, none⟩ = false ∧ w.frozen? ⟨br, 1, none⟩ = false ∧ w.frozen? ⟨br, 2, none⟩ = false :=
  ⟨by rw [cell_of_row w br 0 _ _ _ h]; rfl, by rw [cell_of_row w br 1 _ _ _ h]; rfl, by rw [cell_of_row w br 2 _ _ _ h]; rfl, frozen_of_row w br 0 _ _ h, frozen_of_row w br 1 _ _ h, frozen_of_row w br 2 _ _ h⟩
theorem take_mid {w w1 : World} {br : Nat} {x y z x' : Value} {row : Option Nat} (h2 : w.heap[br]? = some (.cells #[x, y, z] 283 (0, 0))) (hg : (w.setCell ⟨br, 0, none⟩ x').grownBy w1 row) (hr : some br ≠ row) :
    w1.heap[br]? = some (.cells #[x', y, z] 283 (0, 0)) := by
  have h := heap_setCell_same w br 0 _ _ x' h2
  rw [hg.block br (heap_lt h) hr, h]
  rfl
theorem own_ne {w : World} {br : Nat} {gv : Value} {n : Nat} {xs : List Value} (h : w.ownsRow (br + 1) 5 1 gv n xs) : some br ≠ gv.ownBlock := by
  intro e
  have := (h.lt br e.symm).1
  omega
theorem map_ne {w : World} {B bm n k : Nat} {gv : Value} {xs : List Value} {D : DataW Unit} (h : w.ownsRow B 5 1 gv n xs) (hm : w.ownsMap Tryz.prog 5 (plainElem (H := Unit) Tryz.prog 5) bm k D) : some bm ≠ gv.ownBlock := by
  intro e
  rcases h.2 with ⟨rfl, _⟩ | ⟨g, cap, cur, rfl, _, hc, _⟩
  · cases e
  · obtain ⟨es, clock, h1, _⟩ := hm
    simp [Value.ownBlock] at e
    subst e
    rw [hc] at h1
    cases h1
theorem take_fin {w w1 : World} {br : Nat} {s s' : ByteArray} {gv v' mv : Value} {g X : List UInt8} (h2 : w.heap[br]? = some (.cells #[.string s, gv, mv] 283 (0, 0)))
    (h3 : w.ownsRow (br + 1) 5 1 gv g.length (bc g)) (h4 : mv = .map none ∨ ∃ bm, mv = .map (some bm) ∧ br < bm ∧ w.ownsMap Tryz.prog 5 (plainElem (H := Unit) Tryz.prog 5) bm 12 escD)
    (hg : (w.setCell ⟨br, 0, none⟩ (.string s')).grownBy w1 gv.ownBlock) (ho : w1.ownsRow (br + 1) 5 1 v' X.length (bc X)) :
    RD (w1.setCell ⟨br, 1, none⟩ v') br s'.data.toList X ∧ Below br w (w1.setCell ⟨br, 1, none⟩ v') := by
  have hm := take_mid h2 hg (own_ne h3)
  refine ⟨⟨s', v', mv, rfl, ?_, ownsRow_setCell_below ho (by simp) _, ?_⟩, ?_⟩
  · rw [heap_setCell_same w1 br 1 _ _ v' hm]
    rfl
  · rcases h4 with h4 | ⟨bm, h5, h6, h7⟩
    · exact .inl h4
    · exact .inr ⟨bm, h5, h6, ((h7.setCell (by simp; omega) _).kept hg (map_ne h3 h7)).setCell (by simp; omega) _⟩
  · exact (((Below.refl br w).setCell (by simp) _).grown hg (by have := heap_lt h2; simp; omega) (fun k hk => by have := (h3.lt k hk).1; omega)).setCell (by simp) _
theorem add_block (a : Addr) (j : Nat) : (a.add j).block = a.block := by
  unfold Addr.add
  split <;> rfl
set_option maxHeartbeats 800000 in
theorem take_more (w : World) (br n : Nat) (l g N : List UInt8) (h : RD w br l g) (hn : n ≤ l.length) (hl : l.length ≤ 30000) (hg : g.length ≤ 100000) (ad : Addr) (cap : Nat) (hN : N ≠ []) (hN2 : N.length ≤ 100)
    (had : br < ad.block) (hc : ∀ j u, (bc N)[j]? = some u → w.cell? (ad.add j) = some u) :
    Calls Tryz.prog 215 #[.pointer (some ⟨br, 0, none⟩), .int .i64 n, .slice (some ad) N.length cap] w fun e w' => e = .returned (.tuple #[]) ∧ RD w' br (l.drop n) (g ++ N) ∧ Below br w w' := by
  obtain ⟨s, gv, mv, rfl, h2, h3, h4⟩ := h
  have hlt := heap_lt h2
  obtain ⟨c0, c1, c2, f0, f1, f2⟩ := reader_cells h2
  obtain ⟨i0, hi, hz0, hz1, hz2⟩ := info_parts byteInfo
  have hsz : s.data.toList.length = s.size := by simp
  rw [hsz] at hn hl
  have hd := Lib.extract_to_end s n
  rw [← hd]
  have HD := Lib.hid hd
  have H2 := Lib.hid h2
  have H3 := Lib.hid h3
  have H4 := Lib.hid h4
  have HC := Lib.hid hc
  have hpos : 0 < N.length := List.length_pos_iff.2 hN
  clear hsz h2 h3 h4 hc hd
  go_enter Tryz.func215, Tryz.ntmps215
  go_wp2_with (at_builtin; refine wpList_append_own _ rfl (.tmp 19) (.tmp 20) 151 rfl (br + 1) 5 i0 (.int .u8 0) 1 1 Tryz.underlying151 hi hz0 hz1 hz2 rfl (by decide) _ _ _ rfl (ownsRow_setCell_below H3.out (by simp) _) ad N.length cap (bc N) rfl ?c0 ?c1 ?c2 ?c3 ?c4 ?c5 ?_)
  case c0 => simp
  case c1 =>
    intro j u hj
    rw [World.cell?_setCell_other (h := fun e => by have := congrArg Addr.block e; rw [add_block] at this; simp at this; omega)]
    exact HC.out j u hj
  case c2 =>
    intro u hu
    simp at hu
    obtain ⟨b, _, rfl⟩ := hu
    rfl
  case c3 => unfold maxLen; omega
  case c4 => omega
  case c5 => simp; omega
  intro v' w1 hown hgrow _
  have hm := take_mid H2.out hgrow (own_ne H3.out)
  have HM := Lib.hid hm
  have HO := Lib.hid hown
  have HG := Lib.hid hgrow
  obtain ⟨d0, d1, d2, e0, e1, e2⟩ := reader_cells hm
  obtain ⟨gb, gc, rfl⟩ : ∃ gb gc, v' = .slice (some ⟨gb, 0, none⟩) (g.length + N.length) gc := by
    rcases hown.2 with ⟨_, h⟩ | ⟨gb, gc, _, h, _⟩
    · omega
    · exact ⟨gb, gc, h⟩
  clear hm hown hgrow
  go_wp2
  go_end0
  obtain ⟨r1, r2⟩ := take_fin H2.out H3.out H4.out HG.out (own_more HO.out rfl rfl rfl)
  exact ⟨rfl, r1, r2⟩
set_option maxHeartbeats 800000 in
theorem take_none (w : World) (br n : Nat) (l g : List UInt8) (h : RD w br l g) (hn : n ≤ l.length) (hl : l.length ≤ 30000) :
    Calls Tryz.prog 215 #[.pointer (some ⟨br, 0, none⟩), .int .i64 n, .slice none 0 0] w fun e w' => e = .returned (.tuple #[]) ∧ RD w' br (l.drop n) g ∧ Below br w w' := by
  obtain ⟨s, gv, mv, rfl, h2, h3, h4⟩ := h
  have hlt := heap_lt h2
  obtain ⟨c0, c1, c2, f0, f1, f2⟩ := reader_cells h2
  obtain ⟨i0, hi, hz0, hz1, hz2⟩ := info_parts byteInfo
  have hsz : s.data.toList.length = s.size := by simp
  rw [hsz] at hn hl
  have hd := Lib.extract_to_end s n
  rw [← hd]
  have HD := Lib.hid hd
  have H2 := Lib.hid h2
  have H3 := Lib.hid h3
  have H4 := Lib.hid h4
  clear hsz h2 h3 h4 hd
  have hgv := H3.out.2
  rcases hgv with ⟨rfl, hg0⟩ | ⟨gb, gc, cur, rfl, hgb, _⟩
  all_goals
    go_enter Tryz.func215, Tryz.ntmps215
    go_wp2_with (at_builtin; refine wpList_append_own_none rfl (.tmp 19) (.tmp 20) 151 rfl (br + 1) 5 i0 1 Tryz.underlying151 hi _ _ _ rfl (ownsRow_setCell_below H3.out (by simp) _) rfl ?_)
    go_end0
    obtain ⟨r1, r2⟩ := take_fin (w1 := w.setCell ⟨br, 0, none⟩ (.string (s.extract n s.size))) H2.out H3.out H4.out (World.grownBy.refl _ _) (ownsRow_setCell_below H3.out (by simp) _)
    exact ⟨rfl, r1, r2⟩
end Go.Proofs.YtkplokfcjjcpcaaGreatDoor
end
section
namespace Go.Proofs.YtkplokfcjjcpcaaGreatDoor
open Go Go.RowKit Go.Maps
open Go.WideMaps Go.WideElems
theorem take_one (w : World) (br n : Nat) (l g : List UInt8) (h : RD w br l g) (hn : n ≤ l.length) (hl : l.length ≤ 30000) (hg : g.length ≤ 100000) (c : Int) (h0 : 0 ≤ c) (h1 : c ≤ 255) :
    Calls Tryz.prog 215 #[.pointer (some ⟨br, 0, none⟩), .int .i64 n, .slice (some ⟨w.heap.size, 0, none⟩) 1 1] (w.alloc (.cells #[.int .u8 c] 5)) fun e w' => e = .returned (.tuple #[]) ∧ RD w' br (l.drop n) (g ++ [UInt8.ofNat c.toNat]) ∧ Below br w w' := by
  have hc : bc [UInt8.ofNat c.toNat] = [.int .u8 c] := by
    have : (UInt8.ofNat c.toNat).toNat = c.toNat := by rw [UInt8.toNat_ofNat']; omega
    simp only [bc, List.map_cons, List.map_nil, this, Int.toNat_of_nonneg h0]
  have hbr : br < w.heap.size := by
    obtain ⟨_, _, _, _, h2, _⟩ := h
    exact heap_lt h2
  have := take_more (w.alloc (.cells #[.int .u8 c] 5)) br n l g [UInt8.ofNat c.toNat] (h.below ((Below.refl _ _).alloc (Nat.le_refl _) _)) hn hl hg ⟨w.heap.size, 0, none⟩ 1 (by simp) (by simp) hbr (by rw [hc]; exact cell_one_new _ _ _)
  refine this.mono fun e w' ⟨h1, h2, h3⟩ => ⟨h1, h2, ((Below.refl br w).alloc (by omega) _).trans h3⟩
def octZ (c : Int) : Bool := decide (48 ≤ c) && decide (c ≤ 55)
set_option maxHeartbeats 400000 in
theorem octal_is (c : Int) (w : World) :
    Calls Tryz.prog 240 #[.int .u8 c] w fun e w' => e = .returned (.bool (octZ c)) ∧ w' = w := by
  obtain ⟨r, hr⟩ : ∃ r, octZ c = r := ⟨_, rfl⟩
  rw [hr]
  unfold octZ at hr
  cases h1 : decide (48 ≤ c) <;> cases h2 : decide (c ≤ 55)
  all_goals
    rw [h1, h2] at hr
    subst hr
    go_enter Tryz.func240, Tryz.ntmps240
    go_wp2_with fail
    go_ret
    exact ⟨rfl, rfl⟩
def dblB : List UInt8 → Bool
  | a :: b :: _ => (b.toNat : Int) == (a.toNat : Int)
  | _ => false
theorem at_0 {s : ByteArray} {a : UInt8} {t : List UInt8} (h : s.data.toList = a :: t) (hs : 0 < s.size) : s[0] = a := by
  obtain ⟨⟨l⟩⟩ := s
  simp at h
  subst h
  rfl
theorem at_1 {s : ByteArray} {a b : UInt8} {t : List UInt8} (h : s.data.toList = a :: b :: t) (hs : 1 < s.size) : s[1] = b := by
  obtain ⟨⟨l⟩⟩ := s
  simp at h
  subst h
  rfl
theorem at_2 {s : ByteArray} {a b c : UInt8} {t : List UInt8} (h : s.data.toList = a :: b :: c :: t) (hs : 2 < s.size) : s[2] = c := by
  obtain ⟨⟨l⟩⟩ := s
  simp at h
  subst h
  rfl
set_option maxHeartbeats 800000 in
theorem doubled_is (w : World) (br : Nat) (l g : List UInt8) (h : RD w br l g) (hl : l.length ≤ 30000) (hne : l ≠ []) :
    Calls Tryz.prog 214 #[.pointer (some ⟨br, 0, none⟩)] w fun e w' => e = .returned (.bool (dblB l)) ∧ ∃ q, w' = w.drewN q := by
  obtain ⟨s, gv, mv, rfl, h2, _, _⟩ := h
  obtain ⟨c0, _, _, f0, _, _⟩ := reader_cells h2
  have hsz : s.data.toList.length = s.size := by simp
  rw [hsz] at hl
  clear h2
  obtain ⟨r, hr⟩ : ∃ r, dblB s.data.toList = r := ⟨_, rfl⟩
  rw [hr]
  rcases hs : s.data.toList with _ | ⟨a, _ | ⟨b, t⟩⟩
  · exact absurd hs hne
  · rw [hs] at hr hsz
    simp [dblB] at hr
    subst hr
    have hd : decide ((1 : Int) < (s.size : Int)) = false := by simp at hsz ⊢; omega
    clear hs hsz hne
    go_enter Tryz.func214, Tryz.ntmps214
    go_wp2_with fail
    go_quiet (fail)
    go_wp2_with fail
    go_ret
    exact ⟨rfl, _, rfl⟩
  · rw [hs] at hr hsz
    have hs1 : 1 < s.size := by simp at hsz; omega
    have hs0 : 0 < s.size := by omega
    have e0 := at_0 hs hs0
    have e1 := at_1 hs hs1
    have hd : decide ((1 : Int) < (s.size : Int)) = true := by simp; omega
    have hr2 : ((b.toNat : Int) == (a.toNat : Int)) = r := hr
    clear hs hsz hne hr
    have HR := Lib.hid hr2
    clear hr2
    go_enter Tryz.func214, Tryz.ntmps214
    go_wp2_with fail
    go_quiet (fail)
    go_wp2_with fail
    go_ret
    exact ⟨by rw [← HR.out]; rfl, _, rfl⟩
end Go.Proofs.YtkplokfcjjcpcaaGreatDoor
end
