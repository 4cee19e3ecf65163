/- name.Put: a contract; the maps of escapes. Conditions: the text has at most 4000 bytes; the library's variables hold what their text lays. -/
import Derived.Test.YtkbeaddbnnboaaaDoorNameD
import Derived.Test.YtkbeaddbnnboaaaDoorNameF
import Derived.Test.YtkbeaddbnnboaaaDoorNameG
import Derived.Maps.OwnOps
import Derived.Maps.OwnSet
import Derived.Maps.AppendAt
import Derived.Laws.IdiomStrings
import Derived.Laws.BytesArg
namespace Go.Proofs.YtkbeaddbnnboaaaDoor
open Go Go.RowKit Go.Maps
open Go.WideMaps Go.WideElems

theorem u8Key : Keyed Tryd.prog 5 := int_keyed Tryd.underlying5
theorem wf_u8 {c : Int} (h0 : 0 ≤ c) (h1 : c ≤ 255) : (Lit.int .u8 c).wf = true := by
  go_wf
theorem keyOf_u8 {c : Int} (h0 : 0 ≤ c) (h1 : c ≤ 255) : keyOf Tryd.prog 5 (.int .u8 c) = some (.int .u8 c) := keyOf_int_mk Tryd.underlying5 (wf_u8 h0 h1)

/-- one entry of a map literal of bytes -/
theorem wpList_insert_u8 (w : World) {ops : Array Oper} {rest : List Oper} {o : Oper} {a : Act} {Q : Exit → Act → World → Prop}
    (hg : o.guard = none) (m x v : Operand) (hop : o.op = Op.insert 54 m x v) (b n : Nat) (D : DataW Unit)
    (hm : a.eval m = .map (some b)) (hown : w.ownsMap Tryd.prog 5 (plainElem (H := Unit) Tryd.prog 5) b n D) (hn : n < maxLen) (k y : Int) (hx : a.eval x = .int .u8 k) (h0 : 0 ≤ k) (h1 : k ≤ 255)
    (hv : a.eval v = .int .u8 y) (h2 : 0 ≤ y) (h3 : y ≤ 255)
    (hK : ∀ w', w'.ownsMap Tryd.prog 5 (plainElem (H := Unit) Tryd.prog 5) b (n + 1) (D.put (.int .u8 k) (.lit (.int .u8 y))) → w.grownBy w' (some b) → wpList Tryd.prog ops Q rest (a.put o.dst undef) w') :
    wpList Tryd.prog ops Q (o :: rest) a w := by
  refine wpList_plain hg fun K' hK' => ?_
  obtain ⟨w', hrun, r1, r2⟩ := hown.update u8Key Tryd.underlying54 hn (keyOf_u8 h0 h1) (plainElem_int Tryd.underlying5 (wf_u8 h2 h3))
  unfold Oper.wp
  simp [execOp, hop, hm, hx, hv, hrun, Result.andThen]
  exact hK' _ _ (hK w' r1 r2)

theorem ownsMap_below {w w' : World} {b n B : Nat} {D : DataW Unit} (h : w.ownsMap Tryd.prog 5 (plainElem (H := Unit) Tryd.prog 5) b n D) (hb : Below B w w') (hB : b < B) : w'.ownsMap Tryd.prog 5 (plainElem (H := Unit) Tryd.prog 5) b n D := by
  obtain ⟨es, clock, h1, h2⟩ := h
  exact ⟨es, clock, by rw [hb.block b hB]; exact h1, h2⟩

/-- what 'v, ok := m[c]' answers -/
theorem look_u8 {w : World} {b n : Nat} {D : DataW Unit} (h : w.ownsMap Tryd.prog 5 (plainElem (H := Unit) Tryd.prog 5) b n D) (c v : Int) (ok : Bool) (h0 : 0 ≤ c) (h1 : c ≤ 255)
    (hv : D.atKey (.int .u8 c) (.lit (.int .u8 0)) = .lit (.int .u8 v)) (hok : Maps.has D (.int .u8 c) = ok) :
    (Instr.lookup 54 (.map (some b)) (.int .u8 c) true).run Tryd.prog w = .ok (.tuple #[.int .u8 v, .bool ok]) w := by
  obtain ⟨x, ps, hrun, hx⟩ := h.look_ok u8Key Tryd.underlying54 (z := .int .u8 0) (by kernel_rfl) (plainElem_int Tryd.underlying5 (by decide)) (keyOf_u8 h0 h1)
  obtain ⟨y, rfl, hy, _⟩ := plainElem_int_inv Tryd.underlying5 hx
  rw [hv] at hy
  cases hy
  rw [hrun, hok]

def litI (d : DataW Unit) : Int := match d with | .lit (.int .u8 a) => a | _ => -1
theorem litI_inv {d : DataW Unit} {v : Int} (h : litI d = v) (hv : 0 ≤ v) : d = .lit (.int .u8 v) := by
  unfold litI at h
  split at h
  · rw [h]
  · omega

/-- the map of escapes that Put writes -/
def writtenD : DataW Unit :=
  DataW.put (DataW.put (DataW.put (DataW.put (.map []) (.int .u8 39) (.lit (.int .u8 39))) (.int .u8 92) (.lit (.int .u8 92))) (.int .u8 10) (.lit (.int .u8 110))) (.int .u8 9) (.lit (.int .u8 116))
def wrV (c : Int) : Int := if c = 39 then 39 else if c = 92 then 92 else if c = 10 then 110 else if c = 9 then 116 else 0
def wrO (c : Int) : Bool := c == 39 || c == 92 || c == 10 || c == 9
theorem written_at : ∀ k : Fin 256, litI (writtenD.atKey (.int .u8 (k.val : Int)) (.lit (.int .u8 0))) = wrV k.val ∧ Maps.has writtenD (.int .u8 (k.val : Int)) = wrO k.val := by decide +kernel
theorem wrV_nn (c : Int) : 0 ≤ wrV c := by unfold wrV; repeat' split
                                           all_goals omega
theorem look_written {w : World} {b : Nat} (h : w.ownsMap Tryd.prog 5 (plainElem (H := Unit) Tryd.prog 5) b 4 writtenD) (c : Int) (h0 : 0 ≤ c) (h1 : c ≤ 255) :
    (Instr.lookup 54 (.map (some b)) (.int .u8 c) true).run Tryd.prog w = .ok (.tuple #[.int .u8 (wrV c), .bool (wrO c)]) w := by
  obtain ⟨h2, h3⟩ := written_at ⟨c.toNat, by omega⟩
  simp only [Int.toNat_of_nonneg h0] at h2 h3
  exact look_u8 h c _ _ h0 h1 (litI_inv h2 (wrV_nn c)) h3

set_option maxRecDepth 100000 in
set_option maxHeartbeats 800000 in
theorem written_is (w : World) :
    Calls Tryd.prog 24 #[] w fun e w' => e = .returned (.map (some w.heap.size)) ∧ w'.ownsMap Tryd.prog 5 (plainElem (H := Unit) Tryd.prog 5) w.heap.size 4 writtenD ∧ Below w.heap.size w w' ∧ w.heap.size < w'.heap.size := by
  have hmm := run_makeMap (P := Tryd.prog) 54 w
  have h0 := World.ownsMap_made w Tryd.prog 5 (plainElem (H := Unit) Tryd.prog 5)
  have b0 : Below w.heap.size w (w.alloc (.map #[] 0)) := (Below.refl _ _).alloc (Nat.le_refl _) _
  obtain ⟨w0, hw0⟩ : ∃ w0, w0 = w.alloc (.map #[] 0) := ⟨_, rfl⟩
  rw [← hw0] at h0 b0
  simp only [← hw0] at hmm
  clear hw0
  go_enter Tryd.func24, Tryd.ntmps24
  go_wp2_with (first | (refine wpList_insert_u8 w0 rfl _ _ _ rfl _ _ _ rfl h0 (by unfold maxLen; omega) _ _ rfl (by omega) (by omega) rfl (by omega) (by omega) ?_; intro w1 h1 g1; have b1 := b0.grown g1 (by have := b0.size; omega) (fun _ e => by cases e; exact Nat.le_refl _); clear h0 g1 b0) | (refine wpList_insert_u8 w1 rfl _ _ _ rfl _ _ _ rfl h1 (by unfold maxLen; omega) _ _ rfl (by omega) (by omega) rfl (by omega) (by omega) ?_; intro w2 h2 g2; have b2 := b1.grown g2 (by have := b1.size; omega) (fun _ e => by cases e; exact Nat.le_refl _); clear h1 g2 b1) | (refine wpList_insert_u8 w2 rfl _ _ _ rfl _ _ _ rfl h2 (by unfold maxLen; omega) _ _ rfl (by omega) (by omega) rfl (by omega) (by omega) ?_; intro w3 h3 g3; have b3 := b2.grown g3 (by have := b2.size; omega) (fun _ e => by cases e; exact Nat.le_refl _); clear h2 g3 b2) | (refine wpList_insert_u8 w3 rfl _ _ _ rfl _ _ _ rfl h3 (by unfold maxLen; omega) _ _ rfl (by omega) (by omega) rfl (by omega) (by omega) ?_; intro w4 h4 g4; have b4 := b3.grown g4 (by have := b3.size; omega) (fun _ e => by cases e; exact Nat.le_refl _); clear h3 g4 b3))
  go_ret
  exact ⟨rfl, h4, b4, h4.lt⟩

/-- how one byte is written in quotes -/
def putC (c : UInt8) : List UInt8 :=
  if wrO (c.toNat : Int) = true then [92, UInt8.ofNat (wrV (c.toNat : Int)).toNat] else if c.toNat < 32 ∨ c.toNat = 127 then [92, 120] ++ hexL c.toNat ++ [92] else [c]
def putB (l : List UInt8) : List UInt8 := 39 :: l.flatMap putC
def putL (l : List UInt8) : List UInt8 := if plainB l = true then l else putB l ++ [39]
theorem hexL_len (u : Nat) : (hexL u).length ≤ 2 := by unfold hexL; split <;> simp
theorem putC_len (c : UInt8) : (putC c).length ≤ 5 := by
  unfold putC
  have := hexL_len c.toNat
  split
  · simp
  · split <;> simp; omega
theorem putB_snoc (l : List UInt8) (c : UInt8) : putB (l ++ [c]) = putB l ++ putC c := by unfold putB; simp
theorem putB_len (l : List UInt8) : (putB l).length ≤ 1 + 5 * l.length := by
  unfold putB
  induction l with
  | nil => simp
  | cons a t ih => have := putC_len a; simp at ih ⊢; omega
theorem conv_own {w : World} {B : Nat} {v : Value} {l : List UInt8} (h : w.ownsRow B 5 1 v l.length (bc l)) :
    (convert 38 9 v).run Tryd.prog w = .ok (.string ⟨l.toArray⟩) w := by
  have hc := h
  rcases h.2 with ⟨rfl, h0⟩ | ⟨g, cap, cur, rfl, _⟩
  · have : l = [] := List.eq_nil_of_length_eq_zero h0
    subst this
    rw [run_convert_bytes_string w 38 9 5 none 0 0 Tryd.underlying38 Tryd.underlying5 Tryd.underlying9]
    rfl
  · refine run_convert_bytes_back w 38 9 5 ⟨g, 0, none⟩ cap l Tryd.underlying38 Tryd.underlying5 Tryd.underlying9 fun j hj => ?_
    exact hc.cells rfl j _ (by simp [hj])

end Go.Proofs.YtkbeaddbnnboaaaDoor
