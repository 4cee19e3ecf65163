/- term.variables.number: a variable's part gets its place as its number. Conditions: what memory holds of the part, and of the variables that were met. -/
import Derived.Test.YtkidcchafdiofaaTermV
namespace Go.Proofs.Ytkidcchafdiofaa
open Go Go.RowKit Go.Maps
open Go.WideMaps Go.WideElems

theorem look1_64 {w : World} {b n : Nat} {D : DataW Unit} (h : OM w b n D) (c v : Int) (h0 : R64 c) (hv : D.atKey (.int .i64 c) (.lit (.int .i64 0)) = .lit (.int .i64 v)) :
    (Instr.lookup 57 (.map (some b)) (.int .i64 c) false).run Try.prog w = .ok (.int .i64 v) w := by
  obtain ⟨x, hrun, hx, _⟩ := World.ownsMap.lookup_int h i64Key Try.underlying57 Try.underlying2 (by kernel_rfl) (keyOf_64 h0)
  rw [hv] at hx
  cases hx
  exact hrun
theorem meet_mem {vs : List Int} {t : AT} (h : t.k = 1) : t.n ∈ meetV vs t := by
  unfold meetV
  split
  · simp
  · rename_i hn
    by_cases hm : t.n ∈ vs
    · exact hm
    · exact absurd ⟨h, hm⟩ hn
/-- the part's new number -/
def newN (vs : List Int) (t : AT) : Int := if t.k = 1 then (vs.idxOf t.n : Int) else t.n
def NumPost (w : World) (q bm B o : Nat) (v : Value) (vs : List Int) (t : AT) (e : Ending) (w' : World) : Prop :=
  e = .returned (.bool true) ∧ ∃ v' w1, VarsAt w1 q bm v' (meetV vs t) ∧ (∀ k, v'.ownBlock = some k → v.ownBlock = some k ∨ w.heap.size ≤ k) ∧ Keeps (fun j => j = q ∨ j = bm ∨ v.ownBlock = some j) w w1 ∧
    ∃ d, w' = (if t.k = 1 then w1.setCell ⟨B, o + 1, none⟩ (.int .i64 (newN (meetV vs t) t)) else w1).drewN d

set_option maxRecDepth 100000 in
set_option maxHeartbeats 1600000 in
theorem number_is (q bm B o : Nat) (v dv : Value) (vs : List Int) (t : AT) (w : World) (h : VarsAt w q bm v vs) (h0 : w.cell? ⟨B, o, none⟩ = some (.int .i64 t.k)) (h1 : w.cell? ⟨B, o + 1, none⟩ = some (.int .i64 t.n)) (hz : w.frozen? ⟨B, o + 1, none⟩ = false) (hr : R64 t.n) (hlen : vs.length ≤ 900000) (hB : ¬ (B = q ∨ B = bm ∨ v.ownBlock = some B)) :
    Calls Try.prog 45 #[.pointer (some ⟨q, 0, none⟩), .pointer (some ⟨B, o, none⟩), dv] w (NumPost w q bm B o v vs t) := by
  have M := Lib.hid (meet_any q bm B o v dv vs t w h h0 h1 hr hlen (fun e => hB (.inr (.inl e))))
  have hBl := World.block_lt_of_cell? _ _ h0
  obtain ⟨k, hk⟩ : ∃ k, t.k = k := ⟨_, rfl⟩
  obtain ⟨n, hn⟩ : ∃ k, t.n = k := ⟨_, rfl⟩
  have HKN := Lib.hid (And.intro hk hn)
  rw [hk] at h0
  rw [hn] at h1
  have H0 := Lib.hid h0
  have H1 := Lib.hid h1
  have HZ := Lib.hid hz
  have HB := Lib.hid hB
  clear h h0 h1 hz hB hk hn
  go_enter Try.func45, Try.ntmps45
  go_wp2_with fail
  refine M.out.mono ?_
  rintro e w1 ⟨rfl, v', a1, a2, a3⟩
  have c0 := a3.cell H0.out HB.out
  have c1 := a3.cell H1.out HB.out
  have z1 : w1.frozen? ⟨B, o + 1, none⟩ = false := by
    rw [World.frozen?_of_block (a3.block B hBl HB.out)]
    exact HZ.out
  by_cases hk : k = 1
  · subst hk
    have hm := meet_mem (vs := vs) HKN.out.1
    obtain ⟨D, b1, b2, b3, b4, b5⟩ := a1
    have d1 : w1.cell? ⟨q, 1, none⟩ = some (.map (some bm)) := cell_of_heap b1 rfl
    have hl : ∀ d : Nat, (Instr.lookup 57 (.map (some bm)) (.int .i64 n) false).run Try.prog (w1.drewN d) = .ok (.int .i64 (newN (meetV vs t) t)) (w1.drewN d) := fun d => by
      have h5 := look1_64 (w := w1.drewN d) b2 t.n _ hr ((b3.2 t.n).1 hm).2
      rw [HKN.out.2] at h5
      rw [h5]
      unfold newN
      rw [if_pos HKN.out.1, HKN.out.2]
    have hl1 : (Instr.lookup 57 (.map (some bm)) (.int .i64 n) false).run Try.prog w1.drew = .ok (.int .i64 (newN (meetV vs t) t)) w1.drew := hl 1
    clear hl
    have FIN : Hid (∀ d, NumPost w q bm B o v vs t (.returned (.bool true)) ((w1.setCell ⟨B, o + 1, none⟩ (.int .i64 (newN (meetV vs t) t))).drewN d)) := fun d => ⟨rfl, v', w1, ⟨D, b1, b2, b3, b4, b5⟩, a2, a3, d, by rw [if_pos HKN.out.1]⟩
    generalize newN (meetV vs t) t = z at *
    clear a2 a3 b1 b2 b3 b4 b5 hm M
    go_wp2
    go_region
    all_goals
      go_wp2
      first | (go_ret; exact FIN.out 1) | exact FIN.out 1
  · have FIN : Hid (∀ d, NumPost w q bm B o v vs t (.returned (.bool true)) (w1.drewN d)) := fun d => ⟨rfl, v', w1, a1, a2, a3, d, by rw [if_neg (by rw [HKN.out.1]; exact hk)]⟩
    have hkb : (k == 1) = false := beq_eq_false_iff_ne.2 hk
    clear a1 a2 a3 hk M
    go_wp2
    go_ret
    exact FIN.out 0

end Go.Proofs.Ytkidcchafdiofaa
