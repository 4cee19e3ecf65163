/- The document's table of operators: Op whole, and New. Conditions: the operators are at most 256. -/
import Derived.Test.YtnnhpjpfmmlimaaDoorOpZ
namespace Go.Proofs.YtnnhpjpfmmlimaaDoor
open Go Go.RowKit Go.Maps
open Go.WideMaps Go.WideElems

theorem rop_is (b : Nat) (L : List Df) (d : Df) (w : World) (hR : Rt w b L) (hL : L.length ≤ 256) :
    Calls Tryd.prog 11 #[.pointer (some ⟨b, 0, none⟩), .int .i64 d.pri, .int .i64 d.typ, .string d.name] w (RPost w b L d) := by
  obtain ⟨p, t, n⟩ := d
  cases ha : argB p t n with
  | true =>
    refine (rop_arg b p t n w ha).mono ?_
    rintro e w' ⟨rfl, hw⟩
    have h : opZ L ⟨p, t, n⟩ = (2, L) := by unfold opZ; rw [if_pos ha]
    rw [hw]
    exact RPost.same hR (Below.refl _ _) (by rw [h]) (by rw [h])
  | false =>
    have hok := arg_ok ha
    have n1 : ¬ argB p t n = true := by rw [ha]; simp
    cases hf : fixedB n with
    | true =>
      refine (rop_fixed b p t n w hok hf).mono ?_
      rintro e w' ⟨rfl, hw⟩
      have h : opZ L ⟨p, t, n⟩ = (15, L) := by unfold opZ; rw [if_neg n1, if_pos hf]
      rw [hw]
      exact RPost.same hR (Below.refl _ _) (by rw [h]) (by rw [h])
    | false =>
      by_cases hp : p = 0
      · subst hp
        refine (rop_zero b L t n w hR hok hf hL).mono ?_
        rintro e w' ⟨rfl, h1, h2⟩
        have h : opZ L ⟨0, t, n⟩ = (0, rmv L n (srt t)) := by unfold opZ; rw [if_neg n1, if_neg (by rw [hf]; simp), if_pos rfl]
        exact ⟨by rw [h], by rw [h]; exact h1, h2⟩
      · have hp' : 0 < p := by have := hok.p0; omega
        rcases srt_in t with hs | hs | hs
        · exact rop_pos1 b L p t n w hR hok hp' hf ha hL hs
        · exact rop_pos2 b L p t n w hR hok hp' hf ha hL hs
        · exact rop_pos3 b L p t n w hR hok hp' hf ha hL hs

end Go.Proofs.YtnnhpjpfmmlimaaDoor
