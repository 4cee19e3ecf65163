/- The document's Rename: a contract, whole. Conditions: memory holds the term and the row of numbers. -/
import Derived.Test.YtkidcchafdiofaaTermAs
import Derived.Test.YtkidcchafdiofaaTermAq
namespace Go.Proofs.Ytkidcchafdiofaa
open Go Go.RowKit

set_option maxRecDepth 100000 in
set_option maxHeartbeats 1600000 in
theorem ren_leaf (vs : List Int) (la : Option Addr) (lc lg : Nat) (n : Int) (s : ByteArray) (a : Option Addr) (l c : Nat) (L : List Tm) (w : World) (h1 : vs.length ≤ lc) (h2 : lc ≤ 9223372036854775807) (h3 : 0 < vs.length → la = some ⟨lg, 0, none⟩) (h4 : LMem w lg vs) :
    Calls Try.prog 46 #[.agg #[.int .i64 1, .int .i64 n, .string s, .slice a l c], .slice la vs.length lc] w (MendPost w (Tm.renR vs (.mk 1 n s L))) := by
  have HP := Lib.hid (fun w1 (hb : Below w.heap.size w w1) => place_is vs n la lc lg w1 h1 h2 h3 (h4.below hb))
  rw [Tm.renR, if_pos rfl]
  obtain ⟨z, hz⟩ : ∃ z, placeI vs n = z := ⟨_, rfl⟩
  obtain ⟨m, hm⟩ : ∃ z, vs.length = z := ⟨_, rfl⟩
  rw [hz, hm] at HP
  rw [hz, hm]
  clear h3 h4 hz hm h1 h2
  have hb2 : ∀ A B : Obj, Below w.heap.size w ((w.alloc A).alloc B) := fun A B => ((Below.refl _ _).alloc (Nat.le_refl _) _).alloc (by simp) _
  have HB2 := Lib.hid hb2
  clear hb2
  go_enter Try.func46, Try.ntmps46
  go_wp2_with fail
  refine (HP.out _ (HB2.out _ _)).mono ?_
  rintro _ _ ⟨rfl, rfl⟩
  go_wp2
  refine bodyPost_ret (v := .agg #[.int .i64 1, .int .i64 z, .string ⟨#[]⟩, .slice none 0 0]) (by simp [results, Try.results46, go_sem]) rfl ?_
  exact leaf_post (HB2.out _ _)
theorem renR_is (vs : List Int) (la : Option Addr) (lc lg : Nat) (h1 : vs.length ≤ lc) (h2 : lc ≤ 9223372036854775807) (h3 : 0 < vs.length → la = some ⟨lg, 0, none⟩) : ∀ (m : Nat) (x : AT) (w : World), LMem w lg vs → x.nodes ≤ m → x.mem w → x.nodes ≤ 800000 →
    Calls Try.prog 46 #[.agg #[.int .i64 x.k, .int .i64 x.n, .string x.s, x.sv], .slice la vs.length lc] w (MendPost w (Tm.renR vs x.erase))
  | 0, x, _, _, h, _, _ => by have := nodes_pos x; omega
  | m + 1, x, w, hv, h, hx, hn => by
    by_cases hk : x.k = 1
    · obtain ⟨ad, cx, ex, _, _, _⟩ := sv_form (AT.mem_mk.1 hx).1
      rw [AT.erase_mk, hk, ex]
      exact ren_leaf vs la lc lg x.n x.s ad x.l.length cx _ w h1 h2 h3 hv
    · exact ren_node vs la vs.length lc lg m (fun x w hv h hx hn => renR_is vs la lc lg h1 h2 h3 m x w hv h hx hn) x w h hx hn hv hk

mutual
/-- on a term of Good's shape, whose variables are all in the list, both ways to number are one -/
theorem ren_eq (vs : List Int) : ∀ t : Tm, t.shp → (∀ x ∈ t.kns, x.1 = 1 → x.2 ∈ vs) → t.renR vs = t.ren vs
  | .mk k n s l, hs, h => by
    rw [Tm.renR, Tm.ren]
    by_cases hk : k = 1
    · rw [if_pos hk, if_pos hk]
      rcases hs.1 with ⟨_, h2, h3⟩ | ⟨h1, _⟩
      · subst h2 h3
        have hm : n ∈ vs := h (k, n) (by rw [Tm.kns]; exact List.mem_cons_self) hk
        unfold placeI
        rw [if_pos hm, hk]; rfl
      · omega
    · rw [if_neg hk, if_neg hk, rens_eq vs l hs.2 (fun x hx => h x (by rw [Tm.kns]; exact List.mem_cons_of_mem _ hx))]
theorem rens_eq (vs : List Int) : ∀ l : List Tm, Tms.shp l → (∀ x ∈ Tms.kns l, x.1 = 1 → x.2 ∈ vs) → Tms.renR vs l = Tms.ren vs l
  | [], _, _ => rfl
  | t :: r, hs, h => by
    rw [Tms.renR, Tms.ren, ren_eq vs t hs.1 (fun x hx => h x (by rw [Tms.kns]; exact List.mem_append_left _ hx)), rens_eq vs r hs.2 (fun x hx => h x (by rw [Tms.kns]; exact List.mem_append_right _ hx))]
end

end Go.Proofs.Ytkidcchafdiofaa
