/- Joined texts: RdA. Conditions: as each states. -/
import Derived.Test.YtkplokfcjjcpcaaGreatDoorRk30
import Derived.Test.YtkplokfcjjcpcaaGreatDoorRk09
import Derived.Test.YtkplokfcjjcpcaaGreatDoorRk17
import Derived.Test.YtkplokfcjjcpcaaGreatDoorRk19
import Derived.Test.YtkplokfcjjcpcaaGreatDoorRk31
namespace Go.Proofs.YtkplokfcjjcpcaaGreatDoor
open Go Go.RowKit Go.Maps Trm
structure LayA (w : World) : Prop where
  tok : Lay w
  ops : Ops.Lay [] w
  pow : Lib.TabIs Tryz.prog w "internal/strconv.uint64pow10" .u64 Lib.pow10Tab
theorem pow_on {w w' : World} (h : Pow w) (hb : Below w.heap.size w w') : Pow w' := by
  unfold Pow Lib.TabIs World.var? at *
  cases hg : Program.globalNamed Tryz.prog "internal/strconv.uint64pow10" with
  | none => simp [hg] at h
  | some g =>
    simp only [hg, Option.bind_some] at h ⊢
    have hlt : g < w.heap.size := by
      rcases Nat.lt_or_ge g w.heap.size with h' | h'
      · exact h'
      · rw [Array.getElem?_eq_none h'] at h; simp at h
    rw [hb.block g hlt]
    exact h
theorem LayA.on {w w' : World} (h : LayA w) (b : Below w.heap.size w w') : LayA w' := ⟨h.tok.on b, h.ops.on b, pow_on h.pow b⟩
theorem tks_of {w : World} {b : Nat} {v : Value} {l : List Tok} (h : w.ownsRow b 48 6 v l.length (tokCells l)) : ∃ ad cap, v = .slice ad l.length cap ∧ Tks w (.slice ad l.length cap) l := by
  obtain ⟨h1, ⟨hv, h0⟩ | ⟨g, cap, cur, hv, h2, h3, h4, h5, h6, h7⟩⟩ := h
  · have hl : l = [] := List.length_eq_zero_iff.1 h0
    subst hl
    exact ⟨none, 0, hv, ⟨none, 0, 0, rfl, Nat.le_refl _, by omega, fun h => absurd h (by simp), fun j u hu => by simp [tokCells] at hu⟩⟩
  · refine ⟨_, cap, hv, ⟨_, cap, g, rfl, h4, by unfold maxLen at h5; omega, fun _ => ⟨rfl, heap_lt h3⟩, fun j u hu => ?_⟩⟩
    have hj : j < l.length * 6 := by rw [← h1]; exact (List.getElem?_eq_some_iff.1 hu).1
    refine cell_of_heap h3 ?_
    rw [← h7, List.getElem?_take, if_pos hj] at hu
    simpa using hu
theorem lex_tks (s : ByteArray) (R : LexR) (h : lexN s.data.toList 1 0 = R) (n : Nat) (hn : R.toks.length = n) (hs : s.size ≤ 5000) (w : World) (ht : LayA w) :
    Calls Tryz.prog 17 #[.string s] w fun e w' => ∃ ad cap, e = .returned (.tuple #[.slice ad n cap, .int .i64 R.line, .int .i64 R.e]) ∧ Tks w' (.slice ad n cap) R.toks ∧ Below w.heap.size w w' := by
  refine (lex_is s w hs ht.tok).mono ?_
  rintro e w' ⟨⟨v, rfl, ho⟩, hb⟩
  rw [h] at ho ⊢
  subst hn
  obtain ⟨ad, cap, rfl, ht'⟩ := tks_of ho
  exact ⟨ad, cap, rfl, ht', hb⟩
theorem new_tab (w : World) (ht : LayA w) : Calls Tryz.prog 22 #[] w fun e w' => e = .returned (.pointer (some ⟨w.heap.size, 0, none⟩)) ∧ (∃ m, Tab' w' w.heap.size m Ops.firstL) ∧ Below w.heap.size w w' := by
  refine (Ops.new_is w ht.ops).mono ?_
  rintro e w' ⟨rfl, m, _, h1, h2⟩
  exact ⟨rfl, ⟨m, ⟨ht.ops.on h2, h1⟩⟩, h2⟩
structure RdAt (w0 : World) (tv : Value) (a : Nat) (L : List Ops.Df) (l : List Tok) : Prop where
  tab : ∃ m, Tab' w0 a m L
  tks : Tks w0 tv l
  ok : TkOk l
theorem RdAt.on {w w' : World} {tv : Value} {a : Nat} {L : List Ops.Df} {l : List Tok} (h : RdAt w tv a L l) (b : Below w.heap.size w w') : RdAt w' tv a L l :=
  ⟨h.tab.elim fun m hm => ⟨m, hm.on b⟩, h.tks.on b, h.ok⟩
theorem RdAt.read {w : World} {tv : Value} {a : Nat} {L : List Ops.Df} {l : List Tok} (h : RdAt w tv a L l) (ad : Option Addr) (n cap : Nat) (hv : tv = .slice ad n cap) (i : Nat) (hi : i ≤ 5000) (r : Cz × Int) (hr : readZ L l i = r) :
    Calls Tryz.prog 18 #[.slice ad n cap, .int .i64 i, .pointer (some ⟨a, 0, none⟩)] w (ReadPost w r.1 r.2) := by
  subst hv hr
  obtain ⟨m, hm⟩ := h.tab
  have hn : l.length = n := by
    obtain ⟨ad', cap', g, h1, _⟩ := h.tks.got
    simp at h1
    exact h1.2.1.symm
  exact read_is w ad n cap i a m L l hn hm h.tks h.ok hi
theorem ReadPost.mk' {w w' : World} {c : Cz} {er : Int} {e : Ending} (h : ReadPost w c er e w') : ∃ (t : AT) (ad na : Option Addr) (k nk : Nat), e = .returned (.tuple #[.agg #[.int .i64 t.k, .int .i64 t.n, .string t.s, .slice ad t.l.length k, .slice na c.vs.length nk, .int .i64 c.line, .int .i64 c.next], .int .i64 er]) ∧
    (t.sv = .slice ad t.l.length k ∧ t.erase = c.t ∧ t.mem w' ∧ t.nodes ≤ 40000) ∧ w'.ownsRow w.heap.size 59 2 (.slice na c.vs.length nk) c.vs.length (bindCells c.vs) ∧ Below w.heap.size w w' := by
  obtain ⟨t, nv, rfl, h1, h2, h3, h4, h5⟩ := h
  obtain ⟨ad, k, e1, _⟩ := sv_form (AT.mem_mk.1 h2).1
  obtain ⟨na, nk, rfl⟩ := row_slice h4
  refine ⟨t, ad, na, k, nk, ?_, ⟨e1, h1, h2, h3⟩, h4, h5⟩
  unfold cVal
  rw [e1]
theorem erase_k (t : AT) (u : Tm) (h : t.erase = u) : t.k = u.hd.k ∧ t.n = u.hd.n ∧ t.s = u.hd.s ∧ t.l.length = u.hd.a := by
  subst h
  cases t with
  | mk k n s sv G off l => exact ⟨rfl, rfl, rfl, (erase_len l).symm⟩
def ReadLit (w : World) (k n : Int) (s : ByteArray) (a : Nat) (u : Tm) (vs : List (ByteArray × Int)) (line next er : Int) (e : Ending) (w' : World) : Prop :=
  ∃ (t : AT) (ad na : Option Addr) (kk nk : Nat), e = .returned (.tuple #[.agg #[.int .i64 k, .int .i64 n, .string s, .slice ad a kk, .slice na vs.length nk, .int .i64 line, .int .i64 next], .int .i64 er]) ∧
    (t.sv = .slice ad a kk ∧ t.erase = u ∧ t.mem w' ∧ t.nodes ≤ 40000 ∧ t.k = k ∧ t.n = n ∧ t.s = s ∧ t.l.length = a) ∧ w'.ownsRow w.heap.size 59 2 (.slice na vs.length nk) vs.length (bindCells vs) ∧ Below w.heap.size w w'
theorem RdAt.lit {w : World} {tv : Value} {a : Nat} {L : List Ops.Df} {l : List Tok} (h : RdAt w tv a L l) (ad : Option Addr) (n cap : Nat) (hv : tv = .slice ad n cap) (i : Nat) (hi : i ≤ 5000) {u : Tm} {vs : List (ByteArray × Int)} {line next er : Int} (hr : readZ L l i = (⟨u, vs, line, next⟩, er)) (k m : Int) (s : ByteArray) (z : Nat) (hh : u.hd = ⟨k, m, s, z⟩) :
    Calls Tryz.prog 18 #[.slice ad n cap, .int .i64 i, .pointer (some ⟨a, 0, none⟩)] w (ReadLit w k m s z u vs line next er) := by
  refine (h.read ad n cap hv i hi _ hr).mono ?_
  rintro e w' hp
  obtain ⟨t, ad', na, kk, nk, rfl, ⟨h1, h2, h3, h4⟩, h5, h6⟩ := hp.mk'
  obtain ⟨e1, e2, e3, e4⟩ := erase_k t u h2
  rw [hh] at e1 e2 e3 e4
  simp only at e1 e2 e3 e4 h5
  refine ⟨t, ad', na, kk, nk, ?_, ⟨by rw [h1, e4], h2, h3, h4, e1, e2, e3, e4⟩, h5, h6⟩
  rw [e1, e2, e3, e4]
end Go.Proofs.YtkplokfcjjcpcaaGreatDoor
