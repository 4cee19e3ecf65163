/- Great; what three terms that lie in three boxes keep. Conditions: none. -/
import Derived.Test.YtkidcchafdiofaaTermAb
import Derived.Test.YtkidcchafdiofaaTermAa
namespace Go.Proofs.Ytkidcchafdiofaa
open Go Go.RowKit

theorem great_no (ad : Option Addr) (n cap : Nat) (w : World) (h : n ≤ 60) : Calls Try.prog 10 #[.slice ad n cap] w fun e w' => e = .returned (.bool false) ∧ w = w' := by
  have h1 : decide ((60 : Int) < (n : Int)) = false := decide_eq_false (by omega)
  go_enter Try.func10, Try.ntmps10
  go_wp2
  go_ret
  exact ⟨rfl, rfl⟩
theorem great_yes (ad : Option Addr) (n cap : Nat) (w : World) (h : ¬ n ≤ 60) : Calls Try.prog 10 #[.slice ad n cap] w fun e w' => e = .returned (.bool true) ∧ w = w' := by
  have h1 : decide ((60 : Int) < (n : Int)) = true := decide_eq_true (by omega)
  go_enter Try.func10, Try.ntmps10
  go_wp2
  go_ret
  exact ⟨rfl, rfl⟩

/-- an argument: a row of parts -/
structure ArgOk (W : World) (ad : Option Addr) (n cap : Nat) (B off : Nat) (ps : List PRow) : Prop where
  len : ps.length = n
  fits : n ≤ cap
  max : cap ≤ 9223372036854775807
  at' : 0 < n → ad = some ⟨B, off, none⟩
  mem : PMem W B off ps
theorem arg_good {W w : World} {ad : Option Addr} {n cap B off : Nat} {ps : List PRow} (h : ArgOk W ad n cap B off ps) (hn : n ≤ 60) (hb : Below W.heap.size W w) : Calls Try.prog 18 #[.slice ad n cap] w (MendPost w (goodT ps)) := by
  obtain ⟨rfl, h1, h2, h3, h4⟩ := h
  exact good_is ps B off cap ad w h1 h2 h3 (h4.below hb (.inl (Nat.le_refl _))) (by omega)

/-- what Compare answers of two terms that memory holds from w0 on -/
structure CmpIs (w0 : World) (k n : Int) (s : ByteArray) (a : Option Addr) (l c : Nat) (k' n' : Int) (s' : ByteArray) (a' : Option Addr) (l' c' : Nat) (z : Int) : Prop where
  at' : ∀ w, Below w0.heap.size w0 w → Calls Try.prog 21 #[.agg #[.int .i64 k, .int .i64 n, .string s, .slice a l c], .agg #[.int .i64 k', .int .i64 n', .string s', .slice a' l' c']] w fun e w' => e = .returned (.int .i64 z) ∧ Below w0.heap.size w0 w'
theorem CmpIs.call {w0 w : World} {k n : Int} {s : ByteArray} {a : Option Addr} {l c : Nat} {k' n' : Int} {s' : ByteArray} {a' : Option Addr} {l' c' : Nat} {z : Int} (h : CmpIs w0 k n s a l c k' n' s' a' l' c' z) (hb : Below w0.heap.size w0 w) :
    Calls Try.prog 21 #[.agg #[.int .i64 k, .int .i64 n, .string s, .slice a l c], .agg #[.int .i64 k', .int .i64 n', .string s', .slice a' l' c']] w fun e w' => e = .returned (.int .i64 z) ∧ Below w0.heap.size w0 w' := h.at' w hb
theorem cmpIs_of {w0 : World} {x y : AT} {a a' : Option Addr} {l l' c c' : Nat} (hx : x.mem w0) (hy : y.mem w0) (h1 : x.nodes ≤ 800000) (h2 : y.nodes ≤ 800000) (e1 : x.sv = .slice a l c) (e2 : y.sv = .slice a' l' c') :
    CmpIs w0 x.k x.n x.s a l c y.k y.n y.s a' l' c' (cmpT x y) := ⟨fun w hb => by
  rw [← e1, ← e2]
  exact (compare_is x y w (AT.mem_below hb (AT.ins_size _ hx) hx) (AT.mem_below hb (AT.ins_size _ hy) hy) h1 h2).mono fun e w' hp => ⟨hp.1, hb.trans (hp.2.mono hb.size)⟩⟩
structure SameIs (w0 : World) (k n : Int) (s : ByteArray) (a : Option Addr) (l c : Nat) (k' n' : Int) (s' : ByteArray) (a' : Option Addr) (l' c' : Nat) (z : Bool) : Prop where
  at' : ∀ w, Below w0.heap.size w0 w → Calls Try.prog 26 #[.agg #[.int .i64 k, .int .i64 n, .string s, .slice a l c], .agg #[.int .i64 k', .int .i64 n', .string s', .slice a' l' c']] w fun e w' => e = .returned (.bool z) ∧ Below w0.heap.size w0 w'
theorem SameIs.call {w0 w : World} {k n : Int} {s : ByteArray} {a : Option Addr} {l c : Nat} {k' n' : Int} {s' : ByteArray} {a' : Option Addr} {l' c' : Nat} {z : Bool} (h : SameIs w0 k n s a l c k' n' s' a' l' c' z) (hb : Below w0.heap.size w0 w) :
    Calls Try.prog 26 #[.agg #[.int .i64 k, .int .i64 n, .string s, .slice a l c], .agg #[.int .i64 k', .int .i64 n', .string s', .slice a' l' c']] w fun e w' => e = .returned (.bool z) ∧ Below w0.heap.size w0 w' := h.at' w hb
theorem sameIs_of {w0 : World} {x y : AT} {a a' : Option Addr} {l l' c c' : Nat} (hx : x.mem w0) (hy : y.mem w0) (h1 : x.nodes ≤ 800000) (h2 : y.nodes ≤ 800000) (e1 : x.sv = .slice a l c) (e2 : y.sv = .slice a' l' c') :
    SameIs w0 x.k x.n x.s a l c y.k y.n y.s a' l' c' (x.same y) := ⟨fun w hb => by
  rw [← e1, ← e2]
  exact (same_is x.nodes x y w (Nat.le_refl _) (AT.mem_below hb (AT.ins_size _ hx) hx) (AT.mem_below hb (AT.ins_size _ hy) hy) h2 h1).mono fun e w' hp => ⟨hp.1, hb.trans (hp.2.mono hb.size)⟩⟩

end Go.Proofs.Ytkidcchafdiofaa
