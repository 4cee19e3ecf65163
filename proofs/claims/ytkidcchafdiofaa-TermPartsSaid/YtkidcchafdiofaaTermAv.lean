/- TermParts' walk. Conditions: the arguments' memory. -/
import Derived.Test.YtkidcchafdiofaaTermAu
import Derived.Test.YtkidcchafdiofaaRegB
import Derived.Deep.RegionHeld3
import Derived.Deep.DrawnRows
import Derived.Deep.DeepCutAuto
import Derived.IntWalk
namespace Go.Proofs.Ytkidcchafdiofaa
open Go Go.RowKit

/-- what stands in the four variables, and where -/
structure PartsCut (W5 : World) (T : TypeId) (X Y : List Value) (s7 s8 : Value) (wx : World) : Prop where
  ex : ∃ g7 g8 b2 b1 : Nat, s7 = .pointer (some ⟨g7, 0, none⟩) ∧ s8 = .pointer (some ⟨g8, 0, none⟩) ∧ wx.heap[g7]? = some (.cells #[.int .i64 4, .int .i64 0, .string ⟨#[102]⟩, .slice (some ⟨b2, 0, none⟩) 2 2] T (0, 0)) ∧
    wx.heap[g8]? = some (.cells #[.int .i64 4, .int .i64 0, .string ⟨#[122, 122, 122]⟩, .slice (some ⟨b1, 0, none⟩) 1 1] T (0, 0)) ∧ wx.heap[b2]? = some (.cells (X ++ Y).toArray T (0, 0)) ∧ wx.heap[b1]? = some (.cells X.toArray T (0, 0))
  below : Below W5.heap.size W5 wx

def deps6 : List (List Nat) := [[], [], [0, 1], [2], [], [4], [5], [], [], [2, 3, 7], [5, 6, 8]]
def tgt6 : Nat → Option Nat
  | 9 => some 7
  | 10 => some 8
  | _ => none
def said6 (X Y : List Value) (T : TypeId) : Nat → (Nat → Value) → (Nat → Prop) → World → Prop
  | 0, v, _, _ => v 0 = .agg X.toArray
  | 1, v, _, _ => v 1 = .agg Y.toArray
  | 2, v, S, w => ∃ b, v 2 = (.slice (some ⟨b, 0, none⟩) 2 2) ∧ S b ∧ w.heap[b]? = some (.cells (X ++ Y).toArray T (0, 0))
  | 3, v, _, _ => ∃ b, v 2 = (.slice (some ⟨b, 0, none⟩) 2 2) ∧ v 3 = (.agg #[.int .i64 4, .int .i64 0, .string ⟨#[102]⟩, .slice (some ⟨b, 0, none⟩) 2 2])
  | 4, v, _, _ => v 4 = .agg X.toArray
  | 5, v, S, w => ∃ b, v 5 = (.slice (some ⟨b, 0, none⟩) 1 1) ∧ S b ∧ w.heap[b]? = some (.cells X.toArray T (0, 0))
  | 6, v, _, _ => ∃ b, v 5 = (.slice (some ⟨b, 0, none⟩) 1 1) ∧ v 6 = (.agg #[.int .i64 4, .int .i64 0, .string ⟨#[122, 122, 122]⟩, .slice (some ⟨b, 0, none⟩) 1 1])
  | 7, v, S, w => ∃ g, v 7 = .pointer (some ⟨g, 0, none⟩) ∧ S g ∧ w.heap[g]? = some (.cells #[.int .i64 0, .int .i64 0, .string ⟨#[]⟩, .slice none 0 0] T (0, 0))
  | 8, v, S, w => ∃ g, v 8 = .pointer (some ⟨g, 0, none⟩) ∧ S g ∧ w.heap[g]? = some (.cells #[.int .i64 0, .int .i64 0, .string ⟨#[]⟩, .slice none 0 0] T (0, 0))
  | 9, v, S, w => ∃ g b, v 7 = .pointer (some ⟨g, 0, none⟩) ∧ v 2 = (.slice (some ⟨b, 0, none⟩) 2 2) ∧ S g ∧ w.heap[g]? = some (.cells #[.int .i64 4, .int .i64 0, .string ⟨#[102]⟩, .slice (some ⟨b, 0, none⟩) 2 2] T (0, 0))
  | 10, v, S, w => ∃ g b, v 8 = .pointer (some ⟨g, 0, none⟩) ∧ v 5 = (.slice (some ⟨b, 0, none⟩) 1 1) ∧ S g ∧ w.heap[g]? = some (.cells #[.int .i64 4, .int .i64 0, .string ⟨#[122, 122, 122]⟩, .slice (some ⟨b, 0, none⟩) 1 1] T (0, 0))
  | _, _, _, _ => True
theorem cong6 (X Y : List Value) (T : TypeId) (i : Nat) (v u : Nat → Value) (S : Nat → Prop) (w : World) (h : ∀ j, j = i ∨ j ∈ deps6.getD i [] → v j = u j) : said6 X Y T i v S w → said6 X Y T i u S w := by
  match i, h with
  | 0, h => simp only [said6, h 0 (by decide)]; exact id
  | 1, h => simp only [said6, h 1 (by decide)]; exact id
  | 2, h => simp only [said6, h 2 (by decide)]; exact id
  | 3, h => simp only [said6, h 2 (by decide), h 3 (by decide)]; exact id
  | 4, h => simp only [said6, h 4 (by decide)]; exact id
  | 5, h => simp only [said6, h 5 (by decide)]; exact id
  | 6, h => simp only [said6, h 5 (by decide), h 6 (by decide)]; exact id
  | 7, h => simp only [said6, h 7 (by decide)]; exact id
  | 8, h => simp only [said6, h 8 (by decide)]; exact id
  | 9, h => simp only [said6, h 7 (by decide), h 2 (by decide)]; exact id
  | 10, h => simp only [said6, h 8 (by decide), h 5 (by decide)]; exact id
  | n + 11, _ => exact fun _ => trivial
theorem stab6 (X Y : List Value) (T : TypeId) (i : Nat) (v : Nat → Value) (S : Nat → Prop) (w w' : World) (h : ∀ k, S k → k < w.heap.size → w'.heap[k]? = w.heap[k]?) : said6 X Y T i v S w → said6 X Y T i v S w' := by
  have key : ∀ b o, S b → w.heap[b]? = some o → w'.heap[b]? = some o := fun b o hs hb => (h b hs (Array.getElem?_eq_some_iff.1 hb).1).trans hb
  match i with
  | 0 => exact id
  | 1 => exact id
  | 2 => exact fun ⟨b, h1, h2, h3⟩ => ⟨b, h1, h2, key _ _ h2 h3⟩
  | 3 => exact id
  | 4 => exact id
  | 5 => exact fun ⟨b, h1, h2, h3⟩ => ⟨b, h1, h2, key _ _ h2 h3⟩
  | 6 => exact id
  | 7 => exact fun ⟨b, h1, h2, h3⟩ => ⟨b, h1, h2, key _ _ h2 h3⟩
  | 8 => exact fun ⟨b, h1, h2, h3⟩ => ⟨b, h1, h2, key _ _ h2 h3⟩
  | 9 => exact fun ⟨g, b, h1, h2, h3, h4⟩ => ⟨g, b, h1, h2, h3, key _ _ h3 h4⟩
  | 10 => exact fun ⟨g, b, h1, h2, h3, h4⟩ => ⟨g, b, h1, h2, h3, key _ _ h3 h4⟩
  | n + 11 => exact fun _ => trivial

def isV (u : Value) : Value → World → Prop := fun v _ => v = u
def isRow (n : Nat) (c : Array Value) (T : TypeId) : Value → World → Prop := fun v w => ∃ b, v = .slice (some ⟨b, 0, none⟩) n n ∧ w.heap[b]? = some (.cells c T (0, 0))
def isFn (s : ByteArray) (n : Nat) (c : Array Value) (T : TypeId) : Value → World → Prop := fun v w => ∃ b, v = .agg #[.int .i64 4, .int .i64 0, .string s, .slice (some ⟨b, 0, none⟩) n n] ∧ w.heap[b]? = some (.cells c T (0, 0))
def Mono1 (p : Value → World → Prop) : Prop := ∀ v w w', Ltr w w' → p v w → p v w'
theorem isV_mono (u : Value) : Mono1 (isV u) := fun _ _ _ _ h => h
theorem isRow_mono (n : Nat) (c : Array Value) (T : TypeId) : Mono1 (isRow n c T) := fun _ _ _ hl ⟨b, h1, h2⟩ => ⟨b, h1, hl.heap h2⟩
theorem isFn_mono (s : ByteArray) (n : Nat) (c : Array Value) (T : TypeId) : Mono1 (isFn s n c T) := fun _ _ _ hl ⟨b, h1, h2⟩ => ⟨b, h1, hl.heap h2⟩
def MonoL : List (Value → World → Prop) → Prop
  | [] => True
  | p :: r => Mono1 p ∧ MonoL r
theorem mono_at : ∀ (l : List (Value → World → Prop)) (i : Nat) (v : Value) (w w' : World), MonoL l → Ltr w w' → l.getD i (fun _ _ => True) v w → l.getD i (fun _ _ => True) v w'
  | [], _, _, _, _, _, _, _ => trivial
  | _ :: _, 0, v, w, w', hm, hl, h => hm.1 v w w' hl h
  | _ :: r, i + 1, v, w, w', hm, hl, h => mono_at r i v w w' hm.2 hl h
def deps7 : List (List Nat) := [[], [0], [], [2], [], [4], [3, 5], [6], [1, 7], [8], [9], [9, 10], [9], [9, 12], [9], [9, 14], [9, 13, 15], [9, 16], [9, 11, 17], [9, 18], [19], [20], [20], [20, 21, 22], [20, 23], [20, 24], [25], [26], [26, 27], [26, 28], [26], [26, 30], [26, 31], [26, 29, 32], [26, 33], [26, 34], [35], [36], [36], [36, 37, 38], [36, 39], [36], [36], [36, 41, 42], [36, 43], [36, 40, 44], [36], [36, 46], [36, 47], [36], [36, 49], [36, 50], [36, 48, 51], [36, 45, 52], [36, 53], [54]]
def list7 (zx zy dx dy md z : Int) (b1 b2 : Nat) (xk xn : Int) (xs : ByteArray) (ax : Option Addr) (xl cx : Nat) (yk yn : Int) (ys : ByteArray) (ay : Option Addr) (yl cy : Nat) : List (Value → World → Prop) :=
  [isV (.agg #[.int .i64 4, .int .i64 0, .string ⟨#[102]⟩, .slice (some ⟨b2, 0, none⟩) 2 2]),
   isV (.int .i64 (zx + zy + 1)),
   isV (.agg #[.int .i64 xk, .int .i64 xn, .string xs, .slice ax xl cx]),
   isV (.int .i64 (zx)),
   isV (.agg #[.int .i64 yk, .int .i64 yn, .string ys, .slice ay yl cy]),
   isV (.int .i64 (zy)),
   isV (.int .i64 (zx + zy)),
   isV (.int .i64 (zx + zy + 1)),
   isV (.bool true),
   isV (.bool true),
   isV (.agg #[.int .i64 4, .int .i64 0, .string ⟨#[102]⟩, .slice (some ⟨b2, 0, none⟩) 2 2]),
   isV (.int .i64 (md + 1)),
   isV (.agg #[.int .i64 xk, .int .i64 xn, .string xs, .slice ax xl cx]),
   isV (.int .i64 (dx)),
   isV (.agg #[.int .i64 yk, .int .i64 yn, .string ys, .slice ay yl cy]),
   isV (.int .i64 (dy)),
   isV (.int .i64 (md)),
   isV (.int .i64 (md + 1)),
   isV (.bool true),
   isV (.bool true),
   isV (.bool true),
   isV (.agg #[.int .i64 4, .int .i64 0, .string ⟨#[122, 122, 122]⟩, .slice (some ⟨b1, 0, none⟩) 1 1]),
   isV (.agg #[.int .i64 4, .int .i64 0, .string ⟨#[102]⟩, .slice (some ⟨b2, 0, none⟩) 2 2]),
   isV (.int .i64 (-1)),
   isV (.bool true),
   isV (.bool true),
   isV (.bool true),
   isV (.agg #[.int .i64 xk, .int .i64 xn, .string xs, .slice ax xl cx]),
   isRow 1 #[.int .i64 xk, .int .i64 xn, .string xs, .slice ax xl cx] 27,
   isFn ⟨#[102]⟩ 1 #[.int .i64 xk, .int .i64 xn, .string xs, .slice ax xl cx] 27,
   isV (.agg #[.int .i64 yk, .int .i64 yn, .string ys, .slice ay yl cy]),
   isRow 1 #[.int .i64 yk, .int .i64 yn, .string ys, .slice ay yl cy] 27,
   isFn ⟨#[103]⟩ 1 #[.int .i64 yk, .int .i64 yn, .string ys, .slice ay yl cy] 27,
   isV (.int .i64 (-1)),
   isV (.bool true),
   isV (.bool true),
   isV (.bool true),
   isV (.agg #[.int .i64 xk, .int .i64 xn, .string xs, .slice ax xl cx]),
   isV (.agg #[.int .i64 yk, .int .i64 yn, .string ys, .slice ay yl cy]),
   isRow 2 #[.int .i64 xk, .int .i64 xn, .string xs, .slice ax xl cx, .int .i64 yk, .int .i64 yn, .string ys, .slice ay yl cy] 27,
   isFn ⟨#[102]⟩ 2 #[.int .i64 xk, .int .i64 xn, .string xs, .slice ax xl cx, .int .i64 yk, .int .i64 yn, .string ys, .slice ay yl cy] 27,
   isV (.agg #[.int .i64 yk, .int .i64 yn, .string ys, .slice ay yl cy]),
   isV (.agg #[.int .i64 xk, .int .i64 xn, .string xs, .slice ax xl cx]),
   isRow 2 #[.int .i64 yk, .int .i64 yn, .string ys, .slice ay yl cy, .int .i64 xk, .int .i64 xn, .string xs, .slice ax xl cx] 27,
   isFn ⟨#[102]⟩ 2 #[.int .i64 yk, .int .i64 yn, .string ys, .slice ay yl cy, .int .i64 xk, .int .i64 xn, .string xs, .slice ax xl cx] 27,
   isV (.int .i64 (z)),
   isV (.agg #[.int .i64 xk, .int .i64 xn, .string xs, .slice ax xl cx]),
   isRow 1 #[.int .i64 xk, .int .i64 xn, .string xs, .slice ax xl cx] 27,
   isFn ⟨#[102]⟩ 1 #[.int .i64 xk, .int .i64 xn, .string xs, .slice ax xl cx] 27,
   isV (.agg #[.int .i64 yk, .int .i64 yn, .string ys, .slice ay yl cy]),
   isRow 1 #[.int .i64 yk, .int .i64 yn, .string ys, .slice ay yl cy] 27,
   isFn ⟨#[102]⟩ 1 #[.int .i64 yk, .int .i64 yn, .string ys, .slice ay yl cy] 27,
   isV (.int .i64 (z)),
   isV (.bool true),
   isV (.bool true),
   isV (.bool true)]
theorem mono7 (zx zy dx dy md z : Int) (b1 b2 : Nat) (xk xn : Int) (xs : ByteArray) (ax : Option Addr) (xl cx : Nat) (yk yn : Int) (ys : ByteArray) (ay : Option Addr) (yl cy : Nat) : MonoL (list7 zx zy dx dy md z b1 b2 xk xn xs ax xl cx yk yn ys ay yl cy) :=
  ⟨isV_mono _, isV_mono _, isV_mono _, isV_mono _, isV_mono _, isV_mono _, isV_mono _, isV_mono _, isV_mono _, isV_mono _, isV_mono _, isV_mono _, isV_mono _, isV_mono _, isV_mono _, isV_mono _, isV_mono _, isV_mono _, isV_mono _, isV_mono _, isV_mono _, isV_mono _, isV_mono _, isV_mono _, isV_mono _, isV_mono _, isV_mono _, isV_mono _, isRow_mono _ _ _, isFn_mono _ _ _ _, isV_mono _, isRow_mono _ _ _, isFn_mono _ _ _ _, isV_mono _, isV_mono _, isV_mono _, isV_mono _, isV_mono _, isV_mono _, isRow_mono _ _ _, isFn_mono _ _ _ _, isV_mono _, isV_mono _, isRow_mono _ _ _, isFn_mono _ _ _ _, isV_mono _, isV_mono _, isRow_mono _ _ _, isFn_mono _ _ _ _, isV_mono _, isRow_mono _ _ _, isFn_mono _ _ _ _, isV_mono _, isV_mono _, isV_mono _, isV_mono _, trivial⟩

set_option maxRecDepth 100000 in
set_option maxHeartbeats 8000000 in
theorem parts_walk (W : World) (a1 a2 : Option Addr) (n1 n2 c1 c2 B1 o1 B2 o2 : Nat) (p1 p2 : List PRow) (h1 : ArgOk W a1 n1 c1 B1 o1 p1) (h2 : ArgOk W a2 n2 c2 B2 o2 p2) :
    Calls Try.prog 8 #[.slice a1 n1 c1, .slice a2 n2 c2] W fun e w' => e = .returned (.bool true) ∧ Below W.heap.size W w' := by
  have HA := Lib.hid (alive_is W)
  have H1 := Lib.hid h1
  have H2 := Lib.hid h2
  clear h1 h2
  by_cases g1 : n1 ≤ 60
  case neg =>
    have G1 := Lib.hid (fun w => great_yes a1 n1 c1 w g1)
    clear g1
    go_enter Try.func8, Try.ntmps8
    go_wp2_with (first | (go_at_call 9; refine HA.out.mono ?_; rintro _ w1 ⟨rfl, hb⟩) | (go_at_call 10; refine (G1.out _).mono ?_; rintro _ _ ⟨rfl, rfl⟩))
    go_ret
    exact ⟨rfl, hb⟩
  by_cases g2 : n2 ≤ 60
  case neg =>
    have G1 := Lib.hid (fun w => great_no a1 n1 c1 w g1)
    have G2 := Lib.hid (fun w => great_yes a2 n2 c2 w g2)
    clear g1 g2
    go_enter Try.func8, Try.ntmps8
    go_wp2_with fail
    refine HA.out.mono ?_
    rintro _ w1 ⟨rfl, hb⟩
    go_wp2_with fail
    refine (G1.out _).mono ?_
    rintro _ _ ⟨rfl, rfl⟩
    go_wp2_with fail
    refine (G2.out _).mono ?_
    rintro _ _ ⟨rfl, rfl⟩
    go_wp2
    go_ret
    exact ⟨rfl, hb⟩
  have G1 := Lib.hid (fun w => great_no a1 n1 c1 w g1)
  have G2 := Lib.hid (fun w => great_no a2 n2 c2 w g2)
  have K1 := Lib.hid (fun w hb => arg_good (w := w) H1.out g1 hb)
  have K2 := Lib.hid (fun w hb => arg_good (w := w) H2.out g2 hb)
  have hl1 := H1.out.len
  have hl2 := H2.out.len
  have N1 : Hid ((goodT p1).nodes ≤ 1000) := by have := good_nodes p1; show _ ≤ _; omega
  have N2 : Hid ((goodT p2).nodes ≤ 1000) := by have := good_nodes p2; show _ ≤ _; omega
  have S1 := Lib.hid (fun (t : AT) (h : t.erase = goodT p1) => good_shp h)
  have S2 := Lib.hid (fun (t : AT) (h : t.erase = goodT p2) => good_shp h)
  obtain ⟨t1, ht1⟩ : ∃ t, goodT p1 = t := ⟨_, rfl⟩
  obtain ⟨t2, ht2⟩ : ∃ t, goodT p2 = t := ⟨_, rfl⟩
  rw [ht1] at K1 N1 S1
  rw [ht2] at K2 N2 S2
  clear g1 g2 hl1 hl2 H1 H2 ht1 ht2
  go_enter Try.func8, Try.ntmps8
  go_wp2_with fail
  refine HA.out.mono ?_
  rintro _ w1 ⟨rfl, hb⟩
  have HB := Lib.hid hb
  clear hb
  go_wp2_with fail
  refine (G1.out _).mono ?_
  rintro _ _ ⟨rfl, rfl⟩
  go_wp2_with fail
  refine (G2.out _).mono ?_
  rintro _ _ ⟨rfl, rfl⟩
  go_wp2_with fail
  refine (K1.out _ HB.out).mono ?_
  rintro _ w2 ⟨x, rfl, x1, x2, x3, xb⟩
  obtain ⟨ax, cx, xsv, _⟩ := sv_form (AT.mem_mk.1 x2).1
  rw [xsv]
  have HB2 : Hid (Below W.heap.size W w2) := HB.out.trans (xb.mono HB.out.size)
  have X := Lib.hid (And.intro x1 (And.intro x2 xsv))
  clear x1 x2 x3 xb xsv HB
  go_wp2_with fail
  refine (K2.out _ HB2.out).mono ?_
  rintro _ w3 ⟨y, rfl, y1, y2, y3, yb⟩
  obtain ⟨ay, cy, ysv, _⟩ := sv_form (AT.mem_mk.1 y2).1
  rw [ysv]
  have HB3 : Hid (Below W.heap.size W w3) := HB2.out.trans (yb.mono HB2.out.size)
  have X3 : Hid (x.mem w3) := AT.mem_below yb (AT.ins_size _ X.out.2.1) X.out.2.1
  have Y := Lib.hid (And.intro y1 (And.intro y2 ysv))
  clear y1 y2 y3 yb ysv HB2
  go_upto_region 6 with fail

  have hb4 : Below w3.heap.size w3 ((w3.alloc (.cells #[.int .i64 x.k, .int .i64 x.n, .string x.s, .slice ax x.l.length cx] 27)).alloc (.cells #[.int .i64 y.k, .int .i64 y.n, .string y.s, .slice ay y.l.length cy] 27)) := ((Below.refl _ _).alloc (Nat.le_refl _) _).alloc (by simp) _
  have e7 : ((w3.alloc (.cells #[.int .i64 x.k, .int .i64 x.n, .string x.s, .slice ax x.l.length cx] 27)).alloc (.cells #[.int .i64 y.k, .int .i64 y.n, .string y.s, .slice ay y.l.length cy] 27)).heap[w3.heap.size]? = some (.cells #[.int .i64 x.k, .int .i64 x.n, .string x.s, .slice ax x.l.length cx] 27 (0, 0)) := by
    rw [Below.heap_alloc _ _ _ (by simp)]
    exact new_at _ _ (by simp)
  have e8 : ((w3.alloc (.cells #[.int .i64 x.k, .int .i64 x.n, .string x.s, .slice ax x.l.length cx] 27)).alloc (.cells #[.int .i64 y.k, .int .i64 y.n, .string y.s, .slice ay y.l.length cy] 27)).heap[w3.heap.size + 1]? = some (.cells #[.int .i64 y.k, .int .i64 y.n, .string y.s, .slice ay y.l.length cy] 27 (0, 0)) := new_at _ _ (by simp)
  obtain ⟨W5, hW5⟩ : ∃ W5, ((w3.alloc (.cells #[.int .i64 x.k, .int .i64 x.n, .string x.s, .slice ax x.l.length cx] 27)).alloc (.cells #[.int .i64 y.k, .int .i64 y.n, .string y.s, .slice ay y.l.length cy] 27)) = W5 := ⟨_, rfl⟩
  rw [hW5] at hb4 e7 e8 ⊢
  clear hW5
  have hx := AT.mem_below hb4 (AT.ins_size _ X3.out) X3.out
  have hy := AT.mem_below hb4 (AT.ins_size _ Y.out.2.1) Y.out.2.1
  have nx : x.nodes ≤ 1000 := by rw [← AT.nodes_erase, X.out.1]; exact N1.out
  have ny : y.nodes ≤ 1000 := by rw [← AT.nodes_erase, Y.out.1]; exact N2.out
  have shx := S1.out x X.out.1
  have shy := S2.out y Y.out.1
  have HB5 : Hid (Below W.heap.size W W5) := HB3.out.trans (hb4.mono HB3.out.size)
  have HF := Lib.hid (And.intro hx (And.intro hy (And.intro nx (And.intro ny (And.intro shx (And.intro shy (And.intro X.out.2.2 Y.out.2.2)))))))
  obtain ⟨xk, hxk⟩ : ∃ k, x.k = k := ⟨_, rfl⟩
  obtain ⟨xn, hxn⟩ : ∃ k, x.n = k := ⟨_, rfl⟩
  obtain ⟨xs, hxs⟩ : ∃ k, x.s = k := ⟨_, rfl⟩
  obtain ⟨xl, hxl⟩ : ∃ k, x.l.length = k := ⟨_, rfl⟩
  obtain ⟨yk, hyk⟩ : ∃ k, y.k = k := ⟨_, rfl⟩
  obtain ⟨yn, hyn⟩ : ∃ k, y.n = k := ⟨_, rfl⟩
  obtain ⟨ys, hys⟩ : ∃ k, y.s = k := ⟨_, rfl⟩
  obtain ⟨yl, hyl⟩ : ∃ k, y.l.length = k := ⟨_, rfl⟩
  have HN := Lib.hid (And.intro (And.intro hxk (And.intro hxn (And.intro hxs hxl))) (And.intro hyk (And.intro hyn (And.intro hys hyl))))
  rw [hxk, hxn, hxs, hxl] at e7
  rw [hyk, hyn, hys, hyl] at e8
  rw [hxk, hxn, hxs, hxl, hyk, hyn, hys, hyl]
  have E7 := Lib.hid e7
  have E8 := Lib.hid e8
  have keep : ∀ w5, Below W5.heap.size W5 w5 → w5.cell? ⟨w3.heap.size, 0, none⟩ = some (.int .i64 xk) ∧ w5.cell? ⟨w3.heap.size, 1, none⟩ = some (.int .i64 xn) ∧ w5.cell? ⟨w3.heap.size, 2, none⟩ = some (.string xs) ∧ w5.cell? ⟨w3.heap.size, 3, none⟩ = some (.slice ax xl cx) ∧
      w5.cell? ⟨w3.heap.size + 1, 0, none⟩ = some (.int .i64 yk) ∧ w5.cell? ⟨w3.heap.size + 1, 1, none⟩ = some (.int .i64 yn) ∧ w5.cell? ⟨w3.heap.size + 1, 2, none⟩ = some (.string ys) ∧ w5.cell? ⟨w3.heap.size + 1, 3, none⟩ = some (.slice ay yl cy) := fun w5 h => by
    have h0 := (h.block w3.heap.size (Array.getElem?_eq_some_iff.1 e7).1).trans e7
    have h1 := (h.block (w3.heap.size + 1) (Array.getElem?_eq_some_iff.1 e8).1).trans e8
    exact ⟨cell_of_heap h0 rfl, cell_of_heap h0 rfl, cell_of_heap h0 rfl, cell_of_heap h0 rfl, cell_of_heap h1 rfl, cell_of_heap h1 rfl, cell_of_heap h1 rfl, cell_of_heap h1 rfl⟩
  obtain ⟨q0, q1, q2, q3, q4, q5, q6, q7⟩ := keep W5 (Below.refl _ _)
  have KEEP := Lib.hid keep
  clear hx hy nx ny shx shy keep hb4 e7 e8 hxk hxn hxs hxl hyk hyn hys hyl X Y X3 N1 N2 K1 K2 S1 S2 G1 G2 HA HB3
  go_cut [7, 8] (fun s7 s8 wx => PartsCut W5 27 [.int .i64 xk, .int .i64 xn, .string xs, .slice ax xl cx] [.int .i64 yk, .int .i64 yn, .string ys, .slice ay yl cy] s7 s8 wx)
  case first =>
    refine wp_region_own [some 21, some 22, some 23, some 24, some 25, some 26, some 27, some 7, some 8, none, none] deps6 tgt6 (said6 [.int .i64 xk, .int .i64 xn, .string xs, .slice ax xl cx] [.int .i64 yk, .int .i64 yn, .string ys, .slice ay yl cy] 27) ?F (by kernel_rfl) (by kernel_rfl) (by kernel_rfl) (by kernel_rfl) (by kernel_rfl) (by kernel_rfl) ?hF (cong6 _ _ _) (fun i v S w w' h _ => stab6 _ _ _ i v S w w' (fun k hk hl => h k (.inl hk) hl)) ?step ?fin
    case hF =>
      intro vals
      simp only [putD, Act.put, List.setIfInBounds_toArray, List.set_cons_zero, List.set_cons_succ, Nat.reduceAdd]
      exact rfl
    case step =>
      clear q0 q1 q2 q3 q4 q5 q6 q7 E7 E8 HF HN HB5
      change StepsS _ _ _ _ _ _ _ _ [0, 1, 2, 3, 4, 5, 6, 7, 8, 9, 10]
      refine stepsS_cons rfl (fun vals S w hw hf K hK => ?_) ?_
      · have hk := hK (.agg #[.int .i64 xk, .int .i64 xn, .string xs, .slice ax xl cx]) w (after_same rfl (Ltr.refl w) (by simp only [said6, upd, if_pos]))
        obtain ⟨q0, q1, q2, q3, q4, q5, q6, q7⟩ := KEEP.out w hw
        clear hK hf hw
        go_simp
        exact hk
      refine stepsS_cons rfl (fun vals S w hw hf K hK => ?_) ?_
      · have hk := hK (.agg #[.int .i64 yk, .int .i64 yn, .string ys, .slice ay yl cy]) w (after_same rfl (Ltr.refl w) (by simp only [said6, upd, if_pos]))
        obtain ⟨q0, q1, q2, q3, q4, q5, q6, q7⟩ := KEEP.out w hw
        clear hK hf hw
        go_simp
        exact hk
      refine stepsS_cons rfl (fun vals S w hw hf K hK => ?_) ?_
      · have hk := hK (.slice (some ⟨w.heap.size, 0, none⟩) 2 2) (w.alloc (.cells #[.int .i64 xk, .int .i64 xn, .string xs, .slice ax xl cx, .int .i64 yk, .int .i64 yn, .string ys, .slice ay yl cy] 27)) (after_new rfl ⟨w.heap.size, by simp only [upd, if_pos], rfl, heap_alloc_new _ _⟩)
        obtain ⟨e0, e1, _⟩ := hf
        have e0 : vals 0 = (.agg #[.int .i64 xk, .int .i64 xn, .string xs, .slice ax xl cx]) := e0
        have e1 : vals 1 = (.agg #[.int .i64 yk, .int .i64 yn, .string ys, .slice ay yl cy]) := e1
        clear hK hw
        go_simp
        simp only [e0, e1] at hk
        exact hk
      refine stepsS_cons rfl (fun vals S w hw hf K hK => ?_) ?_
      · obtain ⟨⟨b, e2, _, _⟩, _⟩ := hf
        have hk := hK (.agg #[.int .i64 4, .int .i64 0, .string ⟨#[102]⟩, .slice (some ⟨b, 0, none⟩) 2 2]) (w.alloc (.cells #[.int .i64 4, .int .i64 0, .string ⟨#[102]⟩, .slice (some ⟨b, 0, none⟩) 2 2] 27)) (after_same rfl ((Below.refl _ _).alloc (Nat.le_refl _) _) ⟨b, by simp only [upd, if_neg (by decide : ¬ (2 : Nat) = 3)]; exact e2, by simp only [upd, if_pos]⟩)
        clear hK hw
        go_simp
        refine (f_is _ _ _ _ _).mono ?_
        rintro _ _ ⟨rfl, rfl⟩
        simp only [e2] at hk
        exact hk
      refine stepsS_cons rfl (fun vals S w hw hf K hK => ?_) ?_
      · have hk := hK (.agg #[.int .i64 xk, .int .i64 xn, .string xs, .slice ax xl cx]) w (after_same rfl (Ltr.refl w) (by simp only [said6, upd, if_pos]))
        obtain ⟨q0, q1, q2, q3, q4, q5, q6, q7⟩ := KEEP.out w hw
        clear hK hf hw
        go_simp
        exact hk
      refine stepsS_cons rfl (fun vals S w hw hf K hK => ?_) ?_
      · have hk := hK (.slice (some ⟨w.heap.size, 0, none⟩) 1 1) (w.alloc (.cells #[.int .i64 xk, .int .i64 xn, .string xs, .slice ax xl cx] 27)) (after_new rfl ⟨w.heap.size, by simp only [upd, if_pos], rfl, heap_alloc_new _ _⟩)
        obtain ⟨e4, _⟩ := hf
        have e4 : vals 4 = (.agg #[.int .i64 xk, .int .i64 xn, .string xs, .slice ax xl cx]) := e4
        clear hK hw
        go_simp
        simp only [e4] at hk
        exact hk
      refine stepsS_cons rfl (fun vals S w hw hf K hK => ?_) ?_
      · obtain ⟨⟨b, e5, _, _⟩, _⟩ := hf
        have hk := hK (.agg #[.int .i64 4, .int .i64 0, .string ⟨#[122, 122, 122]⟩, .slice (some ⟨b, 0, none⟩) 1 1]) (w.alloc (.cells #[.int .i64 4, .int .i64 0, .string ⟨#[122, 122, 122]⟩, .slice (some ⟨b, 0, none⟩) 1 1] 27)) (after_same rfl ((Below.refl _ _).alloc (Nat.le_refl _) _) ⟨b, by simp only [upd, if_neg (by decide : ¬ (5 : Nat) = 6)]; exact e5, by simp only [upd, if_pos]⟩)
        clear hK hw
        go_simp
        refine (f_is _ _ _ _ _).mono ?_
        rintro _ _ ⟨rfl, rfl⟩
        simp only [e5] at hk
        exact hk
      refine stepsS_cons rfl (fun vals S w hw hf K hK => ?_) ?_
      · have hk := hK (.pointer (some ⟨w.heap.size, 0, none⟩)) (w.alloc (.cells #[.int .i64 0, .int .i64 0, .string ⟨#[]⟩, .slice none 0 0] 27)) (after_new rfl ⟨w.heap.size, by simp only [upd, if_pos], rfl, heap_alloc_new _ _⟩)
        clear hK hw hf
        go_simp
        exact hk
      refine stepsS_cons rfl (fun vals S w hw hf K hK => ?_) ?_
      · have hk := hK (.pointer (some ⟨w.heap.size, 0, none⟩)) (w.alloc (.cells #[.int .i64 0, .int .i64 0, .string ⟨#[]⟩, .slice none 0 0] 27)) (after_new rfl ⟨w.heap.size, by simp only [upd, if_pos], rfl, heap_alloc_new _ _⟩)
        clear hK hw hf
        go_simp
        exact hk
      refine stepsS_cons rfl (fun vals S w hw hf K hK => ?_) ?_
      · obtain ⟨⟨b, e2, _, _⟩, ⟨b', e2', e3⟩, ⟨g, e7, hg, hgc⟩, _⟩ := hf
        rw [e2] at e2'
        obtain rfl : b = b' := by simpa using e2'
        clear e2'
        have hk := hK undef ((((w.setCell ⟨g, 0, none⟩ (.int .i64 4)).setCell ⟨g, 1, none⟩ (.int .i64 0)).setCell ⟨g, 2, none⟩ (.string ⟨#[102]⟩)).setCell ⟨g, 3, none⟩ (.slice (some ⟨b, 0, none⟩) 2 2)) ⟨S 7, ⟨rfl, fun k hk => by
          have hne : k ≠ g := fun e => hk (by rw [e]; exact hg)
          rw [heap_set_ne hne, heap_set_ne hne, heap_set_ne hne, heap_set_ne hne], rfl, rfl, rfl, by simp [World.setCell]⟩, ⟨g, b, by simp only [upd, if_neg (by decide : ¬ (7 : Nat) = 9)]; exact e7, by simp only [upd, if_neg (by decide : ¬ (2 : Nat) = 9)]; exact e2, hg, by rw [heap_set (heap_set (heap_set (heap_set hgc _) _) _) _]; rfl⟩⟩
        have c0 := cell_of_heap (o := 0) hgc rfl
        have c1 := cell_of_heap (o := 1) hgc rfl
        have c2 := cell_of_heap (o := 2) hgc rfl
        have c3 := cell_of_heap (o := 3) hgc rfl
        have z0 := free_of_heap (o := 0) hgc
        have z1 := free_of_heap (o := 1) hgc
        have z2 := free_of_heap (o := 2) hgc
        have z3 := free_of_heap (o := 3) hgc
        clear hK hw hg hgc
        go_simp
        simp only [e2, e3, e7] at hk
        exact hk
      refine stepsS_cons rfl (fun vals S w hw hf K hK => ?_) ?_
      · obtain ⟨⟨b, e5, _, _⟩, ⟨b', e5', e6⟩, ⟨g, e8, hg, hgc⟩, _⟩ := hf
        rw [e5] at e5'
        obtain rfl : b = b' := by simpa using e5'
        clear e5'
        have hk := hK undef ((((w.setCell ⟨g, 0, none⟩ (.int .i64 4)).setCell ⟨g, 1, none⟩ (.int .i64 0)).setCell ⟨g, 2, none⟩ (.string ⟨#[122, 122, 122]⟩)).setCell ⟨g, 3, none⟩ (.slice (some ⟨b, 0, none⟩) 1 1)) ⟨S 8, ⟨rfl, fun k hk => by
          have hne : k ≠ g := fun e => hk (by rw [e]; exact hg)
          rw [heap_set_ne hne, heap_set_ne hne, heap_set_ne hne, heap_set_ne hne], rfl, rfl, rfl, by simp [World.setCell]⟩, ⟨g, b, by simp only [upd, if_neg (by decide : ¬ (8 : Nat) = 10)]; exact e8, by simp only [upd, if_neg (by decide : ¬ (5 : Nat) = 10)]; exact e5, hg, by rw [heap_set (heap_set (heap_set (heap_set hgc _) _) _) _]; rfl⟩⟩
        have c0 := cell_of_heap (o := 0) hgc rfl
        have c1 := cell_of_heap (o := 1) hgc rfl
        have c2 := cell_of_heap (o := 2) hgc rfl
        have c3 := cell_of_heap (o := 3) hgc rfl
        have z0 := free_of_heap (o := 0) hgc
        have z1 := free_of_heap (o := 1) hgc
        have z2 := free_of_heap (o := 2) hgc
        have z3 := free_of_heap (o := 3) hgc
        clear hK hw hg hgc
        go_simp
        simp only [e5, e6, e8] at hk
        exact hk
      exact stepsS_nil
    case fin =>
      intro vals S w hw hΦ
      have nt : ∀ i, i ≠ 7 → i ≠ 8 → ∀ k, k < 11 → tgt6 k ≠ some i := fun i h7 h8 k _ => by
        unfold tgt6
        split <;> simp <;> omega
      obtain ⟨b2, v2, _, hb2⟩ := hΦ 2 (by decide) (nt 2 (by decide) (by decide))
      obtain ⟨b1, v5, _, hb1⟩ := hΦ 5 (by decide) (nt 5 (by decide) (by decide))
      obtain ⟨g7, b', v7, v2', _, hg7⟩ := hΦ 9 (by decide) (nt 9 (by decide) (by decide))
      obtain ⟨g8, b'', v8, v5', _, hg8⟩ := hΦ 10 (by decide) (nt 10 (by decide) (by decide))
      rw [v2] at v2'
      rw [v5] at v5'
      obtain rfl : b2 = b' := by simpa using v2'
      obtain rfl : b1 = b'' := by simpa using v5'
      have hcut : PartsCut W5 27 [.int .i64 xk, .int .i64 xn, .string xs, .slice ax xl cx] [.int .i64 yk, .int .i64 yn, .string ys, .slice ay yl cy] (vals 7) (vals 8) w := ⟨⟨g7, g8, b2, b1, v7, v8, hg7, hg8, hb2, hb1⟩, hw⟩
      have HC := Lib.hid hcut
      clear v2 v5 v7 v8 v2' v5' hb1 hb2 hg7 hg8 hΦ hw hcut nt
      go_wp2_with fail
      go_meet
      exact HC.out
  case rest =>
    obtain ⟨⟨g7, g8, b2, b1, rfl, rfl, hg7, hg8, hb2, hb1⟩, hbw⟩ := hcut
    obtain ⟨mx, my, nx, ny, shx, shy, svx, svy⟩ := HF.out
    obtain ⟨⟨hxk, hxn, hxs, hxl⟩, hyk, hyn, hys, hyl⟩ := HN.out
    have hX : ∀ b, fT ⟨#[102]⟩ b [x] = .mk 4 0 ⟨#[102]⟩ (.slice (some ⟨b, 0, none⟩) 1 1) b 0 [x] := fun _ => rfl
    have cX : headCells [x] = [.int .i64 xk, .int .i64 xn, .string xs, .slice ax xl cx] := by simp [headCells, svx, hxk, hxn, hxs, hxl]
    have cY : headCells [y] = [.int .i64 yk, .int .i64 yn, .string ys, .slice ay yl cy] := by simp [headCells, svy, hyk, hyn, hys, hyl]
    have cXY : headCells [x, y] = [.int .i64 xk, .int .i64 xn, .string xs, .slice ax xl cx, .int .i64 yk, .int .i64 yn, .string ys, .slice ay yl cy] := by simp [headCells, svx, svy, hxk, hxn, hxs, hxl, hyk, hyn, hys, hyl]
    have cYX : headCells [y, x] = [.int .i64 yk, .int .i64 yn, .string ys, .slice ay yl cy, .int .i64 xk, .int .i64 xn, .string xs, .slice ax xl cx] := by simp [headCells, svx, svy, hxk, hxn, hxs, hxl, hyk, hyn, hys, hyl]
    have MX : ∀ w, Ltr wc w → x.mem w := fun w h => AT.mem_below (hbw.trans (Below.mono h hbw.size)) (AT.ins_size _ mx) mx
    have MY : ∀ w, Ltr wc w → y.mem w := fun w h => AT.mem_below (hbw.trans (Below.mono h hbw.size)) (AT.ins_size _ my) my
    have M1 : ∀ (t : AT) (s : ByteArray) (w : World) (b : Nat) (c : List Value), headCells [t] = c → t.mem w → w.heap[b]? = some (.cells c.toArray 27 (0, 0)) → (fT s b [t]).mem w := fun t s w b c hc ht hb => f_mem (T := 27) (by rw [hc]; exact hb) (by simp) (fun u hu => by simp at hu; subst hu; exact ht)
    have M2 : ∀ (t u : AT) (s : ByteArray) (w : World) (b : Nat) (c : List Value), headCells [t, u] = c → t.mem w → u.mem w → w.heap[b]? = some (.cells c.toArray 27 (0, 0)) → (fT s b [t, u]).mem w := fun t u s w b c hc ht hu hb => f_mem (T := 27) (by rw [hc]; exact hb) (by simp) (fun v hv => by simp at hv; rcases hv with rfl | rfl; exact ht; exact hu)
    obtain ⟨zx, hzx⟩ : ∃ k : Int, (x.nodes : Int) = k := ⟨_, rfl⟩
    obtain ⟨zy, hzy⟩ : ∃ k : Int, (y.nodes : Int) = k := ⟨_, rfl⟩
    obtain ⟨dx, hdx⟩ : ∃ k : Int, (x.dp : Int) = k := ⟨_, rfl⟩
    obtain ⟨dy, hdy⟩ : ∃ k : Int, (y.dp : Int) = k := ⟨_, rfl⟩
    obtain ⟨md, hmd⟩ : ∃ k : Int, max dx dy = k := ⟨_, rfl⟩
    obtain ⟨z, hz⟩ : ∃ k : Int, (∀ b3 b4, cmpT (fT ⟨#[102]⟩ b3 [x]) (fT ⟨#[102]⟩ b4 [y]) = k) ∧ ∀ b5 b6, cmpT (fT ⟨#[102]⟩ b5 [x, y]) (fT ⟨#[102]⟩ b6 [y, x]) = k := ⟨cmpT (fT ⟨#[102]⟩ 0 [x]) (fT ⟨#[102]⟩ 0 [y]), fun b3 b4 => (f_both _ 0 0 b3 b4 x y shx shy).symm.trans (f_both _ 0 0 0 0 x y shx shy), fun b5 b6 => f_both _ b5 b6 0 0 x y shx shy⟩
    have lx := AT.dp_le x
    have ly := AT.dp_le y
    have bz1 : 0 ≤ zx := by omega
    have bz2 : zx ≤ 1000 := by omega
    have bz3 : 0 ≤ zy := by omega
    have bz4 : zy ≤ 1000 := by omega
    have bz5 : 0 ≤ dx := by omega
    have bz6 : dx ≤ 1000 := by omega
    have bz7 : 0 ≤ dy := by omega
    have bz8 : dy ≤ 1000 := by omega
    have bz9 : 0 ≤ md := by omega
    have bz10 : md ≤ 1000 := by omega
    have SX : ∀ w, Ltr wc w → Calls Try.prog 14 #[.agg #[.int .i64 xk, .int .i64 xn, .string xs, .slice ax xl cx]] w (fun e w' => e = .returned (.int .i64 (zx)) ∧ Ltr w w') := fun w h => by
      have := size_is x w (MX w h) (by omega)
      rw [svx, hxk, hxn, hxs, hxl, hzx] at this
      exact this
    have SY : ∀ w, Ltr wc w → Calls Try.prog 14 #[.agg #[.int .i64 yk, .int .i64 yn, .string ys, .slice ay yl cy]] w (fun e w' => e = .returned (.int .i64 (zy)) ∧ Ltr w w') := fun w h => by
      have := size_is y w (MY w h) (by omega)
      rw [svy, hyk, hyn, hys, hyl, hzy] at this
      exact this
    have DX : ∀ w, Ltr wc w → Calls Try.prog 16 #[.agg #[.int .i64 xk, .int .i64 xn, .string xs, .slice ax xl cx]] w (fun e w' => e = .returned (.int .i64 (dx)) ∧ Ltr w w') := fun w h => by
      have := deep_dp x w (MX w h) (by omega)
      rw [svx, hxk, hxn, hxs, hxl, hdx] at this
      exact this
    have DY : ∀ w, Ltr wc w → Calls Try.prog 16 #[.agg #[.int .i64 yk, .int .i64 yn, .string ys, .slice ay yl cy]] w (fun e w' => e = .returned (.int .i64 (dy)) ∧ Ltr w w') := fun w h => by
      have := deep_dp y w (MY w h) (by omega)
      rw [svy, hyk, hyn, hys, hyl, hdy] at this
      exact this
    have MB : ∀ w, Ltr wc w → (fT ⟨#[102]⟩ b2 [x, y]).mem w := fun w h => M2 x y _ w b2 _ cXY (MX w h) (MY w h) (h.heap hb2)
    have MO : ∀ w, Ltr wc w → (fT ⟨#[122, 122, 122]⟩ b1 [x]).mem w := fun w h => M1 x _ w b1 _ cX (MX w h) (h.heap hb1)
    have nB : ∀ s b, (fT s b [x, y]).nodes = x.nodes + y.nodes + 1 := fun s b => by rw [f_nodes, ATs.nodes, ATs.nodes, ATs.nodes]; omega
    have nB' : ∀ s b, (fT s b [y, x]).nodes = x.nodes + y.nodes + 1 := fun s b => by rw [f_nodes, ATs.nodes, ATs.nodes, ATs.nodes]; omega
    have n1 : ∀ s b, (fT s b [x]).nodes = x.nodes + 1 := fun s b => by rw [f_nodes, ATs.nodes, ATs.nodes]
    have n1' : ∀ s b, (fT s b [y]).nodes = y.nodes + 1 := fun s b => by rw [f_nodes, ATs.nodes, ATs.nodes]
    have SB : ∀ w, Ltr wc w → Calls Try.prog 14 #[.agg #[.int .i64 4, .int .i64 0, .string ⟨#[102]⟩, .slice (some ⟨b2, 0, none⟩) 2 2]] w (fun e w' => e = .returned (.int .i64 (zx + zy + 1)) ∧ Ltr w w') := fun w h => by
      have := size_is (fT ⟨#[102]⟩ b2 [x, y]) w (MB w h) (by rw [nB]; omega)
      rw [nB, show ((x.nodes + y.nodes + 1 : Nat) : Int) = zx + zy + 1 from by omega] at this
      exact this
    have DB : ∀ w, Ltr wc w → Calls Try.prog 16 #[.agg #[.int .i64 4, .int .i64 0, .string ⟨#[102]⟩, .slice (some ⟨b2, 0, none⟩) 2 2]] w (fun e w' => e = .returned (.int .i64 (md + 1)) ∧ Ltr w w') := fun w h => by
      have := deep_dp (fT ⟨#[102]⟩ b2 [x, y]) w (MB w h) (by rw [nB]; omega)
      rw [f_dp, ATs.dp, ATs.dp, ATs.dp, show ((max x.dp (max y.dp 0) + 1 : Nat) : Int) = md + 1 from by omega] at this
      exact this
    have CB : ∀ w, Ltr wc w → Calls Try.prog 21 #[.agg #[.int .i64 4, .int .i64 0, .string ⟨#[122, 122, 122]⟩, .slice (some ⟨b1, 0, none⟩) 1 1], .agg #[.int .i64 4, .int .i64 0, .string ⟨#[102]⟩, .slice (some ⟨b2, 0, none⟩) 2 2]] w (fun e w' => e = .returned (.int .i64 (-1)) ∧ Ltr w w') := fun w h => by
      have := compare_is (fT ⟨#[122, 122, 122]⟩ b1 [x]) (fT ⟨#[102]⟩ b2 [x, y]) w (MO w h) (MB w h) (by rw [n1]; omega) (by rw [nB]; omega)
      rw [f_short] at this
      exact this
    have C1 : ∀ w b b', Ltr wc w → w.heap[b]? = some (.cells #[.int .i64 xk, .int .i64 xn, .string xs, .slice ax xl cx] 27 (0, 0)) → w.heap[b']? = some (.cells #[.int .i64 yk, .int .i64 yn, .string ys, .slice ay yl cy] 27 (0, 0)) → Calls Try.prog 21 #[.agg #[.int .i64 4, .int .i64 0, .string ⟨#[102]⟩, .slice (some ⟨b, 0, none⟩) 1 1], .agg #[.int .i64 4, .int .i64 0, .string ⟨#[103]⟩, .slice (some ⟨b', 0, none⟩) 1 1]] w (fun e w' => e = .returned (.int .i64 (-1)) ∧ Ltr w w') := fun w b b' h h1 h2 => by
      have := compare_is (fT ⟨#[102]⟩ b [x]) (fT ⟨#[103]⟩ b' [y]) w (M1 x _ w b _ cX (MX w h) h1) (M1 y _ w b' _ cY (MY w h) h2) (by rw [n1]; omega) (by rw [n1']; omega)
      rw [f_name] at this
      exact this
    have C2 : ∀ w b b', Ltr wc w → w.heap[b]? = some (.cells #[.int .i64 xk, .int .i64 xn, .string xs, .slice ax xl cx, .int .i64 yk, .int .i64 yn, .string ys, .slice ay yl cy] 27 (0, 0)) → w.heap[b']? = some (.cells #[.int .i64 yk, .int .i64 yn, .string ys, .slice ay yl cy, .int .i64 xk, .int .i64 xn, .string xs, .slice ax xl cx] 27 (0, 0)) → Calls Try.prog 21 #[.agg #[.int .i64 4, .int .i64 0, .string ⟨#[102]⟩, .slice (some ⟨b, 0, none⟩) 2 2], .agg #[.int .i64 4, .int .i64 0, .string ⟨#[102]⟩, .slice (some ⟨b', 0, none⟩) 2 2]] w (fun e w' => e = .returned (.int .i64 (z)) ∧ Ltr w w') := fun w b b' h h1 h2 => by
      have := compare_is (fT ⟨#[102]⟩ b [x, y]) (fT ⟨#[102]⟩ b' [y, x]) w (M2 x y _ w b _ cXY (MX w h) (MY w h) h1) (M2 y x _ w b' _ cYX (MY w h) (MX w h) h2) (by rw [nB]; omega) (by rw [nB']; omega)
      rw [hz.2] at this
      exact this
    have C3 : ∀ w b b', Ltr wc w → w.heap[b]? = some (.cells #[.int .i64 xk, .int .i64 xn, .string xs, .slice ax xl cx] 27 (0, 0)) → w.heap[b']? = some (.cells #[.int .i64 yk, .int .i64 yn, .string ys, .slice ay yl cy] 27 (0, 0)) → Calls Try.prog 21 #[.agg #[.int .i64 4, .int .i64 0, .string ⟨#[102]⟩, .slice (some ⟨b, 0, none⟩) 1 1], .agg #[.int .i64 4, .int .i64 0, .string ⟨#[102]⟩, .slice (some ⟨b', 0, none⟩) 1 1]] w (fun e w' => e = .returned (.int .i64 (z)) ∧ Ltr w w') := fun w b b' h h1 h2 => by
      have := compare_is (fT ⟨#[102]⟩ b [x]) (fT ⟨#[102]⟩ b' [y]) w (M1 x _ w b _ cX (MX w h) h1) (M1 y _ w b' _ cY (MY w h) h2) (by rw [n1]; omega) (by rw [n1']; omega)
      rw [hz.1] at this
      exact this
    have KP : ∀ w, Ltr wc w → (w.cell? ⟨g7, 0, none⟩ = some (.int .i64 4) ∧ w.cell? ⟨g7, 1, none⟩ = some (.int .i64 0) ∧ w.cell? ⟨g7, 2, none⟩ = some (.string ⟨#[102]⟩) ∧ w.cell? ⟨g7, 3, none⟩ = some (.slice (some ⟨b2, 0, none⟩) 2 2)) ∧
        (w.cell? ⟨g8, 0, none⟩ = some (.int .i64 4) ∧ w.cell? ⟨g8, 1, none⟩ = some (.int .i64 0) ∧ w.cell? ⟨g8, 2, none⟩ = some (.string ⟨#[122, 122, 122]⟩) ∧ w.cell? ⟨g8, 3, none⟩ = some (.slice (some ⟨b1, 0, none⟩) 1 1)) := fun w h =>
      ⟨⟨cell_of_heap (h.heap hg7) rfl, cell_of_heap (h.heap hg7) rfl, cell_of_heap (h.heap hg7) rfl, cell_of_heap (h.heap hg7) rfl⟩, ⟨cell_of_heap (h.heap hg8) rfl, cell_of_heap (h.heap hg8) rfl, cell_of_heap (h.heap hg8) rfl, cell_of_heap (h.heap hg8) rfl⟩⟩
    have KX : ∀ w, Ltr wc w → _ := fun w h => KEEP.out w (hbw.trans (Below.mono h hbw.size))
    have HSX := Lib.hid SX
    have HSY := Lib.hid SY
    have HDX := Lib.hid DX
    have HDY := Lib.hid DY
    have HSB := Lib.hid SB
    have HDB := Lib.hid DB
    have HCB := Lib.hid CB
    have HC1 := Lib.hid C1
    have HC2 := Lib.hid C2
    have HC3 := Lib.hid C3
    have HKP := Lib.hid KP
    have HKX := Lib.hid KX
    have HMD := Lib.hid hmd
    have HWC : Hid (Below W.heap.size W wc) := HB5.out.trans (hbw.mono HB5.out.size)
    clear q0 q1 q2 q3 q4 q5 q6 q7 E7 E8 HF HN HB5 KEEP hg7 hg8 hb2 hb1 hbw mx my nx ny shx shy svx svy hxk hxn hxs hxl hyk hyn hys hyl hX cX cY cXY cYX MX MY M1 M2 hzx hzy hdx hdy hmd hz lx ly SX SY DX DY MB MO nB nB' n1 n1' SB DB CB C1 C2 C3 KP KX
    go_wp2_with fail
    have wr1 : IntKind.i64.wrap (zx + zy) = zx + zy := IntWalk.i64_in _ (by omega)
    have wr2 : IntKind.i64.wrap (zx + zy + 1) = zx + zy + 1 := IntWalk.i64_in _ (by omega)
    have wr3 : IntKind.i64.wrap (md + 1) = md + 1 := IntWalk.i64_in _ (by omega)
    refine wp_region_inv (some 28 :: some 29 :: some 30 :: some 31 :: some 32 :: some 33 :: some 34 :: some 35 :: some 36 :: some 37 :: some 38 :: some 39 :: some 40 :: some 41 :: some 42 :: some 43 :: some 44 :: some 45 :: some 46 :: some 47 :: some 48 :: some 49 :: some 50 :: some 51 :: some 52 :: some 53 :: some 54 :: some 55 :: some 56 :: some 57 :: some 58 :: some 59 :: some 60 :: some 61 :: some 62 :: some 63 :: some 64 :: some 65 :: some 66 :: some 67 :: some 68 :: some 69 :: some 70 :: some 71 :: some 72 :: some 73 :: some 74 :: some 75 :: some 76 :: some 77 :: some 78 :: some 79 :: some 80 :: some 81 :: some 82 :: some 4 :: []) deps7 (fun i => (list7 zx zy dx dy md z b1 b2 xk xn xs ax xl cx yk yn ys ay yl cy).getD i (fun _ _ => True)) ?F7 (by kernel_rfl) (by kernel_rfl) (by kernel_rfl) (by kernel_rfl) (by kernel_rfl) ?hF7 (fun i v w w' hl h => mono_at _ i v w w' (mono7 zx zy dx dy md z b1 b2 xk xn xs ax xl cx yk yn ys ay yl cy) hl h) ?step7 ?fin7
    case hF7 =>
      intro vals
      simp only [putD, Act.put, List.setIfInBounds_toArray, List.set_cons_zero, List.set_cons_succ, Nat.reduceAdd]
      exact rfl
    case step7 =>
      change StepsD _ _ _ _ _ _ _ (0 :: 1 :: 2 :: 3 :: 4 :: 5 :: 6 :: 7 :: 8 :: 9 :: 10 :: 11 :: 12 :: 13 :: 14 :: 15 :: 16 :: 17 :: 18 :: 19 :: 20 :: 21 :: 22 :: 23 :: 24 :: 25 :: 26 :: 27 :: 28 :: 29 :: 30 :: 31 :: 32 :: 33 :: 34 :: 35 :: 36 :: 37 :: 38 :: 39 :: 40 :: 41 :: 42 :: 43 :: 44 :: 45 :: 46 :: 47 :: 48 :: 49 :: 50 :: 51 :: 52 :: 53 :: 54 :: 55 :: [])
      refine stepsD_cons rfl (fun vals w hw hf K hK => ?_) ?_
      · have hk := hK (.agg #[.int .i64 4, .int .i64 0, .string ⟨#[102]⟩, .slice (some ⟨b2, 0, none⟩) 2 2]) w (Ltr.refl w) rfl
        clear hf
        obtain ⟨⟨q0, q1, q2, q3⟩, _⟩ := HKP.out w hw
        clear hK hw
        go_simp
        exact hk
      refine stepsD_cons rfl (fun vals w hw hf K hK => ?_) ?_
      · have hk := fun w' (hl : Ltr w w') => hK (.int .i64 (zx + zy + 1)) w' hl rfl
        obtain ⟨e0, _⟩ := hf
        have e0 : vals 0 = (.agg #[.int .i64 4, .int .i64 0, .string ⟨#[102]⟩, .slice (some ⟨b2, 0, none⟩) 2 2]) := e0
        have hc := Lib.hid (HSB.out w hw)
        have HK := Lib.hid hk
        clear hK hw hk
        go_simp
        refine hc.out.mono ?_
        rintro _ w' ⟨rfl, hl⟩
        have hk := HK.out w' hl
        simp only [e0] at hk
        exact hk
      refine stepsD_cons rfl (fun vals w hw hf K hK => ?_) ?_
      · have hk := hK (.agg #[.int .i64 xk, .int .i64 xn, .string xs, .slice ax xl cx]) w (Ltr.refl w) rfl
        clear hf
        obtain ⟨q0, q1, q2, q3, _, _, _, _⟩ := HKX.out w hw
        clear hK hw
        go_simp
        exact hk
      refine stepsD_cons rfl (fun vals w hw hf K hK => ?_) ?_
      · have hk := fun w' (hl : Ltr w w') => hK (.int .i64 (zx)) w' hl rfl
        obtain ⟨e2, _⟩ := hf
        have e2 : vals 2 = (.agg #[.int .i64 xk, .int .i64 xn, .string xs, .slice ax xl cx]) := e2
        have hc := Lib.hid (HSX.out w hw)
        have HK := Lib.hid hk
        clear hK hw hk
        go_simp
        refine hc.out.mono ?_
        rintro _ w' ⟨rfl, hl⟩
        have hk := HK.out w' hl
        simp only [e2] at hk
        exact hk
      refine stepsD_cons rfl (fun vals w hw hf K hK => ?_) ?_
      · have hk := hK (.agg #[.int .i64 yk, .int .i64 yn, .string ys, .slice ay yl cy]) w (Ltr.refl w) rfl
        clear hf
        obtain ⟨_, _, _, _, q0, q1, q2, q3⟩ := HKX.out w hw
        clear hK hw
        go_simp
        exact hk
      refine stepsD_cons rfl (fun vals w hw hf K hK => ?_) ?_
      · have hk := fun w' (hl : Ltr w w') => hK (.int .i64 (zy)) w' hl rfl
        obtain ⟨e4, _⟩ := hf
        have e4 : vals 4 = (.agg #[.int .i64 yk, .int .i64 yn, .string ys, .slice ay yl cy]) := e4
        have hc := Lib.hid (HSY.out w hw)
        have HK := Lib.hid hk
        clear hK hw hk
        go_simp
        refine hc.out.mono ?_
        rintro _ w' ⟨rfl, hl⟩
        have hk := HK.out w' hl
        simp only [e4] at hk
        exact hk
      refine stepsD_cons rfl (fun vals w hw hf K hK => ?_) ?_
      · have hk := hK (.int .i64 (zx + zy)) w (Ltr.refl w) rfl
        obtain ⟨e3, e5, _⟩ := hf
        have e3 : vals 3 = (.int .i64 (zx)) := e3
        have e5 : vals 5 = (.int .i64 (zy)) := e5
        clear hK hw
        go_simp
        simp only [e3, e5] at hk
        exact hk
      refine stepsD_cons rfl (fun vals w hw hf K hK => ?_) ?_
      · have hk := hK (.int .i64 (zx + zy + 1)) w (Ltr.refl w) rfl
        obtain ⟨e6, _⟩ := hf
        have e6 : vals 6 = (.int .i64 (zx + zy)) := e6
        clear hK hw
        go_simp
        simp only [e6] at hk
        exact hk
      refine stepsD_cons rfl (fun vals w hw hf K hK => ?_) ?_
      · have hk := hK (.bool true) w (Ltr.refl w) rfl
        obtain ⟨e1, e7, _⟩ := hf
        have e1 : vals 1 = (.int .i64 (zx + zy + 1)) := e1
        have e7 : vals 7 = (.int .i64 (zx + zy + 1)) := e7
        clear hK hw
        go_simp
        simp only [e1, e7] at hk
        exact hk
      refine stepsD_cons rfl (fun vals w hw hf K hK => ?_) ?_
      · have hk := hK (.bool true) w (Ltr.refl w) rfl
        obtain ⟨e8, _⟩ := hf
        have e8 : vals 8 = (.bool true) := e8
        clear hK hw
        go_simp
        simp only [e8] at hk
        exact hk
      refine stepsD_cons rfl (fun vals w hw hf K hK => ?_) ?_
      · have hk := hK (.agg #[.int .i64 4, .int .i64 0, .string ⟨#[102]⟩, .slice (some ⟨b2, 0, none⟩) 2 2]) w (Ltr.refl w) rfl
        obtain ⟨e9, _⟩ := hf
        have e9 : vals 9 = (.bool true) := e9
        obtain ⟨⟨q0, q1, q2, q3⟩, _⟩ := HKP.out w hw
        clear hK hw
        go_simp
        simp only [e9] at hk
        exact hk
      refine stepsD_cons rfl (fun vals w hw hf K hK => ?_) ?_
      · have hk := fun w' (hl : Ltr w w') => hK (.int .i64 (md + 1)) w' hl rfl
        obtain ⟨e9, e10, _⟩ := hf
        have e9 : vals 9 = (.bool true) := e9
        have e10 : vals 10 = (.agg #[.int .i64 4, .int .i64 0, .string ⟨#[102]⟩, .slice (some ⟨b2, 0, none⟩) 2 2]) := e10
        have hc := Lib.hid (HDB.out w hw)
        have HK := Lib.hid hk
        clear hK hw hk
        go_simp
        refine hc.out.mono ?_
        rintro _ w' ⟨rfl, hl⟩
        have hk := HK.out w' hl
        simp only [e9, e10] at hk
        exact hk
      refine stepsD_cons rfl (fun vals w hw hf K hK => ?_) ?_
      · have hk := hK (.agg #[.int .i64 xk, .int .i64 xn, .string xs, .slice ax xl cx]) w (Ltr.refl w) rfl
        obtain ⟨e9, _⟩ := hf
        have e9 : vals 9 = (.bool true) := e9
        obtain ⟨q0, q1, q2, q3, _, _, _, _⟩ := HKX.out w hw
        clear hK hw
        go_simp
        simp only [e9] at hk
        exact hk
      refine stepsD_cons rfl (fun vals w hw hf K hK => ?_) ?_
      · have hk := fun w' (hl : Ltr w w') => hK (.int .i64 (dx)) w' hl rfl
        obtain ⟨e9, e12, _⟩ := hf
        have e9 : vals 9 = (.bool true) := e9
        have e12 : vals 12 = (.agg #[.int .i64 xk, .int .i64 xn, .string xs, .slice ax xl cx]) := e12
        have hc := Lib.hid (HDX.out w hw)
        have HK := Lib.hid hk
        clear hK hw hk
        go_simp
        refine hc.out.mono ?_
        rintro _ w' ⟨rfl, hl⟩
        have hk := HK.out w' hl
        simp only [e9, e12] at hk
        exact hk
      refine stepsD_cons rfl (fun vals w hw hf K hK => ?_) ?_
      · have hk := hK (.agg #[.int .i64 yk, .int .i64 yn, .string ys, .slice ay yl cy]) w (Ltr.refl w) rfl
        obtain ⟨e9, _⟩ := hf
        have e9 : vals 9 = (.bool true) := e9
        obtain ⟨_, _, _, _, q0, q1, q2, q3⟩ := HKX.out w hw
        clear hK hw
        go_simp
        simp only [e9] at hk
        exact hk
      refine stepsD_cons rfl (fun vals w hw hf K hK => ?_) ?_
      · have hk := fun w' (hl : Ltr w w') => hK (.int .i64 (dy)) w' hl rfl
        obtain ⟨e9, e14, _⟩ := hf
        have e9 : vals 9 = (.bool true) := e9
        have e14 : vals 14 = (.agg #[.int .i64 yk, .int .i64 yn, .string ys, .slice ay yl cy]) := e14
        have hc := Lib.hid (HDY.out w hw)
        have HK := Lib.hid hk
        clear hK hw hk
        go_simp
        refine hc.out.mono ?_
        rintro _ w' ⟨rfl, hl⟩
        have hk := HK.out w' hl
        simp only [e9, e14] at hk
        exact hk
      refine stepsD_cons rfl (fun vals w hw hf K hK => ?_) ?_
      · have hk := hK (.int .i64 (md)) w (Ltr.refl w) rfl
        obtain ⟨e9, e13, e15, _⟩ := hf
        have e9 : vals 9 = (.bool true) := e9
        have e13 : vals 13 = (.int .i64 (dx)) := e13
        have e15 : vals 15 = (.int .i64 (dy)) := e15
        clear hK hw
        go_simp
        simp only [e9, e13, e15] at hk
        rw [← HMD.out] at hk
        exact hk
      refine stepsD_cons rfl (fun vals w hw hf K hK => ?_) ?_
      · have hk := hK (.int .i64 (md + 1)) w (Ltr.refl w) rfl
        obtain ⟨e9, e16, _⟩ := hf
        have e9 : vals 9 = (.bool true) := e9
        have e16 : vals 16 = (.int .i64 (md)) := e16
        clear hK hw
        go_simp
        simp only [e9, e16] at hk
        exact hk
      refine stepsD_cons rfl (fun vals w hw hf K hK => ?_) ?_
      · have hk := hK (.bool true) w (Ltr.refl w) rfl
        obtain ⟨e9, e11, e17, _⟩ := hf
        have e9 : vals 9 = (.bool true) := e9
        have e11 : vals 11 = (.int .i64 (md + 1)) := e11
        have e17 : vals 17 = (.int .i64 (md + 1)) := e17
        clear hK hw
        go_simp
        simp only [e9, e11, e17] at hk
        exact hk
      refine stepsD_cons rfl (fun vals w hw hf K hK => ?_) ?_
      · have hk := hK (.bool true) w (Ltr.refl w) rfl
        obtain ⟨e9, e18, _⟩ := hf
        have e9 : vals 9 = (.bool true) := e9
        have e18 : vals 18 = (.bool true) := e18
        clear hK hw
        go_simp
        simp only [e9, e18] at hk
        exact hk
      refine stepsD_cons rfl (fun vals w hw hf K hK => ?_) ?_
      · have hk := hK (.bool true) w (Ltr.refl w) rfl
        obtain ⟨e19, _⟩ := hf
        have e19 : vals 19 = (.bool true) := e19
        clear hK hw
        go_simp
        simp only [e19] at hk
        exact hk
      refine stepsD_cons rfl (fun vals w hw hf K hK => ?_) ?_
      · have hk := hK (.agg #[.int .i64 4, .int .i64 0, .string ⟨#[122, 122, 122]⟩, .slice (some ⟨b1, 0, none⟩) 1 1]) w (Ltr.refl w) rfl
        obtain ⟨e20, _⟩ := hf
        have e20 : vals 20 = (.bool true) := e20
        obtain ⟨_, ⟨q0, q1, q2, q3⟩⟩ := HKP.out w hw
        clear hK hw
        go_simp
        simp only [e20] at hk
        exact hk
      refine stepsD_cons rfl (fun vals w hw hf K hK => ?_) ?_
      · have hk := hK (.agg #[.int .i64 4, .int .i64 0, .string ⟨#[102]⟩, .slice (some ⟨b2, 0, none⟩) 2 2]) w (Ltr.refl w) rfl
        obtain ⟨e20, _⟩ := hf
        have e20 : vals 20 = (.bool true) := e20
        obtain ⟨⟨q0, q1, q2, q3⟩, _⟩ := HKP.out w hw
        clear hK hw
        go_simp
        simp only [e20] at hk
        exact hk
      refine stepsD_cons rfl (fun vals w hw hf K hK => ?_) ?_
      · have hk := fun w' (hl : Ltr w w') => hK (.int .i64 (-1)) w' hl rfl
        obtain ⟨e20, e21, e22, _⟩ := hf
        have e20 : vals 20 = (.bool true) := e20
        have e21 : vals 21 = (.agg #[.int .i64 4, .int .i64 0, .string ⟨#[122, 122, 122]⟩, .slice (some ⟨b1, 0, none⟩) 1 1]) := e21
        have e22 : vals 22 = (.agg #[.int .i64 4, .int .i64 0, .string ⟨#[102]⟩, .slice (some ⟨b2, 0, none⟩) 2 2]) := e22
        have hc := Lib.hid (HCB.out w hw)
        have HK := Lib.hid hk
        clear hK hw hk
        go_simp
        refine hc.out.mono ?_
        rintro _ w' ⟨rfl, hl⟩
        have hk := HK.out w' hl
        simp only [e20, e21, e22] at hk
        exact hk
      refine stepsD_cons rfl (fun vals w hw hf K hK => ?_) ?_
      · have hk := hK (.bool true) w (Ltr.refl w) rfl
        obtain ⟨e20, e23, _⟩ := hf
        have e20 : vals 20 = (.bool true) := e20
        have e23 : vals 23 = (.int .i64 (-1)) := e23
        clear hK hw
        go_simp
        simp only [e20, e23] at hk
        exact hk
      refine stepsD_cons rfl (fun vals w hw hf K hK => ?_) ?_
      · have hk := hK (.bool true) w (Ltr.refl w) rfl
        obtain ⟨e20, e24, _⟩ := hf
        have e20 : vals 20 = (.bool true) := e20
        have e24 : vals 24 = (.bool true) := e24
        clear hK hw
        go_simp
        simp only [e20, e24] at hk
        exact hk
      refine stepsD_cons rfl (fun vals w hw hf K hK => ?_) ?_
      · have hk := hK (.bool true) w (Ltr.refl w) rfl
        obtain ⟨e25, _⟩ := hf
        have e25 : vals 25 = (.bool true) := e25
        clear hK hw
        go_simp
        simp only [e25] at hk
        exact hk
      refine stepsD_cons rfl (fun vals w hw hf K hK => ?_) ?_
      · have hk := hK (.agg #[.int .i64 xk, .int .i64 xn, .string xs, .slice ax xl cx]) w (Ltr.refl w) rfl
        obtain ⟨e26, _⟩ := hf
        have e26 : vals 26 = (.bool true) := e26
        obtain ⟨q0, q1, q2, q3, _, _, _, _⟩ := HKX.out w hw
        clear hK hw
        go_simp
        simp only [e26] at hk
        exact hk
      refine stepsD_cons rfl (fun vals w hw hf K hK => ?_) ?_
      · have hk := hK (.slice (some ⟨w.heap.size, 0, none⟩) 1 1) (w.alloc (.cells #[.int .i64 xk, .int .i64 xn, .string xs, .slice ax xl cx] 27)) ((Below.refl _ _).alloc (Nat.le_refl _) _) ⟨w.heap.size, rfl, heap_alloc_new _ _⟩
        obtain ⟨e26, e27, _⟩ := hf
        have e26 : vals 26 = (.bool true) := e26
        have e27 : vals 27 = (.agg #[.int .i64 xk, .int .i64 xn, .string xs, .slice ax xl cx]) := e27
        clear hK hw
        go_simp
        simp only [e26, e27] at hk
        exact hk
      refine stepsD_cons rfl (fun vals w hw hf K hK => ?_) ?_
      · obtain ⟨e26, e28, _⟩ := hf
        have e26 : vals 26 = (.bool true) := e26
        obtain ⟨r28, e28, h28⟩ := e28
        have hk := hK (.agg #[.int .i64 4, .int .i64 0, .string ⟨#[102]⟩, .slice (some ⟨r28, 0, none⟩) 1 1]) (w.alloc (.cells #[.int .i64 4, .int .i64 0, .string ⟨#[102]⟩, .slice (some ⟨r28, 0, none⟩) 1 1] 27)) ((Below.refl _ _).alloc (Nat.le_refl _) _) ⟨r28, rfl, Ltr.heap ((Below.refl _ _).alloc (Nat.le_refl _) _) h28⟩
        clear hK hw h28
        go_simp
        refine (f_is _ _ _ _ _).mono ?_
        rintro _ _ ⟨rfl, rfl⟩
        simp only [e26, e28] at hk
        exact hk
      refine stepsD_cons rfl (fun vals w hw hf K hK => ?_) ?_
      · have hk := hK (.agg #[.int .i64 yk, .int .i64 yn, .string ys, .slice ay yl cy]) w (Ltr.refl w) rfl
        obtain ⟨e26, _⟩ := hf
        have e26 : vals 26 = (.bool true) := e26
        obtain ⟨_, _, _, _, q0, q1, q2, q3⟩ := HKX.out w hw
        clear hK hw
        go_simp
        simp only [e26] at hk
        exact hk
      refine stepsD_cons rfl (fun vals w hw hf K hK => ?_) ?_
      · have hk := hK (.slice (some ⟨w.heap.size, 0, none⟩) 1 1) (w.alloc (.cells #[.int .i64 yk, .int .i64 yn, .string ys, .slice ay yl cy] 27)) ((Below.refl _ _).alloc (Nat.le_refl _) _) ⟨w.heap.size, rfl, heap_alloc_new _ _⟩
        obtain ⟨e26, e30, _⟩ := hf
        have e26 : vals 26 = (.bool true) := e26
        have e30 : vals 30 = (.agg #[.int .i64 yk, .int .i64 yn, .string ys, .slice ay yl cy]) := e30
        clear hK hw
        go_simp
        simp only [e26, e30] at hk
        exact hk
      refine stepsD_cons rfl (fun vals w hw hf K hK => ?_) ?_
      · obtain ⟨e26, e31, _⟩ := hf
        have e26 : vals 26 = (.bool true) := e26
        obtain ⟨r31, e31, h31⟩ := e31
        have hk := hK (.agg #[.int .i64 4, .int .i64 0, .string ⟨#[103]⟩, .slice (some ⟨r31, 0, none⟩) 1 1]) (w.alloc (.cells #[.int .i64 4, .int .i64 0, .string ⟨#[103]⟩, .slice (some ⟨r31, 0, none⟩) 1 1] 27)) ((Below.refl _ _).alloc (Nat.le_refl _) _) ⟨r31, rfl, Ltr.heap ((Below.refl _ _).alloc (Nat.le_refl _) _) h31⟩
        clear hK hw h31
        go_simp
        refine (f_is _ _ _ _ _).mono ?_
        rintro _ _ ⟨rfl, rfl⟩
        simp only [e26, e31] at hk
        exact hk
      refine stepsD_cons rfl (fun vals w hw hf K hK => ?_) ?_
      · have hk := fun w' (hl : Ltr w w') => hK (.int .i64 (-1)) w' hl rfl
        obtain ⟨e26, e29, e32, _⟩ := hf
        have e26 : vals 26 = (.bool true) := e26
        obtain ⟨r29, e29, h29⟩ := e29
        obtain ⟨r32, e32, h32⟩ := e32
        have hc := Lib.hid (HC1.out w r29 r32 hw h29 h32)
        have HK := Lib.hid hk
        clear hK hw hk h29 h32
        go_simp
        refine hc.out.mono ?_
        rintro _ w' ⟨rfl, hl⟩
        have hk := HK.out w' hl
        simp only [e26, e29, e32] at hk
        exact hk
      refine stepsD_cons rfl (fun vals w hw hf K hK => ?_) ?_
      · have hk := hK (.bool true) w (Ltr.refl w) rfl
        obtain ⟨e26, e33, _⟩ := hf
        have e26 : vals 26 = (.bool true) := e26
        have e33 : vals 33 = (.int .i64 (-1)) := e33
        clear hK hw
        go_simp
        simp only [e26, e33] at hk
        exact hk
      refine stepsD_cons rfl (fun vals w hw hf K hK => ?_) ?_
      · have hk := hK (.bool true) w (Ltr.refl w) rfl
        obtain ⟨e26, e34, _⟩ := hf
        have e26 : vals 26 = (.bool true) := e26
        have e34 : vals 34 = (.bool true) := e34
        clear hK hw
        go_simp
        simp only [e26, e34] at hk
        exact hk
      refine stepsD_cons rfl (fun vals w hw hf K hK => ?_) ?_
      · have hk := hK (.bool true) w (Ltr.refl w) rfl
        obtain ⟨e35, _⟩ := hf
        have e35 : vals 35 = (.bool true) := e35
        clear hK hw
        go_simp
        simp only [e35] at hk
        exact hk
      refine stepsD_cons rfl (fun vals w hw hf K hK => ?_) ?_
      · have hk := hK (.agg #[.int .i64 xk, .int .i64 xn, .string xs, .slice ax xl cx]) w (Ltr.refl w) rfl
        obtain ⟨e36, _⟩ := hf
        have e36 : vals 36 = (.bool true) := e36
        obtain ⟨q0, q1, q2, q3, _, _, _, _⟩ := HKX.out w hw
        clear hK hw
        go_simp
        simp only [e36] at hk
        exact hk
      refine stepsD_cons rfl (fun vals w hw hf K hK => ?_) ?_
      · have hk := hK (.agg #[.int .i64 yk, .int .i64 yn, .string ys, .slice ay yl cy]) w (Ltr.refl w) rfl
        obtain ⟨e36, _⟩ := hf
        have e36 : vals 36 = (.bool true) := e36
        obtain ⟨_, _, _, _, q0, q1, q2, q3⟩ := HKX.out w hw
        clear hK hw
        go_simp
        simp only [e36] at hk
        exact hk
      refine stepsD_cons rfl (fun vals w hw hf K hK => ?_) ?_
      · have hk := hK (.slice (some ⟨w.heap.size, 0, none⟩) 2 2) (w.alloc (.cells #[.int .i64 xk, .int .i64 xn, .string xs, .slice ax xl cx, .int .i64 yk, .int .i64 yn, .string ys, .slice ay yl cy] 27)) ((Below.refl _ _).alloc (Nat.le_refl _) _) ⟨w.heap.size, rfl, heap_alloc_new _ _⟩
        obtain ⟨e36, e37, e38, _⟩ := hf
        have e36 : vals 36 = (.bool true) := e36
        have e37 : vals 37 = (.agg #[.int .i64 xk, .int .i64 xn, .string xs, .slice ax xl cx]) := e37
        have e38 : vals 38 = (.agg #[.int .i64 yk, .int .i64 yn, .string ys, .slice ay yl cy]) := e38
        clear hK hw
        go_simp
        simp only [e36, e37, e38] at hk
        exact hk
      refine stepsD_cons rfl (fun vals w hw hf K hK => ?_) ?_
      · obtain ⟨e36, e39, _⟩ := hf
        have e36 : vals 36 = (.bool true) := e36
        obtain ⟨r39, e39, h39⟩ := e39
        have hk := hK (.agg #[.int .i64 4, .int .i64 0, .string ⟨#[102]⟩, .slice (some ⟨r39, 0, none⟩) 2 2]) (w.alloc (.cells #[.int .i64 4, .int .i64 0, .string ⟨#[102]⟩, .slice (some ⟨r39, 0, none⟩) 2 2] 27)) ((Below.refl _ _).alloc (Nat.le_refl _) _) ⟨r39, rfl, Ltr.heap ((Below.refl _ _).alloc (Nat.le_refl _) _) h39⟩
        clear hK hw h39
        go_simp
        refine (f_is _ _ _ _ _).mono ?_
        rintro _ _ ⟨rfl, rfl⟩
        simp only [e36, e39] at hk
        exact hk
      refine stepsD_cons rfl (fun vals w hw hf K hK => ?_) ?_
      · have hk := hK (.agg #[.int .i64 yk, .int .i64 yn, .string ys, .slice ay yl cy]) w (Ltr.refl w) rfl
        obtain ⟨e36, _⟩ := hf
        have e36 : vals 36 = (.bool true) := e36
        obtain ⟨_, _, _, _, q0, q1, q2, q3⟩ := HKX.out w hw
        clear hK hw
        go_simp
        simp only [e36] at hk
        exact hk
      refine stepsD_cons rfl (fun vals w hw hf K hK => ?_) ?_
      · have hk := hK (.agg #[.int .i64 xk, .int .i64 xn, .string xs, .slice ax xl cx]) w (Ltr.refl w) rfl
        obtain ⟨e36, _⟩ := hf
        have e36 : vals 36 = (.bool true) := e36
        obtain ⟨q0, q1, q2, q3, _, _, _, _⟩ := HKX.out w hw
        clear hK hw
        go_simp
        simp only [e36] at hk
        exact hk
      refine stepsD_cons rfl (fun vals w hw hf K hK => ?_) ?_
      · have hk := hK (.slice (some ⟨w.heap.size, 0, none⟩) 2 2) (w.alloc (.cells #[.int .i64 yk, .int .i64 yn, .string ys, .slice ay yl cy, .int .i64 xk, .int .i64 xn, .string xs, .slice ax xl cx] 27)) ((Below.refl _ _).alloc (Nat.le_refl _) _) ⟨w.heap.size, rfl, heap_alloc_new _ _⟩
        obtain ⟨e36, e41, e42, _⟩ := hf
        have e36 : vals 36 = (.bool true) := e36
        have e41 : vals 41 = (.agg #[.int .i64 yk, .int .i64 yn, .string ys, .slice ay yl cy]) := e41
        have e42 : vals 42 = (.agg #[.int .i64 xk, .int .i64 xn, .string xs, .slice ax xl cx]) := e42
        clear hK hw
        go_simp
        simp only [e36, e41, e42] at hk
        exact hk
      refine stepsD_cons rfl (fun vals w hw hf K hK => ?_) ?_
      · obtain ⟨e36, e43, _⟩ := hf
        have e36 : vals 36 = (.bool true) := e36
        obtain ⟨r43, e43, h43⟩ := e43
        have hk := hK (.agg #[.int .i64 4, .int .i64 0, .string ⟨#[102]⟩, .slice (some ⟨r43, 0, none⟩) 2 2]) (w.alloc (.cells #[.int .i64 4, .int .i64 0, .string ⟨#[102]⟩, .slice (some ⟨r43, 0, none⟩) 2 2] 27)) ((Below.refl _ _).alloc (Nat.le_refl _) _) ⟨r43, rfl, Ltr.heap ((Below.refl _ _).alloc (Nat.le_refl _) _) h43⟩
        clear hK hw h43
        go_simp
        refine (f_is _ _ _ _ _).mono ?_
        rintro _ _ ⟨rfl, rfl⟩
        simp only [e36, e43] at hk
        exact hk
      refine stepsD_cons rfl (fun vals w hw hf K hK => ?_) ?_
      · have hk := fun w' (hl : Ltr w w') => hK (.int .i64 (z)) w' hl rfl
        obtain ⟨e36, e40, e44, _⟩ := hf
        have e36 : vals 36 = (.bool true) := e36
        obtain ⟨r40, e40, h40⟩ := e40
        obtain ⟨r44, e44, h44⟩ := e44
        have hc := Lib.hid (HC2.out w r40 r44 hw h40 h44)
        have HK := Lib.hid hk
        clear hK hw hk h40 h44
        go_simp
        refine hc.out.mono ?_
        rintro _ w' ⟨rfl, hl⟩
        have hk := HK.out w' hl
        simp only [e36, e40, e44] at hk
        exact hk
      refine stepsD_cons rfl (fun vals w hw hf K hK => ?_) ?_
      · have hk := hK (.agg #[.int .i64 xk, .int .i64 xn, .string xs, .slice ax xl cx]) w (Ltr.refl w) rfl
        obtain ⟨e36, _⟩ := hf
        have e36 : vals 36 = (.bool true) := e36
        obtain ⟨q0, q1, q2, q3, _, _, _, _⟩ := HKX.out w hw
        clear hK hw
        go_simp
        simp only [e36] at hk
        exact hk
      refine stepsD_cons rfl (fun vals w hw hf K hK => ?_) ?_
      · have hk := hK (.slice (some ⟨w.heap.size, 0, none⟩) 1 1) (w.alloc (.cells #[.int .i64 xk, .int .i64 xn, .string xs, .slice ax xl cx] 27)) ((Below.refl _ _).alloc (Nat.le_refl _) _) ⟨w.heap.size, rfl, heap_alloc_new _ _⟩
        obtain ⟨e36, e46, _⟩ := hf
        have e36 : vals 36 = (.bool true) := e36
        have e46 : vals 46 = (.agg #[.int .i64 xk, .int .i64 xn, .string xs, .slice ax xl cx]) := e46
        clear hK hw
        go_simp
        simp only [e36, e46] at hk
        exact hk
      refine stepsD_cons rfl (fun vals w hw hf K hK => ?_) ?_
      · obtain ⟨e36, e47, _⟩ := hf
        have e36 : vals 36 = (.bool true) := e36
        obtain ⟨r47, e47, h47⟩ := e47
        have hk := hK (.agg #[.int .i64 4, .int .i64 0, .string ⟨#[102]⟩, .slice (some ⟨r47, 0, none⟩) 1 1]) (w.alloc (.cells #[.int .i64 4, .int .i64 0, .string ⟨#[102]⟩, .slice (some ⟨r47, 0, none⟩) 1 1] 27)) ((Below.refl _ _).alloc (Nat.le_refl _) _) ⟨r47, rfl, Ltr.heap ((Below.refl _ _).alloc (Nat.le_refl _) _) h47⟩
        clear hK hw h47
        go_simp
        refine (f_is _ _ _ _ _).mono ?_
        rintro _ _ ⟨rfl, rfl⟩
        simp only [e36, e47] at hk
        exact hk
      refine stepsD_cons rfl (fun vals w hw hf K hK => ?_) ?_
      · have hk := hK (.agg #[.int .i64 yk, .int .i64 yn, .string ys, .slice ay yl cy]) w (Ltr.refl w) rfl
        obtain ⟨e36, _⟩ := hf
        have e36 : vals 36 = (.bool true) := e36
        obtain ⟨_, _, _, _, q0, q1, q2, q3⟩ := HKX.out w hw
        clear hK hw
        go_simp
        simp only [e36] at hk
        exact hk
      refine stepsD_cons rfl (fun vals w hw hf K hK => ?_) ?_
      · have hk := hK (.slice (some ⟨w.heap.size, 0, none⟩) 1 1) (w.alloc (.cells #[.int .i64 yk, .int .i64 yn, .string ys, .slice ay yl cy] 27)) ((Below.refl _ _).alloc (Nat.le_refl _) _) ⟨w.heap.size, rfl, heap_alloc_new _ _⟩
        obtain ⟨e36, e49, _⟩ := hf
        have e36 : vals 36 = (.bool true) := e36
        have e49 : vals 49 = (.agg #[.int .i64 yk, .int .i64 yn, .string ys, .slice ay yl cy]) := e49
        clear hK hw
        go_simp
        simp only [e36, e49] at hk
        exact hk
      refine stepsD_cons rfl (fun vals w hw hf K hK => ?_) ?_
      · obtain ⟨e36, e50, _⟩ := hf
        have e36 : vals 36 = (.bool true) := e36
        obtain ⟨r50, e50, h50⟩ := e50
        have hk := hK (.agg #[.int .i64 4, .int .i64 0, .string ⟨#[102]⟩, .slice (some ⟨r50, 0, none⟩) 1 1]) (w.alloc (.cells #[.int .i64 4, .int .i64 0, .string ⟨#[102]⟩, .slice (some ⟨r50, 0, none⟩) 1 1] 27)) ((Below.refl _ _).alloc (Nat.le_refl _) _) ⟨r50, rfl, Ltr.heap ((Below.refl _ _).alloc (Nat.le_refl _) _) h50⟩
        clear hK hw h50
        go_simp
        refine (f_is _ _ _ _ _).mono ?_
        rintro _ _ ⟨rfl, rfl⟩
        simp only [e36, e50] at hk
        exact hk
      refine stepsD_cons rfl (fun vals w hw hf K hK => ?_) ?_
      · have hk := fun w' (hl : Ltr w w') => hK (.int .i64 (z)) w' hl rfl
        obtain ⟨e36, e48, e51, _⟩ := hf
        have e36 : vals 36 = (.bool true) := e36
        obtain ⟨r48, e48, h48⟩ := e48
        obtain ⟨r51, e51, h51⟩ := e51
        have hc := Lib.hid (HC3.out w r48 r51 hw h48 h51)
        have HK := Lib.hid hk
        clear hK hw hk h48 h51
        go_simp
        refine hc.out.mono ?_
        rintro _ w' ⟨rfl, hl⟩
        have hk := HK.out w' hl
        simp only [e36, e48, e51] at hk
        exact hk
      refine stepsD_cons rfl (fun vals w hw hf K hK => ?_) ?_
      · have hk := hK (.bool true) w (Ltr.refl w) rfl
        obtain ⟨e36, e45, e52, _⟩ := hf
        have e36 : vals 36 = (.bool true) := e36
        have e45 : vals 45 = (.int .i64 (z)) := e45
        have e52 : vals 52 = (.int .i64 (z)) := e52
        clear hK hw
        go_simp
        simp only [e36, e45, e52] at hk
        exact hk
      refine stepsD_cons rfl (fun vals w hw hf K hK => ?_) ?_
      · have hk := hK (.bool true) w (Ltr.refl w) rfl
        obtain ⟨e36, e53, _⟩ := hf
        have e36 : vals 36 = (.bool true) := e36
        have e53 : vals 53 = (.bool true) := e53
        clear hK hw
        go_simp
        simp only [e36, e53] at hk
        exact hk
      refine stepsD_cons rfl (fun vals w hw hf K hK => ?_) ?_
      · have hk := hK (.bool true) w (Ltr.refl w) rfl
        obtain ⟨e54, _⟩ := hf
        have e54 : vals 54 = (.bool true) := e54
        clear hK hw
        go_simp
        simp only [e54] at hk
        exact hk
      exact stepsD_nil
    case fin7 =>
      intro vals w hw hΦ
      have e55 : vals 55 = .bool true := hΦ 55 (by decide)
      have HW : Hid (Below W.heap.size W w) := HWC.out.trans (Below.mono hw HWC.out.size)
      clear hΦ hw wr1 wr2 wr3
      go_wp2
      go_ret
      exact ⟨congrArg Ending.returned e55, HW.out⟩
end Go.Proofs.Ytkidcchafdiofaa
