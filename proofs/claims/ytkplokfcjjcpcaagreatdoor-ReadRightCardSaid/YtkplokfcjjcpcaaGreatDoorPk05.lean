/- Joined texts: TokNum TokA TokB TokC TokD. Conditions: as each states. -/
import Derived.Test.YtkplokfcjjcpcaaGreatDoorPk02
import Derived.Lib.Hide
import Derived.Lib.Strings
import Derived.Test.YtkplokfcjjcpcaaGreatDoorPk04
import Derived.Lib.IndexMore
import Derived.OneCell
section
namespace Go.Proofs.YtkplokfcjjcpcaaGreatDoor
open Go Go.RowKit
abbrev ret (n e : Int) : Ending := .returned (.tuple #[.int .i64 n, .int .i64 e])
def digitZ (c : Int) : Int := if 48 ≤ c ∧ c ≤ 57 then c - 48 else if 97 ≤ c ∧ c ≤ 122 then c - 97 + 10 else if 65 ≤ c ∧ c ≤ 90 then c - 65 + 10 else 36
theorem digitZ_bd (c : Int) : 0 ≤ digitZ c ∧ digitZ c ≤ 36 := by unfold digitZ; repeat' split; all_goals omega
set_option maxHeartbeats 400000 in
theorem digit_is (c : Int) (w : World) (h0 : 0 ≤ c) (h1 : c ≤ 255) :
    Calls Tryz.prog 213 #[.int .u8 c] w fun e w' => e = .returned (.int .i64 (digitZ c)) ∧ w' = w := by
  by_cases c1 : c < 48
  · have : digitZ c = 36 := by unfold digitZ; rw [if_neg (by omega), if_neg (by omega), if_neg (by omega)]
    rw [this]; clear this
    go_enter Tryz.func213, Tryz.ntmps213
    go_wp2
    go_ret
    exact ⟨rfl, rfl⟩
  by_cases c2 : c ≤ 57
  · have : digitZ c = c - 48 := by unfold digitZ; rw [if_pos (by omega)]
    rw [this]; clear this
    go_enter Tryz.func213, Tryz.ntmps213
    go_wp2
    go_ret
    exact ⟨rfl, rfl⟩
  by_cases c3 : c < 65
  · have : digitZ c = 36 := by unfold digitZ; rw [if_neg (by omega), if_neg (by omega), if_neg (by omega)]
    rw [this]; clear this
    go_enter Tryz.func213, Tryz.ntmps213
    go_wp2
    go_ret
    exact ⟨rfl, rfl⟩
  by_cases c4 : c ≤ 90
  · have : digitZ c = c - 65 + 10 := by unfold digitZ; rw [if_neg (by omega), if_neg (by omega), if_pos (by omega)]
    rw [this]; clear this
    go_enter Tryz.func213, Tryz.ntmps213
    go_wp2
    go_ret
    exact ⟨rfl, rfl⟩
  by_cases c5 : c < 97
  · have : digitZ c = 36 := by unfold digitZ; rw [if_neg (by omega), if_neg (by omega), if_neg (by omega)]
    rw [this]; clear this
    go_enter Tryz.func213, Tryz.ntmps213
    go_wp2
    go_ret
    exact ⟨rfl, rfl⟩
  by_cases c6 : c ≤ 122
  · have : digitZ c = c - 97 + 10 := by unfold digitZ; rw [if_neg (by omega), if_pos (by omega)]
    rw [this]; clear this
    go_enter Tryz.func213, Tryz.ntmps213
    go_wp2
    go_ret
    exact ⟨rfl, rfl⟩
  · have : digitZ c = 36 := by unfold digitZ; rw [if_neg (by omega), if_neg (by omega), if_neg (by omega)]
    rw [this]; clear this
    go_enter Tryz.func213, Tryz.ntmps213
    go_wp2
    go_ret
    exact ⟨rfl, rfl⟩
def stepP (base : Int) (st : Int × Bool) (c : UInt8) : Int × Bool :=
  (IntKind.u64.wrap (IntKind.u64.wrap (st.1 * base) + digitZ (c.toNat : Int)), st.2 || decide ((9223372036854775808 - digitZ (c.toNat : Int)) / base < st.1))
def foldP (base : Int) (l : List UInt8) : Int × Bool := l.foldl (stepP base) (0, false)
theorem foldP_snoc (base : Int) (l : List UInt8) (c : UInt8) : foldP base (l ++ [c]) = stepP base (foldP base l) c := by
  unfold foldP
  rw [List.foldl_append]
  rfl
theorem u64_bd (x : Int) : 0 ≤ IntKind.u64.wrap x ∧ IntKind.u64.wrap x ≤ 18446744073709551615 := by
  rw [IntKind.wrap_u64]
  omega
theorem foldP_bd (base : Int) (l : List UInt8) : 0 ≤ (foldP base l).1 ∧ (foldP base l).1 ≤ 18446744073709551615 := by
  rcases List.eq_nil_or_concat l with rfl | ⟨l', c, rfl⟩
  · exact ⟨Int.le_refl 0, by show (0 : Int) ≤ _; omega⟩
  · rw [List.concat_eq_append, foldP_snoc]
    exact u64_bd _
def digitsB (base : Int) (l : List UInt8) : Bool := l.all fun c => decide (digitZ (c.toNat : Int) < base)
def parseR (base : Int) (l : List UInt8) : Int × Int :=
  if base < 2 ∨ 36 < base then (0, 2) else if l = [] then (0, 6) else if digitsB base l = false then (0, 6) else if (foldP base l).2 = true then (0, 11) else (wrap64 (foldP base l).1, 0)
set_option maxHeartbeats 400000 in
theorem parse_is (s : ByteArray) (base : Int) (w : World) (hs : s.size ≤ maxLen) :
    Calls Tryz.prog 174 #[.string s, .int .i64 base] w fun e w' => e = ret (parseR base s.data.toList).1 (parseR base s.data.toList).2 ∧ w' = w := by
  unfold maxLen at hs
  obtain ⟨⟨rn, rq⟩, hr⟩ : ∃ r, parseR base s.data.toList = r := ⟨_, rfl⟩
  rw [hr]
  show Calls Tryz.prog 174 #[.string s, .int .i64 base] w fun e w' => e = ret rn rq ∧ w' = w
  by_cases hb1 : base < 2
  · have hp : parseR base s.data.toList = (0, 2) := by unfold parseR; rw [if_pos (Or.inl hb1)]
    rw [hp] at hr
    cases hr
    clear hp
    go_enter Tryz.func174, Tryz.ntmps174
    go_wp2
    go_ret2
    exact ⟨rfl, rfl⟩
  by_cases hb2 : 36 < base
  · have hp : parseR base s.data.toList = (0, 2) := by unfold parseR; rw [if_pos (Or.inr hb2)]
    rw [hp] at hr
    cases hr
    clear hp
    go_enter Tryz.func174, Tryz.ntmps174
    go_wp2
    go_ret2
    exact ⟨rfl, rfl⟩
  have hb : 2 ≤ base ∧ base ≤ 36 := by omega
  have hno : ¬ (base < 2 ∨ 36 < base) := by omega
  by_cases h0 : s.data.toList = []
  · have hp : parseR base s.data.toList = (0, 6) := by unfold parseR; rw [if_neg hno, if_pos h0]
    rw [hp] at hr
    cases hr
    have he : s.toList.isEmpty = true := by rw [Lib.toList_data, h0]; rfl
    clear hp hno h0
    go_enter Tryz.func174, Tryz.ntmps174
    go_wp2
    go_ret2
    exact ⟨rfl, rfl⟩
  have he : s.toList.isEmpty = false := by
    rw [Lib.toList_data]
    cases hl : s.data.toList with
    | nil => exact absurd hl h0
    | cons _ _ => rfl
  have HP := Lib.hid (show parseR base s.data.toList = if digitsB base s.data.toList = false then (0, 6) else if (foldP base s.data.toList).2 = true then (0, 11) else (wrap64 (foldP base s.data.toList).1, 0) by
    unfold parseR; rw [if_neg hno, if_neg h0])
  rw [hr] at HP
  clear hr
  have hb1' : 2 ≤ base := hb.1
  have hb2' : base ≤ 36 := hb.2
  clear hb1 hb2 hno h0
  go_enter Tryz.func174, Tryz.ntmps174
  go_wp2
  go_loop [6, 7, 20] (fun n o i => ∃ k : Nat, k ≤ s.size ∧ i = .int .i64 k ∧ n = .int .u64 (foldP base (s.data.toList.take k)).1 ∧ o = .bool (foldP base (s.data.toList.take k)).2 ∧ Hid (digitsB base (s.data.toList.take k) = true)) (fun _ _ i => s.size - (intOf i).toNat)
  case atStart => exact ⟨0, Nat.zero_le _, rfl, rfl, rfl, rfl⟩
  case round =>
    obtain ⟨k, hk, rfl, rfl, rfl, hall⟩ := hrel
    have hbd := foldP_bd base (s.data.toList.take k)
    obtain ⟨hm0, hm1⟩ := hbd
    by_cases hlt : k < s.size
    · have hst := foldP_snoc base (s.data.toList.take k) s[k]
      rw [← take_snoc s k hlt] at hst
      have hc0 : (0 : Int) ≤ (s[k].toNat : Int) := by omega
      have hc1 : (s[k].toNat : Int) ≤ 255 := by have := s[k].toNat_lt; omega
      have hd := digitZ_bd (s[k].toNat : Int)
      have HS := Lib.hid hst
      clear hst
      by_cases hd2 : base ≤ digitZ (s[k].toNat : Int)
      · have hp : Hid ((rn, rq) = (0, 6)) := by
          show (rn, rq) = (0, 6)
          rw [HP.out, if_pos]
          unfold digitsB
          rw [List.all_eq_false]
          exact ⟨s[k], byte_mem s k hlt, by simpa using hd2⟩
        generalize foldP base (s.data.toList.take k) = st at *
        obtain ⟨m, v⟩ := st
        go_wp2_with (go_at_call 213; refine (digit_is _ _ hc0 hc1).mono ?_; rintro e w' ⟨rfl, rfl⟩)
        go_ret2
        cases hp.out
        exact ⟨rfl, rfl⟩
      · have hd3 : digitZ (s[k].toNat : Int) < base := by omega
        have hall' : Hid (digitsB base (s.data.toList.take (k + 1)) = true) := by
          show digitsB base (s.data.toList.take (k + 1)) = true
          rw [take_snoc s k hlt]
          unfold digitsB
          have h1 : (s.data.toList.take k).all (fun c => decide (digitZ (c.toNat : Int) < base)) = true := hall.out
          rw [List.all_append, h1]
          simpa using hd3
        generalize foldP base (s.data.toList.take k) = st at *
        obtain ⟨m, v⟩ := st
        have e1 : Hid ((foldP base (s.data.toList.take (k + 1))).1 = (IntKind.u64.wrap (IntKind.u64.wrap (m * base) + digitZ (s[k].toNat : Int)))) := by
          show _ = _
          rw [HS.out]; rfl
        have e2 : Hid ((foldP base (s.data.toList.take (k + 1))).2 = (v || decide ((9223372036854775808 - digitZ (s[k].toNat : Int)) / base < m))) := by
          show _ = _
          rw [HS.out]; rfl
        cases v
        all_goals
          go_wp2_with (go_at_call 213; refine (digit_is _ _ hc0 hc1).mono ?_; rintro e w' ⟨rfl, rfl⟩)
          go_round
          case rel => exact ⟨k + 1, by omega, by go_num, by rw [e1.out], by rw [e2.out]; simp, hall'⟩
          case measure => simp [intOf]; omega
    · have hfull : s.data.toList.take k = s.data.toList := List.take_of_length_le (by simp; omega)
      have hall2 : digitsB base s.data.toList = true := by rw [← hfull]; exact hall.out
      rw [hfull] at hm0 hm1 ⊢
      rw [hall2, if_neg (by simp)] at HP
      clear hfull hall2 hall
      generalize foldP base s.data.toList = st at *
      obtain ⟨m, v⟩ := st
      cases v
      · have hp : Hid ((rn, rq) = (wrap64 m, 0)) := HP.out
        go_wp2
        go_ret2
        cases hp.out
        exact ⟨rfl, rfl⟩
      · have hp : Hid ((rn, rq) = (0, 11)) := HP.out
        go_wp2
        go_ret2
        cases hp.out
        exact ⟨rfl, rfl⟩
end Go.Proofs.YtkplokfcjjcpcaaGreatDoor
end
section
namespace Go.Proofs.YtkplokfcjjcpcaaGreatDoor
open Go Go.RowKit
structure Tk where
  k : Int
  n : Int
  s : List UInt8
def Tk.agg (t : Tk) : Value := .agg #[.int .i64 t.k, .int .i64 0, .int .i64 t.n, .string ⟨t.s.toArray⟩, .bool false, .bool false]
def runB (p : Int → Bool) (l : List UInt8) : Nat := (l.takeWhile fun b => p (b.toNat : Int)).length
def letterZ (c : Int) : Bool := wordS (sortZ c)
def signZ (c : Int) : Bool := signS (sortZ c)
theorem runB_nil (p : Int → Bool) : runB p [] = 0 := rfl
theorem runB_yes {p : Int → Bool} {c : UInt8} {t : List UInt8} (h : p (c.toNat : Int) = true) : runB p (c :: t) = runB p t + 1 := by simp [runB, h]
theorem runB_no {p : Int → Bool} {c : UInt8} {t : List UInt8} (h : p (c.toNat : Int) = false) : runB p (c :: t) = 0 := by simp [runB, h]
theorem runB_le (p : Int → Bool) (l : List UInt8) : runB p l ≤ l.length := by
  unfold runB
  exact (List.takeWhile_prefix _).length_le
def stopT : List UInt8 → Option (Tk × Nat)
  | [] => none
  | c :: t => if ((c.toNat : Int) == 46) = true then (match t with
    | [] => some (⟨7, 0, []⟩, 1)
    | d :: _ => if ((d.toNat : Int) == 37) = true then some (⟨7, 0, []⟩, 1) else if (sortZ (d.toNat : Int) == 1) = true then some (⟨7, 0, []⟩, 1) else none) else none
def lettersT (sort kind : Int) : List UInt8 → Option (Tk × Nat)
  | [] => none
  | c :: t => if (sortZ (c.toNat : Int) == sort) = true then (if runB letterZ (c :: t) = 0 then none else some (⟨kind, 0, (c :: t).take (runB letterZ (c :: t))⟩, runB letterZ (c :: t))) else none
def signsT (l : List UInt8) : Option (Tk × Nat) :=
  if Lib.hasPrefix l [47, 42] = true then none else if runB signZ l = 0 then none else some (⟨1, 0, l.take (runB signZ l)⟩, runB signZ l)
def aloneT (sort kind : Int) : List UInt8 → Option (Tk × Nat)
  | [] => none
  | c :: _ => if (sortZ (c.toNat : Int) == sort) = true then some (⟨kind, 0, [c]⟩, 1) else none
def digZ (base c : Int) : Bool := (parseR base [UInt8.ofNat c.toNat]).2 == 0
def digitsT (from' : Nat) (base : Int) (l : List UInt8) : Option (Tk × Nat) :=
  if ((parseR base ((l.drop from').take (runB (digZ base) (l.drop from')))).2 == 0) = true then (if from' + runB (digZ base) (l.drop from') = 0 then none else some (⟨3, (parseR base ((l.drop from').take (runB (digZ base) (l.drop from')))).1, []⟩, from' + runB (digZ base) (l.drop from'))) else none
def charZ (s : List UInt8) : Nat := if Lib.hasPrefix s [39] = true then 2 else if Lib.hasPrefix s [92] = true then 2 else 1
def charT (l : List UInt8) : Option (Tk × Nat) :=
  if (l.drop 2).length < charZ (l.drop 2) then none else match getL 39 ((l.drop 2).take (charZ (l.drop 2)) ++ [39]) with
    | some ([c], _) => some (⟨3, (c.toNat : Int), []⟩, 2 + charZ (l.drop 2))
    | _ => none
def numberT (l : List UInt8) : Option (Tk × Nat) :=
  if Lib.hasPrefix l [48, 120] = true then digitsT 2 16 l else if Lib.hasPrefix l [48, 111] = true then digitsT 2 8 l else if Lib.hasPrefix l [48, 98] = true then digitsT 2 2 l else if Lib.hasPrefix l [48, 39] = true then charT l else digitsT 0 10 l
def withinT (quote kind : Int) : List UInt8 → Option (Tk × Nat)
  | [] => none
  | c :: t => if ((c.toNat : Int) == quote) = true then (match getL quote t with
    | some (b, n) => some (⟨kind, 0, b⟩, 1 + n)
    | none => none) else none
def tokT (l : List UInt8) : Option (Tk × Nat) :=
  (stopT l).or <| (lettersT 2 1 l).or <| (signsT l).or <| (aloneT 6 1 l).or <| (lettersT 3 4 l).or <| (numberT l).or <| (withinT 39 2 l).or <| (withinT 34 5 l).or (aloneT 7 6 l)
def gapN : List UInt8 → Nat
  | [] => 0
  | c :: t => if (sortZ (c.toNat : Int) == 1) = true then 1 else if ((c.toNat : Int) == 37) = true then (Lib.cut (c :: t) [10]).1.length
    else if Lib.hasPrefix (c :: t) [47, 42] = true then (if (Lib.cut (t.drop 1) [42, 47]).2.2 = true then 2 + (Lib.cut (t.drop 1) [42, 47]).1.length + 2 else 0) else 0
def nlC (l : List UInt8) : Nat := Lib.countByte l 10
theorem nlC_app (a b : List UInt8) : nlC (a ++ b) = nlC a + nlC b := by simp [nlC, Lib.countByte]
def skipF : Nat → List UInt8 → Nat
  | 0, _ => 0
  | f + 1, l => if gapN l = 0 then 0 else gapN l + skipF f (l.drop (gapN l))
def skipN (l : List UInt8) : Nat := skipF (l.length + 1) l
structure Tok where
  k : Int
  line : Int
  n : Int
  s : List UInt8
  open' : Bool
  tight : Bool
def Tok.cells (t : Tok) : List Value := [.int .i64 t.k, .int .i64 t.line, .int .i64 t.n, .string ⟨t.s.toArray⟩, .bool t.open', .bool t.tight]
def tokCells (l : List Tok) : List Value := l.flatMap Tok.cells
structure LexR where
  toks : List Tok
  line : Int
  e : Int
def LexR.cons (t : Tok) (r : LexR) : LexR := ⟨t :: r.toks, r.line, r.e⟩
def lexF : Nat → List UInt8 → Int → Nat → LexR
  | 0, _, _, _ => ⟨[], 0, 0⟩
  | f + 1, l, n, k =>
    let m := n + nlC (l.take (skipN l))
    let r := l.drop (skipN l)
    if r = [] then ⟨[⟨0, m, 0, [], false, false⟩], 0, 0⟩ else match tokT r with
      | none => ⟨[], m, 5⟩
      | some (t, z) => if k = 16384 then ⟨[], m, 3⟩ else
        (lexF f (r.drop z) (m + nlC (r.take z)) (k + 1)).cons ⟨t.k, m, t.n, t.s, Lib.hasPrefix (r.drop z) [40], decide (skipN l = 0) && decide (0 < k)⟩
end Go.Proofs.YtkplokfcjjcpcaaGreatDoor
end
section
namespace Go.Proofs.YtkplokfcjjcpcaaGreatDoor
open Go Go.RowKit Go.Maps
def PL (w : World) (p : Nat) (s : ByteArray) (n : Int) : Prop := w.heap[p]? = some (.cells #[.string s, .int .i64 n] 93 (0, 0))
theorem PL.on {w w' : World} {p : Nat} {s : ByteArray} {n : Int} (h : PL w p s n) (hb : Below w.heap.size w w') : PL w' p s n := (hb.block p (heap_lt h)).trans h
theorem PL.cells {w : World} {p : Nat} {s : ByteArray} {n : Int} (h : PL w p s n) : w.cell? ⟨p, 0, none⟩ = some (.string s) ∧ w.cell? ⟨p, 1, none⟩ = some (.int .i64 n) ∧ w.frozen? ⟨p, 0, none⟩ = false ∧ w.frozen? ⟨p, 1, none⟩ = false :=
  ⟨by rw [cell_of_row w p 0 _ _ _ h]; rfl, by rw [cell_of_row w p 1 _ _ _ h]; rfl, frozen_of_row w p 0 _ _ h, frozen_of_row w p 1 _ _ h⟩
set_option maxHeartbeats 400000 in
theorem letter_is (c : Int) (w : World) (h0 : 0 ≤ c) (h1 : c ≤ 255) :
    Calls Tryz.prog 172 #[.int .u8 c] w fun e w' => e = .returned (.bool (letterZ c)) ∧ w' = w := by
  have S := Lib.hid (fun w => sort_is c w h0 h1)
  unfold letterZ wordS
  rcases sort_val c with h | h | h | h | h | h | h | h | h
  all_goals
    rw [h] at S ⊢
    go_enter Tryz.func172, Tryz.ntmps172
    go_wp2_with (go_at_call 74; refine (S.out _).mono ?_; rintro e w' ⟨rfl, rfl⟩)
    go_ret
    exact ⟨rfl, rfl⟩
set_option maxHeartbeats 400000 in
theorem sign_is (c : Int) (w : World) (h0 : 0 ≤ c) (h1 : c ≤ 255) :
    Calls Tryz.prog 132 #[.int .u8 c] w fun e w' => e = .returned (.bool (signZ c)) ∧ w' = w := by
  have S := Lib.hid (fun w => sort_is c w h0 h1)
  unfold signZ signS
  rcases sort_val c with h | h | h | h | h | h | h | h | h
  all_goals
    rw [h] at S ⊢
    go_enter Tryz.func132, Tryz.ntmps132
    go_wp2_with (go_at_call 74; refine (S.out _).mono ?_; rintro e w' ⟨rfl, rfl⟩)
    go_ret
    exact ⟨rfl, rfl⟩
theorem drop_at (s : ByteArray) (k : Nat) (h : k < s.size) : s.data.toList.drop k = s[k] :: s.data.toList.drop (k + 1) := by
  rw [List.drop_eq_getElem_cons (by simpa using h)]
  rfl
set_option maxHeartbeats 800000 in
theorem run_is (K : Nat) (hK : K = 172 ∨ K = 132) (P : Int → Bool) (hP : ∀ (c : Int) (w : World), 0 ≤ c → c ≤ 255 → Calls Tryz.prog K #[.int .u8 c] w fun e w' => e = .returned (.bool (P c)) ∧ w' = w)
    (p : Nat) (s : ByteArray) (n : Int) (w : World) (h : PL w p s n) (hs : s.size ≤ 5000) :
    Calls Tryz.prog 131 #[.pointer (some ⟨p, 0, none⟩), .func (.func K) #[] #[]] w fun e w' => e = .returned (.int .i64 (runB P s.data.toList)) ∧ w' = w := by
  obtain ⟨c0, _, _, _⟩ := h.cells
  have HP := Lib.hid hP
  obtain ⟨r, hr⟩ : ∃ r, runB P s.data.toList = r := ⟨_, rfl⟩
  rw [hr]
  have HR := Lib.hid hr
  have hrl : r ≤ s.size := by rw [← hr]; exact Nat.le_trans (runB_le _ _) (by simp)
  clear hP hr h
  rcases hK with rfl | rfl
  all_goals
    go_enter Tryz.func131, Tryz.ntmps131
    go_wp2
    go_loop [5] (fun v => ∃ k : Nat, v = .int .i64 k ∧ k ≤ r ∧ Hid (r = k + runB P (s.data.toList.drop k))) (fun v => r - (intOf v).toNat)
    case atStart => exact ⟨0, rfl, Nat.zero_le _, by show r = _; rw [← HR.out]; simp⟩
    case round =>
      obtain ⟨k, rfl, hk, HK2⟩ := hrel
      by_cases hlt : k < s.size
      · obtain ⟨y, hy⟩ : ∃ y, s[k] = y := ⟨_, rfl⟩
        have hd := drop_at s k hlt
        rw [hy] at hd
        have C := Lib.hid (fun w => HP.out (y.toNat : Int) w (by omega) (by have := y.toNat_lt; omega))
        cases hb : P (y.toNat : Int)
        · have hre : r = k := by
            have := HK2.out
            rw [hd, runB_no hb] at this
            omega
          subst hre
          rw [hb] at C
          clear hd hb HK2
          go_wp2_with (first | (go_at_call 172; refine (C.out _).mono ?_; rintro e w' ⟨rfl, rfl⟩) | (go_at_call 132; refine (C.out _).mono ?_; rintro e w' ⟨rfl, rfl⟩))
          go_ret
          exact ⟨rfl, rfl⟩
        · have hre : r = k + 1 + runB P (s.data.toList.drop (k + 1)) := by
            have := HK2.out
            rw [hd, runB_yes hb] at this
            omega
          have HRE := Lib.hid hre
          have hk1 : k + 1 ≤ r := by omega
          rw [hb] at C
          clear hd hb HK2 hre
          go_wp2_with (first | (go_at_call 172; refine (C.out _).mono ?_; rintro e w' ⟨rfl, rfl⟩) | (go_at_call 132; refine (C.out _).mono ?_; rintro e w' ⟨rfl, rfl⟩))
          go_round
          case rel => exact ⟨k + 1, by go_num, hk1, HRE.out⟩
          case measure => simp [intOf]; omega
      · have hre : r = k := by
          have := HK2.out
          rw [List.drop_of_length_le (by simp; omega), runB_nil] at this
          omega
        subst hre
        clear HK2
        go_wp2
        go_ret
        exact ⟨rfl, rfl⟩
end Go.Proofs.YtkplokfcjjcpcaaGreatDoor
end
section
namespace Go.Proofs.YtkplokfcjjcpcaaGreatDoor
open Go Go.RowKit Go.Maps
theorem bytes_eq {s : ByteArray} {l : List UInt8} (h : s.data.toList = l) : s = ⟨l.toArray⟩ := by
  obtain ⟨⟨x⟩⟩ := s
  simp at h
  rw [h]
structure AttPost (w : World) (o : Option (Tk × Nat)) (e : Ending) (w' : World) : Prop where
  ex : ∃ (t : Tk) (n : Nat), e = .returned (.tuple #[.agg #[.int .i64 t.k, .int .i64 0, .int .i64 t.n, .string ⟨t.s.toArray⟩, .bool false, .bool false], .int .i64 n]) ∧ ((o = none ∧ n = 0) ∨ (o = some (t, n) ∧ 0 < n))
  below : Below w.heap.size w w'
abbrev zero6 : Array Value := #[.int .i64 0, .int .i64 0, .int .i64 0, .string ⟨#[]⟩, .bool false, .bool false]
theorem heap_set {w : World} {b o : Nat} {c : Array Value} {T : TypeId} {fr : Nat × Nat} (h : w.heap[b]? = some (.cells c T fr)) (v : Value) : (w.setCell ⟨b, o, none⟩ v).heap[b]? = some (.cells (c.setIfInBounds o v) T fr) := by
  simp [World.setCell, Array.getElem?_modify, h]
theorem cell_of_heap {w : World} {b o : Nat} {c : Array Value} {T : TypeId} {fr : Nat × Nat} {v : Value} (h : w.heap[b]? = some (.cells c T fr)) (hc : c[o]? = some v) : w.cell? ⟨b, o, none⟩ = some v := by
  simp [World.cell?, h, hc]
theorem free_of_heap {w : World} {b o : Nat} {c : Array Value} {T : TypeId} (h : w.heap[b]? = some (.cells c T (0, 0))) : w.frozen? ⟨b, o, none⟩ = false := by
  simp [World.frozen?, h]
theorem heap_set_ne {w : World} {b k o : Nat} (hk : k ≠ b) (v : Value) : (w.setCell ⟨b, o, none⟩ v).heap[k]? = w.heap[k]? := Below.heap_setCell _ _ _ _ hk
theorem new_at (w : World) (o : Obj) {H : Nat} (h : w.heap.size = H) : (w.alloc o).heap[H]? = some o := by
  subst h
  exact heap_alloc_new w o
theorem six_cells {w : World} {b : Nat} {x0 x1 x2 x3 x4 x5 : Value} {T : TypeId} (h : w.heap[b]? = some (.cells #[x0, x1, x2, x3, x4, x5] T (0, 0))) (y0 y1 y2 y3 y4 y5 : Value) :
    (w.setCell ⟨b, 0, none⟩ y0).cell? ⟨b, 0, none⟩ = some y0 ∧ ((w.setCell ⟨b, 0, none⟩ y0).setCell ⟨b, 1, none⟩ y1).cell? ⟨b, 1, none⟩ = some y1 ∧ (((w.setCell ⟨b, 0, none⟩ y0).setCell ⟨b, 1, none⟩ y1).setCell ⟨b, 2, none⟩ y2).cell? ⟨b, 2, none⟩ = some y2 ∧
      ((((w.setCell ⟨b, 0, none⟩ y0).setCell ⟨b, 1, none⟩ y1).setCell ⟨b, 2, none⟩ y2).setCell ⟨b, 3, none⟩ y3).cell? ⟨b, 3, none⟩ = some y3 ∧ (((((w.setCell ⟨b, 0, none⟩ y0).setCell ⟨b, 1, none⟩ y1).setCell ⟨b, 2, none⟩ y2).setCell ⟨b, 3, none⟩ y3).setCell ⟨b, 4, none⟩ y4).cell? ⟨b, 4, none⟩ = some y4 ∧
      ((((((w.setCell ⟨b, 0, none⟩ y0).setCell ⟨b, 1, none⟩ y1).setCell ⟨b, 2, none⟩ y2).setCell ⟨b, 3, none⟩ y3).setCell ⟨b, 4, none⟩ y4).setCell ⟨b, 5, none⟩ y5).cell? ⟨b, 5, none⟩ = some y5 := by
  have h0 : _ = some (Obj.cells #[y0, x1, x2, x3, x4, x5] T (0, 0)) := heap_set (o := 0) h y0
  have h1 : _ = some (Obj.cells #[y0, y1, x2, x3, x4, x5] T (0, 0)) := heap_set (o := 1) h0 y1
  have h2 : _ = some (Obj.cells #[y0, y1, y2, x3, x4, x5] T (0, 0)) := heap_set (o := 2) h1 y2
  have h3 : _ = some (Obj.cells #[y0, y1, y2, y3, x4, x5] T (0, 0)) := heap_set (o := 3) h2 y3
  have h4 : _ = some (Obj.cells #[y0, y1, y2, y3, y4, x5] T (0, 0)) := heap_set (o := 4) h3 y4
  have h5 : _ = some (Obj.cells #[y0, y1, y2, y3, y4, y5] T (0, 0)) := heap_set (o := 5) h4 y5
  exact ⟨cell_of_heap h0 rfl, cell_of_heap h1 rfl, cell_of_heap h2 rfl, cell_of_heap h3 rfl, cell_of_heap h4 rfl, cell_of_heap h5 rfl⟩
structure Six (w : World) (b : Nat) : Prop where
  h : w.heap[b]? = some (.cells zero6 48 (0, 0))
theorem Six.on {w w' : World} {b : Nat} (h : Six w b) (hb : Below w.heap.size w w') : Six w' b := ⟨(hb.block b (heap_lt h.h)).trans h.h⟩
theorem Six.facts {w : World} {b : Nat} (h : Six w b) : w.cell? ⟨b, 0, none⟩ = some (.int .i64 0) ∧ w.cell? ⟨b, 1, none⟩ = some (.int .i64 0) ∧ w.cell? ⟨b, 2, none⟩ = some (.int .i64 0) ∧ w.cell? ⟨b, 3, none⟩ = some (.string ⟨#[]⟩) ∧ w.cell? ⟨b, 4, none⟩ = some (.bool false) ∧ w.cell? ⟨b, 5, none⟩ = some (.bool false) ∧
    w.frozen? ⟨b, 0, none⟩ = false ∧ w.frozen? ⟨b, 1, none⟩ = false ∧ w.frozen? ⟨b, 2, none⟩ = false ∧ w.frozen? ⟨b, 3, none⟩ = false ∧ w.frozen? ⟨b, 4, none⟩ = false ∧ w.frozen? ⟨b, 5, none⟩ = false :=
  ⟨cell_of_heap h.h rfl, cell_of_heap h.h rfl, cell_of_heap h.h rfl, cell_of_heap h.h rfl, cell_of_heap h.h rfl, cell_of_heap h.h rfl, free_of_heap h.h, free_of_heap h.h, free_of_heap h.h, free_of_heap h.h, free_of_heap h.h, free_of_heap h.h⟩
theorem below6 {w w' : World} {H : Nat} (h : Below H w w') (y0 y1 y2 y3 y4 y5 : Value) : Below H w ((((((w'.setCell ⟨H, 0, none⟩ y0).setCell ⟨H, 1, none⟩ y1).setCell ⟨H, 2, none⟩ y2).setCell ⟨H, 3, none⟩ y3).setCell ⟨H, 4, none⟩ y4).setCell ⟨H, 5, none⟩ y5) := by
  have hB : H ≤ H := Nat.le_refl _
  have a0 := h.setCell (p := ⟨H, 0, none⟩) hB y0
  have a1 := a0.setCell (p := ⟨H, 1, none⟩) hB y1
  have a2 := a1.setCell (p := ⟨H, 2, none⟩) hB y2
  have a3 := a2.setCell (p := ⟨H, 3, none⟩) hB y3
  have a4 := a3.setCell (p := ⟨H, 4, none⟩) hB y4
  exact a4.setCell (p := ⟨H, 5, none⟩) hB y5
set_option maxRecDepth 100000 in
set_option maxHeartbeats 800000 in
theorem text_is (p : Nat) (s : ByteArray) (n : Int) (kind : Int) (z : Nat) (w : World) (h : PL w p s n) (hs : s.size ≤ 5000) (hz : z ≤ s.size) :
    Calls Tryz.prog 130 #[.pointer (some ⟨p, 0, none⟩), .int .i64 kind, .int .i64 z] w fun e w' => e = .returned (.tuple #[.agg #[.int .i64 kind, .int .i64 0, .int .i64 0, .string ⟨(s.data.toList.take z).toArray⟩, .bool false, .bool false], .int .i64 z]) ∧ Below w.heap.size w w' := by
  have hb0 : Below w.heap.size w (w.alloc (.cells zero6 48)) := (Below.refl _ _).alloc (Nat.le_refl _) _
  have h1 := h.on hb0
  obtain ⟨c0, _, _, _⟩ := h1.cells
  have six : Six (w.alloc (.cells zero6 48)) w.heap.size := ⟨new_at _ _ rfl⟩
  have he : s.extract 0 z = ⟨(s.data.toList.take z).toArray⟩ := bytes_eq (by rw [Lib.extract_data]; simp)
  have hsz : (s.extract 0 z).size ≤ 20000 := by
    have : (s.extract 0 z).size = (s.extract 0 z).data.toList.length := (Lib.size_eq _).symm
    rw [this, Lib.extract_data, List.length_take]
    simp
    omega
  have C := Lib.hid (fun w => clone_is (s.extract 0 z) hsz w)
  have HE := Lib.hid he
  have HB0 := Lib.hid hb0
  have SIX := Lib.hid six
  clear h h1 he hb0 six hsz
  unfold zero6 at *
  go_enter Tryz.func130, Tryz.ntmps130
  go_wp2_with fail
  refine (C.out _).mono ?_
  rintro e w5 ⟨rfl, hb5⟩
  have S5 := SIX.out.on hb5
  obtain ⟨d0, d1, d2, d3, d4, d5, z0, z1, z2, z3, z4, z5⟩ := S5.facts
  have HS5 := Lib.hid S5
  have HB : Hid (Below w.heap.size w w5) := HB0.out.trans (hb5.mono HB0.out.size)
  clear hb5 S5 C SIX HB0
  go_wp2
  obtain ⟨q0, q1, q2, q3, q4, q5⟩ := six_cells HS5.out.h (.int .i64 kind) (.int .i64 0) (.int .i64 0) (.string (s.extract 0 z)) (.bool false) (.bool false)
  refine bodyPost_ret (v := .tuple #[.agg #[.int .i64 kind, .int .i64 0, .int .i64 0, .string (s.extract 0 z), .bool false, .bool false], .int .i64 z]) (by simp [results, Tryz.results130, go_sem, q0, q1, q2, q3, q4, q5]) rfl ?_
  exact ⟨by rw [HE.out], below6 HB.out _ _ _ _ _ _⟩
end Go.Proofs.YtkplokfcjjcpcaaGreatDoor
end
section
namespace Go.Proofs.YtkplokfcjjcpcaaGreatDoor
open Go Go.RowKit Go.Maps
abbrev retNo : Ending := .returned (.tuple #[.agg #[.int .i64 0, .int .i64 0, .int .i64 0, .string ⟨#[]⟩, .bool false, .bool false], .int .i64 0])
theorem AttPost.no {w w' : World} {o : Option (Tk × Nat)} (ho : o = none) (h : Below w.heap.size w w') : AttPost w o retNo w' := ⟨⟨⟨0, 0, []⟩, 0, rfl, .inl ⟨ho, rfl⟩⟩, h⟩
theorem AttPost.text {w w' : World} {o : Option (Tk × Nat)} {k : Int} {s : List UInt8} {z : Nat} (ho : o = some (⟨k, 0, s⟩, z)) (hz : 0 < z) (h : Below w.heap.size w w') :
    AttPost w o (.returned (.tuple #[.agg #[.int .i64 k, .int .i64 0, .int .i64 0, .string ⟨s.toArray⟩, .bool false, .bool false], .int .i64 z])) w' := ⟨⟨⟨k, 0, s⟩, z, rfl, .inr ⟨ho, hz⟩⟩, h⟩
theorem AttPost.num {w w' : World} {o : Option (Tk × Nat)} {k n : Int} {z : Nat} (ho : o = some (⟨k, n, []⟩, z)) (hz : 0 < z) (h : Below w.heap.size w w') :
    AttPost w o (.returned (.tuple #[.agg #[.int .i64 k, .int .i64 0, .int .i64 n, .string ⟨#[]⟩, .bool false, .bool false], .int .i64 z])) w' := ⟨⟨⟨k, n, []⟩, z, rfl, .inr ⟨ho, hz⟩⟩, h⟩
theorem cons_of {s : ByteArray} (hp : 0 < s.size) : ∃ c t, s.data.toList = c :: t := by
  have hz := Lib.size_eq s
  rcases hq : s.data.toList with _ | ⟨c, t⟩
  · rw [hq] at hz
    have : s.size = 0 := hz
    omega
  · exact ⟨c, t, rfl⟩
set_option maxRecDepth 100000 in
set_option maxHeartbeats 800000 in
theorem alone_is (p : Nat) (s : ByteArray) (n : Int) (sort kind : Int) (w : World) (h : PL w p s n) (hs : s.size ≤ 5000) (hp : 0 < s.size) :
    Calls Tryz.prog 133 #[.pointer (some ⟨p, 0, none⟩), .int .i64 sort, .int .i64 kind] w (AttPost w (aloneT sort kind s.data.toList)) := by
  obtain ⟨c, t, hl⟩ := cons_of hp
  have hb0 : Below w.heap.size w (w.alloc (.cells zero6 48)) := (Below.refl _ _).alloc (Nat.le_refl _) _
  obtain ⟨c0, _, _, _⟩ := (h.on hb0).cells
  have hc := at_0 hl hp
  have six : Six (w.alloc (.cells zero6 48)) w.heap.size := ⟨new_at _ _ rfl⟩
  obtain ⟨d0, d1, d2, d3, d4, d5, _⟩ := six.facts
  have SIX := Lib.hid six
  have HB0 := Lib.hid hb0
  have T := Lib.hid (text_is p s n kind 1 _ (h.on hb0) hs (by omega))
  have S := Lib.hid (fun w => sort_is (c.toNat : Int) w (by omega) (by have := c.toNat_lt; omega))
  obtain ⟨z, hz⟩ : ∃ z, sortZ (c.toNat : Int) = z := ⟨_, rfl⟩
  rw [hz] at S
  have HL := Lib.hid hl
  have HZ := Lib.hid hz
  clear h hl hz hb0 six
  unfold zero6 at *
  cases hq : (z == sort)
  · have hq2 : (z != sort) = true := by simp [bne, hq]
    have HO := Lib.hid (show aloneT sort kind s.data.toList = none by rw [HL.out]; simp [aloneT, HZ.out]; simpa using hq)
    clear hq
    go_enter Tryz.func133, Tryz.ntmps133
    go_wp2_with (go_at_call 74; refine (S.out _).mono ?_; rintro e w' ⟨rfl, rfl⟩)
    refine bodyPost_ret (v := .tuple #[.agg #[.int .i64 0, .int .i64 0, .int .i64 0, .string ⟨#[]⟩, .bool false, .bool false], .int .i64 0]) (by simp [results, Tryz.results133, go_sem, d0, d1, d2, d3, d4, d5]) rfl ?_
    exact .no HO.out HB0.out
  · have hq2 : (z != sort) = false := by simp [bne, hq]
    have HO := Lib.hid (show aloneT sort kind s.data.toList = some (⟨kind, 0, s.data.toList.take 1⟩, 1) by rw [HL.out]; simp [aloneT, HZ.out]; simpa using hq)
    clear hq
    go_enter Tryz.func133, Tryz.ntmps133
    go_wp2_with (go_at_call 74; refine (S.out _).mono ?_; rintro e w' ⟨rfl, rfl⟩)
    refine T.out.mono ?_
    rintro e w5 ⟨rfl, b1⟩
    have S5 := SIX.out.on b1
    obtain ⟨d0, d1, d2, d3, d4, d5, z0, z1, z2, z3, z4, z5⟩ := S5.facts
    have HS5 := Lib.hid S5
    have HB := Lib.hid (HB0.out.trans (b1.mono HB0.out.size))
    clear b1 S5 SIX HB0 T
    go_wp2
    obtain ⟨q0, q1, q2, q3, q4, q5⟩ := six_cells HS5.out.h (.int .i64 kind) (.int .i64 0) (.int .i64 0) (.string ⟨(s.data.toList.take 1).toArray⟩) (.bool false) (.bool false)
    refine bodyPost_ret (v := .tuple #[.agg #[.int .i64 kind, .int .i64 0, .int .i64 0, .string ⟨(s.data.toList.take 1).toArray⟩, .bool false, .bool false], .int .i64 1]) (by simp [results, Tryz.results133, go_sem, q0, q1, q2, q3, q4, q5]) rfl ?_
    exact .text (z := 1) HO.out Nat.one_pos (below6 HB.out _ _ _ _ _ _)
set_option maxRecDepth 100000 in
set_option maxHeartbeats 800000 in
theorem letters_is (p : Nat) (s : ByteArray) (n : Int) (sort kind : Int) (w : World) (h : PL w p s n) (hs : s.size ≤ 5000) (hp : 0 < s.size) (hw : wordS sort = true) :
    Calls Tryz.prog 129 #[.pointer (some ⟨p, 0, none⟩), .int .i64 sort, .int .i64 kind] w (AttPost w (lettersT sort kind s.data.toList)) := by
  obtain ⟨c, t, hl⟩ := cons_of hp
  have hb0 : Below w.heap.size w (w.alloc (.cells zero6 48)) := (Below.refl _ _).alloc (Nat.le_refl _) _
  obtain ⟨c0, _, _, _⟩ := (h.on hb0).cells
  have hc := at_0 hl hp
  have six : Six (w.alloc (.cells zero6 48)) w.heap.size := ⟨new_at _ _ rfl⟩
  obtain ⟨d0, d1, d2, d3, d4, d5, _⟩ := six.facts
  have SIX := Lib.hid six
  have HB0 := Lib.hid hb0
  obtain ⟨r, hr⟩ : ∃ r, runB letterZ s.data.toList = r := ⟨_, rfl⟩
  have hrs : r ≤ s.size := by rw [Lib.size_eq, ← hr]; exact runB_le _ _
  have T := Lib.hid (text_is p s n kind r _ (h.on hb0) hs hrs)
  have R := run_is 172 (.inl rfl) letterZ letter_is p s n _ (h.on hb0) hs
  rw [hr] at R
  have R' := Lib.hid R
  have S := Lib.hid (fun w => sort_is (c.toNat : Int) w (by omega) (by have := c.toNat_lt; omega))
  obtain ⟨z, hz⟩ : ∃ z, sortZ (c.toNat : Int) = z := ⟨_, rfl⟩
  rw [hz] at S
  have HL := Lib.hid hl
  have HZ := Lib.hid hz
  have HR := Lib.hid hr
  have HW := Lib.hid hw
  clear h hl hz hb0 six R hr hw
  unfold zero6 at *
  cases hq : (z == sort)
  · have hq2 : (z != sort) = true := by simp [bne, hq]
    have HO := Lib.hid (show lettersT sort kind s.data.toList = none by rw [HL.out]; simp [lettersT, HZ.out]; intro h; simp [h] at hq)
    clear hq
    go_enter Tryz.func129, Tryz.ntmps129
    go_wp2_with (go_at_call 74; refine (S.out _).mono ?_; rintro e w' ⟨rfl, rfl⟩)
    refine bodyPost_ret (v := .tuple #[.agg #[.int .i64 0, .int .i64 0, .int .i64 0, .string ⟨#[]⟩, .bool false, .bool false], .int .i64 0]) (by simp [results, Tryz.results129, go_sem, d0, d1, d2, d3, d4, d5]) rfl ?_
    exact .no HO.out HB0.out
  · have hq2 : (z != sort) = false := by simp [bne, hq]
    have HP : Hid (0 < r) := Lib.hid (by
      rw [← HR.out, HL.out, runB_yes]
      · omega
      · have : z = sort := by simpa using hq
        rw [letterZ, HZ.out, this]
        exact HW.out)
    have HO := Lib.hid (show lettersT sort kind s.data.toList = some (⟨kind, 0, s.data.toList.take r⟩, r) by
      have h0 := HP.out
      rw [HL.out, lettersT, HZ.out, if_pos hq, ← HL.out, HR.out, if_neg (by omega)])
    clear hq
    go_enter Tryz.func129, Tryz.ntmps129
    go_wp2_with (go_at_call 74; refine (S.out _).mono ?_; rintro e w' ⟨rfl, rfl⟩)
    refine R'.out.mono ?_
    rintro e w' ⟨rfl, rfl⟩
    go_wp2_with fail
    refine T.out.mono ?_
    rintro e w5 ⟨rfl, b1⟩
    have S5 := SIX.out.on b1
    obtain ⟨d0, d1, d2, d3, d4, d5, z0, z1, z2, z3, z4, z5⟩ := S5.facts
    have HS5 := Lib.hid S5
    have HB := Lib.hid (HB0.out.trans (b1.mono HB0.out.size))
    clear b1 S5 SIX HB0 T
    go_wp2
    obtain ⟨q0, q1, q2, q3, q4, q5⟩ := six_cells HS5.out.h (.int .i64 kind) (.int .i64 0) (.int .i64 0) (.string ⟨(s.data.toList.take r).toArray⟩) (.bool false) (.bool false)
    refine bodyPost_ret (v := .tuple #[.agg #[.int .i64 kind, .int .i64 0, .int .i64 0, .string ⟨(s.data.toList.take r).toArray⟩, .bool false, .bool false], .int .i64 r]) (by simp [results, Tryz.results129, go_sem, q0, q1, q2, q3, q4, q5]) rfl ?_
    exact .text HO.out HP.out (below6 HB.out _ _ _ _ _ _)
set_option maxRecDepth 100000 in
set_option maxHeartbeats 800000 in
theorem signs_is (p : Nat) (s : ByteArray) (n : Int) (w : World) (h : PL w p s n) (hs : s.size ≤ 5000) :
    Calls Tryz.prog 81 #[.pointer (some ⟨p, 0, none⟩)] w (AttPost w (signsT s.data.toList)) := by
  have hb0 : Below w.heap.size w (w.alloc (.cells zero6 48)) := (Below.refl _ _).alloc (Nat.le_refl _) _
  obtain ⟨c0, _, _, _⟩ := (h.on hb0).cells
  have six : Six (w.alloc (.cells zero6 48)) w.heap.size := ⟨new_at _ _ rfl⟩
  obtain ⟨d0, d1, d2, d3, d4, d5, _⟩ := six.facts
  have SIX := Lib.hid six
  have HB0 := Lib.hid hb0
  obtain ⟨r, hr⟩ : ∃ r, runB signZ s.data.toList = r := ⟨_, rfl⟩
  have hrs : r ≤ s.size := by rw [Lib.size_eq, ← hr]; exact runB_le _ _
  have T := Lib.hid (text_is p s n 1 r _ (h.on hb0) hs hrs)
  have R := run_is 132 (.inr rfl) signZ sign_is p s n _ (h.on hb0) hs
  rw [hr] at R
  have R' := Lib.hid R
  have P := Lib.hid (fun w => Tryz.strings_HasPrefix s ⟨#[47, 42]⟩ w)
  obtain ⟨b, hb⟩ : ∃ b, Lib.hasPrefix s.data.toList (ByteArray.mk #[47, 42]).data.toList = b := ⟨_, rfl⟩
  rw [hb] at P
  have HBF := Lib.hid hb
  have HR := Lib.hid hr
  clear h hb hb0 six R hr
  unfold zero6 at *
  cases b
  · go_enter Tryz.func81, Tryz.ntmps81
    go_wp2_with (go_at_call 49; refine (P.out _).mono ?_; rintro e w' ⟨rfl, rfl⟩)
    refine R'.out.mono ?_
    rintro e w' ⟨rfl, rfl⟩
    go_wp2_with fail
    refine T.out.mono ?_
    rintro e w5 ⟨rfl, b1⟩
    have S5 := SIX.out.on b1
    obtain ⟨d0, d1, d2, d3, d4, d5, z0, z1, z2, z3, z4, z5⟩ := S5.facts
    have HS5 := Lib.hid S5
    have HB := Lib.hid (HB0.out.trans (b1.mono HB0.out.size))
    clear b1 S5 SIX HB0 T
    go_wp2
    obtain ⟨q0, q1, q2, q3, q4, q5⟩ := six_cells HS5.out.h (.int .i64 1) (.int .i64 0) (.int .i64 0) (.string ⟨(s.data.toList.take r).toArray⟩) (.bool false) (.bool false)
    refine bodyPost_ret (v := .tuple #[.agg #[.int .i64 1, .int .i64 0, .int .i64 0, .string ⟨(s.data.toList.take r).toArray⟩, .bool false, .bool false], .int .i64 r]) (by simp [results, Tryz.results81, go_sem, q0, q1, q2, q3, q4, q5]) rfl ?_
    by_cases hr0 : r = 0
    · have hz : signsT s.data.toList = none := by
        unfold signsT
        rw [if_neg (by rw [show [47, 42] = (ByteArray.mk #[47, 42]).data.toList from rfl, HBF.out]; simp), HR.out, if_pos hr0]
      exact ⟨⟨⟨1, 0, s.data.toList.take r⟩, r, rfl, .inl ⟨hz, hr0⟩⟩, below6 HB.out _ _ _ _ _ _⟩
    · refine .text (z := r) ?_ (by omega) (below6 HB.out _ _ _ _ _ _)
      unfold signsT
      rw [if_neg (by rw [show [47, 42] = (ByteArray.mk #[47, 42]).data.toList from rfl, HBF.out]; simp), HR.out, if_neg hr0]
  · have HO := Lib.hid (show signsT s.data.toList = none by unfold signsT; rw [if_pos (by rw [show [47, 42] = (ByteArray.mk #[47, 42]).data.toList from rfl, HBF.out])])
    go_enter Tryz.func81, Tryz.ntmps81
    go_wp2_with (go_at_call 49; refine (P.out _).mono ?_; rintro e w' ⟨rfl, rfl⟩)
    refine bodyPost_ret (v := .tuple #[.agg #[.int .i64 0, .int .i64 0, .int .i64 0, .string ⟨#[]⟩, .bool false, .bool false], .int .i64 0]) (by simp [results, Tryz.results81, go_sem, d0, d1, d2, d3, d4, d5]) rfl ?_
    exact .no HO.out HB0.out
end Go.Proofs.YtkplokfcjjcpcaaGreatDoor
end
