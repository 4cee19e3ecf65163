/- Joined texts: NameA NameB NameC NameD NameE NameF. Conditions: as each states. -/
import Derived.Test.YtkplokfcjjcpcaaGreatDoorRows
import Derived.WalkKit
import Derived.WalkSpells
import Derived.WalkLawsBesides
import Derived.Lib.Hide
import Derived.Lib.Strings
import Derived.Below
import Derived.Test.YtkplokfcjjcpcaaGreatDoorPk01
import Derived.Lib.ConvBytes
import Derived.Lib.ParseIntBMem
import Derived.Laws.Strings3
import Derived.Laws.Closers25
import Derived.Laws.Closers25b
import Derived.BigCall
import Derived.BigGuard
section
namespace Go.Proofs.YtkplokfcjjcpcaaGreatDoor
open Go Go.RowKit
def sortZ (c : Int) : Int :=
  if c = 9 then 1 else if c = 10 then 1 else if c = 11 then 1 else if c = 12 then 1 else if c = 13 then 1 else if c = 32 then 1 else if c = 95 then 3
  else if c = 43 then 5 else if c = 45 then 5 else if c = 42 then 5 else if c = 47 then 5 else if c = 92 then 5 else if c = 94 then 5 else if c = 60 then 5 else if c = 62 then 5
  else if c = 61 then 5 else if c = 126 then 5 else if c = 58 then 5 else if c = 46 then 5 else if c = 63 then 5 else if c = 64 then 5 else if c = 35 then 5 else if c = 38 then 5 else if c = 36 then 5
  else if c = 33 then 6 else if c = 59 then 6
  else if c = 40 then 7 else if c = 41 then 7 else if c = 91 then 7 else if c = 93 then 7 else if c = 123 then 7 else if c = 125 then 7 else if c = 44 then 7 else if c = 124 then 7 else if c = 37 then 7
  else if c = 39 then 8 else if c = 34 then 8 else if c = 96 then 8
  else if 97 ≤ c ∧ c ≤ 122 then 2 else if 65 ≤ c ∧ c ≤ 90 then 3 else if 48 ≤ c ∧ c ≤ 57 then 4 else 0
theorem ret_int {k : IntKind} {a b : Int} (h : a = b) : Ending.returned (.int k a) = .returned (.int k b) := by rw [h]
set_option maxHeartbeats 4000000 in
theorem sort_is (c : Int) (w : World) (h0 : 0 ≤ c) (h1 : c ≤ 255) :
    Calls Tryz.prog 74 #[.int .u8 c] w fun e w' => e = .returned (.int .i64 (sortZ c)) ∧ w' = w := by
  go_enter Tryz.func74, Tryz.ntmps74
  go_wp2
  all_goals
    go_ret
    refine ⟨ret_int ?_, rfl⟩
    unfold sortZ
    simp only [beq_iff_eq, beq_eq_false_iff_ne, ne_eq] at *
    first | (subst_vars; rfl) | (simp only [*, if_false]; done) | ((repeat' split) <;> first | rfl | omega)
theorem take_snoc (s : ByteArray) (k : Nat) (h : k < s.size) : s.data.toList.take (k + 1) = s.data.toList.take k ++ [s[k]] := by
  rw [List.take_succ_eq_append_getElem (by simpa using h)]; rfl
theorem byte_mem (s : ByteArray) (k : Nat) (h : k < s.size) : s[k] ∈ s.data.toList := List.getElem_mem (l := s.data.toList) (n := k) (by simpa using h)
end Go.Proofs.YtkplokfcjjcpcaaGreatDoor
end
section
namespace Go.Proofs.YtkplokfcjjcpcaaGreatDoor
open Go Go.RowKit
end Go.Proofs.YtkplokfcjjcpcaaGreatDoor
end
section
namespace Go.Proofs.YtkplokfcjjcpcaaGreatDoor
open Go Go.RowKit
theorem bt {w0 w1 w2 : World} (a : Below w0.heap.size w0 w1) (b : Below w1.heap.size w1 w2) : Below w0.heap.size w0 w2 := a.trans (b.mono a.size)
theorem sort_val (c : Int) : sortZ c = 0 ∨ sortZ c = 1 ∨ sortZ c = 2 ∨ sortZ c = 3 ∨ sortZ c = 4 ∨ sortZ c = 5 ∨ sortZ c = 6 ∨ sortZ c = 7 ∨ sortZ c = 8 := by
  obtain ⟨k, hk⟩ : ∃ k, sortZ c = k := ⟨_, rfl⟩
  rw [hk]
  unfold sortZ at hk
  (repeat' split at hk) <;> omega
theorem sort_at (c k : Int) (h : sortZ c = k) (w : World) (h0 : 0 ≤ c) (h1 : c ≤ 255) :
    Calls Tryz.prog 74 #[.int .u8 c] w fun e w' => e = .returned (.int .i64 k) ∧ w' = w := by
  subst h
  exact sort_is c w h0 h1
abbrev wordA : Value := .agg #[.bool false, .bool false, .bool true, .bool true, .bool true, .bool false, .bool false, .bool false, .bool false]
abbrev signA : Value := .agg #[.bool false, .bool false, .bool false, .bool false, .bool false, .bool true, .bool false, .bool false, .bool false]
def wordS (k : Int) : Bool := k == 2 || k == 3 || k == 4
def signS (k : Int) : Bool := k == 5
set_option maxHeartbeats 1000000 in
theorem have_word (c : Int) (w : World) (h0 : 0 ≤ c) (h1 : c ≤ 255) :
    Calls Tryz.prog 76 #[wordA, .int .u8 c] w fun e w' => e = .returned (.bool (wordS (sortZ c))) ∧ Below w.heap.size w w' := by
  rcases sort_val c with h | h | h | h | h | h | h | h | h
  all_goals
    have C := Lib.hid (fun w => sort_at c _ h w h0 h1)
    rw [h]
    clear h
    go_enter Tryz.func76, Tryz.ntmps76
    go_wp2_with fail
    refine (C.out _).mono ?_
    rintro e w' ⟨rfl, rfl⟩
    go_wp2_with fail
    go_ret
    exact ⟨rfl, (Below.refl _ _).alloc (Nat.le_refl _) _⟩
set_option maxHeartbeats 1000000 in
theorem have_sign (c : Int) (w : World) (h0 : 0 ≤ c) (h1 : c ≤ 255) :
    Calls Tryz.prog 76 #[signA, .int .u8 c] w fun e w' => e = .returned (.bool (signS (sortZ c))) ∧ Below w.heap.size w w' := by
  rcases sort_val c with h | h | h | h | h | h | h | h | h
  all_goals
    have C := Lib.hid (fun w => sort_at c _ h w h0 h1)
    rw [h]
    clear h
    go_enter Tryz.func76, Tryz.ntmps76
    go_wp2_with fail
    refine (C.out _).mono ?_
    rintro e w' ⟨rfl, rfl⟩
    go_wp2_with fail
    go_ret
    exact ⟨rfl, (Below.refl _ _).alloc (Nat.le_refl _) _⟩
theorem all_snoc (p : UInt8 → Bool) (l : List UInt8) (b : UInt8) : (l ++ [b]).all p = (l.all p && p b) := by simp
set_option maxHeartbeats 400000 in
theorem every_is (s : ByteArray) (A : Value) (p : Int → Bool) (hp : ∀ (c : Int) (w : World), 0 ≤ c → c ≤ 255 →
      Calls Tryz.prog 76 #[A, .int .u8 c] w fun e w' => e = .returned (.bool (p c)) ∧ Below w.heap.size w w') (w : World) (hs : s.size ≤ 4000) :
    Calls Tryz.prog 75 #[.string s, .func (.func 76) #[A] #[]] w fun e w' => e = .returned (.bool (s.data.toList.all fun b => p (b.toNat : Int))) ∧ Below w.heap.size w w' := by
  obtain ⟨r, hr⟩ : ∃ r, (s.data.toList.all fun b => p (b.toNat : Int)) = r := ⟨_, rfl⟩
  rw [hr]
  have HR := Lib.hid hr
  have HP := Lib.hid hp
  clear hr hp
  go_enter Tryz.func75, Tryz.ntmps75
  go_wp2
  go_loopw [8] (fun i wr => ∃ k : Nat, k ≤ s.size ∧ i = .int .i64 k ∧ Hid (((s.data.toList.take k).all fun b => p (b.toNat : Int)) = true) ∧ Below w.heap.size w wr) (fun i _ => s.size - (intOf i).toNat)
  case atStart => exact ⟨0, Nat.zero_le _, rfl, rfl, Below.refl _ _⟩
  case round =>
    obtain ⟨k, hk, rfl, hall, hbl⟩ := hrel
    by_cases hlt : k < s.size
    · have hst := all_snoc (fun b => p (b.toNat : Int)) (s.data.toList.take k) s[k]
      rw [← take_snoc s k hlt, hall.out, Bool.true_and] at hst
      have HS := Lib.hid hst
      clear hst
      have hc0 : (0 : Int) ≤ (s[k].toNat : Int) := by omega
      have hc1 : (s[k].toNat : Int) ≤ 255 := by have := s[k].toNat_lt; omega
      have C := Lib.hid (fun w => HP.out (s[k].toNat : Int) w hc0 hc1)
      cases hb : p (s[k].toNat : Int)
      · rw [hb] at C
        have hp : Hid (r = false) := by
          show r = false
          rw [← HR.out]
          exact List.all_eq_false.2 ⟨s[k], byte_mem s k hlt, by simp [hb]⟩
        clear hb
        go_wp2_with (go_at_call 76; refine (C.out _).mono ?_; rintro e w1 ⟨rfl, hb1⟩)
        go_ret
        cases hp.out
        exact ⟨rfl, bt hbl hb1⟩
      · rw [hb] at C HS
        clear hb
        go_wp2_with (go_at_call 76; refine (C.out _).mono ?_; rintro e w1 ⟨rfl, hb1⟩)
        go_roundw
        case rel => exact ⟨k + 1, by omega, by go_num, HS, bt hbl hb1⟩
        case measure => simp [intOf]; omega
    · have hfull : s.data.toList.take k = s.data.toList := List.take_of_length_le (by simp; omega)
      have hp : Hid (r = true) := by
        show r = true
        rw [← HR.out, ← hfull]
        exact hall.out
      clear hfull hall
      go_wp2
      go_ret
      cases hp.out
      exact ⟨rfl, hbl⟩
end Go.Proofs.YtkplokfcjjcpcaaGreatDoor
end
section
namespace Go.Proofs.YtkplokfcjjcpcaaGreatDoor
open Go Go.RowKit
def wordB (b : UInt8) : Bool := wordS (sortZ (b.toNat : Int))
def signB (b : UInt8) : Bool := signS (sortZ (b.toNat : Int))
def plainB (l : List UInt8) : Bool :=
  if (l == [91, 93]) = true then true else if (l == [33]) = true then true else if (l == [59]) = true then true else if (l == [123, 125]) = true then true
  else if l.isEmpty = true then false else if (l == [46]) = true then false
  else if sortZ ((l.headD 0).toNat : Int) = 2 then l.all wordB else l.all signB && !Lib.hasPrefix l [47, 42]
theorem head_at (s : ByteArray) (h : 0 < s.size) : s.data.toList.headD 0 = s[0] := by
  obtain ⟨⟨l⟩⟩ := s
  cases l with
  | nil => exact absurd h (Nat.lt_irrefl 0)
  | cons a t => rfl
set_option maxHeartbeats 800000 in
theorem plain_is (s : ByteArray) (w : World) (hs : s.size ≤ 4000) :
    Calls Tryz.prog 41 #[.string s] w fun e w' => e = .returned (.bool (plainB s.data.toList)) ∧ Below w.heap.size w w' := by
  obtain ⟨r, hr⟩ : ∃ r, plainB s.data.toList = r := ⟨_, rfl⟩
  rw [hr]
  have hr' := hr
  unfold plainB at hr'
  rw [← Lib.toList_data] at hr'
  cases e1 : s.toList == [91, 93]
  case true =>
    rw [e1, if_pos rfl] at hr'
    subst hr'
    clear hr
    go_enter Tryz.func41, Tryz.ntmps41
    go_wp2_with fail
    go_ret
    exact ⟨rfl, Below.refl _ _⟩
  rw [e1, if_neg (by simp)] at hr'
  cases e2 : s.toList == [33]
  case true =>
    rw [e2, if_pos rfl] at hr'
    subst hr'
    clear hr
    go_enter Tryz.func41, Tryz.ntmps41
    go_wp2_with fail
    go_ret
    exact ⟨rfl, Below.refl _ _⟩
  rw [e2, if_neg (by simp)] at hr'
  cases e3 : s.toList == [59]
  case true =>
    rw [e3, if_pos rfl] at hr'
    subst hr'
    clear hr
    go_enter Tryz.func41, Tryz.ntmps41
    go_wp2_with fail
    go_ret
    exact ⟨rfl, Below.refl _ _⟩
  rw [e3, if_neg (by simp)] at hr'
  cases e4 : s.toList == [123, 125]
  case true =>
    rw [e4, if_pos rfl] at hr'
    subst hr'
    clear hr
    go_enter Tryz.func41, Tryz.ntmps41
    go_wp2_with fail
    go_ret
    exact ⟨rfl, Below.refl _ _⟩
  rw [e4, if_neg (by simp)] at hr'
  cases e5 : s.toList.isEmpty
  case true =>
    rw [e5, if_pos rfl] at hr'
    subst hr'
    clear hr
    go_enter Tryz.func41, Tryz.ntmps41
    go_wp2_with fail
    go_ret
    exact ⟨rfl, Below.refl _ _⟩
  rw [e5, if_neg (by simp)] at hr'
  cases e6 : s.toList == [46]
  case true =>
    rw [e6, if_pos rfl] at hr'
    subst hr'
    clear hr
    go_enter Tryz.func41, Tryz.ntmps41
    go_wp2_with fail
    go_ret
    exact ⟨rfl, Below.refl _ _⟩
  rw [e6, if_neg (by simp), Lib.toList_data] at hr'
  have hpos : 0 < s.size := by
    rcases Nat.eq_zero_or_pos s.size with h | h
    · rw [Lib.toList_data] at e5
      have : s.data.toList = [] := List.eq_nil_of_length_eq_zero (by simpa using h)
      rw [this] at e5
      cases e5
    · exact h
  rw [head_at s hpos] at hr'
  have hc0 : (0 : Int) ≤ (s[0].toNat : Int) := by omega
  have hc1 : (s[0].toNat : Int) ≤ 255 := by have := s[0].toNat_lt; omega
  obtain ⟨k, hk⟩ : ∃ k, sortZ (s[0].toNat : Int) = k := ⟨_, rfl⟩
  have C := Lib.hid (fun w => sort_at _ k hk w hc0 hc1)
  rw [hk] at hr'
  clear hk hr
  by_cases h2 : k = 2
  · subst h2
    rw [if_pos rfl] at hr'
    have E := Lib.hid (fun w => every_is s wordA (fun c => wordS (sortZ c)) have_word w hs)
    rw [show (s.data.toList.all fun b => wordS (sortZ (b.toNat : Int))) = r from hr'] at E
    clear hr'
    go_enter Tryz.func41, Tryz.ntmps41
    go_wp2_with fail
    refine (C.out _).mono ?_
    rintro e w' ⟨rfl, rfl⟩
    go_wp2_with fail
    refine (E.out _).mono ?_
    rintro e w2 ⟨rfl, b2⟩
    go_wp2_with fail
    go_ret
    exact ⟨rfl, bt ((Below.refl _ _).alloc (Nat.le_refl _) _) b2⟩
  · rw [if_neg h2] at hr'
    have g2 : (k == 2) = false := by simpa using h2
    have E := Lib.hid (fun w => every_is s signA (fun c => signS (sortZ c)) have_sign w hs)
    have P := Lib.hid (fun w => Tryz.strings_HasPrefix s ⟨#[47, 42]⟩ w)
    obtain ⟨x, hx⟩ : ∃ x, (s.data.toList.all fun b => signS (sortZ (b.toNat : Int))) = x := ⟨_, rfl⟩
    obtain ⟨y, hy⟩ : ∃ y, Lib.hasPrefix s.data.toList (ByteArray.mk #[47, 42]).data.toList = y := ⟨_, rfl⟩
    rw [hx] at E
    rw [hy] at P
    have hr2 : (x && !y) = r := by rw [← hr', ← hx, ← hy]; rfl
    clear hr' hx hy h2
    have HR := Lib.hid hr2
    clear hr2
    cases x
    · go_enter Tryz.func41, Tryz.ntmps41
      go_wp2_with fail
      refine (C.out _).mono ?_
      rintro e w' ⟨rfl, rfl⟩
      go_wp2_with fail
      refine (E.out _).mono ?_
      rintro e w2 ⟨rfl, b2⟩
      go_wp2_with fail
      go_ret
      cases HR.out
      exact ⟨rfl, bt (bt ((Below.refl _ _).alloc (Nat.le_refl _) _) ((Below.refl _ _).alloc (Nat.le_refl _) _)) b2⟩
    · go_enter Tryz.func41, Tryz.ntmps41
      go_wp2_with fail
      refine (C.out _).mono ?_
      rintro e w' ⟨rfl, rfl⟩
      go_wp2_with fail
      refine (E.out _).mono ?_
      rintro e w2 ⟨rfl, b2⟩
      go_wp2_with fail
      refine (P.out _).mono ?_
      rintro e w' ⟨rfl, rfl⟩
      go_wp2_with fail
      go_ret
      cases HR.out
      exact ⟨rfl, bt (bt ((Below.refl _ _).alloc (Nat.le_refl _) _) ((Below.refl _ _).alloc (Nat.le_refl _) _)) b2⟩
end Go.Proofs.YtkplokfcjjcpcaaGreatDoor
end
section
namespace Go.Proofs.YtkplokfcjjcpcaaGreatDoor
open Go Go.RowKit
def hexZ (c : Int) : Int := if 48 ≤ c ∧ c ≤ 57 then c - 48 else if 97 ≤ c ∧ c ≤ 122 then c - 97 + 10 else if 65 ≤ c ∧ c ≤ 90 then c - 65 + 10 else 99
def numF (base : Int) : Int → List UInt8 → Option Int
  | a, [] => some a
  | a, c :: t => if hexZ (c.toNat : Int) < base ∧ a * base + hexZ (c.toNat : Int) ≤ 255 then numF base (a * base + hexZ (c.toNat : Int)) t else none
def numR (base : Int) (l : List UInt8) : Option Int := if l = [] then none else numF base 0 l
def PU (o : Option Int) (e : Ending) : Prop := match o with
  | some n => e = .returned (.tuple #[.int .u64 n, .nilIface])
  | none => ∃ n q : Int, (q = 1 ∨ q = 2) ∧ e = .returned (.tuple #[.int .u64 n, .iface 301 (.int .i64 q)])
theorem or_lower : ∀ k : Fin 256, 97 ≤ k.val ∧ k.val ≤ 122 → bits .or .u8 (k.val : Int) 32 = (k.val : Int) := by decide +kernel
theorem or_upper : ∀ k : Fin 256, 65 ≤ k.val ∧ k.val ≤ 90 → bits .or .u8 (k.val : Int) 32 = (k.val : Int) + 32 := by decide +kernel
theorem or_else : ∀ k : Fin 256, ¬ (97 ≤ k.val ∧ k.val ≤ 122) → ¬ (65 ≤ k.val ∧ k.val ≤ 90) → bits .or .u8 (k.val : Int) 32 < 97 ∨ 122 < bits .or .u8 (k.val : Int) 32 := by decide +kernel
theorem or_bd : ∀ k : Fin 256, 0 ≤ bits .or .u8 (k.val : Int) 32 ∧ bits .or .u8 (k.val : Int) 32 ≤ 255 := by decide +kernel
theorem lower_at (c x : Int) (h : bits .or .u8 c 32 = x) (w : World) : Calls Tryz.prog 250 #[.int .u8 c] w fun e w' => e = .returned (.int .u8 x) ∧ w' = w := by
  subst h
  exact Tryz.internal_strconv_lower c w
set_option maxHeartbeats 8000000 in
set_option maxRecDepth 100000 in
theorem inner_16 (t : ByteArray) (hs : t.size ≤ 20000) (w : World) :
    Calls Tryz.prog 248 #[.string t, .int .i64 16, .int .i64 8] w fun e w' => PU (numR 16 t.data.toList) e ∧ Below w.heap.size w w' := by
  obtain ⟨o, ho⟩ : ∃ o, numR 16 t.data.toList = o := ⟨_, rfl⟩
  rw [ho]
  have HO := Lib.hid ho
  clear ho
  by_cases hz : t.size = 0
  · have hemp : t.toList.isEmpty = true := by
      rw [Lib.toList_data, show t.data.toList = [] from List.eq_nil_of_length_eq_zero (by simpa using hz)]
      rfl
    have hp : Hid (o = none) := by
      show o = none
      rw [← HO.out]
      unfold numR
      rw [if_pos (List.eq_nil_of_length_eq_zero (by simpa using hz))]
    clear hz HO
    go_enter Tryz.func248, Tryz.ntmps248
    go_wp2_with fail
    go_ret2
    cases hp.out
    exact ⟨⟨0, 2, Or.inr rfl, rfl⟩, Below.refl _ _⟩
  have hemp : t.toList.isEmpty = false := by
    rw [Lib.toList_data]
    cases hl : t.data.toList with
    | nil => exact absurd (by simpa using congrArg List.length hl) hz
    | cons _ _ => rfl
  have HN0 := Lib.hid (show numF 16 0 t.data.toList = o by
    rw [← HO.out]
    unfold numR
    rw [if_neg (fun h => hz (by simpa using congrArg List.length h))])
  clear HO hz
  have hcv := Lib.run_convert_string_bytes (P := Tryz.prog) w 9 151 5 t (u := .string) Tryz.underlying9 Tryz.underlying151 Tryz.underlying5
  have hB : ∀ j, j < t.size → (Lib.bytesWorld w 5 t).cell? ⟨w.heap.size, j, none⟩ = some (.int .u8 (t.data.toList.getD j 0).toNat) := fun j hj => Lib.bytesWorld_cell w 5 t j hj
  have hBel := Lib.bytesWorld_below w 5 t
  obtain ⟨W1, hW1⟩ : ∃ W1, W1 = Lib.bytesWorld w 5 t := ⟨_, rfl⟩
  rw [← hW1] at hcv hB hBel
  clear hW1
  have HBel := Lib.hid hBel
  clear hBel
  obtain ⟨bs, hL⟩ : ∃ bs, bs = t.data.toList := ⟨_, rfl⟩
  have hLn : bs.length = t.size := by rw [hL, Lib.size_eq]
  rw [← hL] at hB HN0
  clear hL
  have hmv : IntKind.u64.wrap (IntKind.u64.wrap 256 - 1) = 255 := by
    rw [IntKind.wrap_u64, IntKind.wrap_u64]
    decide
  go_enter Tryz.func248, Tryz.ntmps248
  go_wp2_with fail
  go_loop [12, 13, 101] (fun vu vn vi => ∃ (k : Nat) (a : Int), vu = .bool false ∧ vn = .int .u64 a ∧ vi = .int .i64 k ∧ k ≤ t.size ∧ 0 ≤ a ∧ a ≤ 255 ∧ Hid (numF 16 a (bs.drop k) = o))
    (fun _ _ vi => t.size - (intOf vi).toNat)
  case atStart => exact ⟨0, 0, rfl, rfl, rfl, by omega, by omega, by omega, HN0⟩
  case round =>
    obtain ⟨k, a, rfl, rfl, rfl, hk, a0, a1, hh⟩ := hrel
    by_cases hkn : k < t.size
    · have hc := hB k hkn
      have hdrop : bs.drop k = bs[k]'(by omega) :: bs.drop (k + 1) := List.drop_eq_getElem_cons (by omega)
      have hget : bs.getD k 0 = bs[k]'(by omega) := by simp [List.getD, List.getElem?_eq_getElem (show k < bs.length by omega)]
      rw [hdrop] at hh
      rw [hget] at hc
      generalize bs[k]'(by omega) = c at hc hh
      have hc256 : c.toNat < 256 := c.toNat_lt
      obtain ⟨rest, hrest⟩ : ∃ r, bs.drop (k + 1) = r := ⟨_, rfl⟩
      have HREST := Lib.hid hrest
      rw [hrest] at hh
      clear hB hdrop hget hLn hrest
      have hstep := hh.out
      unfold numF at hstep
      by_cases q1 : 48 ≤ c.toNat ∧ c.toNat ≤ 57
      · have hd : hexZ (c.toNat : Int) = (c.toNat : Int) - 48 := by unfold hexZ; rw [if_pos (by omega)]
        obtain ⟨q1, q2⟩ := q1
        rw [hd] at hstep
        by_cases g1 : 16 ≤ (c.toNat : Int) - 48
        · rw [if_neg (by omega)] at hstep
          have hp := Lib.hid hstep.symm
          clear hstep hh hd
          go_wp2_with fail
          all_goals
            go_ret2
            cases hp.out
            exact ⟨⟨0, 2, Or.inr rfl, rfl⟩, HBel.out⟩
        by_cases g2 : 255 < a * 16 + ((c.toNat : Int) - 48)
        · rw [if_neg (by omega)] at hstep
          have hp := Lib.hid hstep.symm
          clear hstep hh hd
          go_wp2_with fail
          all_goals
            go_ret2
            cases hp.out
            exact ⟨⟨255, 1, Or.inl rfl, rfl⟩, HBel.out⟩
        · have g3 : a * 16 + ((c.toNat : Int) - 48) ≤ 255 := by omega
          have g4 : 0 ≤ a * 16 + ((c.toNat : Int) - 48) := by omega
          have g5 : (c.toNat : Int) - 48 < 16 := by omega
          rw [if_pos (by omega)] at hstep
          have HS := Lib.hid hstep
          clear hstep hh hd g1 g2
          go_wp2_with fail
          all_goals
           refine ⟨⟨k + 1, a * 16 + ((c.toNat : Int) - 48), rfl, (by first | rfl | (congr 1; omega)), (by first | rfl | (congr 1; omega)), by omega, g4, g3, by rw [HREST.out]; exact HS⟩, by simp [intOf]; omega⟩
      by_cases q2 : 97 ≤ c.toNat ∧ c.toNat ≤ 122
      · have hd : hexZ (c.toNat : Int) = (c.toNat : Int) - 97 + 10 := by unfold hexZ; rw [if_neg (by omega), if_pos (by omega)]
        have C := Lib.hid (fun w => lower_at (c.toNat : Int) (c.toNat : Int) (or_lower ⟨c.toNat, hc256⟩ q2) w)
        obtain ⟨q2, q3⟩ := q2
        rw [hd] at hstep
        have q1' : 57 < c.toNat := by omega
        clear q1
        by_cases g1 : 16 ≤ (c.toNat : Int) - 97 + 10
        · rw [if_neg (by omega)] at hstep
          have hp := Lib.hid hstep.symm
          clear hstep hh hd
          go_wp2_with (go_at_call 250; refine (C.out _).mono ?_; rintro e w' ⟨rfl, rfl⟩)
          all_goals
            go_ret2
            cases hp.out
            exact ⟨⟨0, 2, Or.inr rfl, rfl⟩, HBel.out⟩
        by_cases g2 : 255 < a * 16 + ((c.toNat : Int) - 97 + 10)
        · rw [if_neg (by omega)] at hstep
          have hp := Lib.hid hstep.symm
          clear hstep hh hd
          go_wp2_with (go_at_call 250; refine (C.out _).mono ?_; rintro e w' ⟨rfl, rfl⟩)
          all_goals
            go_ret2
            cases hp.out
            exact ⟨⟨255, 1, Or.inl rfl, rfl⟩, HBel.out⟩
        · have g3 : a * 16 + ((c.toNat : Int) - 97 + 10) ≤ 255 := by omega
          have g4 : 0 ≤ a * 16 + ((c.toNat : Int) - 97 + 10) := by omega
          have g5 : (c.toNat : Int) - 97 + 10 < 16 := by omega
          rw [if_pos (by omega)] at hstep
          have HS := Lib.hid hstep
          clear hstep hh hd g1 g2
          go_wp2_with (go_at_call 250; refine (C.out _).mono ?_; rintro e w' ⟨rfl, rfl⟩)
          all_goals
           refine ⟨⟨k + 1, a * 16 + ((c.toNat : Int) - 97 + 10), rfl, (by first | rfl | (congr 1; omega)), (by first | rfl | (congr 1; omega)), by omega, g4, g3, by rw [HREST.out]; exact HS⟩, by simp [intOf]; omega⟩
      by_cases q3 : 65 ≤ c.toNat ∧ c.toNat ≤ 90
      · have hd : hexZ (c.toNat : Int) = (c.toNat : Int) + 32 - 97 + 10 := by unfold hexZ; rw [if_neg (by omega), if_neg (by omega), if_pos (by omega)]; omega
        have C := Lib.hid (fun w => lower_at (c.toNat : Int) ((c.toNat : Int) + 32) (or_upper ⟨c.toNat, hc256⟩ q3) w)
        obtain ⟨q3, q4⟩ := q3
        rw [hd] at hstep
        have q1' : 57 < c.toNat := by omega
        clear q1 q2
        by_cases g1 : 16 ≤ (c.toNat : Int) + 32 - 97 + 10
        · rw [if_neg (by omega)] at hstep
          have hp := Lib.hid hstep.symm
          clear hstep hh hd
          go_wp2_with (go_at_call 250; refine (C.out _).mono ?_; rintro e w' ⟨rfl, rfl⟩)
          all_goals
            go_ret2
            cases hp.out
            exact ⟨⟨0, 2, Or.inr rfl, rfl⟩, HBel.out⟩
        by_cases g2 : 255 < a * 16 + ((c.toNat : Int) + 32 - 97 + 10)
        · rw [if_neg (by omega)] at hstep
          have hp := Lib.hid hstep.symm
          clear hstep hh hd
          go_wp2_with (go_at_call 250; refine (C.out _).mono ?_; rintro e w' ⟨rfl, rfl⟩)
          all_goals
            go_ret2
            cases hp.out
            exact ⟨⟨255, 1, Or.inl rfl, rfl⟩, HBel.out⟩
        · have g3 : a * 16 + ((c.toNat : Int) + 32 - 97 + 10) ≤ 255 := by omega
          have g4 : 0 ≤ a * 16 + ((c.toNat : Int) + 32 - 97 + 10) := by omega
          have g5 : (c.toNat : Int) + 32 - 97 + 10 < 16 := by omega
          rw [if_pos (by omega)] at hstep
          have HS := Lib.hid hstep
          clear hstep hh hd g1 g2
          go_wp2_with (go_at_call 250; refine (C.out _).mono ?_; rintro e w' ⟨rfl, rfl⟩)
          all_goals
           refine ⟨⟨k + 1, a * 16 + ((c.toNat : Int) + 32 - 97 + 10), rfl, (by first | rfl | (congr 1; omega)), (by first | rfl | (congr 1; omega)), by omega, g4, g3, by rw [HREST.out]; exact HS⟩, by simp [intOf]; omega⟩
      · have hd : hexZ (c.toNat : Int) = 99 := by unfold hexZ; rw [if_neg (by omega), if_neg (by omega), if_neg (by omega)]
        rw [hd, if_neg (by omega)] at hstep
        have hp := Lib.hid hstep.symm
        by_cases h95 : c.toNat = 95
        · obtain rfl : c = 95 := UInt8.toNat_inj.1 (by simpa using h95)
          have C := Lib.hid (fun w => lower_at 95 127 (by decide +kernel) w)
          clear hstep hh hd q1 q2 q3 h95
          go_wp2_with (go_at_call 250; refine (C.out _).mono ?_; rintro e w' ⟨rfl, rfl⟩)
          go_ret2
          cases hp.out
          exact ⟨⟨0, 2, Or.inr rfl, rfl⟩, HBel.out⟩
        have h95' : ((c.toNat : Int) == 95) = false := beq_eq_false_iff_ne.2 (by omega)
        obtain ⟨x, hx⟩ : ∃ x, bits .or .u8 (c.toNat : Int) 32 = x := ⟨_, rfl⟩
        have C := Lib.hid (fun w => lower_at (c.toNat : Int) x hx w)
        have hx1 := or_else ⟨c.toNat, hc256⟩ q2 q3
        have hx2 := or_bd ⟨c.toNat, hc256⟩
        simp only [hx] at hx1 hx2
        obtain ⟨hx2, hx3⟩ := hx2
        clear hstep hh hd hx q2 q3 h95
        have q1' : c.toNat < 48 ∨ 57 < c.toNat := by omega
        clear q1
        rcases q1' with q1 | q1 <;> rcases hx1 with hx1 | hx1
        all_goals
          go_wp2_with (go_at_call 250; refine (C.out _).mono ?_; rintro e w' ⟨rfl, rfl⟩)
          all_goals
            go_ret2
            cases hp.out
            exact ⟨⟨0, 2, Or.inr rfl, rfl⟩, HBel.out⟩
    · obtain rfl : k = t.size := by omega
      have h1 : bs.drop t.size = [] := List.drop_eq_nil_of_le (by omega)
      rw [h1] at hh
      have hp := Lib.hid (show o = some a from hh.out.symm)
      clear hh h1 hB
      go_wp2_with fail
      go_ret2
      cases hp.out
      exact ⟨rfl, HBel.out⟩
set_option maxHeartbeats 8000000 in
set_option maxRecDepth 100000 in
theorem inner_8 (t : ByteArray) (hs : t.size ≤ 20000) (w : World) :
    Calls Tryz.prog 248 #[.string t, .int .i64 8, .int .i64 8] w fun e w' => PU (numR 8 t.data.toList) e ∧ Below w.heap.size w w' := by
  obtain ⟨o, ho⟩ : ∃ o, numR 8 t.data.toList = o := ⟨_, rfl⟩
  rw [ho]
  have HO := Lib.hid ho
  clear ho
  by_cases hz : t.size = 0
  · have hemp : t.toList.isEmpty = true := by
      rw [Lib.toList_data, show t.data.toList = [] from List.eq_nil_of_length_eq_zero (by simpa using hz)]
      rfl
    have hp : Hid (o = none) := by
      show o = none
      rw [← HO.out]
      unfold numR
      rw [if_pos (List.eq_nil_of_length_eq_zero (by simpa using hz))]
    clear hz HO
    go_enter Tryz.func248, Tryz.ntmps248
    go_wp2_with fail
    go_ret2
    cases hp.out
    exact ⟨⟨0, 2, Or.inr rfl, rfl⟩, Below.refl _ _⟩
  have hemp : t.toList.isEmpty = false := by
    rw [Lib.toList_data]
    cases hl : t.data.toList with
    | nil => exact absurd (by simpa using congrArg List.length hl) hz
    | cons _ _ => rfl
  have HN0 := Lib.hid (show numF 8 0 t.data.toList = o by
    rw [← HO.out]
    unfold numR
    rw [if_neg (fun h => hz (by simpa using congrArg List.length h))])
  clear HO hz
  have hcv := Lib.run_convert_string_bytes (P := Tryz.prog) w 9 151 5 t (u := .string) Tryz.underlying9 Tryz.underlying151 Tryz.underlying5
  have hB : ∀ j, j < t.size → (Lib.bytesWorld w 5 t).cell? ⟨w.heap.size, j, none⟩ = some (.int .u8 (t.data.toList.getD j 0).toNat) := fun j hj => Lib.bytesWorld_cell w 5 t j hj
  have hBel := Lib.bytesWorld_below w 5 t
  obtain ⟨W1, hW1⟩ : ∃ W1, W1 = Lib.bytesWorld w 5 t := ⟨_, rfl⟩
  rw [← hW1] at hcv hB hBel
  clear hW1
  have HBel := Lib.hid hBel
  clear hBel
  obtain ⟨bs, hL⟩ : ∃ bs, bs = t.data.toList := ⟨_, rfl⟩
  have hLn : bs.length = t.size := by rw [hL, Lib.size_eq]
  rw [← hL] at hB HN0
  clear hL
  have hmv : IntKind.u64.wrap (IntKind.u64.wrap 256 - 1) = 255 := by
    rw [IntKind.wrap_u64, IntKind.wrap_u64]
    decide
  go_enter Tryz.func248, Tryz.ntmps248
  go_wp2_with fail
  go_loop [12, 13, 101] (fun vu vn vi => ∃ (k : Nat) (a : Int), vu = .bool false ∧ vn = .int .u64 a ∧ vi = .int .i64 k ∧ k ≤ t.size ∧ 0 ≤ a ∧ a ≤ 255 ∧ Hid (numF 8 a (bs.drop k) = o))
    (fun _ _ vi => t.size - (intOf vi).toNat)
  case atStart => exact ⟨0, 0, rfl, rfl, rfl, by omega, by omega, by omega, HN0⟩
  case round =>
    obtain ⟨k, a, rfl, rfl, rfl, hk, a0, a1, hh⟩ := hrel
    by_cases hkn : k < t.size
    · have hc := hB k hkn
      have hdrop : bs.drop k = bs[k]'(by omega) :: bs.drop (k + 1) := List.drop_eq_getElem_cons (by omega)
      have hget : bs.getD k 0 = bs[k]'(by omega) := by simp [List.getD, List.getElem?_eq_getElem (show k < bs.length by omega)]
      rw [hdrop] at hh
      rw [hget] at hc
      generalize bs[k]'(by omega) = c at hc hh
      have hc256 : c.toNat < 256 := c.toNat_lt
      obtain ⟨rest, hrest⟩ : ∃ r, bs.drop (k + 1) = r := ⟨_, rfl⟩
      have HREST := Lib.hid hrest
      rw [hrest] at hh
      clear hB hdrop hget hLn hrest
      have hstep := hh.out
      unfold numF at hstep
      by_cases q1 : 48 ≤ c.toNat ∧ c.toNat ≤ 57
      · have hd : hexZ (c.toNat : Int) = (c.toNat : Int) - 48 := by unfold hexZ; rw [if_pos (by omega)]
        obtain ⟨q1, q2⟩ := q1
        rw [hd] at hstep
        by_cases g1 : 8 ≤ (c.toNat : Int) - 48
        · rw [if_neg (by omega)] at hstep
          have hp := Lib.hid hstep.symm
          clear hstep hh hd
          go_wp2_with fail
          all_goals
            go_ret2
            cases hp.out
            exact ⟨⟨0, 2, Or.inr rfl, rfl⟩, HBel.out⟩
        by_cases g2 : 255 < a * 8 + ((c.toNat : Int) - 48)
        · rw [if_neg (by omega)] at hstep
          have hp := Lib.hid hstep.symm
          clear hstep hh hd
          go_wp2_with fail
          all_goals
            go_ret2
            cases hp.out
            exact ⟨⟨255, 1, Or.inl rfl, rfl⟩, HBel.out⟩
        · have g3 : a * 8 + ((c.toNat : Int) - 48) ≤ 255 := by omega
          have g4 : 0 ≤ a * 8 + ((c.toNat : Int) - 48) := by omega
          have g5 : (c.toNat : Int) - 48 < 8 := by omega
          rw [if_pos (by omega)] at hstep
          have HS := Lib.hid hstep
          clear hstep hh hd g1 g2
          go_wp2_with fail
          all_goals
           refine ⟨⟨k + 1, a * 8 + ((c.toNat : Int) - 48), rfl, (by first | rfl | (congr 1; omega)), (by first | rfl | (congr 1; omega)), by omega, g4, g3, by rw [HREST.out]; exact HS⟩, by simp [intOf]; omega⟩
      by_cases q2 : 97 ≤ c.toNat ∧ c.toNat ≤ 122
      · have hd : hexZ (c.toNat : Int) = (c.toNat : Int) - 97 + 10 := by unfold hexZ; rw [if_neg (by omega), if_pos (by omega)]
        have C := Lib.hid (fun w => lower_at (c.toNat : Int) (c.toNat : Int) (or_lower ⟨c.toNat, hc256⟩ q2) w)
        obtain ⟨q2, q3⟩ := q2
        rw [hd] at hstep
        have q1' : 57 < c.toNat := by omega
        clear q1
        by_cases g1 : 8 ≤ (c.toNat : Int) - 97 + 10
        · rw [if_neg (by omega)] at hstep
          have hp := Lib.hid hstep.symm
          clear hstep hh hd
          go_wp2_with (go_at_call 250; refine (C.out _).mono ?_; rintro e w' ⟨rfl, rfl⟩)
          all_goals
            go_ret2
            cases hp.out
            exact ⟨⟨0, 2, Or.inr rfl, rfl⟩, HBel.out⟩
        by_cases g2 : 255 < a * 8 + ((c.toNat : Int) - 97 + 10)
        · rw [if_neg (by omega)] at hstep
          have hp := Lib.hid hstep.symm
          clear hstep hh hd
          go_wp2_with (go_at_call 250; refine (C.out _).mono ?_; rintro e w' ⟨rfl, rfl⟩)
          all_goals
            go_ret2
            cases hp.out
            exact ⟨⟨255, 1, Or.inl rfl, rfl⟩, HBel.out⟩
        · have g3 : a * 8 + ((c.toNat : Int) - 97 + 10) ≤ 255 := by omega
          have g4 : 0 ≤ a * 8 + ((c.toNat : Int) - 97 + 10) := by omega
          have g5 : (c.toNat : Int) - 97 + 10 < 8 := by omega
          rw [if_pos (by omega)] at hstep
          have HS := Lib.hid hstep
          clear hstep hh hd g1 g2
          go_wp2_with (go_at_call 250; refine (C.out _).mono ?_; rintro e w' ⟨rfl, rfl⟩)
          all_goals
           refine ⟨⟨k + 1, a * 8 + ((c.toNat : Int) - 97 + 10), rfl, (by first | rfl | (congr 1; omega)), (by first | rfl | (congr 1; omega)), by omega, g4, g3, by rw [HREST.out]; exact HS⟩, by simp [intOf]; omega⟩
      by_cases q3 : 65 ≤ c.toNat ∧ c.toNat ≤ 90
      · have hd : hexZ (c.toNat : Int) = (c.toNat : Int) + 32 - 97 + 10 := by unfold hexZ; rw [if_neg (by omega), if_neg (by omega), if_pos (by omega)]; omega
        have C := Lib.hid (fun w => lower_at (c.toNat : Int) ((c.toNat : Int) + 32) (or_upper ⟨c.toNat, hc256⟩ q3) w)
        obtain ⟨q3, q4⟩ := q3
        rw [hd] at hstep
        have q1' : 57 < c.toNat := by omega
        clear q1 q2
        by_cases g1 : 8 ≤ (c.toNat : Int) + 32 - 97 + 10
        · rw [if_neg (by omega)] at hstep
          have hp := Lib.hid hstep.symm
          clear hstep hh hd
          go_wp2_with (go_at_call 250; refine (C.out _).mono ?_; rintro e w' ⟨rfl, rfl⟩)
          all_goals
            go_ret2
            cases hp.out
            exact ⟨⟨0, 2, Or.inr rfl, rfl⟩, HBel.out⟩
        by_cases g2 : 255 < a * 8 + ((c.toNat : Int) + 32 - 97 + 10)
        · rw [if_neg (by omega)] at hstep
          have hp := Lib.hid hstep.symm
          clear hstep hh hd
          go_wp2_with (go_at_call 250; refine (C.out _).mono ?_; rintro e w' ⟨rfl, rfl⟩)
          all_goals
            go_ret2
            cases hp.out
            exact ⟨⟨255, 1, Or.inl rfl, rfl⟩, HBel.out⟩
        · have g3 : a * 8 + ((c.toNat : Int) + 32 - 97 + 10) ≤ 255 := by omega
          have g4 : 0 ≤ a * 8 + ((c.toNat : Int) + 32 - 97 + 10) := by omega
          have g5 : (c.toNat : Int) + 32 - 97 + 10 < 8 := by omega
          rw [if_pos (by omega)] at hstep
          have HS := Lib.hid hstep
          clear hstep hh hd g1 g2
          go_wp2_with (go_at_call 250; refine (C.out _).mono ?_; rintro e w' ⟨rfl, rfl⟩)
          all_goals
           refine ⟨⟨k + 1, a * 8 + ((c.toNat : Int) + 32 - 97 + 10), rfl, (by first | rfl | (congr 1; omega)), (by first | rfl | (congr 1; omega)), by omega, g4, g3, by rw [HREST.out]; exact HS⟩, by simp [intOf]; omega⟩
      · have hd : hexZ (c.toNat : Int) = 99 := by unfold hexZ; rw [if_neg (by omega), if_neg (by omega), if_neg (by omega)]
        rw [hd, if_neg (by omega)] at hstep
        have hp := Lib.hid hstep.symm
        by_cases h95 : c.toNat = 95
        · obtain rfl : c = 95 := UInt8.toNat_inj.1 (by simpa using h95)
          have C := Lib.hid (fun w => lower_at 95 127 (by decide +kernel) w)
          clear hstep hh hd q1 q2 q3 h95
          go_wp2_with (go_at_call 250; refine (C.out _).mono ?_; rintro e w' ⟨rfl, rfl⟩)
          go_ret2
          cases hp.out
          exact ⟨⟨0, 2, Or.inr rfl, rfl⟩, HBel.out⟩
        have h95' : ((c.toNat : Int) == 95) = false := beq_eq_false_iff_ne.2 (by omega)
        obtain ⟨x, hx⟩ : ∃ x, bits .or .u8 (c.toNat : Int) 32 = x := ⟨_, rfl⟩
        have C := Lib.hid (fun w => lower_at (c.toNat : Int) x hx w)
        have hx1 := or_else ⟨c.toNat, hc256⟩ q2 q3
        have hx2 := or_bd ⟨c.toNat, hc256⟩
        simp only [hx] at hx1 hx2
        obtain ⟨hx2, hx3⟩ := hx2
        clear hstep hh hd hx q2 q3 h95
        have q1' : c.toNat < 48 ∨ 57 < c.toNat := by omega
        clear q1
        rcases q1' with q1 | q1 <;> rcases hx1 with hx1 | hx1
        all_goals
          go_wp2_with (go_at_call 250; refine (C.out _).mono ?_; rintro e w' ⟨rfl, rfl⟩)
          all_goals
            go_ret2
            cases hp.out
            exact ⟨⟨0, 2, Or.inr rfl, rfl⟩, HBel.out⟩
    · obtain rfl : k = t.size := by omega
      have h1 : bs.drop t.size = [] := List.drop_eq_nil_of_le (by omega)
      rw [h1] at hh
      have hp := Lib.hid (show o = some a from hh.out.symm)
      clear hh h1 hB
      go_wp2_with fail
      go_ret2
      cases hp.out
      exact ⟨rfl, HBel.out⟩
end Go.Proofs.YtkplokfcjjcpcaaGreatDoor
end
section
namespace Go.Proofs.YtkplokfcjjcpcaaGreatDoor
open Go Go.RowKit
def Tab (w : World) : Prop :=
  w.cell? ⟨7, 15, none⟩ = some (.int .u8 4) ∧
  (∃ ev, w.cell? ⟨8, 0, none⟩ = some ev ∧ (ev = .nilIface ∨ ∃ te pe, ev = .iface te pe)) ∧
  (∃ ev, w.cell? ⟨9, 0, none⟩ = some ev ∧ (ev = .nilIface ∨ ∃ te pe, ev = .iface te pe))
theorem Tab.on {w w' : World} (h : Tab w) (hb : Below w.heap.size w w') : Tab w' := by
  obtain ⟨h1, ⟨e2, h2, g2⟩, e3, h3, g3⟩ := h
  exact ⟨cell_later hb h1, ⟨e2, cell_later hb h2, g2⟩, e3, cell_later hb h3, g3⟩
def PP (o : Option Int) (e : Ending) : Prop := match o with
  | some n => e = .returned (.tuple #[.int .u64 n, .nilIface])
  | none => ∃ (n : Int) (a : Addr), e = .returned (.tuple #[.int .u64 n, .iface 303 (.pointer (some a))])
set_option maxHeartbeats 800000 in
theorem parse_by (t : ByteArray) (base : Int) (o : Option Int) (hs : t.size ≤ 20000) (w : World) (htab : Tab w)
    (h : ∀ w, Calls Tryz.prog 248 #[.string t, .int .i64 base, .int .i64 8] w fun e w' => PU o e ∧ Below w.heap.size w w') :
    Calls Tryz.prog 247 #[.string t, .int .i64 base, .int .i64 8] w fun e w' => PP o e ∧ Below w.heap.size w w' := by
  have H := Lib.hid h
  clear h
  cases o with
  | some n =>
    go_enter Tryz.func247, Tryz.ntmps247
    go_wp2_with fail
    refine (H.out _).mono ?_
    rintro e w1 ⟨hp, b1⟩
    have hp' : e = .returned (.tuple #[.int .u64 n, .nilIface]) := hp
    subst hp'
    clear hp
    go_wp2_with fail
    go_ret2
    exact ⟨rfl, b1⟩
  | none =>
    go_enter Tryz.func247, Tryz.ntmps247
    go_wp2_with fail
    refine (H.out _).mono ?_
    rintro e w1 ⟨hp, b1⟩
    have hp' : ∃ n q : Int, (q = 1 ∨ q = 2) ∧ e = .returned (.tuple #[.int .u64 n, .iface 301 (.int .i64 q)]) := hp
    obtain ⟨n, q, hq, rfl⟩ := hp'
    clear hp
    obtain ⟨_, ⟨e2, h2, g2⟩, e3, h3, g3⟩ := htab.on b1
    have C2 := Lib.hid (Tryz.strconv_toError_syntax ⟨#[80, 97, 114, 115, 101, 85, 105, 110, 116]⟩ t base 8 e2 w1 (by omega) h2 g2)
    have C3 := Lib.hid (Tryz.strconv_toError_range ⟨#[80, 97, 114, 115, 101, 85, 105, 110, 116]⟩ t base 8 e3 w1 (by omega) h3 g3)
    clear h2 g2 h3 g3
    rcases hq with rfl | rfl
    · go_wp2_with fail
      refine C3.out.mono ?_
      rintro e w2 ⟨N, rfl, _, _, b2⟩
      go_wp2_with fail
      go_ret2
      exact ⟨⟨n, _, rfl⟩, bt b1 b2⟩
    · go_wp2_with fail
      refine C2.out.mono ?_
      rintro e w2 ⟨N, rfl, _, _, b2⟩
      go_wp2_with fail
      go_ret2
      exact ⟨⟨n, _, rfl⟩, bt b1 b2⟩
theorem parse_16 (t : ByteArray) (hs : t.size ≤ 20000) (w : World) (htab : Tab w) :
    Calls Tryz.prog 247 #[.string t, .int .i64 16, .int .i64 8] w fun e w' => PP (numR 16 t.data.toList) e ∧ Below w.heap.size w w' :=
  parse_by t 16 _ hs w htab fun w => inner_16 t hs w
theorem parse_8 (t : ByteArray) (hs : t.size ≤ 20000) (w : World) (htab : Tab w) :
    Calls Tryz.prog 247 #[.string t, .int .i64 8, .int .i64 8] w fun e w' => PP (numR 8 t.data.toList) e ∧ Below w.heap.size w w' :=
  parse_by t 8 _ hs w htab fun w => inner_8 t hs w
set_option maxHeartbeats 400000 in
theorem clone_is (t : ByteArray) (hs : t.size ≤ 20000) (w : World) :
    Calls Tryz.prog 63 #[.string t] w fun e w' => e = .returned (.string t) ∧ Below w.heap.size w w' := by
  have C := Lib.hid (fun w => Tryz.stringslite_Clone t w (by omega))
  go_enter Tryz.func63, Tryz.ntmps63
  go_wp2_with fail
  refine (C.out _).mono ?_
  rintro e w1 ⟨rfl, b1⟩
  go_wp2_with fail
  go_ret
  exact ⟨rfl, b1⟩
end Go.Proofs.YtkplokfcjjcpcaaGreatDoor
end
