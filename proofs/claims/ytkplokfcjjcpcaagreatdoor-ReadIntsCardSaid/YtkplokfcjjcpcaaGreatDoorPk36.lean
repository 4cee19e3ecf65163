/- Joined texts: RdH. Conditions: as each states. -/
import Derived.Test.YtkplokfcjjcpcaaGreatDoorPk35
namespace Go.Proofs.YtkplokfcjjcpcaaGreatDoor
open Go Go.RowKit Go.Maps Trm
attribute [local go_sem ↓] Go.wp_at_zero Go.wp_at_succ
theorem wrap_back {n : Int} (h0 : -9223372036854775808 ≤ n) (h1 : n < 0) : wrap64 (-(wrap64 (n.natAbs : Int))) = n := by
  unfold wrap64
  omega
theorem wrap_nat {n : Int} (h0 : 0 ≤ n) (h1 : n ≤ 9223372036854775807) : wrap64 (n.toNat : Int) = n := by
  unfold wrap64
  omega
structure OneAt (w0 : World) (x : ByteArray) (k m : Int) (s : ByteArray) (z : Nat) (u : Tm) : Prop where
  at' : ∀ w, Below w0.heap.size w0 w → Calls Tryz.prog 28 #[.string x] w (OnePost w k m s z u)
theorem oneAt {w0 : World} (ht : LayA w0) (x : ByteArray) (l : List UInt8) (hl : x.data.toList = l) (toks : List Tok) (hx : lexN (l ++ [32, 46]) 1 0 = ⟨toks, 0, 0⟩) (u : Tm) (nx : Int) (hr : readZ Ops.firstL toks 0 = (⟨u, [], 1, nx⟩, 0)) (k m : Int) (s : ByteArray) (z : Nat) (hh : u.hd = ⟨k, m, s, z⟩) (hnz : u.nz) (hsz : l.length ≤ 100) : OneAt w0 x k m s z u :=
  ⟨fun w b => one_is x toks (by rw [hl]; exact hx) u nx hr k m s z hh hnz (by rw [Lib.size_eq, hl]; exact hsz) w (ht.on b)⟩
set_option maxRecDepth 100000 in
set_option maxHeartbeats 6400000 in
theorem ints_neg (n : Int) (w : World) (ht : LayA w) (h0 : -9223372036854775808 ≤ n) (h1 : n < 0) :
    Calls Tryz.prog 7 #[.int .i64 n] w fun e w' => e = .returned (.bool true) ∧ Below w.heap.size w w' := by
  have hd := digs_dec n.natAbs (by omega)
  have hi : Lib.itoa n = 45 :: Lib.decDigits n.natAbs := by unfold Lib.itoa; rw [if_pos h1]
  have hlen := itoa_len h0 (by omega)
  have AL := Lib.hid (alive6_is w ht)
  have PR := Lib.hid (fun w1 (b1 : Below w.heap.size w w1) => print_at n w1 h0 (by omega) (ht.on b1).pow)
  rw [hi] at hlen
  obtain ⟨P, hP⟩ : ∃ P : ByteArray, ⟨(Lib.itoa n).toArray⟩ = P := ⟨_, rfl⟩
  have hPl : P.data.toList = 45 :: Lib.decDigits n.natAbs := by rw [← hP, hi]
  have hPs : P.size ≤ 21 := by rw [Lib.size_eq, hPl]; exact hlen
  have O1 := Lib.hid (oneAt ht P _ hPl _ (txt_w hd) (intT n) 3 (by have := rd_w (wrap64 (n.natAbs : Int)); rw [wrap_back h0 h1] at this; exact this) 2 n ⟨#[]⟩ 0 rfl ⟨by decide, trivial⟩ (by omega))
  have O2 := Lib.hid (oneAt ht (⟨#[97, 32, 45, 32]⟩ ++ P) (97 :: 32 :: 45 :: 32 :: 45 :: Lib.decDigits n.natAbs) (by simp [hPl]) _ (txt_yn hd) (compT ⟨#[45]⟩ [atmT ⟨#[97]⟩, intT n]) 5 (by have := rd_yn (wrap64 (n.natAbs : Int)); rw [wrap_back h0 h1] at this; exact this) 4 0 ⟨#[45]⟩ 2 rfl ⟨by decide, ⟨by decide, trivial⟩, ⟨by decide, trivial⟩, trivial⟩ (by simp at hlen ⊢; omega))
  obtain ⟨S, hS⟩ : ∃ S : ByteArray, ⟨#[97, 32, 45, 32]⟩ ++ P = S := ⟨_, rfl⟩
  have hlt : ¬ 9223372036854775807 < 4 + P.size := by omega
  have q0 : decide (n < 0) = true := decide_eq_true h1
  rw [hP] at PR
  rw [hS] at O2
  have MY := Lib.hid (fun (t : AT) (ad : Option Addr) (kk : Nat) (wy : World) (h : t.sv = .slice ad 2 kk ∧ t.erase = compT ⟨#[45]⟩ [atmT ⟨#[97]⟩, intT n] ∧ t.mem wy ∧ t.l.length = 2) => second h.1 h.2.1 h.2.2.1 h.2.2.2)
  clear ht h0 h1 hd hi hlen hPl hPs hP
  go_enter Tryz.func7, Tryz.ntmps7
  go_wp2_with fail
  refine AL.out.mono ?_
  rintro e w1 ⟨rfl, b1⟩
  have B1 := Lib.hid b1
  have P1 := Lib.hid (PR.out w1 b1)
  clear b1 AL
  go_wp2_with fail
  refine P1.out.mono ?_
  rintro e w2 ⟨rfl, b2⟩
  have B2 := Lib.hid (bt B1.out b2)
  have X2 := Lib.hid (O1.out.at' w2 (bt B1.out b2))
  clear b2 P1 B1 O1
  go_wp2_with fail
  refine X2.out.mono ?_
  rintro e w3 ⟨x, xa, xk, rfl, _, b3⟩
  have XB := Lib.hid (At.new w3 #[.int .i64 2, .int .i64 n, .string ⟨#[]⟩, .slice xa 0 xk] 34)
  have B3 := Lib.hid (fun o => bt (bt B2.out b3) (al1 w3 o))
  have P3 := Lib.hid (fun o => PR.out _ (B3.out o))
  clear b3 X2 B2 PR
  go_wp2_with fail
  refine (P3.out _).mono ?_
  rintro e w4 ⟨rfl, b4⟩
  have B4 := Lib.hid (bt (B3.out _) b4)
  have X4 := Lib.hid (XB.out.on b4)
  have Y4 := Lib.hid (O2.out.at' w4 B4.out)
  clear b4 P3 B3 XB O2
  go_wp2_with fail
  refine Y4.out.mono ?_
  rintro e w5 ⟨y, ya, yk, rfl, hy, b5⟩
  obtain ⟨G, off, rfl, g1, g2, g3⟩ := MY.out y ya yk w5 hy
  have g3 : w5.cell? ⟨G, off + 5, none⟩ = some (.int .i64 n) := g3
  have X5 := Lib.hid (fun o => X4.out.on (bt b5 (al1 w5 o)))
  have x0 := fun o => cell_of_heap (o := 0) (X5.out o) rfl
  have x1 := fun o => cell_of_heap (o := 1) (X5.out o) rfl
  have y5 := fun o => ((al1 w5 o).cell (p := ⟨G, off + 5, none⟩) (World.block_lt_of_cell? _ _ g3)).trans g3
  have y5' : ∀ o, (w5.alloc o).cell? ⟨G, off + 4 + 1, none⟩ = some (.int .i64 n) := y5
  have B5 := Lib.hid (fun o => bt (bt B4.out b5) (al1 w5 o))
  clear b5 Y4 B4 X4 MY hy
  go_wp2_with fail
  go_ret
  exact ⟨rfl, B5.out _⟩
set_option maxRecDepth 100000 in
set_option maxHeartbeats 6400000 in
theorem ints_pos (n : Int) (w : World) (ht : LayA w) (h0 : 0 ≤ n) (h1 : n ≤ 9223372036854775807) :
    Calls Tryz.prog 7 #[.int .i64 n] w fun e w' => e = .returned (.bool true) ∧ Below w.heap.size w w' := by
  have hd := digs_dec n.toNat (by omega)
  rw [wrap_nat h0 h1] at hd
  have hi : Lib.itoa n = Lib.decDigits n.toNat := by unfold Lib.itoa; rw [if_neg (by omega)]
  have hlen := itoa_len (by omega) h1
  obtain ⟨m, rfl⟩ := Int.eq_ofNat_of_zero_le h0
  simp only [Int.toNat_natCast] at hd hi
  have AL := Lib.hid (alive6_is w ht)
  have PR := Lib.hid (fun w1 (b1 : Below w.heap.size w w1) => print_at m w1 (by omega) h1 (ht.on b1).pow)
  rw [hi] at hlen
  obtain ⟨P, hP⟩ : ∃ P : ByteArray, ⟨(Lib.itoa m).toArray⟩ = P := ⟨_, rfl⟩
  have hPl : P.data.toList = Lib.decDigits m := by rw [← hP, hi]
  have hPs : P.size ≤ 21 := by rw [Lib.size_eq, hPl]; exact hlen
  have O1 := Lib.hid (oneAt ht P _ hPl _ (txt_x hd) (intT m) 2 (rd_x m) 2 m ⟨#[]⟩ 0 rfl ⟨by decide, trivial⟩ (by omega))
  have O2 := Lib.hid (oneAt ht (⟨#[97, 32, 45, 32]⟩ ++ P) (97 :: 32 :: 45 :: 32 :: Lib.decDigits m) (by simp [hPl]) _ (txt_y hd) (compT ⟨#[45]⟩ [atmT ⟨#[97]⟩, intT m]) 4 (rd_y m) 4 0 ⟨#[45]⟩ 2 rfl ⟨by decide, ⟨by decide, trivial⟩, ⟨by decide, trivial⟩, trivial⟩ (by simp; omega))
  have O3 := Lib.hid (oneAt ht (⟨#[45, 32]⟩ ++ P) (45 :: 32 :: Lib.decDigits m) (by simp [hPl]) _ (txt_z hd) (compT ⟨#[45]⟩ [intT m]) 3 (rd_z m) 4 0 ⟨#[45]⟩ 1 rfl ⟨by decide, ⟨by decide, trivial⟩, trivial⟩ (by simp; omega))
  have hneg : wrap64 (-(m : Int)) = -(m : Int) := by unfold wrap64; omega
  have O4 := Lib.hid (oneAt ht (⟨#[45]⟩ ++ P) (45 :: Lib.decDigits m) (by simp [hPl]) _ (txt_w hd) (intT (-(m : Int))) 3 (by have := rd_w (m : Int); rw [hneg] at this; exact this) 2 (-(m : Int)) ⟨#[]⟩ 0 rfl ⟨by decide, trivial⟩ (by simp; omega))
  obtain ⟨S, hS⟩ : ∃ S : ByteArray, ⟨#[97, 32, 45, 32]⟩ ++ P = S := ⟨_, rfl⟩
  obtain ⟨S3, hS3⟩ : ∃ S : ByteArray, ⟨#[45, 32]⟩ ++ P = S := ⟨_, rfl⟩
  obtain ⟨S4, hS4⟩ : ∃ S : ByteArray, ⟨#[45]⟩ ++ P = S := ⟨_, rfl⟩
  have hlt : ¬ 9223372036854775807 < 4 + P.size := by omega
  have hlt2 : ¬ 9223372036854775807 < 2 + P.size := by omega
  have hlt1 : ¬ 9223372036854775807 < 1 + P.size := by omega
  have q0 : decide ((m : Int) < 0) = false := decide_eq_false (by omega)
  rw [hP] at PR
  rw [hS] at O2
  rw [hS3] at O3
  rw [hS4] at O4
  have MZ := Lib.hid (fun (t : AT) (ad : Option Addr) (kk : Nat) (wy : World) (h : t.sv = .slice ad 1 kk ∧ t.erase = compT ⟨#[45]⟩ [intT m] ∧ t.mem wy ∧ t.l.length = 1) => first1 h.1 h.2.1 h.2.2.1 h.2.2.2)
  have hm1 : (m : Int) ≤ 9223372036854775807 := h1
  have MY := Lib.hid (fun (t : AT) (ad : Option Addr) (kk : Nat) (wy : World) (h : t.sv = .slice ad 2 kk ∧ t.erase = compT ⟨#[45]⟩ [atmT ⟨#[97]⟩, intT m] ∧ t.mem wy ∧ t.l.length = 2) => second h.1 h.2.1 h.2.2.1 h.2.2.2)
  clear ht h0 h1 hd hi hlen hPl hPs hP hneg
  go_enter Tryz.func7, Tryz.ntmps7
  go_wp2_with fail
  refine AL.out.mono ?_
  rintro e w1 ⟨rfl, b1⟩
  have B1 := Lib.hid b1
  have P1 := Lib.hid (PR.out w1 b1)
  clear b1 AL
  go_wp2_with fail
  refine P1.out.mono ?_
  rintro e w2 ⟨rfl, b2⟩
  have B2 := Lib.hid (bt B1.out b2)
  have X2 := Lib.hid (O1.out.at' w2 (bt B1.out b2))
  clear b2 P1 B1 O1
  go_wp2_with fail
  refine X2.out.mono ?_
  rintro e w3 ⟨x, xa, xk, rfl, _, b3⟩
  have XB := Lib.hid (At.new w3 #[.int .i64 2, .int .i64 m, .string ⟨#[]⟩, .slice xa 0 xk] 34)
  have B3 := Lib.hid (fun o => bt (bt B2.out b3) (al1 w3 o))
  have P3 := Lib.hid (fun o => PR.out _ (B3.out o))
  have PR2 := Lib.hid PR.out
  clear b3 X2 B2
  go_wp2_with fail
  refine (P3.out _).mono ?_
  rintro e w4 ⟨rfl, b4⟩
  have B4 := Lib.hid (bt (B3.out _) b4)
  have X4 := Lib.hid (XB.out.on b4)
  have Y4 := Lib.hid (O2.out.at' w4 B4.out)
  clear b4 P3 B3 XB O2
  go_wp2_with fail
  refine Y4.out.mono ?_
  rintro e w5 ⟨y, ya, yk, rfl, hy, b5⟩
  obtain ⟨G, off, rfl, g1, g2, g3⟩ := MY.out y ya yk w5 hy
  have g3 : w5.cell? ⟨G, off + 5, none⟩ = some (.int .i64 m) := g3
  have X5 := Lib.hid (fun o => X4.out.on (bt b5 (al1 w5 o)))
  have x0 := fun o => cell_of_heap (o := 0) (X5.out o) rfl
  have x1 := fun o => cell_of_heap (o := 1) (X5.out o) rfl
  have y5 := fun o => ((al1 w5 o).cell (p := ⟨G, off + 5, none⟩) (World.block_lt_of_cell? _ _ g3)).trans g3
  have y5' : ∀ o, (w5.alloc o).cell? ⟨G, off + 4 + 1, none⟩ = some (.int .i64 m) := y5
  have B5 := Lib.hid (fun o => bt (bt B4.out b5) (al1 w5 o))
  have P5 := Lib.hid (fun o => PR.out _ (B5.out o))
  clear b5 Y4 B4 X4 MY hy PR
  go_wp2_with fail
  refine (P5.out _).mono ?_
  rintro e w6 ⟨rfl, b6⟩
  have B6 := Lib.hid (bt (B5.out _) b6)
  have Z6 := Lib.hid (O3.out.at' w6 B6.out)
  clear b6 P5 B5 O3 x0 x1 y5 y5' g3 X5
  go_wp2_with fail
  refine Z6.out.mono ?_
  rintro e w7 ⟨z, za, zk, rfl, hz, b7⟩
  obtain ⟨G2, off2, rfl, k1, k2, k3⟩ := MZ.out z za zk w7 hz
  have k3 : w7.cell? ⟨G2, off2 + 1, none⟩ = some (.int .i64 m) := k3
  have Z7 := Lib.hid (At.new w7 #[.int .i64 4, .int .i64 0, .string ⟨#[45]⟩, .slice (some ⟨G2, off2, none⟩) 1 zk] 34)
  have A7 := Lib.hid ((al1 w7 (.cells #[.int .i64 4, .int .i64 0, .string ⟨#[45]⟩, .slice (some ⟨G2, off2, none⟩) 1 zk] 34)))
  have B7 := Lib.hid (bt (bt B6.out b7) A7.out)
  have P7 := Lib.hid (PR2.out _ B7.out)
  have K7 := Lib.hid (show (w7.alloc (.cells #[.int .i64 4, .int .i64 0, .string ⟨#[45]⟩, .slice (some ⟨G2, off2, none⟩) 1 zk] 34)).cell? ⟨G2, off2 + 1, none⟩ = some (.int .i64 m) ∧ G2 < (w7.alloc (.cells #[.int .i64 4, .int .i64 0, .string ⟨#[45]⟩, .slice (some ⟨G2, off2, none⟩) 1 zk] 34)).heap.size from ⟨(A7.out.cell (p := ⟨G2, off2 + 1, none⟩) (World.block_lt_of_cell? _ _ k3)).trans k3, Nat.lt_of_lt_of_le (World.block_lt_of_cell? _ _ k3) A7.out.size⟩)
  clear b7 Z6 B6 MZ hz k3 A7 PR2
  go_wp2_with fail
  refine P7.out.mono ?_
  rintro e w8 ⟨rfl, b8⟩
  have B8 := Lib.hid (bt B7.out b8)
  have Z8 := Lib.hid (Z7.out.on b8)
  have K8 := Lib.hid (show w8.cell? ⟨G2, off2 + 1, none⟩ = some (.int .i64 m) ∧ G2 < w8.heap.size from ⟨(b8.cell (p := ⟨G2, off2 + 1, none⟩) K7.out.2).trans K7.out.1, Nat.lt_of_lt_of_le K7.out.2 b8.size⟩)
  have V8 := Lib.hid (O4.out.at' w8 B8.out)
  clear b8 P7 Z7 K7 B7 O4
  go_wp2_with fail
  refine V8.out.mono ?_
  rintro e w9 ⟨v, va, vk, rfl, _, b9⟩
  have Z9 := Lib.hid (fun o => Z8.out.on (bt b9 (al1 w9 o)))
  have z0 := fun o => cell_of_heap (o := 0) (Z9.out o) rfl
  have z2 := fun o => cell_of_heap (o := 2) (Z9.out o) rfl
  have z3 := fun o => cell_of_heap (o := 3) (Z9.out o) rfl
  have k3 := fun o => ((bt b9 (al1 w9 o)).cell (p := ⟨G2, off2 + 1, none⟩) K8.out.2).trans K8.out.1
  have B9 := Lib.hid (fun o => bt (bt B8.out b9) (al1 w9 o))
  clear b9 V8 Z8 B8 K8
  go_wp2_with fail
  go_ret
  exact ⟨by go_num, B9.out _⟩
theorem ints_walk (n : Int) (w : World) (hb : -9223372036854775808 ≤ n ∧ n ≤ 9223372036854775807) (ht : LayA w) :
    Calls Tryz.prog 7 #[.int .i64 n] w fun e w' => e = .returned (.bool true) ∧ Below w.heap.size w w' := by
  by_cases h : n < 0
  · exact ints_neg n w ht hb.1 h
  · exact ints_pos n w ht (by omega) hb.2
end Go.Proofs.YtkplokfcjjcpcaaGreatDoor
