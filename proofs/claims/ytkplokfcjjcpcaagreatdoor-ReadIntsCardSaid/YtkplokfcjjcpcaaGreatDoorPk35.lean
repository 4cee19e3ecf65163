/- Joined texts: RdD RdB RdE RdF RdG. Conditions: as each states. -/
import Derived.Test.YtkplokfcjjcpcaaGreatDoorPk09
import Derived.Lib.ItoaNum
import Derived.Test.YtkplokfcjjcpcaaGreatDoorPk32
import Derived.Test.YtkplokfcjjcpcaaGreatDoorPk13
section
namespace Go.Proofs.YtkplokfcjjcpcaaGreatDoor
open Go Go.RowKit
theorem dec_small {u : Nat} (h : u < 10) : Lib.decDigits u = [UInt8.ofNat (48 + u)] := by rw [Lib.decDigits, dif_pos h]
theorem dec_big {u : Nat} (h : ¬ u < 10) : Lib.decDigits u = Lib.decDigits (u / 10) ++ [UInt8.ofNat (48 + u % 10)] := by rw [Lib.decDigits, dif_neg h]
theorem dig_byte {k : Nat} (h : k < 10) : digitZ ((UInt8.ofNat (48 + k)).toNat : Int) = k := by
  have h1 : (UInt8.ofNat (48 + k)).toNat = 48 + k := by
    rw [UInt8.toNat_ofNat']
    omega
  rw [h1]
  unfold digitZ
  rw [if_pos (by omega)]
  omega
theorem fold_dec : ∀ (n u : Nat), u ≤ n → u ≤ 9223372036854775808 → foldP 10 (Lib.decDigits u) = ((u : Int), false) ∧ (∀ x ∈ Lib.decDigits u, ∃ d, d < 10 ∧ x = UInt8.ofNat (48 + d)) ∧ Lib.decDigits u ≠ [] := by
  intro n
  induction n with
  | zero =>
    intro u hu h
    obtain rfl : u = 0 := by omega
    rw [dec_small (by omega)]
    exact ⟨by decide +kernel, fun x hx => ⟨0, by omega, by simpa using hx⟩, by simp⟩
  | succ n ih =>
    intro u hu h
    by_cases h1 : u < 10
    · rw [dec_small h1]
      refine ⟨?_, fun x hx => ⟨u, h1, by simpa using hx⟩, by simp⟩
      have e1 : foldP 10 [UInt8.ofNat (48 + u)] = stepP 10 (0, false) (UInt8.ofNat (48 + u)) := rfl
      rw [e1]
      unfold stepP
      rw [dig_byte h1]
      rw [IntKind.wrap_u64, IntKind.wrap_u64]
      simp
      omega
    · rw [dec_big h1]
      obtain ⟨g1, g2, g3⟩ := ih (u / 10) (by omega) (by omega)
      have h2 : u % 10 < 10 := Nat.mod_lt _ (by omega)
      refine ⟨?_, fun x hx => ?_, by simp⟩
      · rw [foldP_snoc, g1]
        unfold stepP
        rw [dig_byte h2, IntKind.wrap_u64, IntKind.wrap_u64]
        simp
        omega
      · rcases List.mem_append.1 hx with hx | hx
        · exact g2 x hx
        · exact ⟨u % 10, h2, by simpa using hx⟩
structure Digs (D : List UInt8) (v : Int) : Prop where
  all : ∀ x ∈ D, ∃ d, d < 10 ∧ x = UInt8.ofNat (48 + d)
  ne : D ≠ []
  val : parseR 10 D = (v, 0)
theorem digs_dec (u : Nat) (h : u ≤ 9223372036854775808) : Digs (Lib.decDigits u) (wrap64 u) := by
  obtain ⟨g1, g2, g3⟩ := fold_dec u u (Nat.le_refl _) h
  refine ⟨g2, g3, ?_⟩
  have hb : digitsB 10 (Lib.decDigits u) = true := by
    unfold digitsB
    rw [List.all_eq_true]
    intro x hx
    obtain ⟨d, hd, rfl⟩ := g2 x hx
    rw [dig_byte hd]
    simp
    omega
  unfold parseR
  rw [if_neg (by omega), if_neg g3, hb, if_neg (by simp), g1]
  simp
theorem dig10 : ∀ d : Fin 10, sortZ ((UInt8.ofNat (48 + d.val)).toNat : Int) = 4 ∧ UInt8.ofNat (48 + d.val) ≠ 120 ∧ UInt8.ofNat (48 + d.val) ≠ 111 ∧ UInt8.ofNat (48 + d.val) ≠ 98 ∧ UInt8.ofNat (48 + d.val) ≠ 39 ∧ UInt8.ofNat (48 + d.val) ≠ 10 ∧ UInt8.ofNat (48 + d.val) ≠ 40 ∧ digZ 10 ((UInt8.ofNat (48 + d.val)).toNat : Int) = true ∧ signZ ((UInt8.ofNat (48 + d.val)).toNat : Int) = false := by decide +kernel
theorem Digs.at {D : List UInt8} {v : Int} (h : Digs D v) {x : UInt8} (hx : x ∈ D) : sortZ (x.toNat : Int) = 4 ∧ x ≠ 120 ∧ x ≠ 111 ∧ x ≠ 98 ∧ x ≠ 39 ∧ x ≠ 10 ∧ x ≠ 40 ∧ digZ 10 (x.toNat : Int) = true ∧ signZ (x.toNat : Int) = false := by
  obtain ⟨d, hd, rfl⟩ := h.all x hx
  exact dig10 ⟨d, hd⟩
theorem bl_fin : ∀ k : Fin 256, sortZ ((UInt8.ofNat k.val).toNat : Int) = 1 → UInt8.ofNat k.val ≠ 120 ∧ UInt8.ofNat k.val ≠ 111 ∧ UInt8.ofNat k.val ≠ 98 ∧ UInt8.ofNat k.val ≠ 39 ∧ digZ 10 ((UInt8.ofNat k.val).toNat : Int) = false := by decide +kernel
theorem bl_no {c : UInt8} (h : blankB c) : c ≠ 120 ∧ c ≠ 111 ∧ c ≠ 98 ∧ c ≠ 39 ∧ digZ 10 (c.toNat : Int) = false := by
  have := bl_fin ⟨c.toNat, c.toNat_lt⟩
  simp only [UInt8.ofNat_toNat] at this
  exact this h
theorem num_tok {D r : List UInt8} {c : UInt8} {v : Int} (h : Digs D v) (hc : blankB c) : tokT (D ++ c :: r) = some (⟨3, v, []⟩, D.length) := by
  obtain ⟨c1, c2, c3, c4, c5⟩ := bl_no hc
  have hrun : runB (digZ 10) (D ++ c :: r) = D.length := runB_app (fun x hx => (h.at hx).2.2.2.2.2.2.2.1) c5
  have hdig : digitsT 0 10 (D ++ c :: r) = some (⟨3, v, []⟩, D.length) := by
    unfold digitsT
    rw [List.drop_zero, hrun, List.take_left, h.val]
    simp [h.ne]
  rcases D with _ | ⟨x, D⟩
  · exact absurd rfl h.ne
  · obtain ⟨x0, x1, x2, x3, x4, _⟩ := h.at (x := x) (by simp)
    have two : ∀ b : UInt8, (b = 120 ∨ b = 111 ∨ b = 98 ∨ b = 39) → Lib.hasPrefix (x :: D ++ c :: r) [48, b] = false := fun b hb => by
      rcases D with _ | ⟨y, D⟩
      · refine pre_two ?_
        rcases hb with rfl | rfl | rfl | rfl
        · exact c1
        · exact c2
        · exact c3
        · exact c4
      · obtain ⟨_, y1, y2, y3, y4, _⟩ := h.at (x := y) (by simp)
        refine pre_two ?_
        rcases hb with rfl | rfl | rfl | rfl
        · exact y1
        · exact y2
        · exact y3
        · exact y4
    have hnum : numberT (x :: D ++ c :: r) = some (⟨3, v, []⟩, (x :: D).length) := by
      unfold numberT
      rw [two 120 (by simp), two 111 (by simp), two 98 (by simp), two 39 (by simp), if_neg (by decide), if_neg (by decide), if_neg (by decide), if_neg (by decide)]
      exact hdig
    exact tok_number (stop_sort x0 (by decide)) (letters_sort x0 (by decide)) (signs_sort x0 (by decide)) (alone_sort x0 (by decide)) (letters_sort x0 (by decide)) hnum
theorem Digs.nl {D : List UInt8} {v : Int} (h : Digs D v) : nlC D = 0 := nlC_zero fun _ hx => (h.at hx).2.2.2.2.2.1
end Go.Proofs.YtkplokfcjjcpcaaGreatDoor
end
section
namespace Go.Proofs.YtkplokfcjjcpcaaGreatDoor
open Go Go.RowKit Go.Maps Trm
attribute [local go_sem ↓] Go.wp_at_zero Go.wp_at_succ
def exT : List Tok := [⟨1, 1, 0, [97], false, false⟩, ⟨1, 1, 0, [58, 45], false, false⟩, ⟨1, 1, 0, [98], false, false⟩, ⟨6, 1, 0, [44], false, true⟩, ⟨1, 1, 0, [92, 43], false, false⟩, ⟨1, 1, 0, [99], false, false⟩, ⟨7, 1, 0, [], false, true⟩, ⟨1, 1, 0, [45], false, false⟩, ⟨3, 1, 1, [], false, false⟩, ⟨7, 1, 0, [], false, true⟩, ⟨1, 1, 0, [45], false, false⟩, ⟨3, 1, 1, [], false, true⟩, ⟨7, 1, 0, [], false, true⟩, ⟨6, 1, 0, [91], false, false⟩, ⟨1, 1, 0, [97], false, true⟩, ⟨6, 1, 0, [124], false, true⟩, ⟨4, 1, 0, [84], false, true⟩, ⟨6, 1, 0, [93], false, true⟩, ⟨7, 1, 0, [], false, true⟩, ⟨0, 1, 0, [], false, false⟩]
theorem ex_lex : lexN [97, 32, 58, 45, 32, 98, 44, 32, 92, 43, 32, 99, 46, 32, 45, 32, 49, 46, 32, 45, 49, 46, 32, 91, 97, 124, 84, 93, 46] 1 0 = ⟨exT, 0, 0⟩ := by kernel_rfl
def exC1 : Tm := compT ⟨#[58, 45]⟩ [atmT ⟨#[97]⟩, compT ⟨#[44]⟩ [atmT ⟨#[98]⟩, compT ⟨#[92, 43]⟩ [atmT ⟨#[99]⟩]]]
theorem ex_1 : readZ Ops.firstL exT 0 = (⟨exC1, [], 1, 7⟩, 0) := by kernel_rfl
theorem ex_2 : readZ Ops.firstL exT 7 = (⟨compT ⟨#[45]⟩ [intT 1], [], 1, 10⟩, 0) := by kernel_rfl
theorem ex_3 : readZ Ops.firstL exT 10 = (⟨intT (-1), [], 1, 13⟩, 0) := by kernel_rfl
theorem ex_4 : readZ Ops.firstL exT 13 = (⟨compT ⟨#[46]⟩ [atmT ⟨#[97]⟩, varT 0], [(⟨#[84]⟩, 0)], 1, 19⟩, 0) := by kernel_rfl
theorem ex_5 : readZ Ops.firstL exT 19 = (⟨nilTm, [], 0, 0⟩, 7) := by kernel_rfl
theorem ex_ok : TkOk exT := by
  have h := lex_ok (l := [97, 32, 58, 45, 32, 98, 44, 32, 92, 43, 32, 99, 46, 32, 45, 32, 49, 46, 32, 45, 49, 46, 32, 91, 97, 124, 84, 93, 46]) (by decide)
  rw [ex_lex] at h
  exact h
theorem atom6_is (s : ByteArray) (w : World) : Calls Tryz.prog 42 #[.string s] w fun e w' => e = .returned (.agg #[.int .i64 3, .int .i64 0, .string s, .slice none 0 0]) ∧ Below w.heap.size w w' := by
  have BA := Lib.hid (fun o => (Below.refl w.heap.size w).alloc (Nat.le_refl _) o)
  go_enter Tryz.func42, Tryz.ntmps42
  go_wp2_with fail
  refine bodyPost_ret (results_cell_row rfl _ _ w.heap.size 34 _ _ _ rfl (heap_alloc_new _ _) Tryz.underlying34 rfl termInfo) rfl ?_
  exact ⟨rfl, BA.out _⟩
def At (w : World) (H : Nat) (c : Array Value) (T : TypeId) : Prop := w.heap[H]? = some (.cells c T (0, 0))
theorem At.on {w w' : World} {H : Nat} {c : Array Value} {T : TypeId} (h : At w H c T) (b : Below w.heap.size w w') : At w' H c T := (b.block _ (heap_lt h)).trans h
theorem At.new (w : World) (c : Array Value) (T : TypeId) : At (w.alloc (.cells c T)) w.heap.size c T := heap_alloc_new _ _
theorem al1 (w : World) (o : Obj) : Below w.heap.size w (w.alloc o) := (Below.refl _ _).alloc (Nat.le_refl _) o
theorem at4_1 (w : World) (c : Array Value) (T : TypeId) (o2 o3 o4 : Obj) : At ((((w.alloc (.cells c T)).alloc o2).alloc o3).alloc o4) w.heap.size c T := (At.new w c T).on (bt (bt (al1 _ o2) (al1 _ o3)) (al1 _ o4))
theorem at4_2 (w : World) (c : Array Value) (T : TypeId) (o1 o3 o4 : Obj) : At ((((w.alloc o1).alloc (.cells c T)).alloc o3).alloc o4) (w.heap.size + 1) c T := by
  have h := (At.new (w.alloc o1) c T).on (bt (al1 _ o3) (al1 _ o4))
  simpa using h
theorem at4_3 (w : World) (c : Array Value) (T : TypeId) (o1 o2 o4 : Obj) : At ((((w.alloc o1).alloc o2).alloc (.cells c T)).alloc o4) (w.heap.size + 1 + 1) c T := by
  have h := (At.new ((w.alloc o1).alloc o2) c T).on (al1 _ o4)
  simpa using h
def wantA (g1 g2 g3 : Nat) : AT := .mk 4 0 ⟨#[58, 45]⟩ (.slice (some ⟨g3, 0, none⟩) 2 2) g3 0 [.mk 3 0 ⟨#[97]⟩ (.slice none 0 0) 0 0 [], .mk 4 0 ⟨#[44]⟩ (.slice (some ⟨g2, 0, none⟩) 2 2) g2 0 [.mk 3 0 ⟨#[98]⟩ (.slice none 0 0) 0 0 [], .mk 4 0 ⟨#[92, 43]⟩ (.slice (some ⟨g1, 0, none⟩) 1 1) g1 0 [.mk 3 0 ⟨#[99]⟩ (.slice none 0 0) 0 0 []]]]
theorem want_mem {w : World} {g1 g2 g3 : Nat} (h1 : At w g1 #[.int .i64 3, .int .i64 0, .string ⟨#[99]⟩, .slice none 0 0] 34)
    (h2 : At w g2 #[.int .i64 3, .int .i64 0, .string ⟨#[98]⟩, .slice none 0 0, .int .i64 4, .int .i64 0, .string ⟨#[92, 43]⟩, .slice (some ⟨g1, 0, none⟩) 1 1] 34)
    (h3 : At w g3 #[.int .i64 3, .int .i64 0, .string ⟨#[97]⟩, .slice none 0 0, .int .i64 4, .int .i64 0, .string ⟨#[44]⟩, .slice (some ⟨g2, 0, none⟩) 2 2] 34) : (wantA g1 g2 g3).mem w := by
  have hd : ∀ {g : Nat} {c : Array Value} (h : At w g c 34) (o : Nat) (t : AT), c[o]? = some (.int .i64 t.k) → c[o + 1]? = some (.int .i64 t.n) → c[o + 2]? = some (.string t.s) → c[o + 3]? = some t.sv → Head w g o t := fun h o t a b c d => ⟨⟨_, _, h⟩, cell_of_heap h a, cell_of_heap h b, cell_of_heap h c, cell_of_heap h d⟩
  have nl : ∀ (k n : Int) (s : ByteArray), (AT.mk k n s (.slice none 0 0) 0 0 []).mem w := fun _ _ _ => ⟨.inl ⟨rfl, rfl⟩, trivial⟩
  have sl : ∀ (g n : Nat), n ≤ 2 → SvOk (.slice (some ⟨g, 0, none⟩) n n) g 0 n := fun g n hn => .inr ⟨n, rfl, Nat.le_refl _, by unfold maxLen; omega⟩
  refine ⟨sl g3 2 (by omega), hd h3 0 _ rfl rfl rfl rfl, nl _ _ _, hd h3 4 _ rfl rfl rfl rfl, ⟨sl g2 2 (by omega), hd h2 0 _ rfl rfl rfl rfl, nl _ _ _, hd h2 4 _ rfl rfl rfl rfl, ⟨sl g1 1 (by omega), hd h1 0 _ rfl rfl rfl rfl, nl _ _ _, trivial⟩, trivial⟩, trivial⟩
theorem names_at {w w' : World} {b nk : Nat} {na : Option Addr} {s : ByteArray} {n : Int} (h : w.ownsRow b 59 2 (.slice na [(s, n)].length nk) [(s, n)].length (bindCells [(s, n)])) (k : Below w.heap.size w w') : ∃ g, na = some ⟨g, 0, none⟩ ∧ 1 ≤ nk ∧ nk ≤ 9223372036854775807 ∧ g < w'.heap.size ∧ w'.cell? ⟨g, 0, none⟩ = some (.string s) ∧ w'.cell? ⟨g, 1, none⟩ = some (.int .i64 n) := by
  obtain ⟨h1, ⟨_, h0⟩ | ⟨g, cap, cur, hv, h2, h3, h4, h5, h6, h7⟩⟩ := h
  · simp at h0
  · simp only [List.length_cons, List.length_nil, Value.slice.injEq, true_and] at hv
    obtain ⟨rfl, rfl⟩ := hv
    have hc : ∀ j u, (bindCells [(s, n)])[j]? = some u → w'.cell? ⟨g, j, none⟩ = some u := fun j u hu => by
      rw [k.cell (p := ⟨g, j, none⟩) (heap_lt h3)]
      refine cell_of_heap h3 ?_
      have hj : j < [(s, n)].length * 2 := (List.getElem?_eq_some_iff.1 hu).1
      have e := congrArg (fun l : List Value => l[j]?) h7
      simp only [List.getElem?_take] at e
      rw [if_pos hj, hu] at e
      simpa using e
    exact ⟨g, rfl, h4, by unfold maxLen at h5; omega, Nat.lt_of_lt_of_le (heap_lt h3) k.size, hc 0 _ rfl, hc 1 _ rfl⟩
set_option maxRecDepth 100000 in
set_option maxHeartbeats 6400000 in
theorem alive6_is (w : World) (ht : LayA w) :
    Calls Tryz.prog 14 #[] w fun e w' => e = .returned (.bool true) ∧ Below w.heap.size w w' := by
  have LX := Lib.hid (lex_tks ⟨#[97, 32, 58, 45, 32, 98, 44, 32, 92, 43, 32, 99, 46, 32, 45, 32, 49, 46, 32, 45, 49, 46, 32, 91, 97, 124, 84, 93, 46]⟩ ⟨exT, 0, 0⟩ ex_lex 20 rfl (by decide) w ht)
  have NW := Lib.hid (fun w1 (b1 : Below w.heap.size w w1) => new_tab w1 (ht.on b1))
  clear ht
  go_enter Tryz.func14, Tryz.ntmps14
  go_wp2_with fail
  refine LX.out.mono ?_
  rintro e w1 ⟨ad, cap, rfl, t1, b1⟩
  have N1 := Lib.hid (NW.out w1 b1)
  have T1 := Lib.hid t1
  have B1 := Lib.hid b1
  clear t1 b1 LX NW
  go_wp2_with fail
  refine N1.out.mono ?_
  rintro e w2 ⟨rfl, hm, b2⟩
  have RD := Lib.hid (show RdAt w2 (.slice ad 20 cap) w1.heap.size Ops.firstL exT from ⟨hm, T1.out.on b2, ex_ok⟩)
  have B2 := Lib.hid (bt B1.out b2)
  have R1 := Lib.hid (RD.out.lit ad 20 cap rfl 0 (by omega) ex_1 4 0 ⟨#[58, 45]⟩ 2 rfl)
  have R2 := Lib.hid (fun w3 (b3 : Below w2.heap.size w2 w3) => (RD.out.on b3).lit ad 20 cap rfl 7 (by omega) ex_2 4 0 ⟨#[45]⟩ 1 rfl)
  have R3 := Lib.hid (fun w3 (b3 : Below w2.heap.size w2 w3) => (RD.out.on b3).lit ad 20 cap rfl 10 (by omega) ex_3 2 (-1) ⟨#[]⟩ 0 rfl)
  have R4 := Lib.hid (fun w3 (b3 : Below w2.heap.size w2 w3) => (RD.out.on b3).lit ad 20 cap rfl 13 (by omega) ex_4 4 0 ⟨#[46]⟩ 2 rfl)
  have R5 := Lib.hid (fun w3 (b3 : Below w2.heap.size w2 w3) => (RD.out.on b3).lit ad 20 cap rfl 19 (by omega) ex_5 0 0 ⟨#[]⟩ 0 rfl)
  clear hm b2 N1 T1 B1 RD
  go_wp2_with fail
  refine R1.out.mono ?_
  rintro e w3 ⟨x1, a1, na1, k1, nk1, rfl, hx1, _, b3⟩
  have X1 := Lib.hid hx1
  have C3 := Lib.hid b3
  have R2' := Lib.hid (fun o => R2.out _ (bt b3 (al1 w3 o)))
  clear hx1 b3 R1 R2
  go_wp2_with fail
  refine (R2'.out _).mono ?_
  rintro e w4 ⟨x2, a2, na2, k2, nk2, rfl, _, _, b4⟩
  have D4 := Lib.hid (bt C3.out (bt (al1 w3 _) b4))
  have B34 := Lib.hid (bt (al1 w3 _) b4)
  have P4 := Lib.hid (((At.new w3 #[.int .i64 4, .int .i64 0, .string ⟨#[58, 45]⟩, .slice a1 2 k1, .slice na1 0 nk1, .int .i64 1, .int .i64 7] 37).on b4))
  have R3' := Lib.hid (fun o => R3.out _ (bt D4.out (al1 w4 o)))
  clear b4 R2' R3
  go_wp2_with fail
  refine (R3'.out _).mono ?_
  rintro e w5 ⟨x3, a3, na3, k3, nk3, rfl, _, _, b5⟩
  have D5 := Lib.hid (bt D4.out (bt (al1 w4 _) b5))
  have B35 := Lib.hid (bt B34.out (bt (al1 w4 _) b5))
  have P5 := Lib.hid (P4.out.on (bt (al1 w4 _) b5))
  have Q5 := Lib.hid (((At.new w4 #[.int .i64 4, .int .i64 0, .string ⟨#[45]⟩, .slice a2 1 k2, .slice na2 0 nk2, .int .i64 1, .int .i64 10] 37).on b5))
  have R4' := Lib.hid (fun o => R4.out _ (bt D5.out (al1 w5 o)))
  clear b5 R3' R4 P4 D4
  go_wp2_with fail
  refine (R4'.out _).mono ?_
  rintro e w6 ⟨x4, a4, na4, k4, nk4, rfl, _, hr4, b6⟩
  have D6 := Lib.hid (bt D5.out (bt (al1 w5 _) b6))
  have B36 := Lib.hid (bt B35.out (bt (al1 w5 _) b6))
  have P6 := Lib.hid (P5.out.on (bt (al1 w5 _) b6))
  have Q6 := Lib.hid (Q5.out.on (bt (al1 w5 _) b6))
  have S6 := Lib.hid (((At.new w5 #[.int .i64 2, .int .i64 (-1), .string ⟨#[]⟩, .slice a3 0 k3, .slice na3 0 nk3, .int .i64 1, .int .i64 13] 37).on b6))
  have HR4 := Lib.hid hr4
  have R5' := Lib.hid (fun o => R5.out _ (bt D6.out (al1 w6 o)))
  clear b6 R4' R5 P5 Q5 D5 hr4
  go_wp2_with fail
  refine (R5'.out _).mono ?_
  rintro e w7 ⟨x5, a5, na5, k5, nk5, rfl, _, _, b7⟩
  have D7 := Lib.hid (bt D6.out (bt (al1 w6 _) b7))
  have B37 := Lib.hid (bt B36.out (bt (al1 w6 _) b7))
  have P7 := Lib.hid (P6.out.on (bt (al1 w6 _) b7))
  have Q7 := Lib.hid (Q6.out.on (bt (al1 w6 _) b7))
  have S7 := Lib.hid (S6.out.on (bt (al1 w6 _) b7))
  have U7 := Lib.hid (((At.new w6 #[.int .i64 4, .int .i64 0, .string ⟨#[46]⟩, .slice a4 2 k4, .slice na4 1 nk4, .int .i64 1, .int .i64 19] 37).on b7))
  have HR7 := Lib.hid (fun w8 (b8 : Below w7.heap.size w7 w8) => names_at HR4.out (bt (bt (al1 w6 _) b7) b8))
  clear b7 R5' P6 Q6 S6 D6 HR4
  go_wp2_with fail
  refine (atom6_is _ _).mono ?_
  rintro e w8 ⟨rfl, b8⟩
  have E8 := Lib.hid (bt (al1 w7 _) b8)
  clear b8
  go_wp2_with fail
  refine (atom6_is _ _).mono ?_
  rintro e w9 ⟨rfl, b9⟩
  have E9 := Lib.hid (bt E8.out b9)
  clear b9 E8
  go_wp2_with fail
  refine (atom6_is _ _).mono ?_
  rintro e w10 ⟨rfl, b10⟩
  have E10 := Lib.hid (bt E9.out b10)
  clear b10 E9
  have L4 := Lib.hid (fun o1 o2 o3 o4 => show Below w10.heap.size w10 ((((w10.alloc o1).alloc o2).alloc o3).alloc o4) from bt (bt (bt (al1 w10 o1) (al1 _ o2)) (al1 _ o3)) (al1 _ o4))
  have p0 := fun o1 o2 o3 o4 => cell_of_heap (o := 0) (P7.out.on (bt E10.out (L4.out o1 o2 o3 o4))) rfl
  have p1 := fun o1 o2 o3 o4 => cell_of_heap (o := 1) (P7.out.on (bt E10.out (L4.out o1 o2 o3 o4))) rfl
  have p2 := fun o1 o2 o3 o4 => cell_of_heap (o := 2) (P7.out.on (bt E10.out (L4.out o1 o2 o3 o4))) rfl
  have p3 := fun o1 o2 o3 o4 => cell_of_heap (o := 3) (P7.out.on (bt E10.out (L4.out o1 o2 o3 o4))) rfl
  have SM := Lib.hid (fun W (bW : Below w7.heap.size w7 W) g1 g2 g3 (hy : (wantA g1 g2 g3).mem W) => show Calls Tryz.prog 27 #[.agg #[.int .i64 4, .int .i64 0, .string ⟨#[58, 45]⟩, .slice a1 2 k1], .agg #[.int .i64 4, .int .i64 0, .string ⟨#[58, 45]⟩, .slice (some ⟨g3, 0, none⟩) 2 2]] W (fun e w' => e = .returned (.bool true) ∧ Below W.heap.size W w') from by
    obtain ⟨s1, s2, s3, s4, s5, s6, s7, _⟩ := X1.out
    have b3W : Below w3.heap.size w3 W := bt B37.out bW
    have hx := AT.mem_below b3W (AT.ins_size _ s3) s3
    have := same_is 800000 x1 (wantA g1 g2 g3) W (by omega) hx hy (by show 6 ≤ 800000; omega) (by omega)
    rw [AT.same_erase x1 (wantA g1 g2 g3) (by rw [s2]; rfl)] at this
    unfold AT.val at this
    rw [s5, s6, s7, s1] at this
    exact this)
  go_wp2_with fail
  refine (SM.out _ (bt E10.out (L4.out _ _ _ _)) w10.heap.size (w10.heap.size + 1) (w10.heap.size + 1 + 1) ?_).mono ?_
  · exact want_mem (at4_1 _ _ _ _ _ _) (at4_2 _ _ _ _ _ _) (at4_3 _ _ _ _ _ _)
  rintro e w12 ⟨rfl, b12⟩
  have F12 := Lib.hid (bt (bt E10.out (L4.out _ _ _ _)) b12)
  obtain ⟨g, rfl, g1, g2, g3, g4, g5⟩ := HR7.out w12 F12.out
  have y0 := cell_of_heap (o := 0) (Q7.out.on F12.out) rfl
  have z0 := cell_of_heap (o := 0) (S7.out.on F12.out) rfl
  have z1 := cell_of_heap (o := 1) (S7.out.on F12.out) rfl
  have u4 := cell_of_heap (o := 4) (U7.out.on F12.out) rfl
  have HF := Lib.hid (bt B2.out (bt D7.out F12.out))
  clear p0 p1 p2 p3 b12 SM L4
  go_wp2_with fail
  go_ret
  exact ⟨rfl, HF.out⟩
end Go.Proofs.YtkplokfcjjcpcaaGreatDoor
end
section
namespace Go.Proofs.YtkplokfcjjcpcaaGreatDoor
open Go Go.RowKit Trm
def stopTok (tight : Bool) : Tok := ⟨7, 1, 0, [], false, tight⟩
def numTok (v : Int) (tight : Bool) : Tok := ⟨3, 1, v, [], false, tight⟩
def minTok (tight : Bool) : Tok := ⟨1, 1, 0, [45], false, tight⟩
theorem lex_stop (k : Nat) (hk : k < 16000) : lexN [32, 46] 1 k = ⟨[stopTok false, ⟨0, 1, 0, [], false, false⟩], 0, 0⟩ := by
  rw [lex_on (l := [32, 46]) (n := 1) (k := k) (j := 1) (r := [46]) (r' := []) (z := 1) (t := ⟨7, 0, []⟩) (n' := 1) (op := false) (by decide +kernel) rfl (by simp) (by kernel_rfl) rfl (by decide) rfl (by omega), lex_end (l := []) (n := 1) (k := k + 1) (j := 0) rfl rfl]
  rfl
theorem skip_zero {l : List UInt8} (h : gapN l = 0) : skipN l = 0 := by
  unfold skipN skipF
  rw [if_pos h]
theorem skip_D {D : List UInt8} {v : Int} (h : Digs D v) : skipN (D ++ [32, 46]) = 0 := by
  rcases hD : D with _ | ⟨x, E⟩
  · exact absurd hD h.ne
  · obtain ⟨x0, _⟩ := h.at (x := x) (by rw [hD]; simp)
    exact skip_zero (gap_sort x0 (by decide) (by decide) (pre_no (fun e => by subst e; revert x0; decide)))
theorem skip_min (r : List UInt8) : skipN (45 :: r) = 0 := skip_zero (gap_sort (k := 5) (by decide) (by decide) (by decide) (pre_no (by decide)))
theorem lex_D {D l : List UInt8} {v : Int} (h : Digs D v) (k j : Nat) (hk : k < 15000) (hj : skipN l = j) (hd : l.drop j = D ++ [32, 46]) (h0 : nlC (l.take j) = 0) : lexN l 1 k = ⟨[numTok v (decide (j = 0) && decide (0 < k)), stopTok false, ⟨0, 1, 0, [], false, false⟩], 0, 0⟩ := by
  have hn : nlC ((D ++ [32, 46]).take D.length) = 0 := by rw [List.take_left]; exact h.nl
  rw [lex_on (l := l) (n := 1) (k := k) (j := j) (r := D ++ [32, 46]) (r' := [32, 46]) (z := D.length) (t := ⟨3, v, []⟩) (n' := 1) (op := false) hj hd (by simp) (num_tok h b32) (by simp) (by rw [hn, h0]; rfl) rfl (by omega), lex_stop (k + 1) (by omega), h0]
  rfl
theorem lex_min {D l : List UInt8} {v : Int} (h : Digs D v) (k j : Nat) (hk : k < 14000) (hj : skipN l = j) (hd : l.drop j = 45 :: (D ++ [32, 46])) (h0 : nlC (l.take j) = 0) : lexN l 1 k = ⟨[minTok (decide (j = 0) && decide (0 < k)), numTok v true, stopTok false, ⟨0, 1, 0, [], false, false⟩], 0, 0⟩ := by
  rcases hD : D with _ | ⟨x, E⟩
  · exact absurd hD h.ne
  · obtain ⟨x0, _, _, _, _, _, x6, _, x8⟩ := h.at (x := x) (by rw [hD]; simp)
    have ht : tokT (45 :: (D ++ [32, 46])) = some (⟨1, 0, [45]⟩, 1) := by
      rw [hD, show (45 :: (x :: E ++ [32, 46]) : List UInt8) = [45] ++ x :: (E ++ [32, 46]) from rfl]
      exact tok_signs (stop_no (by decide)) (letters_sort (k := 5) (by decide) (by decide)) (signs_run (A := [45]) (c := x) (r := E ++ [32, 46]) (by decide) (by simp) (pre_no (by decide)) x8)
    have ho : Lib.hasPrefix (D ++ [32, 46]) [40] = false := by
      rw [hD]
      show [40].isPrefixOf (x :: (E ++ [32, 46])) = false
      simp [List.isPrefixOf, Ne.symm x6]
    rw [lex_on (l := l) (n := 1) (k := k) (j := j) (r := 45 :: (D ++ [32, 46])) (r' := D ++ [32, 46]) (z := 1) (t := ⟨1, 0, [45]⟩) (n' := 1) (op := false) hj hd (by simp) ht rfl (by rw [h0]; rfl) ho (by omega), lex_D h (k + 1) 0 (by omega) (skip_D h) rfl rfl, h0]
    simp [LexR.cons, minTok]
def aTok : Tok := ⟨1, 1, 0, [97], false, false⟩
theorem lex_op {l r : List UInt8} (k j : Nat) (hk : k < 14000) (hj : skipN l = j) (hd : l.drop j = 45 :: 32 :: r) (h0 : nlC (l.take j) = 0) : lexN l 1 k = (lexN (32 :: r) 1 (k + 1)).cons (minTok (decide (j = 0) && decide (0 < k))) := by
  have ht : tokT (45 :: 32 :: r) = some (⟨1, 0, [45]⟩, 1) := tok_signs (stop_no (by decide)) (letters_sort (k := 5) (by decide) (by decide)) (signs_run (A := [45]) (c := 32) (r := r) (by decide) (by simp) (pre_no (by decide)) (by decide))
  rw [lex_on (l := l) (n := 1) (k := k) (j := j) (r := 45 :: 32 :: r) (r' := 32 :: r) (z := 1) (t := ⟨1, 0, [45]⟩) (n' := 1) (op := false) hj hd (by simp) ht rfl (by rw [h0]; rfl) rfl (by omega), h0]
  rfl
theorem lex_a (r : List UInt8) : lexN (97 :: 32 :: r) 1 0 = (lexN (32 :: r) 1 1).cons aTok := by
  have ht : tokT (97 :: 32 :: r) = some (⟨1, 0, [97]⟩, 1) := tok_word (stop_no (by decide)) (letters_run (A := [97]) (r := 32 :: r) (by decide) ⟨97, [], rfl, by decide⟩ (.inr ⟨32, r, rfl, by decide⟩))
  rw [lex_on (l := 97 :: 32 :: r) (n := 1) (k := 0) (j := 0) (r := 97 :: 32 :: r) (r' := 32 :: r) (z := 1) (t := ⟨1, 0, [97]⟩) (n' := 1) (op := false) (skip_zero (gap_sort (k := 2) (by decide) (by decide) (by decide) (pre_no (by decide)))) rfl (by simp) ht rfl rfl rfl (by omega)]
  rfl
theorem skip_32 {l : List UInt8} (h : skipN l = 0) : skipN (32 :: l) = 1 := by rw [skip_blank b32, h]
def endTok1 : Tok := ⟨0, 1, 0, [], false, false⟩
theorem txt_x {D : List UInt8} {v : Int} (h : Digs D v) : lexN (D ++ [32, 46]) 1 0 = ⟨[numTok v false, stopTok false, endTok1], 0, 0⟩ := lex_D h 0 0 (by omega) (skip_D h) rfl rfl
theorem txt_w {D : List UInt8} {v : Int} (h : Digs D v) : lexN (45 :: (D ++ [32, 46])) 1 0 = ⟨[minTok false, numTok v true, stopTok false, endTok1], 0, 0⟩ := lex_min h 0 0 (by omega) (skip_min _) rfl rfl
theorem txt_z {D : List UInt8} {v : Int} (h : Digs D v) : lexN (45 :: 32 :: (D ++ [32, 46])) 1 0 = ⟨[minTok false, numTok v false, stopTok false, endTok1], 0, 0⟩ := by
  rw [lex_op 0 0 (by omega) (skip_min _) rfl rfl, lex_D h 1 1 (by omega) (skip_32 (skip_D h)) rfl rfl]
  rfl
theorem txt_y {D : List UInt8} {v : Int} (h : Digs D v) : lexN (97 :: 32 :: 45 :: 32 :: (D ++ [32, 46])) 1 0 = ⟨[aTok, minTok false, numTok v false, stopTok false, endTok1], 0, 0⟩ := by
  rw [lex_a, lex_op 1 1 (by omega) (skip_32 (skip_min _)) rfl rfl, lex_D h 2 1 (by omega) (skip_32 (skip_D h)) rfl rfl]
  rfl
theorem txt_yn {D : List UInt8} {v : Int} (h : Digs D v) : lexN (97 :: 32 :: 45 :: 32 :: 45 :: (D ++ [32, 46])) 1 0 = ⟨[aTok, minTok false, minTok false, numTok v true, stopTok false, endTok1], 0, 0⟩ := by
  rw [lex_a, lex_op 1 1 (by omega) (skip_32 (skip_min _)) rfl rfl, lex_min h 2 1 (by omega) (skip_32 (skip_min _)) rfl rfl]
  rfl
theorem rd_x (m : Nat) : readZ Ops.firstL [numTok m false, stopTok false, endTok1] 0 = (⟨intT m, [], 1, 2⟩, 0) := by kernel_rfl
theorem rd_w (v : Int) : readZ Ops.firstL [minTok false, numTok v true, stopTok false, endTok1] 0 = (⟨intT (wrap64 (-v)), [], 1, 3⟩, 0) := by kernel_rfl
theorem rd_z (m : Nat) : readZ Ops.firstL [minTok false, numTok m false, stopTok false, endTok1] 0 = (⟨compT ⟨#[45]⟩ [intT m], [], 1, 3⟩, 0) := by kernel_rfl
theorem rd_y (m : Nat) : readZ Ops.firstL [aTok, minTok false, numTok m false, stopTok false, endTok1] 0 = (⟨compT ⟨#[45]⟩ [atmT ⟨#[97]⟩, intT m], [], 1, 4⟩, 0) := by kernel_rfl
theorem rd_yn (v : Int) : readZ Ops.firstL [aTok, minTok false, minTok false, numTok v true, stopTok false, endTok1] 0 = (⟨compT ⟨#[45]⟩ [atmT ⟨#[97]⟩, intT (wrap64 (-v))], [], 1, 5⟩, 0) := by kernel_rfl
end Go.Proofs.YtkplokfcjjcpcaaGreatDoor
end
section
namespace Go.Proofs.YtkplokfcjjcpcaaGreatDoor
open Go Go.RowKit Go.Maps Trm
attribute [local go_sem ↓] Go.wp_at_zero Go.wp_at_succ
def OnePost (w : World) (k m : Int) (s : ByteArray) (z : Nat) (u : Tm) (e : Ending) (w' : World) : Prop :=
  ∃ (t : AT) (ad : Option Addr) (kk : Nat), e = .returned (.tuple #[.agg #[.int .i64 k, .int .i64 m, .string s, .slice ad z kk], .bool true]) ∧ (t.sv = .slice ad z kk ∧ t.erase = u ∧ t.mem w' ∧ t.l.length = z) ∧ Below w.heap.size w w'
set_option maxRecDepth 100000 in
set_option maxHeartbeats 3200000 in
theorem one_is (x : ByteArray) (toks : List Tok) (hx : lexN (x.data.toList ++ [32, 46]) 1 0 = ⟨toks, 0, 0⟩) (u : Tm) (nx : Int) (hr : readZ Ops.firstL toks 0 = (⟨u, [], 1, nx⟩, 0)) (k m : Int) (s : ByteArray) (z : Nat) (hh : u.hd = ⟨k, m, s, z⟩) (hnz : u.nz) (hsz : x.size ≤ 100) (w : World) (ht : LayA w) :
    Calls Tryz.prog 28 #[.string x] w (OnePost w k m s z u) := by
  have hl : (x ++ ⟨#[32, 46]⟩ : ByteArray).data.toList = x.data.toList ++ [32, 46] := by simp
  have hok : TkOk toks := by
    have h := lex_ok (l := x.data.toList ++ [32, 46]) (by rw [List.length_append, ← Lib.size_eq]; simp; omega)
    rw [hx] at h
    exact h
  obtain ⟨n, hn⟩ : ∃ n, toks.length = n := ⟨_, rfl⟩
  have LX := Lib.hid (fun w1 (b1 : Below w.heap.size w w1) => lex_tks (x ++ ⟨#[32, 46]⟩) ⟨toks, 0, 0⟩ (by rw [hl]; exact hx) n hn (by rw [Lib.size_eq, hl, List.length_append, ← Lib.size_eq]; simp; omega) w1 (ht.on b1))
  have NW := Lib.hid (fun w1 (b1 : Below w.heap.size w w1) => new_tab w1 (ht.on b1))
  have RL := Lib.hid (fun (w2 : World) (a : Nat) (ad : Option Addr) (cap : Nat) (hm : ∃ m, Tab' w2 a m Ops.firstL) (t2 : Tks w2 (.slice ad n cap) toks) => (show RdAt w2 (.slice ad n cap) a Ops.firstL toks from ⟨hm, t2, hok⟩).lit ad n cap rfl 0 (by omega) hr k m s z hh)
  have HNZ := Lib.hid hnz
  have BA := Lib.hid (al1 w (.cells #[.int .i64 0, .int .i64 0, .string ⟨#[]⟩, .slice none 0 0] 34))
  have YA := Lib.hid (At.new w #[.int .i64 0, .int .i64 0, .string ⟨#[]⟩, .slice none 0 0] 34)
  obtain ⟨S, hS⟩ : ∃ S : ByteArray, x ++ ⟨#[32, 46]⟩ = S := ⟨_, rfl⟩
  rw [hS] at LX
  have hlt : ¬ 9223372036854775807 < x.size + 2 := by omega
  clear ht hx hr hh hnz hsz hl hok hn
  obtain ⟨w0, hw0⟩ : ∃ w0, w.alloc (.cells #[.int .i64 0, .int .i64 0, .string ⟨#[]⟩, .slice none 0 0] 34) = w0 := ⟨_, rfl⟩
  rw [hw0] at BA YA
  have L0 := Lib.hid (LX.out w0 BA.out)
  go_enter Tryz.func28, Tryz.ntmps28
  go_wp2_with fail
  refine L0.out.mono ?_
  rintro e w1 ⟨ad, cap, rfl, t1, b1⟩
  have T1 := Lib.hid t1
  have B1 := Lib.hid b1
  have N1 := Lib.hid (NW.out w1 (bt BA.out b1))
  clear t1 b1 L0 LX NW
  go_wp2_with fail
  refine N1.out.mono ?_
  rintro e w2 ⟨rfl, hm, b2⟩
  have R2 := Lib.hid (RL.out w2 w1.heap.size ad cap hm (T1.out.on b2))
  have B2 := Lib.hid (bt B1.out b2)
  clear hm b2 N1 RL T1 B1
  go_wp2_with fail
  refine R2.out.mono ?_
  rintro e w3 ⟨t, ta, na, kk, nk, rfl, ⟨t1, t2, t3, _, _, _, _, t8⟩, _, b3⟩
  have B3 := Lib.hid (fun o => bt B2.out (bt b3 (al1 w3 o)))
  have YY := Lib.hid (fun o => YA.out.on (B3.out o))
  have y0 := fun o => cell_of_heap (o := 0) (YY.out o) rfl
  have y1 := fun o => cell_of_heap (o := 1) (YY.out o) rfl
  have y2 := fun o => cell_of_heap (o := 2) (YY.out o) rfl
  have y3 := fun o => cell_of_heap (o := 3) (YY.out o) rfl
  have f0 := fun o => free_of_heap (o := 0) (YY.out o)
  have f1 := fun o => free_of_heap (o := 1) (YY.out o)
  have f2 := fun o => free_of_heap (o := 2) (YY.out o)
  have f3 := fun o => free_of_heap (o := 3) (YY.out o)
  have HT := Lib.hid (show t.sv = .slice ta z kk ∧ t.erase = u ∧ t.mem w3 ∧ t.l.length = z from ⟨t1, t2, t3, t8⟩)
  clear t1 t2 t3 t8 b3 R2 B2
  go_wp2_with fail
  refine bodyPost_ret (results_cell_tmp rfl _ _ w.heap.size 34 _ _ _ rfl (four_heap (YY.out _) _ _ _ _) Tryz.underlying34 rfl termInfo rfl) rfl ?_
  obtain ⟨t1, t2, t3, t8⟩ := HT.out
  have b4 := al1 w3 (.cells #[.int .i64 k, .int .i64 m, .string s, .slice ta z kk, .slice na 0 nk, .int .i64 1, .int .i64 nx] 37)
  have t4 := AT.mem_below b4 (AT.ins_size _ t3) t3
  have t5 := AT.off_x (YY.out _) t (by rw [t2]; exact HNZ.out) t4
  have hB := four_below (bt BA.out (B3.out (.cells #[.int .i64 k, .int .i64 m, .string s, .slice ta z kk, .slice na 0 nk, .int .i64 1, .int .i64 nx] 37))) (Nat.le_refl w.heap.size) (.int .i64 k) (.int .i64 m) (.string s) (.slice ta z kk)
  refine ⟨t, ta, kk, rfl, ⟨t1, t2, AT.mem_same (S := fun j => j ≠ w.heap.size) (fun j hj => ?_) t t5 t4, t8⟩, hB⟩
  rw [heap_set_ne hj, heap_set_ne hj, heap_set_ne hj, heap_set_ne hj]
end Go.Proofs.YtkplokfcjjcpcaaGreatDoor
end
section
namespace Go.Proofs.YtkplokfcjjcpcaaGreatDoor
open Go Go.RowKit Go.Maps Trm
attribute [local go_sem ↓] Go.wp_at_zero Go.wp_at_succ
theorem dec_len : ∀ (n u : Nat), u < 10 ^ (n + 1) → (Lib.decDigits u).length ≤ n + 1
  | 0, u, h => by
    rw [dec_small (by simpa using h)]
    simp
  | n + 1, u, h => by
    by_cases h1 : u < 10
    · rw [dec_small h1]
      simp
    · rw [dec_big h1, List.length_append]
      have := dec_len n (u / 10) (by rw [Nat.pow_succ] at h; omega)
      simp
      omega
theorem itoa_len {n : Int} (h0 : -9223372036854775808 ≤ n) (h1 : n ≤ 9223372036854775807) : (Lib.itoa n).length ≤ 21 := by
  unfold Lib.itoa
  split
  · have := dec_len 19 n.natAbs (by omega)
    simp
    omega
  · have := dec_len 19 n.toNat (by omega)
    omega
theorem second {w : World} {t : AT} {ad : Option Addr} {kk : Nat} {a b : Tm} {s : ByteArray} (h1 : t.sv = .slice ad 2 kk) (h2 : t.erase = compT s [a, b]) (h3 : t.mem w) (h4 : t.l.length = 2) : ∃ G off, ad = some ⟨G, off, none⟩ ∧ 2 ≤ kk ∧ kk ≤ 9223372036854775807 ∧ w.cell? ⟨G, off + 5, none⟩ = some (.int .i64 b.hd.n) := by
  obtain ⟨g1, g2⟩ := AT.mem_mk.1 h3
  rw [h4, h1] at g1
  rcases g1 with ⟨_, h⟩ | ⟨cap, hv, c1, c2⟩
  · omega
  · simp only [Value.slice.injEq, true_and] at hv
    obtain ⟨rfl, rfl⟩ := hv
    rcases hl : t.l with _ | ⟨x, _ | ⟨y, _ | ⟨z, r⟩⟩⟩
    · rw [hl] at h4; simp at h4
    · rw [hl] at h4; simp at h4
    · rw [hl] at g2
      have e := h2
      rw [AT.erase_mk, hl] at e
      simp only [compT, ATs.erase, Tm.mk.injEq, List.cons.injEq] at e
      have hy := (erase_k y b e.2.2.2.2.1).2.1
      have g3 := g2.2.2.1.2.2.1
      rw [hy] at g3
      exact ⟨_, _, rfl, c1, by unfold maxLen at c2; omega, by rw [show t.off + 5 = t.off + 4 + 1 from by omega]; exact g3⟩
    · rw [hl] at h4; simp at h4
theorem first1 {w : World} {t : AT} {ad : Option Addr} {kk : Nat} {a : Tm} {s : ByteArray} (h1 : t.sv = .slice ad 1 kk) (h2 : t.erase = compT s [a]) (h3 : t.mem w) (h4 : t.l.length = 1) : ∃ G off, ad = some ⟨G, off, none⟩ ∧ 1 ≤ kk ∧ kk ≤ 9223372036854775807 ∧ w.cell? ⟨G, off + 1, none⟩ = some (.int .i64 a.hd.n) := by
  obtain ⟨g1, g2⟩ := AT.mem_mk.1 h3
  rw [h4, h1] at g1
  rcases g1 with ⟨_, h⟩ | ⟨cap, hv, c1, c2⟩
  · omega
  · simp only [Value.slice.injEq, true_and] at hv
    obtain ⟨rfl, rfl⟩ := hv
    rcases hl : t.l with _ | ⟨x, _ | ⟨y, r⟩⟩
    · rw [hl] at h4; simp at h4
    · rw [hl] at g2
      have e := h2
      rw [AT.erase_mk, hl] at e
      simp only [compT, ATs.erase, Tm.mk.injEq, List.cons.injEq] at e
      have hx := (erase_k x a e.2.2.2.1).2.1
      have g3 := g2.1.2.2.1
      rw [hx] at g3
      exact ⟨_, _, rfl, c1, by unfold maxLen at c2; omega, g3⟩
    · rw [hl] at h4; simp at h4
end Go.Proofs.YtkplokfcjjcpcaaGreatDoor
end
