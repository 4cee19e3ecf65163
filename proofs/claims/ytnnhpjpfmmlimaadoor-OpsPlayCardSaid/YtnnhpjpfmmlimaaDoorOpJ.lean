/- The program's table of operators: Op where it makes, and Op as a whole. Conditions: the listed variables read as the text lays them; the name has at most 2000 bytes; the operators are at most 256. -/
import Derived.Test.YtnnhpjpfmmlimaaDoorOpI
namespace Go.Proofs.YtnnhpjpfmmlimaaDoor
open Go Go.RowKit Go.Maps
open Go.WideMaps Go.WideElems

theorem Tb.len {w : World} {a m : Nat} {L : List Df} (h : Tb w a m L) (ty : TypeId) : (Builtin.len_ #[53] ty #[.map (some m)]).run Tryd.prog w = .ok (.int .i64 (L.length : Int)) w := by
  obtain ⟨D, ho, hr⟩ := h.own
  have := ho.len Tryd.underlying53 ty
  rwa [hr.size] at this

set_option maxRecDepth 100000 in
set_option maxHeartbeats 1600000 in
theorem op_full (a m : Nat) (L : List Df) (p t : Int) (n : ByteArray) (w : World) (hl : Lay w) (hT : Tb w a m L) (h : ArgOK p t n) (hf : fixedB n = false) (hp : ¬ p = 0) (hr : (fnd L n (rivZ (srt t))).isSome = false) (hL : 256 ≤ L.length) (hn : (fnd L n (srt t)).isSome = false) :
    Calls Tryd.prog 10 #[.pointer (some ⟨a, 0, none⟩), .int .i64 p, .int .i64 t, .string n] w fun e w' => e = .returned (.int .i64 9) ∧ Below w.heap.size w w' := by
  have harg := h
  obtain ⟨k, rfl⟩ := Int.eq_ofNat_of_zero_le (by have := h.t0; omega : 0 ≤ t)
  obtain ⟨j, rfl⟩ := Int.eq_ofNat_of_zero_le h.p0
  have h1 : ¬ 1200 < (j : Int) := by have := h.p1; omega
  have h3 : ¬ (k : Int) < 1 := by have := h.t0; omega
  have h4 : ¬ 7 < (k : Int) := by have := h.t1; omega
  have h5 : ¬ 1000 < n.size := by have := h.n0; omega
  have h6 : decide ((1000 : Int) < (n.size : Int)) = false := by simp; omega
  have h7 : ((j : Int) == 0) = false := by rw [beq_eq_false_iff_ne]; exact hp
  have i0 : (0 : Int) ≤ (k : Int) := by omega
  have i1 : (k : Int) < 8 := by omega
  have F := fixed_is n w
  rw [show (n.toList == [44] || n.toList == [124] || n.toList == [91, 93] || n.toList == [123, 125]) = false from hf] at F
  have HF := Lib.hid F
  have s0 := sort_cell hl (k := k) (by omega) (by omega)
  obtain ⟨s, hs⟩ : ∃ s, srt (k : Int) = s := ⟨_, rfl⟩
  have hs3 := srt_in (k : Int)
  have HS := Lib.hid hs
  rw [hs] at s0 hs3 hr hn
  obtain ⟨W1, X⟩ := op_in n s hl hT
  have RV := Lib.hid (rival_is n s W1 X.lay hs3)
  have HAS := Lib.hid (fun w2 (b : Below W1.heap.size W1 w2) => by
    have := has_is a m L n (rivZ s) w2 (X.tab.on b) (small (by omega)) (by rcases hs3 with rfl | rfl | rfl <;> decide)
    rwa [hr] at this)
  have LEN := Lib.hid (fun w2 (b : Below W1.heap.size W1 w2) => (X.tab.on b).len)
  have ROW := Lib.hid (fun w2 (b : Below W1.heap.size W1 w2) => (b.block _ (heap_lt X.row)).trans X.row)
  have TAB := Lib.hid (fun w2 (b : Below W1.heap.size W1 w2) => X.tab.on b)
  have HA2 := Lib.hid (fun w2 (b : Below W1.heap.size W1 w2) => by
    have := has_is a m L n s w2 (X.tab.on b) (small (by omega)) (by rcases hs3 with rfl | rfl | rfl <;> decide)
    rwa [hn] at this)
  have HW1 := Lib.hid X.box
  have HB := Lib.hid X.below
  obtain ⟨c0, c1, _, _⟩ := two_facts X.row
  obtain ⟨rv, hrv⟩ : ∃ rv, rivZ s = rv := ⟨_, rfl⟩
  rw [hrv] at RV HAS
  obtain ⟨nn, hnn⟩ : ∃ nn, L.length = nn := ⟨_, rfl⟩
  rw [hnn] at hL LEN
  clear F hf h hl hT hs hs3 X hr hrv hnn
  go_enter Tryd.func10, Tryd.ntmps10
  go_wp2_with fail
  refine HF.out.mono ?_
  rintro e w' ⟨rfl, hw⟩
  obtain rfl := hw.symm
  go_wp2_with fail
  rw [HW1.out]
  refine RV.out.mono ?_
  rintro e w2 ⟨rfl, b2⟩
  have B2 := Lib.hid b2
  clear b2
  go_wp2_with fail
  refine (HAS.out _ B2.out).mono ?_
  rintro e w3 ⟨rfl, b3⟩
  have B3 := Lib.hid (bt B2.out b3)
  clear b3
  have q0 := (TAB.out _ B3.out).cells.1
  have LE := LEN.out _ B3.out
  obtain ⟨k0, k1, _, _⟩ := two_facts (ROW.out _ B3.out)
  have l1 : decide ((256 : Int) ≤ (nn : Int)) = true := by simp; omega
  go_wp2_with fail
  refine (HA2.out _ B3.out).mono ?_
  rintro e w4 ⟨rfl, b4⟩
  have B4 := Lib.hid (HB.out.trans ((bt B3.out b4).mono HB.out.size))
  clear b4
  go_wp2_with fail
  go_ret
  exact ⟨rfl, B4.out⟩

set_option maxRecDepth 100000 in
set_option maxHeartbeats 1600000 in
theorem op_put (a m : Nat) (L : List Df) (p t : Int) (n : ByteArray) (w : World) (hl : Lay w) (hT : Tb w a m L) (h : ArgOK p t n) (hf : fixedB n = false) (hp : ¬ p = 0) (hr : (fnd L n (rivZ (srt t))).isSome = false) (hL : L.length < 256) :
    Calls Tryd.prog 10 #[.pointer (some ⟨a, 0, none⟩), .int .i64 p, .int .i64 t, .string n] w fun e w' => e = .returned (.int .i64 0) ∧ Tb w' a m (ins L ⟨p, t, n⟩) ∧ w.grownBy w' (some m) := by
  have harg := h
  obtain ⟨k, rfl⟩ := Int.eq_ofNat_of_zero_le (by have := h.t0; omega : 0 ≤ t)
  obtain ⟨j, rfl⟩ := Int.eq_ofNat_of_zero_le h.p0
  have h1 : ¬ 1200 < (j : Int) := by have := h.p1; omega
  have h3 : ¬ (k : Int) < 1 := by have := h.t0; omega
  have h4 : ¬ 7 < (k : Int) := by have := h.t1; omega
  have h5 : ¬ 1000 < n.size := by have := h.n0; omega
  have h6 : decide ((1000 : Int) < (n.size : Int)) = false := by simp; omega
  have h7 : ((j : Int) == 0) = false := by rw [beq_eq_false_iff_ne]; exact hp
  have i0 : (0 : Int) ≤ (k : Int) := by omega
  have i1 : (k : Int) < 8 := by omega
  have F := fixed_is n w
  rw [show (n.toList == [44] || n.toList == [124] || n.toList == [91, 93] || n.toList == [123, 125]) = false from hf] at F
  have HF := Lib.hid F
  have s0 := sort_cell hl (k := k) (by omega) (by omega)
  obtain ⟨s, hs⟩ : ∃ s, srt (k : Int) = s := ⟨_, rfl⟩
  have hs3 := srt_in (k : Int)
  have HS := Lib.hid hs
  rw [hs] at s0 hs3 hr
  obtain ⟨W1, X⟩ := op_in n s hl hT
  have RV := Lib.hid (rival_is n s W1 X.lay hs3)
  have HAS := Lib.hid (fun w2 (b : Below W1.heap.size W1 w2) => by
    have := has_is a m L n (rivZ s) w2 (X.tab.on b) (small (by omega)) (by rcases hs3 with rfl | rfl | rfl <;> decide)
    rwa [hr] at this)
  have LEN := Lib.hid (fun w2 (b : Below W1.heap.size W1 w2) => (X.tab.on b).len)
  have ROW := Lib.hid (fun w2 (b : Below W1.heap.size W1 w2) => (b.block _ (heap_lt X.row)).trans X.row)
  have TAB := Lib.hid (fun w2 (b : Below W1.heap.size W1 w2) => X.tab.on b)
  have CL := Lib.hid (fun w => clone_is n w (by omega))
  have PUT := Lib.hid (fun w2 (b : Below W1.heap.size W1 w2) => put_is a m L ⟨(j : Int), (k : Int), n⟩ w2 (X.lay.on b) (X.tab.on b) ⟨by show 1 ≤ (j : Int); omega, by show (j : Int) ≤ 1200; omega, by show 1 ≤ (k : Int); omega, by show (k : Int) ≤ 7; omega, by show n.size ≤ 1000; omega⟩ (by omega))
  have HW1 := Lib.hid X.box
  have HB := Lib.hid X.below
  obtain ⟨c0, c1, _, _⟩ := two_facts X.row
  obtain ⟨rv, hrv⟩ : ∃ rv, rivZ s = rv := ⟨_, rfl⟩
  rw [hrv] at RV HAS
  obtain ⟨nn, hnn⟩ : ∃ nn, L.length = nn := ⟨_, rfl⟩
  rw [hnn] at hL LEN
  clear F hf h hl hT hs hs3 X hr hrv hnn
  go_enter Tryd.func10, Tryd.ntmps10
  go_wp2_with fail
  refine HF.out.mono ?_
  rintro e w' ⟨rfl, hw⟩
  obtain rfl := hw.symm
  go_wp2_with fail
  rw [HW1.out]
  refine RV.out.mono ?_
  rintro e w2 ⟨rfl, b2⟩
  have B2 := Lib.hid b2
  clear b2
  go_wp2_with fail
  refine (HAS.out _ B2.out).mono ?_
  rintro e w3 ⟨rfl, b3⟩
  have B3 := Lib.hid (bt B2.out b3)
  clear b3
  have q0 := (TAB.out _ B3.out).cells.1
  have LE := LEN.out _ B3.out
  obtain ⟨k0, k1, _, _⟩ := two_facts (ROW.out _ B3.out)
  have l1 : decide ((256 : Int) ≤ (nn : Int)) = false := by simp; omega
  go_wp2_with fail
  refine (CL.out _).mono ?_
  rintro e w5 ⟨rfl, b5⟩
  have B5 := Lib.hid (bt B3.out b5)
  clear b5
  go_wp2_with fail
  refine (PUT.out _ B5.out).mono ?_
  rintro e w6 ⟨rfl, t6, g6⟩
  have GG := (grown_of (HB.out.trans (B5.out.mono HB.out.size)) (some m)).trans g6
  clear g6
  go_wp2_with fail
  go_ret
  exact ⟨rfl, t6, GG⟩

set_option maxRecDepth 100000 in
set_option maxHeartbeats 1600000 in
theorem op_over (a m : Nat) (L : List Df) (p t : Int) (n : ByteArray) (w : World) (hl : Lay w) (hT : Tb w a m L) (h : ArgOK p t n) (hf : fixedB n = false) (hp : ¬ p = 0) (hr : (fnd L n (rivZ (srt t))).isSome = false) (hL : L.length = 256) (hn : (fnd L n (srt t)).isSome = true) :
    Calls Tryd.prog 10 #[.pointer (some ⟨a, 0, none⟩), .int .i64 p, .int .i64 t, .string n] w fun e w' => e = .returned (.int .i64 0) ∧ Tb w' a m (ins L ⟨p, t, n⟩) ∧ w.grownBy w' (some m) := by
  have harg := h
  obtain ⟨k, rfl⟩ := Int.eq_ofNat_of_zero_le (by have := h.t0; omega : 0 ≤ t)
  obtain ⟨j, rfl⟩ := Int.eq_ofNat_of_zero_le h.p0
  have h1 : ¬ 1200 < (j : Int) := by have := h.p1; omega
  have h3 : ¬ (k : Int) < 1 := by have := h.t0; omega
  have h4 : ¬ 7 < (k : Int) := by have := h.t1; omega
  have h5 : ¬ 1000 < n.size := by have := h.n0; omega
  have h6 : decide ((1000 : Int) < (n.size : Int)) = false := by simp; omega
  have h7 : ((j : Int) == 0) = false := by rw [beq_eq_false_iff_ne]; exact hp
  have i0 : (0 : Int) ≤ (k : Int) := by omega
  have i1 : (k : Int) < 8 := by omega
  have F := fixed_is n w
  rw [show (n.toList == [44] || n.toList == [124] || n.toList == [91, 93] || n.toList == [123, 125]) = false from hf] at F
  have HF := Lib.hid F
  have s0 := sort_cell hl (k := k) (by omega) (by omega)
  obtain ⟨s, hs⟩ : ∃ s, srt (k : Int) = s := ⟨_, rfl⟩
  have hs3 := srt_in (k : Int)
  have HS := Lib.hid hs
  rw [hs] at s0 hs3 hr hn
  obtain ⟨W1, X⟩ := op_in n s hl hT
  have RV := Lib.hid (rival_is n s W1 X.lay hs3)
  have HAS := Lib.hid (fun w2 (b : Below W1.heap.size W1 w2) => by
    have := has_is a m L n (rivZ s) w2 (X.tab.on b) (small (by omega)) (by rcases hs3 with rfl | rfl | rfl <;> decide)
    rwa [hr] at this)
  have LEN := Lib.hid (fun w2 (b : Below W1.heap.size W1 w2) => (X.tab.on b).len)
  have ROW := Lib.hid (fun w2 (b : Below W1.heap.size W1 w2) => (b.block _ (heap_lt X.row)).trans X.row)
  have TAB := Lib.hid (fun w2 (b : Below W1.heap.size W1 w2) => X.tab.on b)
  have CL := Lib.hid (fun w => clone_is n w (by omega))
  have PUT := Lib.hid (fun w2 (b : Below W1.heap.size W1 w2) => put_is a m L ⟨(j : Int), (k : Int), n⟩ w2 (X.lay.on b) (X.tab.on b) ⟨by show 1 ≤ (j : Int); omega, by show (j : Int) ≤ 1200; omega, by show 1 ≤ (k : Int); omega, by show (k : Int) ≤ 7; omega, by show n.size ≤ 1000; omega⟩ (by omega))
  have HA2 := Lib.hid (fun w2 (b : Below W1.heap.size W1 w2) => by
    have := has_is a m L n s w2 (X.tab.on b) (small (by omega)) (by rcases hs3 with rfl | rfl | rfl <;> decide)
    rwa [hn] at this)
  have HW1 := Lib.hid X.box
  have HB := Lib.hid X.below
  obtain ⟨c0, c1, _, _⟩ := two_facts X.row
  obtain ⟨rv, hrv⟩ : ∃ rv, rivZ s = rv := ⟨_, rfl⟩
  rw [hrv] at RV HAS
  obtain ⟨nn, hnn⟩ : ∃ nn, L.length = nn := ⟨_, rfl⟩
  rw [hnn] at hL LEN
  clear F hf h hl hT hs hs3 X hr hrv hnn
  go_enter Tryd.func10, Tryd.ntmps10
  go_wp2_with fail
  refine HF.out.mono ?_
  rintro e w' ⟨rfl, hw⟩
  obtain rfl := hw.symm
  go_wp2_with fail
  rw [HW1.out]
  refine RV.out.mono ?_
  rintro e w2 ⟨rfl, b2⟩
  have B2 := Lib.hid b2
  clear b2
  go_wp2_with fail
  refine (HAS.out _ B2.out).mono ?_
  rintro e w3 ⟨rfl, b3⟩
  have B3 := Lib.hid (bt B2.out b3)
  clear b3
  have q0 := (TAB.out _ B3.out).cells.1
  have LE := LEN.out _ B3.out
  obtain ⟨k0, k1, _, _⟩ := two_facts (ROW.out _ B3.out)
  have l1 : decide ((256 : Int) ≤ (nn : Int)) = true := by simp; omega
  clear hL
  go_wp2_with fail
  refine (HA2.out _ B3.out).mono ?_
  rintro e w4 ⟨rfl, b4⟩
  have B4 := Lib.hid (bt B3.out b4)
  clear b4
  go_wp2_with fail
  refine (CL.out _).mono ?_
  rintro e w5 ⟨rfl, b5⟩
  have B5 := Lib.hid (bt B4.out b5)
  clear b5
  go_wp2_with fail
  refine (PUT.out _ B5.out).mono ?_
  rintro e w6 ⟨rfl, t6, g6⟩
  have GG := (grown_of (HB.out.trans (B5.out.mono HB.out.size)) (some m)).trans g6
  clear g6
  go_wp2_with fail
  go_ret
  exact ⟨rfl, t6, GG⟩

theorem op_is (a m : Nat) (L : List Df) (d : Df) (w : World) (hl : Lay w) (hT : Tb w a m L) (hL : L.length ≤ 256) :
    Calls Tryd.prog 10 #[.pointer (some ⟨a, 0, none⟩), .int .i64 d.pri, .int .i64 d.typ, .string d.name] w (OpPost w a m L d) := by
  obtain ⟨p, t, n⟩ := d
  cases ha : argB p t n with
  | true =>
    refine (op_arg a p t n w ha).mono ?_
    rintro e w' ⟨rfl, hw⟩
    have h : opZ L ⟨p, t, n⟩ = (2, L) := by unfold opZ; rw [if_pos ha]
    rw [hw]
    exact OpPost.same hT (Below.refl _ _) (by rw [h]) (by rw [h])
  | false =>
    have hok := arg_ok ha
    have n1 : ¬ argB p t n = true := by rw [ha]; simp
    cases hf : fixedB n with
    | true =>
      refine (op_fixed a p t n w hok hf).mono ?_
      rintro e w' ⟨rfl, hw⟩
      have h : opZ L ⟨p, t, n⟩ = (15, L) := by unfold opZ; rw [if_neg n1, if_pos hf]
      rw [hw]
      exact OpPost.same hT (Below.refl _ _) (by rw [h]) (by rw [h])
    | false =>
      have n2 : ¬ fixedB n = true := by rw [hf]; simp
      by_cases hp : p = 0
      · subst hp
        refine (op_zero a m L t n w hl hT hok hf).mono ?_
        rintro e w' ⟨rfl, h1, h2⟩
        have h : opZ L ⟨0, t, n⟩ = (0, rmv L n (srt t)) := by unfold opZ; rw [if_neg n1, if_neg n2, if_pos rfl]
        exact ⟨by rw [h], by rw [h]; exact h1, h2⟩
      · cases hr : (fnd L n (rivZ (srt t))).isSome with
        | true =>
          refine (op_rival a m L p t n w hl hT hok hf hp hr).mono ?_
          rintro e w' ⟨rfl, h1⟩
          have h : opZ L ⟨p, t, n⟩ = (15, L) := by unfold opZ; rw [if_neg n1, if_neg n2, if_neg hp, if_pos hr]
          exact OpPost.same hT h1 (by rw [h]) (by rw [h])
        | false =>
          have n3 : ¬ (fnd L n (rivZ (srt t))).isSome = true := by rw [hr]; simp
          by_cases h256 : 256 ≤ L.length
          · cases hs : (fnd L n (srt t)).isSome with
            | false =>
              refine (op_full a m L p t n w hl hT hok hf hp hr h256 hs).mono ?_
              rintro e w' ⟨rfl, h1⟩
              have h : opZ L ⟨p, t, n⟩ = (9, L) := by unfold opZ; rw [if_neg n1, if_neg n2, if_neg hp, if_neg n3, if_pos ⟨h256, hs⟩]
              exact OpPost.same hT h1 (by rw [h]) (by rw [h])
            | true =>
              refine (op_over a m L p t n w hl hT hok hf hp hr (by omega) hs).mono ?_
              rintro e w' ⟨rfl, h1, h2⟩
              have h : opZ L ⟨p, t, n⟩ = (0, ins L ⟨p, t, n⟩) := by unfold opZ; rw [if_neg n1, if_neg n2, if_neg hp, if_neg n3, if_neg (by simp only; rw [hs]; simp)]
              exact ⟨by rw [h], by rw [h]; exact h1, h2⟩
          · refine (op_put a m L p t n w hl hT hok hf hp hr (by omega)).mono ?_
            rintro e w' ⟨rfl, h1, h2⟩
            have h : opZ L ⟨p, t, n⟩ = (0, ins L ⟨p, t, n⟩) := by unfold opZ; rw [if_neg n1, if_neg n2, if_neg hp, if_neg n3, if_neg (fun hh => h256 hh.1)]
            exact ⟨by rw [h], by rw [h]; exact h1, h2⟩

end Go.Proofs.YtnnhpjpfmmlimaaDoor
