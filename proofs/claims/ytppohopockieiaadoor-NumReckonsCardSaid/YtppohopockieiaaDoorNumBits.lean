/- The law NumBits returns true for every input: and, or, xor belong together; its walk. Conditions: the arguments fit int64; the library's table of powers of ten holds what its text lays. -/
import Derived.Test.YtppohopockieiaaDoorNumJ
namespace Go.Proofs.YtppohopockieiaaDoor
open Go Go.RowKit Go.Maps Go.Shelf

theorem bt {w w1 w2 : World} (b1 : Below w.heap.size w w1) (b2 : Below w1.heap.size w1 w2) : Below w.heap.size w w2 := b1.trans (b2.mono b1.size)

set_option maxHeartbeats 800000 in
theorem bits_walk (a b : Int) (w : World) (ha : inR a) (hb : inR b) (htab : Tab w) :
    Calls Tryd.prog 8 #[.int .i64 a, .int .i64 b] w fun e w' => e = .returned (.bool true) ∧ Below w.heap.size w w' := by
  have hx : inR (-1 - a) := by unfold inR at *; omega
  have v1 : (bits .or .i64 (andZ a b) (xorZ a b) == orZ a b) = true := by
    have := bits_join_all a b
    unfold andZ xorZ orZ
    simpa using this
  have v2 : (bits .and .i64 (andZ a b) (xorZ a b) == 0) = true := by
    have := bits_apart_all a b
    unfold andZ xorZ
    simpa using this
  have C1 := Lib.hid (two_and a b (andZ a b) 0 ha hb rfl)
  have C2 := Lib.hid (two_or a b (orZ a b) 0 ha hb rfl)
  have C3 := Lib.hid (two_xor a b (xorZ a b) 0 ha hb rfl)
  have C4 := Lib.hid (one_turned a (-1 - a) 0 ha rfl)
  have C5 := Lib.hid (one_turned (-1 - a) a 0 hx (by rw [show -1 - (-1 - a) = a by omega]))
  by_cases hn : inR (-a)
  · have C6 := Lib.hid (one_negated a (-a) 0 ha (clip_in hn))
    have v3 : (-a - 1 == -1 - a) = true := by simp; omega
    obtain ⟨x, hxe⟩ : ∃ x, x = -1 - a := ⟨_, rfl⟩
    obtain ⟨m, hme⟩ : ∃ m, m = -a := ⟨_, rfl⟩
    rw [← hxe] at C4 C5 v3
    rw [← hme] at C6 v3
    have p1 : -9223372036854775808 ≤ m - 1 := by unfold inR at *; omega
    have p2 : m - 1 ≤ 9223372036854775807 := by unfold inR at *; omega
    clear hxe hme hn hx ha hb
    go_enter Tryd.func8, Tryd.ntmps8
    go_wp2_with fail
    refine (alive_is _ htab).mono ?_
    rintro e w1 ⟨rfl, b1⟩
    go_wp2_with fail
    refine (C1.out _).mono ?_
    rintro e w2 ⟨rfl, b2⟩
    go_wp2_with fail
    refine (C2.out _).mono ?_
    rintro e w3 ⟨rfl, b3⟩
    go_wp2_with fail
    refine (C3.out _).mono ?_
    rintro e w4 ⟨rfl, b4⟩
    go_wp2_with fail
    refine (C4.out _).mono ?_
    rintro e w5 ⟨rfl, b5⟩
    go_wp2_with fail
    refine (C5.out _).mono ?_
    rintro e w6 ⟨rfl, b6⟩
    go_wp2_with fail
    refine (C6.out _).mono ?_
    rintro e w7 ⟨rfl, b7⟩
    go_wp2_with fail
    go_ret
    exact ⟨rfl, bt (bt (bt (bt (bt (bt b1 b2) b3) b4) b5) b6) b7⟩
  · have C6 := Lib.hid (one_negated a 0 11 ha (clip_out hn))
    clear hn hx ha hb
    go_enter Tryd.func8, Tryd.ntmps8
    go_wp2_with fail
    refine (alive_is _ htab).mono ?_
    rintro e w1 ⟨rfl, b1⟩
    go_wp2_with fail
    refine (C1.out _).mono ?_
    rintro e w2 ⟨rfl, b2⟩
    go_wp2_with fail
    refine (C2.out _).mono ?_
    rintro e w3 ⟨rfl, b3⟩
    go_wp2_with fail
    refine (C3.out _).mono ?_
    rintro e w4 ⟨rfl, b4⟩
    go_wp2_with fail
    refine (C4.out _).mono ?_
    rintro e w5 ⟨rfl, b5⟩
    go_wp2_with fail
    refine (C5.out _).mono ?_
    rintro e w6 ⟨rfl, b6⟩
    go_wp2_with fail
    refine (C6.out _).mono ?_
    rintro e w7 ⟨rfl, b7⟩
    go_wp2_with fail
    go_ret
    exact ⟨rfl, bt (bt (bt (bt (bt (bt b1 b2) b3) b4) b5) b6) b7⟩

end Go.Proofs.YtppohopockieiaaDoor
