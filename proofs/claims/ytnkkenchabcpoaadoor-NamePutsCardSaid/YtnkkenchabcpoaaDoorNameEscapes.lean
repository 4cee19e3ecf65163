/- The law NameEscapes returns true for every input: each byte may be told by its number; its walk. Conditions: the text is one; the library's variables hold what their text lays. -/
import Derived.Test.YtnkkenchabcpoaaDoorNameP
import Derived.Test.YtnkkenchabcpoaaDoorNameQ
import Derived.Test.YtnkkenchabcpoaaDoorNamePlain
import Derived.Deep.Light
import Derived.Laws.Closers25b
namespace Go.Proofs.YtnkkenchabcpoaaDoor
open Go Go.RowKit Go.Maps

/-- a byte told by its number in 16, and in 8 -/
def hexT (c : UInt8) : List UInt8 := [92, 120, hexd (c.toNat / 16), hexd (c.toNat % 16), 92]
def octT (c : UInt8) : List UInt8 := [92, hexd (c.toNat / 64), hexd (c.toNat / 8 % 8), hexd (c.toNat % 8), 92]
theorem hexT_ok : ∀ k : Fin 256, numR 16 [hexd (k.val / 16), hexd (k.val % 16)] = some (k.val : Int) ∧ [hexd (k.val / 16), hexd (k.val % 16)].all (fun b => b != 92) = true := by decide +kernel
theorem octT_ok : ∀ k : Fin 256, numR 8 [hexd (k.val / 64), hexd (k.val / 8 % 8), hexd (k.val % 8)] = some (k.val : Int) ∧ [hexd (k.val / 64), hexd (k.val / 8 % 8), hexd (k.val % 8)].all (fun b => b != 92) = true ∧
    (((hexd (k.val / 64)).toNat : Int) == 10) = false ∧ (((hexd (k.val / 64)).toNat : Int) == 120) = false ∧ octZ ((hexd (k.val / 64)).toNat : Int) = true ∧ octZ ((hexd (k.val / 8 % 8)).toNat : Int) = true := by decide +kernel
theorem hex_step (c : UInt8) (rest : List UInt8) : stepF 39 (hexT c ++ rest) = .go [c] (hexT c).length := by
  obtain ⟨h1, h2⟩ := hexT_ok ⟨c.toNat, c.toNat_lt⟩
  simp only at h1 h2
  unfold hexT
  generalize hexd (c.toNat / 16) = x at *
  generalize hexd (c.toNat % 16) = y at *
  have hn := numAt_dig rest (fun b hb => by simpa using List.all_eq_true.1 h2 b hb) h1
  have he : escF (92 :: 120 :: ([x, y] ++ 92 :: rest)) = some ([c], 2 + (2 + 1)) := by
    rw [show escF (92 :: 120 :: ([x, y] ++ 92 :: rest)) = escT 120 ([x, y] ++ 92 :: rest) from rfl]
    unfold escT
    rw [if_neg (by decide), if_pos (by decide), hn]
    simp
  show stepC 39 92 (120 :: ([x, y] ++ 92 :: rest)) = _
  unfold stepC
  rw [if_neg (by decide), if_pos (by decide), he]
  rfl
theorem oct_step (c : UInt8) (rest : List UInt8) : stepF 34 (octT c ++ rest) = .go [c] (octT c).length := by
  obtain ⟨h1, h2, h3, h4, h5, h6⟩ := octT_ok ⟨c.toNat, c.toNat_lt⟩
  simp only at h1 h2 h3 h4 h5 h6
  unfold octT
  generalize hexd (c.toNat / 64) = x at *
  generalize hexd (c.toNat / 8 % 8) = y at *
  generalize hexd (c.toNat % 8) = z at *
  have hn := numAt_dig rest (fun b hb => by simpa using List.all_eq_true.1 h2 b hb) h1
  have hz : zeroB x ([y, z] ++ 92 :: rest) = false := by
    show ((x.toNat : Int) == 48 && (!octZ (y.toNat : Int) && !((y.toNat : Int) == 92))) = false
    rw [h6]
    simp
  have he : escF (92 :: x :: ([y, z] ++ 92 :: rest)) = some ([c], 1 + (3 + 1)) := by
    rw [show escF (92 :: x :: ([y, z] ++ 92 :: rest)) = escT x ([y, z] ++ 92 :: rest) from rfl]
    unfold escT
    rw [h3, h4, h5, hz, if_neg (by simp), if_neg (by simp), if_pos (by simp), show x :: ([y, z] ++ 92 :: rest) = [x, y, z] ++ 92 :: rest from rfl, hn]
    simp
  show stepC 34 92 (x :: ([y, z] ++ 92 :: rest)) = _
  unfold stepC
  rw [if_neg (by decide), if_pos (by decide), he]
  rfl
theorem flat_get (q : Int) (f : UInt8 → List UInt8) (tail : List UInt8) (hf : ∀ c rest, stepF q (f c ++ rest) = .go [c] (f c).length) (ht : stepF q tail = .done) : ∀ (l acc : List UInt8) (m : Nat),
    getF q ((l.flatMap f ++ tail).length + 1) (l.flatMap f ++ tail) acc m = some (acc ++ l, m + (l.flatMap f).length + 1)
  | [], acc, m => by
    rw [List.flatMap_nil, List.nil_append, getF_done ht]
    simp
  | c :: l, acc, m => by
    have hs : stepF q ((c :: l).flatMap f ++ tail) = .go [c] (f c).length := by
      rw [List.flatMap_cons, List.append_assoc]
      exact hf c _
    rw [getF_go hs]
    rw [show ((c :: l).flatMap f ++ tail).drop (f c).length = l.flatMap f ++ tail by rw [List.flatMap_cons, List.append_assoc, List.drop_left]]
    rw [flat_get q f tail hf ht l]
    simp
    omega
theorem flat_all (q : Int) (f : UInt8 → List UInt8) (tail : List UInt8) (hf : ∀ c rest, stepF q (f c ++ rest) = .go [c] (f c).length) (ht : stepF q tail = .done) (l : List UInt8) :
    getL q (l.flatMap f ++ tail) = some (l, (l.flatMap f).length + 1) := by
  unfold getL
  rw [flat_get q f tail hf ht]
  simp
theorem ext_hex : ∀ i : Fin 16, ((ByteArray.mk #[48, 49, 50, 51, 52, 53, 54, 55, 56, 57, 97, 98, 99, 100, 101, 102]).extract i.val (i.val + 1)).data.toList = [hexd i.val] := by decide +kernel
theorem flat_snoc (f : UInt8 → List UInt8) (s : ByteArray) (k : Nat) (h : k < s.size) : (s.data.toList.take (k + 1)).flatMap f = (s.data.toList.take k).flatMap f ++ f s[k] := by
  rw [take_snoc s k h]
  simp
theorem get_text (s a : ByteArray) (q : Int) (n : Nat) (h : getL q s.data.toList = some (a.data.toList, n)) (hs : s.size ≤ 18000) (w : World) (htab : Tab w) :
    Calls Tryd.prog 16 #[.string s, .int .u8 q] w fun e w' => e = ret3 a n 0 ∧ Below w.heap.size w w' := by
  have := get_is s q w hs htab
  rw [h] at this
  refine this.mono fun e w' hh => ?_
  obtain ⟨h1, h2⟩ : e = ret3 ⟨a.data.toList.toArray⟩ n 0 ∧ Below w.heap.size w w' := hh
  exact ⟨by rw [h1], h2⟩

set_option maxHeartbeats 1600000 in
set_option maxRecDepth 100000 in
theorem escapes_in (s : ByteArray) (w : World) (htab : Tab w) (hs : s.size ≤ 500) :
    Calls Tryd.prog 7 #[.string s] w fun e w' => e = .returned (.bool true) ∧ Below w.heap.size w w' := by
  have HT := Lib.hid htab
  clear htab
  go_enter Tryd.func7, Tryd.ntmps7
  go_wp2_with fail
  refine (alive_is _ HT.out).mono ?_
  rintro e w1 ⟨rfl, b1⟩
  have HB1 := Lib.hid b1
  clear b1
  go_wp2_with fail
  go_loopw [3, 4, 20] (fun x y i wr => ∃ k : Nat, k ≤ s.size ∧ i = .int .i64 k ∧ ∃ X Y : ByteArray, x = .string X ∧ y = .string Y ∧ X.size ≤ 5 * k ∧ Y.size ≤ 5 * k ∧ Hid (X.data.toList = (s.data.toList.take k).flatMap hexT) ∧ Hid (Y.data.toList = (s.data.toList.take k).flatMap octT) ∧ Hid (Below w1.heap.size w1 wr)) (fun _ _ i _ => s.size - (intOf i).toNat)
  case atStart => exact ⟨0, Nat.zero_le _, rfl, ⟨#[]⟩, ⟨#[]⟩, rfl, rfl, Nat.le_refl _, Nat.le_refl _, rfl, rfl, Below.refl _ _⟩
  case round =>
    obtain ⟨k, hk, rfl, X, Y, rfl, rfl, hX, hY, hX2, hY2, hbl⟩ := hrel
    by_cases hlt : k < s.size
    · have hx3 := flat_snoc hexT s k hlt
      have hy3 := flat_snoc octT s k hlt
      rw [← hX2.out] at hx3
      rw [← hY2.out] at hy3
      obtain ⟨c, hc⟩ : ∃ c, s[k] = c := ⟨_, rfl⟩
      rw [hc] at hx3 hy3
      have HX := Lib.hid hx3
      have HY := Lib.hid hy3
      have hc0 : (0 : Int) ≤ (c.toNat : Int) := by omega
      have hc1 : (c.toNat : Int) ≤ 255 := by have := c.toNat_lt; omega
      have hcn := Lib.hid c.toNat_lt
      clear hx3 hy3 hX2 hY2
      go_wp2_with fail
      go_quiet (fail)
      go_wp2_with fail
      go_quiet (fail)
      go_wp2_with fail
      have hcn' := hcn.out
      have x1 := ext_hex ⟨c.toNat / 16, by omega⟩
      have x2 := ext_hex ⟨c.toNat % 16, by omega⟩
      have y1 := ext_hex ⟨c.toNat / 64, by omega⟩
      have y2 := ext_hex ⟨c.toNat / 8 % 8, by omega⟩
      have y3 := ext_hex ⟨c.toNat % 8, by omega⟩
      refine ⟨⟨k + 1, by omega, by go_num, _, _, rfl, rfl, ?_, ?_, ?_, ?_, hbl.out.trans ((below_drewN _ _).mono hbl.out.size)⟩, by simp [intOf]; omega⟩
      · rw [app_size, Lib.size_eq (_ ++ _), app_bytes, app_bytes, app_bytes, x1, x2]
        show X.size + 5 ≤ _
        omega
      · rw [app_size, Lib.size_eq (_ ++ _), app_bytes, app_bytes, app_bytes, app_bytes, y1, y2, y3]
        show Y.size + 5 ≤ _
        omega
      · show _ = _
        rw [HX.out, app_bytes, app_bytes, app_bytes, app_bytes, x1, x2]
        rfl
      · show _ = _
        rw [HY.out, app_bytes, app_bytes, app_bytes, app_bytes, app_bytes, y1, y2, y3]
        rfl
    · have hfull : s.data.toList.take k = s.data.toList := List.take_of_length_le (by rw [← Lib.size_eq]; omega)
      have hX3 := hX2.out
      have hY3 := hY2.out
      rw [hfull] at hX3 hY3
      have gX : getL 39 (X ++ ⟨#[39]⟩).data.toList = some (s.data.toList, X.size + 1) := by
        rw [app_bytes, Lib.size_eq X, hX3]
        exact flat_all 39 hexT [39] hex_step rfl _
      have gY : getL 34 (Y ++ ⟨#[34, 32, 109, 111, 114, 101]⟩).data.toList = some (s.data.toList, Y.size + 1) := by
        rw [app_bytes, Lib.size_eq Y, hY3]
        exact flat_all 34 octT [34, 32, 109, 111, 114, 101] oct_step rfl _
      have zX : X.size ≤ 2500 := by omega
      have zY : Y.size ≤ 2500 := by omega
      have GX := Lib.hid (fun w h => get_text (X ++ ⟨#[39]⟩) s 39 _ gX (by rw [app_size]; show X.size + 1 ≤ _; omega) w h)
      have GY := Lib.hid (fun w h => get_text (Y ++ ⟨#[34, 32, 109, 111, 114, 101]⟩) s 34 _ gY (by rw [app_size]; show Y.size + 6 ≤ _; omega) w h)
      have T1 := Lib.hid ((HT.out.on HB1.out).on hbl.out)
      have hbr := Lib.hid hbl.out.size
      clear hX2 hY2 hX3 hY3 gX gY hfull
      go_wp2_with fail
      refine (GX.out _ T1.out).mono ?_
      rintro e w2 ⟨rfl, b2⟩
      have T2 := Lib.hid (T1.out.on b2)
      go_wp2_with fail
      refine (GY.out _ T2.out).mono ?_
      rintro e w3 ⟨rfl, b3⟩
      go_wp2_with fail
      go_ret
      exact ⟨rfl, bt (bt (bt HB1.out hbl.out) b2) b3⟩

set_option maxHeartbeats 400000 in
set_option maxRecDepth 100000 in
theorem escapes_walk (s : ByteArray) (w : World) (hs : s.size ≤ maxLen) (htab : Tab w) :
    Calls Tryd.prog 7 #[.string s] w fun e w' => e = .returned (.bool true) ∧ Below w.heap.size w w' := by
  by_cases h : s.size ≤ 500
  · exact escapes_in s w htab h
  have h' : 500 < s.size := by omega
  have HT := Lib.hid htab
  clear htab h
  unfold maxLen at hs
  go_enter Tryd.func7, Tryd.ntmps7
  go_wp2_with fail
  refine (alive_is _ HT.out).mono ?_
  rintro e w1 ⟨rfl, b1⟩
  go_wp2_with fail
  go_ret
  exact ⟨rfl, b1⟩

end Go.Proofs.YtnkkenchabcpoaaDoor
