/- The law TokenAtoms returns true for every input: its walk. Conditions: the library's variables hold what their text lays. -/
import Derived.Test.YtkbeaddbnnboaaaDoorTokQ
import Derived.Test.YtkbeaddbnnboaaaDoorNameD
import Derived.Deep.RegionHeld3
import Derived.BigQuiet
namespace Go.Proofs.YtkbeaddbnnboaaaDoor
open Go Go.RowKit Go.Maps

theorem put_len (s : ByteArray) (hs : s.size ≤ 500) : (putL s.data.toList).length ≤ 2502 := by
  unfold putL
  have h3 := putB_len s.data.toList
  rw [← Lib.size_eq] at h3
  split
  · rw [← Lib.size_eq]; omega
  · rw [List.length_append]; simp; omega

set_option maxRecDepth 100000 in
set_option maxHeartbeats 1600000 in
theorem atoms_long (s : ByteArray) (n : Int) (w : World) (ht : Lay w) (hs : 500 < s.size) (hs2 : s.size ≤ maxLen) :
    Calls Tryd.prog 5 #[.string s, .int .u32 n] w fun e w' => e = .returned (.bool true) ∧ Below w.heap.size w w' := by
  have HT := Lib.hid ht
  clear ht
  unfold maxLen at hs2
  go_enter Tryd.func5, Tryd.ntmps5
  go_wp2_with fail
  refine (alive_is _ HT.out).mono ?_
  rintro e w1 ⟨rfl, b1⟩
  go_wp2_with fail
  go_ret
  exact ⟨rfl, b1⟩

set_option maxRecDepth 100000 in
set_option maxHeartbeats 3200000 in
theorem atoms_quoted (s : ByteArray) (n : Nat) (w : World) (ht : Lay w) (hs : s.size ≤ 500) (hn : n < 4294967296) (h1 : s.data.toList ≠ [91, 93]) (h2 : s.data.toList ≠ [123, 125]) (hpb : plainB s.data.toList = false) :
    Calls Tryd.prog 5 #[.string s, .int .u32 n] w fun e w' => e = .returned (.bool true) ∧ Below w.heap.size w w' := by
  have HT := Lib.hid ht
  have PUT := Lib.hid (fun w => put_is s w (by omega))
  have hpl := put_len s hs
  obtain ⟨P, hP⟩ : ∃ P : ByteArray, (⟨(putL s.data.toList).toArray⟩ : ByteArray) = P := ⟨_, rfl⟩
  have hPl : P.data.toList = putL s.data.toList := by rw [← hP]
  have hPs : P.size ≤ 2502 := by rw [Lib.size_eq, hPl]; exact hpl
  rw [hP] at PUT
  have hLl : (P ++ ⟨#[32]⟩).data.toList = putL s.data.toList ++ [32] := by rw [ByteArray.data_append, Array.toList_append, hPl]
  have hlx := atom_one _ h1 h2
  rw [← hLl] at hlx
  have LX := Lib.hid (fun w ht => lex_at ((P ++ ⟨#[32]⟩).data.toList) _ hlx (by rw [hLl, List.length_append]; simp; omega) 2 0 0 rfl rfl rfl (by decide) w ht)
  rw [bytes_back] at LX
  have e1 : (s.toList == [91, 93]) = false := by rw [Lib.toList_data, beq_eq_false_iff_ne]; exact h1
  have e2 : (s.toList == [123, 125]) = false := by rw [Lib.toList_data, beq_eq_false_iff_ne]; exact h2
  have PL := Lib.hid (fun w => plain_is s w (by omega))
  have hk : (atomT s.data.toList).k = 2 := by unfold atomT; rw [hpb]; rfl
  rw [hpb] at PL
  have HK := Lib.hid hk
  clear ht hpl hlx hP hPl hLl h1 h2 hpb hk
  go_enter Tryd.func5, Tryd.ntmps5
  go_wp2_with fail
  refine (alive_is _ HT.out).mono ?_
  rintro e w1 ⟨rfl, b1⟩
  have T1 := Lib.hid (HT.out.on b1)
  have B1 := Lib.hid b1
  clear b1
  go_wp2_with fail
  refine (PUT.out _ T1.out.1).mono ?_
  rintro e w2 ⟨rfl, b2⟩
  have T2 := Lib.hid (T1.out.on b2)
  have B2 := Lib.hid (bt B1.out b2)
  clear b2
  go_wp2_with fail
  refine (LX.out _ T2.out).mono ?_
  rintro e w3 ⟨⟨g, cp, rfl, _, r1⟩, b3⟩
  have T3 := Lib.hid (T2.out.on b3)
  have B3 := Lib.hid (bt B2.out b3)
  have y0 := r1.cell 0 (.int .i64 (atomT s.data.toList).k) rfl
  have y3 := r1.cell 3 (.string ⟨s.data.toList.toArray⟩) rfl
  rw [bytes_back] at y3
  rw [HK.out] at y0
  have KEEP := Lib.hid (fun w5 (hb : Below w3.heap.size w3 w5) => And.intro ((hb.cell (p := ⟨g, 0, none⟩) r1.lt).trans y0) ((hb.cell (p := ⟨g, 3, none⟩) r1.lt).trans y3))
  have hc1 := r1.fits
  have hc2 := r1.max
  clear b3 r1
  have y0' : w3.cell? ⟨g, 0, none⟩ = some (.int .i64 2) := y0
  replace KEEP : Hid (∀ w5, Below w3.heap.size w3 w5 → w5.cell? ⟨g, 0, none⟩ = some (.int .i64 2) ∧ w5.cell? ⟨g, 3, none⟩ = some (.string s)) := KEEP
  clear y0
  go_wp2_with fail
  go_region_held3 (fun w' => w'.cell? ⟨g, 0, none⟩ = some (.int .i64 2) ∧ w'.cell? ⟨g, 3, none⟩ = some (.string s)) (first | exact KEEP.out _ (Below.refl _ _).drew | exact KEEP.out _ BK.out) (first | (go_at_call 13; refine (PL.out _).mono ?_; rintro _ w4 ⟨rfl, b4⟩; have BK : Hid (Below w3.heap.size w3 w4) := (Below.refl w3.heap.size w3).drew.trans (b4.mono (Nat.le_refl _)); clear b4))
  clear KEEP
  go_wp2_with fail
  have DL := Lib.hid (fun (X : ByteArray) (hX : X.data.toList = digL 10 21 n) w ht => lex_at ((X ++ ⟨#[95]⟩ ++ X).data.toList) ⟨[⟨3, 1, (n : Int), [], false, false⟩, ⟨4, 1, 0, 95 :: digL 10 21 n, false, true⟩, ⟨0, 1, 0, [], false, false⟩], 0, 0⟩ (by
    rw [ByteArray.data_append, Array.toList_append, ByteArray.data_append, Array.toList_append, hX, List.append_assoc]
    exact lex_dec (Nat.lt_of_lt_of_le hn (by omega)) hn) (by
    have := digL_len 10 21 n
    rw [ByteArray.data_append, Array.toList_append, ByteArray.data_append, Array.toList_append, hX]
    simp
    omega) 3 0 0 rfl rfl rfl (by decide) w ht)
  go_loop [10, 11] (fun v i => ∃ (k : Nat) (A : ByteArray), v = .string A ∧ i = .int .u64 k ∧ k < 4294967296 ∧ Hid (DecSt n k A)) (fun _ i => (intOf i).toNat)
  case atStart => exact ⟨n, ⟨#[]⟩, rfl, rfl, hn, DecSt.start hn⟩
  case round =>
    obtain ⟨k, A, rfl, rfl, hk, HD⟩ := hrel
    have hA := HD.out.small
    obtain ⟨E, hE⟩ : ∃ E : ByteArray, ⟨#[dch (k % 10)]⟩ = E := ⟨_, rfl⟩
    have cv : ∀ w, (convert 5 9 (.int .u8 (48 + (k : Int) % 10))).run Tryd.prog w = .ok (.string E) w := by
      have enc := (enc_dig k).trans hE
      intro w
      go_simp
    have hEs : E.size ≤ 1 := by rw [← hE]; exact Nat.le_refl _
    have HE := Lib.hid hE
    clear hE
    by_cases h10 : k < 10
    · have HX := HD.out.last h10
      rw [HE.out] at HX
      replace HX := Lib.hid HX
      clear HE
      go_wp2_with fail
      rw [← bytes_back (E ++ A ++ ⟨#[95]⟩ ++ (E ++ A))]
      refine (DL.out _ HX.out _ (T3.out.on BK.out)).mono ?_
      rintro e w5 ⟨⟨g5, c5, rfl, _, r5⟩, b5⟩
      have x0 := r5.cell 0 (.int .i64 3) rfl
      have x2 := r5.cell 2 (.int .i64 n) rfl
      have x6 := r5.cell 6 (.int .i64 4) rfl
      have x9 := r5.cell 9 (.string ⟨(95 :: digL 10 21 n).toArray⟩) rfl
      have x11 := r5.cell 11 (.bool true) rfl
      rw [show (⟨(95 :: digL 10 21 n).toArray⟩ : ByteArray) = ⟨#[95]⟩ ++ (E ++ A) from (bytes_eq (by rw [ByteArray.data_append, Array.toList_append, HX.out]; rfl)).symm] at x9
      have hc5 := r5.fits
      have hm5 := r5.max
      have HB := Lib.hid (bt (bt B3.out BK.out) b5)
      clear r5 b5 DL HX HD
      go_wp2_with fail
      go_ret
      exact ⟨rfl, HB.out⟩
    · have HX := HD.out.next h10
      rw [HE.out] at HX
      replace HX := Lib.hid HX
      clear HE
      go_wp2_with fail
      go_round
      case rel => exact ⟨k / 10, _, rfl, by go_num, by omega, HX⟩
      case measure => simp [intOf]; omega

set_option maxRecDepth 100000 in
set_option maxHeartbeats 3200000 in
theorem atoms_two (s : ByteArray) (n : Nat) (w : World) (ht : Lay w) (hn : n < 4294967296) (h12 : s = ⟨#[91, 93]⟩ ∨ s = ⟨#[123, 125]⟩) :
    Calls Tryd.prog 5 #[.string s, .int .u32 n] w fun e w' => e = .returned (.bool true) ∧ Below w.heap.size w w' := by
  have HT := Lib.hid ht
  have PUT := Lib.hid (fun w => put_is s w (by rcases h12 with rfl | rfl <;> decide))
  have hp : (⟨(putL s.data.toList).toArray⟩ : ByteArray) = s := by rcases h12 with rfl | rfl <;> rfl
  rw [hp] at PUT
  have LX := Lib.hid (fun w ht => lex_at ((s ++ ⟨#[32]⟩).data.toList) (lexN ((s ++ ⟨#[32]⟩).data.toList) 1 0) rfl (by rcases h12 with rfl | rfl <;> decide) 3 0 0 (by rcases h12 with rfl | rfl <;> kernel_rfl) (by rcases h12 with rfl | rfl <;> kernel_rfl) (by rcases h12 with rfl | rfl <;> kernel_rfl) (by decide) w ht)
  rw [bytes_back] at LX
  have hs : s.size ≤ 2 := by rcases h12 with rfl | rfl <;> decide
  obtain ⟨e1, e2⟩ : (∃ x, (s.toList == [91, 93]) = x ∧ (x = true ∨ (s.toList == [123, 125]) = true)) ∧ True := ⟨⟨_, rfl, by rcases h12 with rfl | rfl <;> simp [Lib.toList_data]⟩, trivial⟩
  obtain ⟨x, e1, e3⟩ := e1
  clear ht hp h12 e2
  obtain ⟨e4, e5⟩ | ⟨e4, e5⟩ : (x = true ∧ True) ∨ (x = false ∧ (s.toList == [123, 125]) = true) := by
    cases x
    · exact .inr ⟨rfl, e3.resolve_left (by simp)⟩
    · exact .inl ⟨rfl, trivial⟩
  all_goals
    subst e4
    clear e3
    go_enter Tryd.func5, Tryd.ntmps5
    go_wp2_with fail
    refine (alive_is _ HT.out).mono ?_
    rintro e w1 ⟨rfl, b1⟩
    have T1 := Lib.hid (HT.out.on b1)
    have B1 := Lib.hid b1
    clear b1
    go_wp2_with fail
    refine (PUT.out _ T1.out.1).mono ?_
    rintro e w2 ⟨rfl, b2⟩
    have T2 := Lib.hid (T1.out.on b2)
    have B2 := Lib.hid (bt B1.out b2)
    clear b2
    go_wp2_with fail
    refine (LX.out _ T2.out).mono ?_
    rintro e w3 ⟨⟨g, cp, rfl, _, r1⟩, b3⟩
    have T3 := Lib.hid (T2.out.on b3)
    have B3 := Lib.hid (bt B2.out b3)
    have hc1 := r1.fits
    have hc2 := r1.max
    clear b3 r1
    go_wp2_with fail
    go_quiet (fail)
    have BK := Lib.hid (show Below w3.heap.size w3 (w3.drewN nq) from ⟨rfl, rfl, rfl, Nat.le_refl _, fun _ _ => rfl⟩)
    go_wp2_with fail
    have DL := Lib.hid (fun (X : ByteArray) (hX : X.data.toList = digL 10 21 n) w ht => lex_at ((X ++ ⟨#[95]⟩ ++ X).data.toList) ⟨[⟨3, 1, (n : Int), [], false, false⟩, ⟨4, 1, 0, 95 :: digL 10 21 n, false, true⟩, ⟨0, 1, 0, [], false, false⟩], 0, 0⟩ (by
      rw [ByteArray.data_append, Array.toList_append, ByteArray.data_append, Array.toList_append, hX, List.append_assoc]
      exact lex_dec (Nat.lt_of_lt_of_le hn (by omega)) hn) (by
      have := digL_len 10 21 n
      rw [ByteArray.data_append, Array.toList_append, ByteArray.data_append, Array.toList_append, hX]
      simp
      omega) 3 0 0 rfl rfl rfl (by decide) w ht)
    go_loop [10, 11] (fun v i => ∃ (k : Nat) (A : ByteArray), v = .string A ∧ i = .int .u64 k ∧ k < 4294967296 ∧ Hid (DecSt n k A)) (fun _ i => (intOf i).toNat)
    case atStart => exact ⟨n, ⟨#[]⟩, rfl, rfl, hn, DecSt.start hn⟩
    case round =>
      obtain ⟨k, A, rfl, rfl, hk, HD⟩ := hrel
      have hA := HD.out.small
      obtain ⟨E, hE⟩ : ∃ E : ByteArray, ⟨#[dch (k % 10)]⟩ = E := ⟨_, rfl⟩
      have cv : ∀ w, (convert 5 9 (.int .u8 (48 + (k : Int) % 10))).run Tryd.prog w = .ok (.string E) w := by
        have enc := (enc_dig k).trans hE
        intro w
        go_simp
      have hEs : E.size ≤ 1 := by rw [← hE]; exact Nat.le_refl _
      have HE := Lib.hid hE
      clear hE
      by_cases h10 : k < 10
      · have HX := HD.out.last h10
        rw [HE.out] at HX
        replace HX := Lib.hid HX
        clear HE
        go_wp2_with fail
        rw [← bytes_back (E ++ A ++ ⟨#[95]⟩ ++ (E ++ A))]
        refine (DL.out _ HX.out _ (T3.out.on BK.out)).mono ?_
        rintro e w5 ⟨⟨g5, c5, rfl, _, r5⟩, b5⟩
        have x0 := r5.cell 0 (.int .i64 3) rfl
        have x2 := r5.cell 2 (.int .i64 n) rfl
        have x6 := r5.cell 6 (.int .i64 4) rfl
        have x9 := r5.cell 9 (.string ⟨(95 :: digL 10 21 n).toArray⟩) rfl
        have x11 := r5.cell 11 (.bool true) rfl
        rw [show (⟨(95 :: digL 10 21 n).toArray⟩ : ByteArray) = ⟨#[95]⟩ ++ (E ++ A) from (bytes_eq (by rw [ByteArray.data_append, Array.toList_append, HX.out]; rfl)).symm] at x9
        have hc5 := r5.fits
        have hm5 := r5.max
        have HB := Lib.hid (bt (bt B3.out BK.out) b5)
        clear r5 b5 DL HX HD
        go_wp2_with fail
        go_ret
        exact ⟨rfl, HB.out⟩
      · have HX := HD.out.next h10
        rw [HE.out] at HX
        replace HX := Lib.hid HX
        clear HE
        go_wp2_with fail
        go_round
        case rel => exact ⟨k / 10, _, rfl, by go_num, by omega, HX⟩
        case measure => simp [intOf]; omega

end Go.Proofs.YtkbeaddbnnboaaaDoor
