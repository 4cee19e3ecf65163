/- The document's Lex: a contract. Conditions: the text has at most 3000 bytes; the arguments' memory. -/
import Derived.Test.YtkbeaddbnnboaaaDoorTokRh
namespace Go.Proofs.YtkbeaddbnnboaaaDoor
open Go Go.RowKit Go.Maps

theorem tokR_slash {l : List UInt8} (h : Lib.hasPrefix l [47, 42] = true) : tokT l = none := by
  rcases l with _ | ⟨c, t⟩
  · cases h
  obtain rfl : 47 = c := by
    simp only [Lib.hasPrefix, List.isPrefixOf, Bool.and_eq_true, beq_iff_eq] at h
    exact h.1
  have h5 : sortZ (((47 : UInt8).toNat : Nat) : Int) = 5 := by decide
  unfold tokT
  rw [stop_no (by decide), letters_sort h5 (by decide), alone_sort h5 (by decide), letters_sort h5 (by decide), numT_bad (by decide) (by decide), within_no (by decide), within_no (by decide), alone_sort h5 (by decide)]
  unfold signsT
  rw [if_pos h]
  rfl
/-- ahead of each token: a bytes are read, the last token ended at en -/
structure RLSt (s : ByteArray) (w wr : World) (v : Value) (a : Nat) (en : Int) (ts : List Tok) : Prop where
  ad : a ≤ s.size
  own : wr.ownsRow w.heap.size 30 6 v ts.length (tokCells ts)
  below : Below w.heap.size w wr
  many : ts.length ≤ a
  en : (ts.length = 0 ∧ en = -1) ∨ (0 < ts.length ∧ en = (a : Int))
  run : lexN s.data.toList 1 0 = (lexN (s.data.toList.drop a) (1 + nlC (s.data.toList.take a)) ts.length).after ts
theorem take_two (l : List UInt8) (a k : Nat) : l.take (a + k) = l.take a ++ (l.drop a).take k := by rw [List.take_add]
theorem lines_two (l : List UInt8) (a k : Nat) : (1 : Int) + nlC (l.take a) + nlC ((l.drop a).take k) = 1 + nlC (l.take (a + k)) := by
  rw [take_two, nlC_app]
  omega
theorem box_facts (W : World) (x0 x1 x2 x3 x4 x5 : Value) : (W.alloc (.cells #[x0, x1, x2, x3, x4, x5] 30)).heap[W.heap.size]? = some (.cells #[x0, x1, x2, x3, x4, x5] 30 (0, 0)) := new_at _ _ rfl

set_option maxRecDepth 100000 in
set_option maxHeartbeats 6400000 in
theorem ref_lex_is (s : ByteArray) (w : World) (hs : s.size ≤ 3000) :
    Calls Tryd.prog 10 #[.string s] w (LexPost w (lexN s.data.toList 1 0)) := by
  obtain ⟨i0, hi0, hz0, hzz, hz2⟩ := info_parts (show (Tryd.prog.info? 30).map (fun i => (i.zero, i.size, i.bytes)) = some (some (.agg #[.int .i64 0, .int .i64 0, .int .i64 0, .string ⟨#[]⟩, .bool false, .bool false]), 6, 48) by kernel_rfl)
  have H0 : Hid (RLSt s w w (.slice none 0 0) 0 (-1) []) := ⟨Nat.zero_le _, World.ownsRow_nil _ _ _ _, Below.refl _ _, Nat.le_refl _, .inl ⟨rfl, rfl⟩, rfl⟩
  have hls : s.data.toList.length = s.size := (Lib.size_eq s).symm
  have HLS := Lib.hid hls
  clear hls
  go_enter Tryd.func10, Tryd.ntmps10
  go_wp2_with fail
  go_loopw [5, 6, 7] (fun v vi ve wr => ∃ (ts : List Tok) (a : Nat) (en : Int), vi = .int .i64 a ∧ ve = .int .i64 en ∧ Hid (RLSt s w wr v a en ts)) (fun _ vi _ _ => s.size + 1 - (intOf vi).toNat)
  case atStart => exact ⟨[], 0, -1, rfl, rfl, H0⟩
  case round =>
    obtain ⟨ts, a, en, rfl, rfl, HS⟩ := hrel
    have had := HS.out.ad
    obtain ⟨N, hN⟩ : ∃ N, a + skipN (s.data.toList.drop a) = N := ⟨_, rfl⟩
    have hNs : N ≤ s.size := by
      have := skipN_le (s.data.toList.drop a)
      rw [List.length_drop, HLS.out] at this
      omega
    obtain ⟨ok, hok⟩ : ∃ ok, (!Lib.hasPrefix (s.data.toList.drop N) [47, 42]) = ok := ⟨_, rfl⟩
    have SK := Lib.hid (fun w => ref_skip_is s a w (by omega) had N ok hN hok)
    have hdrop : (s.data.toList.drop a).drop (skipN (s.data.toList.drop a)) = s.data.toList.drop N := by rw [List.drop_drop, hN]
    obtain ⟨m, hm⟩ : ∃ m : Int, (1 : Int) + nlC (s.data.toList.take N) = m := ⟨_, rfl⟩
    have hml : (1 : Int) + nlC (s.data.toList.take a) + nlC ((s.data.toList.drop a).take (skipN (s.data.toList.drop a))) = m := by rw [lines_two, hN, hm]
    have LI := Lib.hid (fun w => ref_line_is s N w (by omega) hNs)
    rw [hm] at LI
    have hmb : 1 ≤ m ∧ m ≤ 3001 := by
      have := nlC_le (s.data.toList.take N)
      rw [List.length_take] at this
      omega
    have HML := Lib.hid hml
    have HDR := Lib.hid hdrop
    have HNN := Lib.hid hN
    obtain ⟨ad, cap, hv⟩ := owns_slice HS.out.own
    subst hv
    obtain ⟨k, hk⟩ : ∃ k, ts.length = k := ⟨_, rfl⟩
    have HK := Lib.hid hk
    have hmany := HS.out.many
    rw [hk] at hmany
    cases ok
    · have HE := Lib.hid (show lexN s.data.toList 1 0 = ⟨ts, m, 5⟩ by
        have hp : Lib.hasPrefix (s.data.toList.drop N) [47, 42] = true := by simpa using hok
        have := HS.out.run
        have e1 := lexN_bad (l := s.data.toList.drop a) (n := 1 + nlC (s.data.toList.take a)) (k := ts.length) (by rw [hdrop]; intro e; rw [e] at hp; cases hp) (by rw [hdrop]; exact tokR_slash hp)
        rw [e1, hml] at this
        rw [this]
        simp [LexR.after])
      have OW := Lib.hid HS.out.own
      have BN := Lib.hid HS.out.below
      clear hN hok hdrop hm hml hk HS
      go_wp2_with (first | (go_at_call 20; refine (SK.out _).mono ?_; rintro e w' ⟨rfl, hw⟩; obtain rfl := hw.symm; clear hw) | (go_at_call 21; refine (LI.out _).mono ?_; rintro e w' ⟨rfl, hw⟩; obtain rfl := hw.symm; clear hw))
      go_ret3
      rw [HE.out]
      exact ⟨⟨_, rfl, OW.out⟩, BN.out⟩
    · have hnp : Lib.hasPrefix (s.data.toList.drop N) [47, 42] = false := by simpa using hok
      by_cases hlt : N < s.size
      · have hrne : s.data.toList.drop N ≠ [] := fun e => by
          have := congrArg List.length e
          rw [List.length_drop, HLS.out, List.length_nil] at this
          omega
        have ON := Lib.hid (fun w => ref_one_is s N w hs hlt hnp)
        rw [hk]
        go_wp2_with (first | (go_at_call 20; refine (SK.out _).mono ?_; rintro e w' ⟨rfl, hw⟩; obtain rfl := hw.symm; clear hw) | (go_at_call 21; refine (LI.out _).mono ?_; rintro e w' ⟨rfl, hw⟩; obtain rfl := hw.symm; clear hw))
        refine (ON.out _).mono ?_
        rintro e w5 ⟨⟨t, n, rfl, ho⟩, b5⟩
        have own5 := owns_same HS.out.own (fun g hg => b5.block g (HS.out.own.lt g hg).2)
        have BN : Hid (Below w.heap.size w w5) := HS.out.below.trans (b5.mono HS.out.below.size)
        have hb5 := BN.out.size
        have OWN := Lib.hid own5
        rw [hk] at OWN
        obtain ⟨tk, tn, tz⟩ := t
        obtain ⟨X, hX⟩ : ∃ X : ByteArray, (⟨tz.toArray⟩ : ByteArray) = X := ⟨_, rfl⟩
        have HX := Lib.hid hX
        simp only [hX]
        clear own5 b5 hX
        have Bz := box_facts w5 (.int .i64 0) (.int .i64 0) (.int .i64 0) (.string ⟨#[]⟩) (.bool false) (.bool false)
        have z0 := cell_of_heap (o := 0) Bz rfl
        have zf0 := free_of_heap (o := 0) Bz
        have z1 := cell_of_heap (o := 1) Bz rfl
        have zf1 := free_of_heap (o := 1) Bz
        have z2 := cell_of_heap (o := 2) Bz rfl
        have zf2 := free_of_heap (o := 2) Bz
        have z3 := cell_of_heap (o := 3) Bz rfl
        have zf3 := free_of_heap (o := 3) Bz
        have z4 := cell_of_heap (o := 4) Bz rfl
        have zf4 := free_of_heap (o := 4) Bz
        have z5 := cell_of_heap (o := 5) Bz rfl
        have zf5 := free_of_heap (o := 5) Bz
        clear Bz
        have Bt := box_facts w5 (.int .i64 tk) (.int .i64 0) (.int .i64 tn) (.string X) (.bool false) (.bool false)
        have t0 := cell_of_heap (o := 0) Bt rfl
        have tf0 := free_of_heap (o := 0) Bt
        have t1 := cell_of_heap (o := 1) Bt rfl
        have tf1 := free_of_heap (o := 1) Bt
        have t2 := cell_of_heap (o := 2) Bt rfl
        have tf2 := free_of_heap (o := 2) Bt
        have t3 := cell_of_heap (o := 3) Bt rfl
        have tf3 := free_of_heap (o := 3) Bt
        have t4 := cell_of_heap (o := 4) Bt rfl
        have tf4 := free_of_heap (o := 4) Bt
        have t5 := cell_of_heap (o := 5) Bt rfl
        have tf5 := free_of_heap (o := 5) Bt
        clear Bt
        rcases ho with ⟨hno, rfl⟩ | ⟨hso, hn⟩
        · have HE := Lib.hid (show lexN s.data.toList 1 0 = ⟨ts, m, 5⟩ by
            have := HS.out.run
            have e1 := lexN_bad (l := s.data.toList.drop a) (n := 1 + nlC (s.data.toList.take a)) (k := ts.length) (by rw [hdrop]; exact hrne) (by rw [hdrop]; exact hno)
            rw [e1, hml] at this
            rw [this]
            simp [LexR.after])
          have OW2 : Hid ((w5.alloc (.cells #[.int .i64 tk, .int .i64 0, .int .i64 tn, .string X, .bool false, .bool false] 30)).ownsRow w.heap.size 30 6 (.slice ad k cap) k (tokCells ts)) := OWN.out.alloc _
          have BN2 : Hid (Below w.heap.size w (w5.alloc (.cells #[.int .i64 tk, .int .i64 0, .int .i64 tn, .string X, .bool false, .bool false] 30))) := BN.out.alloc BN.out.size _
          clear hN hok hdrop hm hml HS hrne hnp hno OWN BN
          go_wp2_with (first | (go_at_call 20; refine (SK.out _).mono ?_; rintro e w' ⟨rfl, hw⟩; obtain rfl := hw.symm; clear hw) | (go_at_call 21; refine (LI.out _).mono ?_; rintro e w' ⟨rfl, hw⟩; obtain rfl := hw.symm; clear hw))
          go_ret3
          rw [HE.out]
          refine ⟨⟨_, rfl, ?_⟩, BN2.out⟩
          rw [hk]
          exact OW2.out
        · have hz := tok_len _ _ hso
          rw [List.length_drop, HLS.out] at hz
          have hnl : N + n ≤ s.size := by omega
          have hk16 : ¬ (k : Int) = 16384 := by omega
          obtain ⟨op, hop⟩ : ∃ op, Lib.hasPrefix (s.data.toList.drop (N + n)) [40] = op := ⟨_, rfl⟩
          obtain ⟨tg, htg⟩ : ∃ tg, (decide (skipN (s.data.toList.drop a) = 0) && decide (0 < k)) = tg := ⟨_, rfl⟩
          have hte : ((N : Int) == en) = tg := by
            rw [← htg]
            rcases HS.out.en with ⟨h1, h2⟩ | ⟨h1, h2⟩
            · rw [hk] at h1
              subst h1
              rw [h2]
              first | (simp; done) | (simp; omega)
            · rw [hk] at h1
              rw [h2, decide_eq_true h1, Bool.and_true, Bool.eq_iff_iff, beq_iff_eq, decide_eq_true_iff]
              omega
          have HE := Lib.hid (show lexN s.data.toList 1 0 = (lexN (s.data.toList.drop (N + n)) (1 + nlC (s.data.toList.take (N + n))) (k + 1)).after (ts ++ [⟨tk, m, tn, tz, op, tg⟩]) by
            have := HS.out.run
            have e1 := lexN_on (l := s.data.toList.drop a) (n := 1 + nlC (s.data.toList.take a)) (k := ts.length) (by rw [hdrop]; exact hrne) (by rw [hdrop]; exact hso) (by omega)
            rw [e1, hml, hdrop, after_cons, List.drop_drop, hop, hk, htg] at this
            rw [this, ← hm, lines_two])
          have haN : a ≤ N := by omega
          have HTE := hte
          clear hN hok hdrop hml HS hrne hnp hso htg hte
          have Bl := box_facts w5 (.int .i64 tk) (.int .i64 m) (.int .i64 tn) (.string X) (.bool false) (.bool false)
          have l0 := cell_of_heap (o := 0) Bl rfl
          have lf0 := free_of_heap (o := 0) Bl
          have l1 := cell_of_heap (o := 1) Bl rfl
          have lf1 := free_of_heap (o := 1) Bl
          have l2 := cell_of_heap (o := 2) Bl rfl
          have lf2 := free_of_heap (o := 2) Bl
          have l3 := cell_of_heap (o := 3) Bl rfl
          have lf3 := free_of_heap (o := 3) Bl
          have l4 := cell_of_heap (o := 4) Bl rfl
          have lf4 := free_of_heap (o := 4) Bl
          have l5 := cell_of_heap (o := 5) Bl rfl
          have lf5 := free_of_heap (o := 5) Bl
          clear Bl
          have Bg := box_facts w5 (.int .i64 tk) (.int .i64 m) (.int .i64 tn) (.string X) (.bool false) (.bool tg)
          have g0 := cell_of_heap (o := 0) Bg rfl
          have gf0 := free_of_heap (o := 0) Bg
          have g1 := cell_of_heap (o := 1) Bg rfl
          have gf1 := free_of_heap (o := 1) Bg
          have g2 := cell_of_heap (o := 2) Bg rfl
          have gf2 := free_of_heap (o := 2) Bg
          have g3 := cell_of_heap (o := 3) Bg rfl
          have gf3 := free_of_heap (o := 3) Bg
          have g4 := cell_of_heap (o := 4) Bg rfl
          have gf4 := free_of_heap (o := 4) Bg
          have g5 := cell_of_heap (o := 5) Bg rfl
          have gf5 := free_of_heap (o := 5) Bg
          clear Bg
          by_cases hl2 : N + n < s.size
          · obtain ⟨u, hu⟩ : ∃ u, s[N + n] = u := ⟨_, rfl⟩
            have hd := drop_at s (N + n) hl2
            rw [hu] at hd
            have hou : ((u.toNat : Int) == 40) = op := by
              rw [← hop, hd]
              show _ = ((40 == u) && true)
              rw [Bool.and_true, Bool.eq_iff_iff, beq_iff_eq, beq_iff_eq]
              constructor
              · intro h
                exact (UInt8.toNat_inj.1 (by show (40 : UInt8).toNat = u.toNat; show 40 = u.toNat; omega))
              · intro h
                rw [← h]
                rfl
            have NEWS := Lib.hid (fun W H h => tok_news W (.int .i64 tk) (.int .i64 m) (.int .i64 tn) (.string X) (.bool op) (.bool tg) H h)
            have ONE := Lib.hid (tok_one tk m tn X op tg)
            have Bo := box_facts w5 (.int .i64 tk) (.int .i64 m) (.int .i64 tn) (.string X) (.bool op) (.bool tg)
            have o0 := cell_of_heap (o := 0) Bo rfl
            have of0 := free_of_heap (o := 0) Bo
            have o1 := cell_of_heap (o := 1) Bo rfl
            have of1 := free_of_heap (o := 1) Bo
            have o2 := cell_of_heap (o := 2) Bo rfl
            have of2 := free_of_heap (o := 2) Bo
            have o3 := cell_of_heap (o := 3) Bo rfl
            have of3 := free_of_heap (o := 3) Bo
            have o4 := cell_of_heap (o := 4) Bo rfl
            have of4 := free_of_heap (o := 4) Bo
            have o5 := cell_of_heap (o := 5) Bo rfl
            have of5 := free_of_heap (o := 5) Bo
            clear Bo
            clear hd hop hm hk
            go_wp2_with (first | (go_at_call 20; refine (SK.out _).mono ?_; rintro e w' ⟨rfl, hw⟩; obtain rfl := hw.symm; clear hw) | (go_at_call 21; refine (LI.out _).mono ?_; rintro e w' ⟨rfl, hw⟩; obtain rfl := hw.symm; clear hw) | (at_builtin; refine wpList_append_lies _ rfl (.tmp 80) (.tmp 82) 23 rfl w.heap.size 30 i0 (.agg #[.int .i64 0, .int .i64 0, .int .i64 0, .string ⟨#[]⟩, .bool false, .bool false]) 6 48 Tryd.underlying23 hi0 hz0 hzz hz2 rfl (by decide) _ _ _ rfl ((OWN.out.alloc _).alloc _) ⟨w5.heap.size + 1, 0, none⟩ 1 1 [.int .i64 tk, .int .i64 m, .int .i64 tn, .string X, .bool op, .bool tg] rfl rfl (NEWS.out _ _ (by simp)) ONE.out (by omega) ?_ ?_ ?_ (w5.heap.size + 1 + 1) (by simp) ?_))
            · unfold maxLen; omega
            · omega
            · first | omega | (simp; omega)
            intro g' cap' w7 hown hgrow hat hlt2
            have BN7 := Lib.hid (((BN.out.alloc BN.out.size _).alloc (by simp; omega) _).grown hgrow (by simp; omega) (fun j hj => (OWN.out.lt j hj).1))
            have NX : Hid (RLSt s w w7 (.slice (some ⟨g', 0, none⟩) (k + 1) cap') (N + n) ((N + n : Nat) : Int) (ts ++ [⟨tk, m, tn, tz, op, tg⟩])) := by
              refine ⟨hnl, ?_, BN7.out, by rw [List.length_append, HK.out]; show k + 1 ≤ N + n; omega, .inr ⟨by rw [List.length_append, HK.out]; show 0 < k + 1; omega, rfl⟩, ?_⟩
              · rw [tokCells_app, List.length_append, HK.out]
                rw [← HX.out] at hown
                exact hown
              · rw [HE.out, List.length_append, HK.out]
                rfl
            clear hown hgrow hat hlt2 NEWS ONE OWN BN BN7
            go_wp2_with fail
            go_round
            case rel => exact ⟨_, N + n, _, by go_num, by go_num, NX⟩
            case measure => simp [intOf]; omega
          · have hof : op = false := by rw [← hop, List.drop_of_length_le (by rw [HLS.out]; omega)]; rfl
            subst hof
            have NEWS := Lib.hid (fun W H h => tok_news W (.int .i64 tk) (.int .i64 m) (.int .i64 tn) (.string X) (.bool false) (.bool tg) H h)
            have ONE := Lib.hid (tok_one tk m tn X false tg)
            clear hop hm hk
            go_wp2_with (first | (go_at_call 20; refine (SK.out _).mono ?_; rintro e w' ⟨rfl, hw⟩; obtain rfl := hw.symm; clear hw) | (go_at_call 21; refine (LI.out _).mono ?_; rintro e w' ⟨rfl, hw⟩; obtain rfl := hw.symm; clear hw) | (at_builtin; refine wpList_append_lies _ rfl (.tmp 80) (.tmp 82) 23 rfl w.heap.size 30 i0 (.agg #[.int .i64 0, .int .i64 0, .int .i64 0, .string ⟨#[]⟩, .bool false, .bool false]) 6 48 Tryd.underlying23 hi0 hz0 hzz hz2 rfl (by decide) _ _ _ rfl ((OWN.out.alloc _).alloc _) ⟨w5.heap.size + 1, 0, none⟩ 1 1 [.int .i64 tk, .int .i64 m, .int .i64 tn, .string X, .bool false, .bool tg] rfl rfl (NEWS.out _ _ (by simp)) ONE.out (by omega) ?_ ?_ ?_ (w5.heap.size + 1 + 1) (by simp) ?_))
            · unfold maxLen; omega
            · omega
            · first | omega | (simp; omega)
            intro g' cap' w7 hown hgrow hat hlt2
            have BN7 := Lib.hid (((BN.out.alloc BN.out.size _).alloc (by simp; omega) _).grown hgrow (by simp; omega) (fun j hj => (OWN.out.lt j hj).1))
            have NX : Hid (RLSt s w w7 (.slice (some ⟨g', 0, none⟩) (k + 1) cap') (N + n) ((N + n : Nat) : Int) (ts ++ [⟨tk, m, tn, tz, false, tg⟩])) := by
              refine ⟨hnl, ?_, BN7.out, by rw [List.length_append, HK.out]; show k + 1 ≤ N + n; omega, .inr ⟨by rw [List.length_append, HK.out]; show 0 < k + 1; omega, rfl⟩, ?_⟩
              · rw [tokCells_app, List.length_append, HK.out]
                rw [← HX.out] at hown
                exact hown
              · rw [HE.out, List.length_append, HK.out]
                rfl
            clear hown hgrow hat hlt2 NEWS ONE OWN BN BN7
            go_wp2_with fail
            go_round
            case rel => exact ⟨_, N + n, _, by go_num, by go_num, NX⟩
            case measure => simp [intOf]; omega
      · have hNe : s.data.toList.drop N = [] := List.drop_of_length_le (by rw [HLS.out]; omega)
        have HE := Lib.hid (show lexN s.data.toList 1 0 = ⟨ts ++ [⟨0, m, 0, [], false, false⟩], 0, 0⟩ by
          have := HS.out.run
          have e1 := lexN_end (l := s.data.toList.drop a) (n := 1 + nlC (s.data.toList.take a)) (k := ts.length) (by rw [hdrop]; exact hNe)
          rw [e1, hml] at this
          rw [this]
          rfl)
        have OWN := Lib.hid HS.out.own
        rw [hk] at OWN
        have BN := Lib.hid HS.out.below
        have hb0 := HS.out.below.size
        have NEWS := Lib.hid (fun W H h => tok_news W (.int .i64 0) (.int .i64 m) (.int .i64 0) (.string ⟨#[]⟩) (.bool false) (.bool false) H h)
        have ONE := Lib.hid (tok_one 0 m 0 ⟨#[]⟩ false false)
        clear hN hok hdrop hm hml hk HS hNe hnp
        rw [HK.out]
        go_wp2_with (first | (go_at_call 20; refine (SK.out _).mono ?_; rintro e w' ⟨rfl, hw⟩; obtain rfl := hw.symm; clear hw) | (go_at_call 21; refine (LI.out _).mono ?_; rintro e w' ⟨rfl, hw⟩; obtain rfl := hw.symm; clear hw) | (at_builtin; refine wpList_append_lies _ rfl (.tmp 32) (.tmp 37) 23 rfl w.heap.size 30 i0 (.agg #[.int .i64 0, .int .i64 0, .int .i64 0, .string ⟨#[]⟩, .bool false, .bool false]) 6 48 Tryd.underlying23 hi0 hz0 hzz hz2 rfl (by decide) _ _ _ rfl (OWN.out.alloc _) ⟨wr.heap.size, 0, none⟩ 1 1 [.int .i64 0, .int .i64 m, .int .i64 0, .string ⟨#[]⟩, .bool false, .bool false] rfl rfl (NEWS.out _ _ rfl) ONE.out (by omega) ?_ ?_ ?_ (wr.heap.size + 1) (by simp) ?_))
        · unfold maxLen; omega
        · omega
        · simp; omega
        intro g' cap' w7 hown hgrow hat hlt2
        have BN7 := Lib.hid ((BN.out.alloc BN.out.size _).grown hgrow (by simp; omega) (fun j hj => (OWN.out.lt j hj).1))
        have HO := Lib.hid hown
        clear hown hgrow hat hlt2 NEWS ONE OWN
        go_wp2_with fail
        go_ret3
        rw [HE.out]
        refine ⟨⟨_, rfl, ?_⟩, BN7.out⟩
        rw [tokCells_app, List.length_append, HK.out]
        exact HO.out

end Go.Proofs.YtkbeaddbnnboaaaDoor
