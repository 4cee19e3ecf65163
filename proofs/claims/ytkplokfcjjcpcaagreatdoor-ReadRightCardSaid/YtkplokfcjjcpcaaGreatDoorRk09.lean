/- Joined texts: TokM TokN TokO TokP TokQ TokT TokV TokY TokZ. Conditions: as each states. -/
import Derived.Test.YtkplokfcjjcpcaaGreatDoorPk08
import Derived.BigQuiet
import Derived.Test.YtkplokfcjjcpcaaGreatDoorPk04
import Derived.Lib.CutLaws
section
namespace Go.Proofs.YtkplokfcjjcpcaaGreatDoor
open Go Go.RowKit Go.Maps
theorem bytes_back (s : ByteArray) : (⟨s.data.toList.toArray⟩ : ByteArray) = s := (bytes_eq rfl).symm
theorem gl_lt {w : World} (h : Lay w) : ∀ g ∈ [4, 7, 8, 9], g < w.heap.size := by
  obtain ⟨⟨h1, ⟨e2, h2, _⟩, e3, h3, _⟩, m, hm⟩ := h
  have a1 := World.block_lt_of_cell? _ _ h1
  have a2 := World.block_lt_of_cell? _ _ h2
  have a3 := World.block_lt_of_cell? _ _ h3
  have a4 := World.block_lt_of_cell? _ _ hm
  simp at a1 a2 a3 a4 ⊢
  omega
theorem att_cell {w : World} {Q p : Nat} (h : w.heap[Q]? = some (.cells (att9 p) 96 (0, 0))) (j : Nat) : w.cell? ⟨Q, j, none⟩ = (att9 p)[j]? := by
  unfold World.cell?
  simp only [h]
  rfl
theorem LexSt.own_at {s : ByteArray} {w wr w2 : World} {Q : Nat} {v : Value} {ts : List Tok} {l : List UInt8} {n : Int} (h : LexSt s w wr Q v ts l n) (k : OnlyAt w.heap.size wr w2) : w2.ownsRow (Q + 1) 48 6 v ts.length (tokCells ts) :=
  owns_same h.own fun g hg => k.other g (by have := h.above; have := (h.own.lt g hg).1; omega) (h.own.lt g hg).2
theorem LexSt.row_at {s : ByteArray} {w wr w2 : World} {Q : Nat} {v : Value} {ts : List Tok} {l : List UInt8} {n : Int} (h : LexSt s w wr Q v ts l n) (k : OnlyAt w.heap.size wr w2) : w2.heap[Q]? = some (.cells (att9 w.heap.size) 96 (0, 0)) :=
  (k.other Q (by have := h.above; omega) (heap_lt h.row)).trans h.row
theorem LexSt.low_Q {s : ByteArray} {w wr : World} {Q : Nat} {v : Value} {ts : List Tok} {l : List UInt8} {n : Int} (h : LexSt s w wr Q v ts l n) : Q < wr.heap.size := heap_lt h.row
theorem tok_news (w : World) (x0 x1 x2 x3 x4 x5 : Value) (H : Nat) (h : w.heap.size = H) : ∀ j u, [x0, x1, x2, x3, x4, x5][j]? = some u → (w.alloc (.cells #[x0, x1, x2, x3, x4, x5] 48)).cell? ((⟨H, 0, none⟩ : Addr).add j) = some u := by
  subst h
  exact World.news_of_block (heap_alloc_new w _)
theorem tok_one (k n m : Int) (s : ByteArray) (a b : Bool) : ∀ u ∈ [Value.int .i64 k, .int .i64 n, .int .i64 m, .string s, .bool a, .bool b], u.oneCell' = true := by
  intro u hu
  simp at hu
  rcases hu with rfl | rfl | rfl | rfl | rfl | rfl <;> rfl
theorem lex_next {s : ByteArray} {w w8 w9 : World} {Q g' cap' k b : Nat} {v : Value} {ts : List Tok} {L : List UInt8} {m' : Int} {t : Tok} {S3 : ByteArray} {o : Obj}
    (hpl : PL w8 w.heap.size S3 m') (hS3 : S3.data.toList = L) (hrow : w8.heap[Q]? = some (.cells (att9 w.heap.size) 96 (0, 0))) (hown8 : w8.ownsRow (Q + 1) 48 6 v k (tokCells ts)) (hb8 : Below w.heap.size w w8) (hQ : w.heap.size < Q) (hb : Q < b)
    (hown : w9.ownsRow (Q + 1) 48 6 (.slice (some ⟨g', 0, none⟩) (k + 1) cap') (k + 1) (tokCells ts ++ [.int .i64 t.k, .int .i64 t.line, .int .i64 t.n, .string ⟨t.s.toArray⟩, .bool t.open', .bool t.tight]))
    (hgrow : ((w8.setCell ⟨b, 4, none⟩ (.bool t.open')).alloc o).grownBy w9 v.ownBlock) (hk : ts.length = k) (hlow : 1 ≤ m') (hhigh : m' + L.length ≤ 5001) (hmany : k + 1 + L.length ≤ 5000) (hrun : lexN s.data.toList 1 0 = (lexN L m' (k + 1)).after (ts ++ [t])) :
    LexSt s w w9 Q (.slice (some ⟨g', 0, none⟩) (k + 1) cap') (ts ++ [t]) L m' := by
  have hz : (w8.setCell ⟨b, 4, none⟩ (.bool t.open')).heap.size = w8.heap.size := World.size_setCell _ _ _
  have hp8 := heap_lt hpl
  have hQ8 := heap_lt hrow
  have keep : ∀ j, j ≤ Q → j < w8.heap.size → w9.heap[j]? = w8.heap[j]? := fun j hj hl => by
    rw [hgrow.block j (by simp; omega) (fun h => by have := (hown8.lt j h.symm).1; omega), Below.heap_alloc _ _ _ (by rw [hz]; exact hl), heap_set_ne (by omega)]
  refine ⟨?_, hQ, (keep Q (Nat.le_refl _) hQ8).trans hrow, by rw [List.length_append, hk, tokCells_app]; exact hown, ?_, hlow, hhigh, by rw [List.length_append, hk]; simp; omega, by rw [List.length_append, hk]; exact hrun⟩
  · unfold PL
    rw [keep _ (by omega) hp8, ← bytes_eq hS3]
    exact hpl
  · exact ((hb8.setCell (p := ⟨b, 4, none⟩) (by show w.heap.size ≤ b; omega) _).alloc (by rw [hz]; omega) o).grown hgrow (by simp; omega) (fun j hj => by have := (hown8.lt j hj).1; omega)
set_option maxRecDepth 100000 in
set_option maxHeartbeats 6400000 in
theorem lex_is (s : ByteArray) (w : World) (hs : s.size ≤ 5000) (ht : Lay w) :
    Calls Tryz.prog 17 #[.string s] w (LexPost w (lexN s.data.toList 1 0)) := by
  have R := Lib.hid (fun p w => row_is p w)
  have HT := Lib.hid ht
  obtain ⟨i0, hi, hz0, hzz, hz2⟩ := info_parts (show (Tryz.prog.info? 48).map (fun i => (i.zero, i.size, i.bytes)) = some (some (.agg #[.int .i64 0, .int .i64 0, .int .i64 0, .string ⟨#[]⟩, .bool false, .bool false]), 6, 48) by kernel_rfl)
  have H0 := Lib.hid (fun w1 (b1 : Below (w.alloc (.cells #[.string s, .int .i64 1] 93)).heap.size (w.alloc (.cells #[.string s, .int .i64 1] 93)) w1) => show LexSt s w (w1.alloc (.cells (att9 w.heap.size) 96)) w1.heap.size (.slice none 0 0) [] s.data.toList 1 from by
    have hz : (w.alloc (.cells #[.string s, .int .i64 1] 93)).heap.size = w.heap.size + 1 := by simp
    have hl := b1.size
    have h0 := Lib.size_eq s
    refine ⟨?_, by omega, new_at _ _ rfl, World.ownsRow_nil _ _ _ _, ?_, Int.le_refl _, by omega, by simp; omega, rfl⟩
    · unfold PL
      rw [bytes_back, Below.heap_alloc _ _ _ (by omega), b1.block _ (by omega)]
      exact new_at _ _ rfl
    · exact (((Below.refl w.heap.size w).alloc (Nat.le_refl _) _).trans (b1.mono (by omega))).alloc (by omega) _)
  clear ht
  go_enter Tryz.func17, Tryz.ntmps17
  go_wp2_with (go_at_call 45; refine (R.out _ _).mono ?_; rintro e w1 ⟨rfl, b1⟩)
  have H1 := Lib.hid (H0.out w1 b1)
  clear b1 H0 R
  unfold att9 at H1
  go_loopw [2] (fun v wr => ∃ (ts : List Tok) (l : List UInt8) (n : Int), Hid (LexSt s w wr w1.heap.size v ts l n)) (fun _ wr => measB wr w.heap.size)
  case atStart => exact ⟨_, _, _, H1⟩
  case round =>
    obtain ⟨ts, l, n, HS⟩ := hrel
    have h1 := HS.out
    have B := Lib.hid (between_is w.heap.size ⟨l.toArray⟩ n wr h1.pl (by have := h1.high; have := h1.low; rw [Lib.size_eq]; simp; omega) (by have := h1.low; omega) (by have := h1.high; omega) (HT.out.on h1.below) (gl_lt HT.out))
    clear h1 H1
    go_wp2_with fail
    refine B.out.mono ?_
    rintro e w2 ⟨rfl, pl2, only2⟩
    have OWN := Lib.hid (HS.out.own_at only2)
    have ROW := Lib.hid (HS.out.row_at only2)
    have B2 := Lib.hid (HS.out.below.trans (only2.below _ (Nat.le_refl _)))
    have LQ := Lib.hid (show w1.heap.size < w2.heap.size from Nat.lt_of_lt_of_le HS.out.low_Q (only2.below 0 (Nat.zero_le _)).size)
    have HM := Lib.hid (measB_PL HS.out.pl)
    have LQ0 := Lib.hid HS.out.above
    obtain ⟨r, hr⟩ : ∃ r, l.drop (skipN l) = r := ⟨_, rfl⟩
    obtain ⟨m, hm⟩ : ∃ m, n + (nlC (l.take (skipN l)) : Int) = m := ⟨_, rfl⟩
    obtain ⟨nb, hnb⟩ : ∃ nb, decide (0 < skipN l) = nb := ⟨_, rfl⟩
    obtain ⟨S2, hS2⟩ : ∃ S : ByteArray, (⟨r.toArray⟩ : ByteArray) = S := ⟨_, rfl⟩
    rw [hr, hm, hS2] at pl2
    rw [hnb]
    have hm0 : 1 ≤ m ∧ m + r.length ≤ 5001 := by
      have h1 := HS.out.low
      have h2 := HS.out.high
      have h3 := nlC_le (l.take (skipN l))
      have h4 := skipN_le l
      rw [List.length_take] at h3
      rw [← hm, ← hr, List.length_drop]
      omega
    have hmany : ts.length + r.length ≤ 5000 := by
      have h1 := HS.out.many
      rw [← hr, List.length_drop]
      omega
    obtain ⟨ad, cap, hv⟩ := owns_slice OWN.out
    subst hv
    obtain ⟨c0, c1, _, _⟩ := pl2.cells
    obtain ⟨k, hk⟩ : ∃ k, ts.length = k := ⟨_, rfl⟩
    rw [hk] at OWN hmany
    have HR := Lib.hid hr
    have HMM := Lib.hid hm
    have HNB := Lib.hid hnb
    have HS2 := Lib.hid hS2
    have HK := Lib.hid hk
    have PL2 := Lib.hid pl2
    clear hr hm hnb only2 pl2 B
    rw [hk]
    clear hk
    rcases r with _ | ⟨c, r⟩
    · have he : S2.toList.isEmpty = true := by rw [← hS2, Lib.toList_data]; rfl
      have HE := Lib.hid (HS.out.run.trans (by rw [lexN_end HR.out, HMM.out]; rfl : _ = (⟨ts ++ [⟨0, m, 0, [], false, false⟩], 0, 0⟩ : LexR)))
      have NEWS := Lib.hid (fun W H h => tok_news W (.int .i64 0) (.int .i64 m) (.int .i64 0) (.string ⟨#[]⟩) (.bool false) (.bool false) H h)
      have ONE := Lib.hid (tok_one 0 m 0 ⟨#[]⟩ false false)
      have hb := B2.out.size
      have hlq := LQ.out
      clear hS2 HS HM
      go_wp2_with (at_builtin; refine wpList_append_lies _ rfl (.tmp 26) (.tmp 32) 28 rfl (w1.heap.size + 1) 48 i0 (.agg #[.int .i64 0, .int .i64 0, .int .i64 0, .string ⟨#[]⟩, .bool false, .bool false]) 6 48 Tryz.underlying28 hi hz0 hzz hz2 rfl (by decide) _ _ _ rfl (OWN.out.alloc _) ⟨w2.heap.size, 0, none⟩ 1 1 [.int .i64 0, .int .i64 m, .int .i64 0, .string ⟨#[]⟩, .bool false, .bool false] rfl rfl (NEWS.out _ _ rfl) ONE.out (by omega) ?_ ?_ ?_ (w2.heap.size + 1) (by simp) ?_)
      · unfold maxLen; omega
      · omega
      · simp; omega
      intro g' cap' w7 hown hgrow hat hlt2
      have BN := Lib.hid ((B2.out.alloc B2.out.size _).grown hgrow (by simp; have := B2.out.size; omega) (fun j hj => by have := (OWN.out.lt j hj).1; have := LQ0.out; omega))
      have HO := Lib.hid (owns_down hown (by have := LQ0.out; omega : w.heap.size ≤ w1.heap.size + 1))
      clear hown hgrow hat hlt2 NEWS ONE OWN
      go_wp2_with fail
      go_ret3
      rw [HE.out]
      refine ⟨⟨_, rfl, ?_⟩, BN.out⟩
      rw [tokCells_app, List.length_append, HK.out]
      exact HO.out
    · have hl2 : S2.data.toList = c :: r := by rw [← hS2]
      have hs2 : S2.size = r.length + 1 := by rw [Lib.size_eq, hl2]; rfl
      have he : S2.toList.isEmpty = false := by rw [Lib.toList_data, hl2]; rfl
      have F := Lib.hid (first_is w.heap.size S2 m w2 PL2.out (by simp at hmany; omega) (by omega) (HT.out.1.on B2.out))
      have q0 := att_cell ROW.out 0
      have q1 := att_cell ROW.out 1
      have q2 := att_cell ROW.out 2
      have q3 := att_cell ROW.out 3
      have q4 := att_cell ROW.out 4
      have q5 := att_cell ROW.out 5
      have q6 := att_cell ROW.out 6
      have q7 := att_cell ROW.out 7
      have q8 := att_cell ROW.out 8
      simp only [att9, List.getElem?_toArray, List.getElem?_cons_zero, List.getElem?_cons_succ] at q0 q1 q2 q3 q4 q5 q6 q7 q8
      have HL2 := Lib.hid hl2
      clear hS2 hl2
      unfold att9 at F
      go_wp2_with fail
      refine F.out.mono ?_
      rintro e w5 ⟨⟨t, z, rfl, ho⟩, b5⟩
      have HO := Lib.hid ho
      have hl5 := b5.size
      have S6 : Six (w5.alloc (.cells zero6 48)) w5.heap.size := ⟨new_at _ _ rfl⟩
      obtain ⟨d0, d1, d2, d3, d4, d5, z0, z1, z2, z3, z4, z5⟩ := S6.facts
      have B5 := Lib.hid b5
      have P7 := Lib.hid (fun x => (PL2.out.on b5).on ((Below.refl w5.heap.size w5).alloc (Nat.le_refl _) (.cells x 48)))
      have e1 := fun x => (P7.out x).cells.2.1
      clear q0 q1 q2 q3 q4 q5 q6 q7 q8 c0 c1 S6 b5 F ho
      unfold zero6 at *
      by_cases hz : z = 0
      · subst hz
        have HN := Lib.hid (show tokT (c :: r) = none by rw [← HL2.out]; exact HO.out.elim (fun h => h.1) (fun h => absurd h.2 (Nat.lt_irrefl 0)))
        have HE := Lib.hid (HS.out.run.trans (by rw [lexN_bad (by rw [HR.out]; simp) (by rw [HR.out]; exact HN.out), HMM.out]; simp [LexR.after] : _ = (⟨ts, m, 5⟩ : LexR)))
        have hlq := LQ.out
        have OWZ := Lib.hid (fun x => owns_down (((owns_same OWN.out fun g hg => B5.out.block g (OWN.out.lt g hg).2)).alloc (.cells x 48)) (by have := LQ0.out; omega : w.heap.size ≤ w1.heap.size + 1))
        have BZ := Lib.hid (fun x => (B2.out.trans (B5.out.mono B2.out.size)).alloc (by have := B2.out.size; omega) (.cells x 48))
        clear HO HS HN
        go_wp2_with fail
        go_quiet (fail)
        go_wp2_with fail
        go_ret3
        rw [HE.out]
        exact ⟨⟨_, rfl, by rw [HK.out]; exact owns_same (OWZ.out _) fun _ _ => rfl⟩, (BZ.out _).trans ⟨rfl, rfl, rfl, Nat.le_refl _, fun _ _ => rfl⟩⟩
      · have hz1 : ((z : Int) == 0) = false := by rw [beq_eq_false_iff_ne]; omega
        have hk1 : ((k : Int) == 16384) = false := by rw [beq_eq_false_iff_ne]; simp at hmany; omega
        have HN := Lib.hid (show tokT (c :: r) = some (t, z) by rw [← HL2.out]; exact HO.out.elim (fun h => absurd h.2 hz) (fun h => h.1))
        have hzl := tok_len _ _ HN.out
        have hzS : z ≤ S2.size := by rw [hs2]; exact hzl.2
        have hm2 : m ≤ 20000 := by omega
        have hm3 : 0 ≤ m := by omega
        have hs5 : S2.size ≤ 5000 := by simp at hmany; omega
        have PS := Lib.hid (fun x => pass_is w.heap.size S2 m z _ (P7.out x) hs5 hzS hm3 hm2)
        have hS3 : (S2.extract z S2.size).data.toList = (c :: r).drop z := by
          rw [Lib.extract_data, List.take_of_length_le (by rw [List.length_drop, Lib.size_eq]; omega), HL2.out]
        have hl2' := HL2.out
        obtain ⟨S3, hS3'⟩ : ∃ S3, S2.extract z S2.size = S3 := ⟨_, rfl⟩
        rw [hS3'] at hS3
        have P := Lib.hid (fun w => Tryz.strings_HasPrefix S3 ⟨#[40]⟩ w)
        obtain ⟨op, hop⟩ : ∃ op, Lib.hasPrefix S3.data.toList (ByteArray.mk #[40]).data.toList = op := ⟨_, rfl⟩
        rw [hop] at P
        have HOP := Lib.hid (show Lib.hasPrefix ((c :: r).drop z) [40] = op by rw [← hS3]; exact hop)
        have HS3 := Lib.hid hS3
        have HS3' := Lib.hid hS3'
        obtain ⟨m', hm'⟩ : ∃ m', m + (nlC ((c :: r).take z) : Int) = m' := ⟨_, rfl⟩
        have hm4 : 1 ≤ m' ∧ m' + ((c :: r).drop z).length ≤ 5001 := by
          have h3 := nlC_le ((c :: r).take z)
          rw [List.length_take] at h3
          rw [← hm', List.length_drop]
          omega
        have HM4 := Lib.hid hm4
        have HMN := Lib.hid (show k + 1 + ((c :: r).drop z).length ≤ 5000 by rw [List.length_drop]; omega)
        have HM' := Lib.hid hm'
        have hne : (c :: r) ≠ [] := by simp
        have HRUN := Lib.hid (show lexN s.data.toList 1 0 = (lexN ((c :: r).drop z) m' (k + 1)).after (ts ++ [⟨t.k, m, t.n, t.s, op, decide (skipN l = 0) && decide (0 < k)⟩]) by
          rw [HS.out.run, HK.out, lexN_on (by rw [HR.out]; exact hne) (by rw [HR.out]; exact HN.out) (by omega), HR.out, HMM.out, hm', HOP.out, after_cons])
        have HLT := Lib.hid (show ((c :: r).drop z).length < l.length by
          have h4 : (l.drop (skipN l)).length = (c :: r).length := by rw [HR.out]
          rw [List.length_drop] at h4 ⊢
          omega)
        clear HO hz hzl hS3 hop hS3' hm' hne hm4
        cases nb
        · have HTIT := Lib.hid (show (decide (skipN l = 0) && decide (0 < k)) = (decide (0 < k)) by have h := HNB.out; simp at h; simp [h])
          have W7 := Lib.hid (PS.out #[.int .i64 t.k, .int .i64 m, .int .i64 t.n, .string ⟨t.s.toArray⟩, .bool false, .bool (decide (0 < k))])
          rw [HTIT.out] at HRUN
          clear PS HTIT HNB
          go_wp2_with fail
          refine W7.out.mono ?_
          rintro e w8 ⟨rfl, pl8, only8⟩
          rw [HS3'.out, HL2.out, HM'.out] at pl8
          have hbp : w5.heap.size ≠ w.heap.size := by have := B2.out.size; have := LQ.out; have := LQ0.out; omega
          have box : w8.heap[w5.heap.size]? = some (.cells #[.int .i64 t.k, .int .i64 m, .int .i64 t.n, .string ⟨t.s.toArray⟩, .bool false, .bool (decide (0 < k))] 48 (0, 0)) :=
            (only8.other _ hbp (by simp)).trans (new_at _ _ rfl)
          have keep : ∀ j, j ≠ w.heap.size → j < w2.heap.size → w8.heap[j]? = w2.heap[j]? := fun j hj hl =>
            (only8.other j hj (by simp; omega)).trans ((Below.heap_alloc _ _ _ (by omega)).trans (B5.out.block j hl))
          have row8 : w8.heap[w1.heap.size]? = some (.cells (att9 w.heap.size) 96 (0, 0)) := (keep _ (by have := LQ0.out; omega) LQ.out).trans ROW.out
          have own8 := owns_same OWN.out fun g hg => keep g (by have := (OWN.out.lt g hg).1; have := LQ0.out; omega) (OWN.out.lt g hg).2
          have b8 : Below w.heap.size w w8 := (((B2.out.trans (B5.out.mono B2.out.size)).alloc (by have := B2.out.size; omega) _).trans (only8.below _ (Nat.le_refl _)))
          have hsz8 := (only8.below 0 (Nat.zero_le _)).size
          rw [World.size_alloc] at hsz8
          obtain ⟨y0, y1, y2, y3, y4, y5⟩ := And.intro (cell_of_heap (o := 0) box rfl) (And.intro (cell_of_heap (o := 1) box rfl) (And.intro (cell_of_heap (o := 2) box rfl) (And.intro (cell_of_heap (o := 3) box rfl) (And.intro (cell_of_heap (o := 4) box rfl) (cell_of_heap (o := 5) box rfl)))))
          have z4' := free_of_heap (o := 4) box
          have f0 := pl8.cells.1
          have OWN8 := Lib.hid (owns_same own8 (w' := w8.setCell ⟨w5.heap.size, 4, none⟩ (.bool op)) fun g hg => heap_set_ne (by have := (OWN.out.lt g hg).2; omega) _)
          have NEXT := Lib.hid (fun g' cap' w9 o hown hgrow => lex_next (s := s) (w := w) (w8 := w8) (w9 := w9) (Q := w1.heap.size) (g' := g') (cap' := cap') (k := k) (b := w5.heap.size) (v := .slice ad k cap) (ts := ts) (L := (c :: r).drop z) (m' := m') (t := ⟨t.k, m, t.n, t.s, op, (decide (0 < k))⟩) (S3 := S3) (o := o) pl8 HS3.out row8 own8 b8 LQ0.out (by have := LQ.out; omega) hown hgrow HK.out HM4.out.1 HM4.out.2 HMN.out HRUN.out)
          have NEWS := Lib.hid (fun W H h => tok_news W (.int .i64 t.k) (.int .i64 m) (.int .i64 t.n) (.string ⟨t.s.toArray⟩) (.bool op) (.bool (decide (0 < k))) H h)
          have ONE := Lib.hid (tok_one t.k m t.n ⟨t.s.toArray⟩ op (decide (0 < k)))
          have hlq := LQ.out
          clear pl8 only8 keep row8 own8 b8 box W7 HRUN HS OWN ROW B5 P7 e1 HL2 hl2'
          go_wp2_with (first | (go_at_call 49; refine (P.out _).mono ?_; rintro e w' ⟨rfl, hw⟩; obtain rfl := hw.symm; clear hw) | (at_builtin; refine wpList_append_lies _ rfl (.tmp 77) (.tmp 79) 28 rfl (w1.heap.size + 1) 48 i0 (.agg #[.int .i64 0, .int .i64 0, .int .i64 0, .string ⟨#[]⟩, .bool false, .bool false]) 6 48 Tryz.underlying28 hi hz0 hzz hz2 rfl (by decide) _ _ _ rfl (OWN8.out.alloc _) ⟨w8.heap.size, 0, none⟩ 1 1 [.int .i64 t.k, .int .i64 m, .int .i64 t.n, .string ⟨t.s.toArray⟩, .bool op, .bool (decide (0 < k))] rfl rfl (NEWS.out _ _ (by simp)) ONE.out (by omega) ?_ ?_ ?_ (w8.heap.size + 1) (by simp) ?_))
          · unfold maxLen; simp at hmany; omega
          · simp at hmany; omega
          · simp; omega
          intro g' cap' w9 hown hgrow hat hlt2
          have HNX := Lib.hid (NEXT.out _ _ _ _ hown hgrow)
          have HMS := Lib.hid (show measB w9 w.heap.size < measB wr w.heap.size by
            rw [HM.out, measB_PL HNX.out.pl, Lib.size_eq, Lib.size_eq]
            exact HLT.out)
          clear hown hgrow hat hlt2 NEXT ONE NEWS OWN8 HM HLT
          go_wp2_with fail
          go_roundw
          case rel => exact ⟨_, _, _, HNX.out⟩
          case measure => exact HMS.out
        · have HTIT := Lib.hid (show (decide (skipN l = 0) && decide (0 < k)) = false by have h := HNB.out; simp at h; simp; omega)
          have W7 := Lib.hid (PS.out #[.int .i64 t.k, .int .i64 m, .int .i64 t.n, .string ⟨t.s.toArray⟩, .bool false, .bool false])
          rw [HTIT.out] at HRUN
          clear PS HTIT HNB
          go_wp2_with fail
          refine W7.out.mono ?_
          rintro e w8 ⟨rfl, pl8, only8⟩
          rw [HS3'.out, HL2.out, HM'.out] at pl8
          have hbp : w5.heap.size ≠ w.heap.size := by have := B2.out.size; have := LQ.out; have := LQ0.out; omega
          have box : w8.heap[w5.heap.size]? = some (.cells #[.int .i64 t.k, .int .i64 m, .int .i64 t.n, .string ⟨t.s.toArray⟩, .bool false, .bool false] 48 (0, 0)) :=
            (only8.other _ hbp (by simp)).trans (new_at _ _ rfl)
          have keep : ∀ j, j ≠ w.heap.size → j < w2.heap.size → w8.heap[j]? = w2.heap[j]? := fun j hj hl =>
            (only8.other j hj (by simp; omega)).trans ((Below.heap_alloc _ _ _ (by omega)).trans (B5.out.block j hl))
          have row8 : w8.heap[w1.heap.size]? = some (.cells (att9 w.heap.size) 96 (0, 0)) := (keep _ (by have := LQ0.out; omega) LQ.out).trans ROW.out
          have own8 := owns_same OWN.out fun g hg => keep g (by have := (OWN.out.lt g hg).1; have := LQ0.out; omega) (OWN.out.lt g hg).2
          have b8 : Below w.heap.size w w8 := (((B2.out.trans (B5.out.mono B2.out.size)).alloc (by have := B2.out.size; omega) _).trans (only8.below _ (Nat.le_refl _)))
          have hsz8 := (only8.below 0 (Nat.zero_le _)).size
          rw [World.size_alloc] at hsz8
          obtain ⟨y0, y1, y2, y3, y4, y5⟩ := And.intro (cell_of_heap (o := 0) box rfl) (And.intro (cell_of_heap (o := 1) box rfl) (And.intro (cell_of_heap (o := 2) box rfl) (And.intro (cell_of_heap (o := 3) box rfl) (And.intro (cell_of_heap (o := 4) box rfl) (cell_of_heap (o := 5) box rfl)))))
          have z4' := free_of_heap (o := 4) box
          have f0 := pl8.cells.1
          have OWN8 := Lib.hid (owns_same own8 (w' := w8.setCell ⟨w5.heap.size, 4, none⟩ (.bool op)) fun g hg => heap_set_ne (by have := (OWN.out.lt g hg).2; omega) _)
          have NEXT := Lib.hid (fun g' cap' w9 o hown hgrow => lex_next (s := s) (w := w) (w8 := w8) (w9 := w9) (Q := w1.heap.size) (g' := g') (cap' := cap') (k := k) (b := w5.heap.size) (v := .slice ad k cap) (ts := ts) (L := (c :: r).drop z) (m' := m') (t := ⟨t.k, m, t.n, t.s, op, false⟩) (S3 := S3) (o := o) pl8 HS3.out row8 own8 b8 LQ0.out (by have := LQ.out; omega) hown hgrow HK.out HM4.out.1 HM4.out.2 HMN.out HRUN.out)
          have NEWS := Lib.hid (fun W H h => tok_news W (.int .i64 t.k) (.int .i64 m) (.int .i64 t.n) (.string ⟨t.s.toArray⟩) (.bool op) (.bool false) H h)
          have ONE := Lib.hid (tok_one t.k m t.n ⟨t.s.toArray⟩ op false)
          have hlq := LQ.out
          clear pl8 only8 keep row8 own8 b8 box W7 HRUN HS OWN ROW B5 P7 e1 HL2 hl2'
          go_wp2_with (first | (go_at_call 49; refine (P.out _).mono ?_; rintro e w' ⟨rfl, hw⟩; obtain rfl := hw.symm; clear hw) | (at_builtin; refine wpList_append_lies _ rfl (.tmp 77) (.tmp 79) 28 rfl (w1.heap.size + 1) 48 i0 (.agg #[.int .i64 0, .int .i64 0, .int .i64 0, .string ⟨#[]⟩, .bool false, .bool false]) 6 48 Tryz.underlying28 hi hz0 hzz hz2 rfl (by decide) _ _ _ rfl (OWN8.out.alloc _) ⟨w8.heap.size, 0, none⟩ 1 1 [.int .i64 t.k, .int .i64 m, .int .i64 t.n, .string ⟨t.s.toArray⟩, .bool op, .bool false] rfl rfl (NEWS.out _ _ (by simp)) ONE.out (by omega) ?_ ?_ ?_ (w8.heap.size + 1) (by simp) ?_))
          · unfold maxLen; simp at hmany; omega
          · simp at hmany; omega
          · simp; omega
          intro g' cap' w9 hown hgrow hat hlt2
          have HNX := Lib.hid (NEXT.out _ _ _ _ hown hgrow)
          have HMS := Lib.hid (show measB w9 w.heap.size < measB wr w.heap.size by
            rw [HM.out, measB_PL HNX.out.pl, Lib.size_eq, Lib.size_eq]
            exact HLT.out)
          clear hown hgrow hat hlt2 NEXT ONE NEWS OWN8 HM HLT
          go_wp2_with fail
          go_roundw
          case rel => exact ⟨_, _, _, HNX.out⟩
          case measure => exact HMS.out
end Go.Proofs.YtkplokfcjjcpcaaGreatDoor
end
section
namespace Go.Proofs.YtkplokfcjjcpcaaGreatDoor
open Go Go.RowKit Go.Maps
structure TokRow (w : World) (g n cap : Nat) (xs : List Value) : Prop where
  fits : n ≤ cap
  max : cap ≤ 9223372036854775807
  lt : g < w.heap.size
  cell : ∀ j u, xs[j]? = some u → w.cell? ⟨g, j, none⟩ = some u
theorem TokRow.on {w w' : World} {g n cap : Nat} {xs : List Value} (h : TokRow w g n cap xs) (hb : Below w.heap.size w w') : TokRow w' g n cap xs :=
  ⟨h.fits, h.max, Nat.lt_of_lt_of_le h.lt hb.size, fun j u hu => (hb.cell (p := ⟨g, j, none⟩) h.lt).trans (h.cell j u hu)⟩
end Go.Proofs.YtkplokfcjjcpcaaGreatDoor
end
section
namespace Go.Proofs.YtkplokfcjjcpcaaGreatDoor
open Go Go.RowKit Go.Maps
def blankB (c : UInt8) : Prop := sortZ (c.toNat : Int) = 1
end Go.Proofs.YtkplokfcjjcpcaaGreatDoor
end
section
namespace Go.Proofs.YtkplokfcjjcpcaaGreatDoor
open Go Go.RowKit Go.Maps
def dch (d : Nat) : UInt8 := if d < 10 then UInt8.ofNat (48 + d) else UInt8.ofNat (87 + d)
def digL (b : Nat) : Nat → Nat → List UInt8
  | 0, k => [dch (k % b)]
  | f + 1, k => if k < b then [dch (k % b)] else digL b f (k / b) ++ [dch (k % b)]
theorem digL_len (b : Nat) : ∀ f k, (digL b f k).length ≤ f + 1
  | 0, _ => by simp [digL]
  | f + 1, k => by
    simp only [digL]
    split
    · simp
    · have := digL_len b f (k / b)
      simp
      omega
end Go.Proofs.YtkplokfcjjcpcaaGreatDoor
end
section
namespace Go.Proofs.YtkplokfcjjcpcaaGreatDoor
open Go Go.RowKit Go.Maps
theorem dec_step {f k : Nat} (h : ¬ k < 10) (acc : List UInt8) : digL 10 (f + 1) k ++ acc = digL 10 f (k / 10) ++ (dch (k % 10) :: acc) := by
  simp only [digL]
  rw [if_neg h]
  simp
theorem dec_last {f k : Nat} (h : k < 10) (acc : List UInt8) : digL 10 (f + 1) k ++ acc = dch (k % 10) :: acc := by
  simp only [digL]
  rw [if_pos h]
  rfl
structure DecSt (n : Nat) (k : Nat) (A : ByteArray) : Prop where
  ex : ∃ f, digL 10 21 n = digL 10 (f + 1) k ++ A.data.toList ∧ k < 10 ^ f
  small : A.size ≤ 22
theorem DecSt.start {n : Nat} (h : n < 4294967296) : DecSt n n ⟨#[]⟩ := ⟨⟨20, by simp, by omega⟩, by decide⟩
theorem DecSt.size {n : Nat} {B : ByteArray} {X : List UInt8} (h : digL 10 21 n = X ++ B.data.toList) : B.size ≤ 22 := by
  have := digL_len 10 21 n
  rw [h, List.length_append, ← Lib.size_eq] at this
  omega
theorem DecSt.next {n k : Nat} {A : ByteArray} (h : DecSt n k A) (hk : ¬ k < 10) : DecSt n (k / 10) (⟨#[dch (k % 10)]⟩ ++ A) := by
  obtain ⟨⟨f, hf, hlt⟩, _⟩ := h
  have h1 : digL 10 21 n = digL 10 f (k / 10) ++ (⟨#[dch (k % 10)]⟩ ++ A : ByteArray).data.toList := by
    rw [hf, dec_step hk, ByteArray.data_append, Array.toList_append]
    rfl
  refine ⟨?_, DecSt.size h1⟩
  rcases f with _ | f
  · simp at hlt; omega
  · exact ⟨f, h1, Nat.div_lt_of_lt_mul (by rw [Nat.pow_succ] at hlt; rw [Nat.mul_comm]; exact hlt)⟩
theorem DecSt.last {n k : Nat} {A : ByteArray} (h : DecSt n k A) (hk : k < 10) : (⟨#[dch (k % 10)]⟩ ++ A : ByteArray).data.toList = digL 10 21 n := by
  obtain ⟨⟨f, hf, _⟩, _⟩ := h
  rw [hf, dec_last hk, ByteArray.data_append, Array.toList_append]
  rfl
end Go.Proofs.YtkplokfcjjcpcaaGreatDoor
end
section
namespace Go.Proofs.YtkplokfcjjcpcaaGreatDoor
open Go Go.RowKit Go.Maps
def Tok.off (t : Tok) : Tok := ⟨t.k, 0, t.n, t.s, t.open', t.tight⟩
theorem b10 : blankB 10 := (by decide : sortZ (((10 : UInt8).toNat : Nat) : Int) = 1)
theorem b9 : blankB 9 := (by decide : sortZ (((9 : UInt8).toNat : Nat) : Int) = 1)
def PlainAt (w : World) (b : Nat) : Prop := ∃ c T, w.heap[b]? = some (.cells c T (0, 0))
theorem PlainAt.free {w : World} {b : Nat} (h : PlainAt w b) (o : Nat) : w.frozen? ⟨b, o, none⟩ = false := by
  obtain ⟨c, T, h⟩ := h
  exact free_of_heap h
theorem PlainAt.set {w : World} {b : Nat} (h : PlainAt w b) (p : Addr) (v : Value) : PlainAt (w.setCell p v) b := by
  obtain ⟨c, T, h⟩ := h
  by_cases hb : b = p.block
  · subst hb
    exact ⟨if p.spot.isSome then c else c.setIfInBounds p.off v, T, by simp [World.setCell, Array.getElem?_modify, h]⟩
  · exact ⟨c, T, by rw [Below.heap_setCell _ _ _ _ hb]; exact h⟩
theorem PlainAt.on {w w' : World} {b : Nat} (h : PlainAt w b) (hb : Below w.heap.size w w') : PlainAt w' b := by
  obtain ⟨c, T, h⟩ := h
  exact ⟨c, T, (hb.block b (heap_lt h)).trans h⟩
structure BlSt (W : World) (A B : Nat) (X Y : List Value) (i : Nat) (wr : World) : Prop where
  below : Below W.heap.size W wr
  pa : PlainAt wr A
  pb : PlainAt wr B
  xa : ∀ j u, i * 6 ≤ j → X[j]? = some u → wr.cell? ⟨A, j, none⟩ = some u
  yb : ∀ j u, i * 6 ≤ j → Y[j]? = some u → wr.cell? ⟨B, j, none⟩ = some u
  ne : A ≠ B
  la : W.heap.size ≤ A
  lb : W.heap.size ≤ B
theorem BlSt.next {W : World} {A B i : Nat} {X Y : List Value} {wr : World} (h : BlSt W A B X Y i wr) (u v : Value) : BlSt W A B X Y (i + 1) ((wr.setCell ⟨A, i * 6 + 1, none⟩ u).setCell ⟨B, i * 6 + 1, none⟩ v) := by
  refine ⟨(h.below.setCell h.la _).setCell h.lb _, (h.pa.set _ _).set _ _, (h.pb.set _ _).set _ _, fun j x hj hx => ?_, fun j x hj hx => ?_, h.ne, h.la, h.lb⟩
  · rw [World.cell?_setCell_other _ _ _ _ (by intro e; injection e with e; first | exact h.ne e | exact h.ne e.symm), World.cell?_setCell_other _ _ _ _ (by intro e; injection e with _ e; omega)]
    exact h.xa j x (by omega) hx
  · rw [World.cell?_setCell_other _ _ _ _ (by intro e; injection e with _ e; omega), World.cell?_setCell_other _ _ _ _ (by intro e; injection e with e; first | exact h.ne e | exact h.ne e.symm)]
    exact h.yb j x (by omega) hx
theorem BlSt.drewN {W : World} {A B i : Nat} {X Y : List Value} {wr : World} (h : BlSt W A B X Y i wr) (n : Nat) : BlSt W A B X Y i (wr.drewN n) :=
  ⟨⟨h.below.os, h.below.tape, h.below.output, h.below.size, h.below.block⟩, h.pa, h.pb, h.xa, h.yb, h.ne, h.la, h.lb⟩
end Go.Proofs.YtkplokfcjjcpcaaGreatDoor
end
section
namespace Go.Proofs.YtkplokfcjjcpcaaGreatDoor
open Go Go.RowKit Go.Maps
structure BasSt (b n k : Nat) (A : ByteArray) : Prop where
  ex : ∃ f, digL b 33 n = digL b (f + 1) k ++ A.data.toList ∧ k < b ^ f
  small : A.size ≤ 34
theorem BasSt.start {b n : Nat} (hb : 2 ≤ b) (h : n < 4294967296) : BasSt b n n ⟨#[]⟩ :=
  ⟨⟨32, by simp, Nat.lt_of_lt_of_le h (Nat.pow_le_pow_left hb 32)⟩, by decide⟩
theorem BasSt.size {b n : Nat} {B : ByteArray} {X : List UInt8} (h : digL b 33 n = X ++ B.data.toList) : B.size ≤ 34 := by
  have := digL_len b 33 n
  rw [h, List.length_append, ← Lib.size_eq] at this
  omega
theorem BasSt.next {b n k : Nat} {A : ByteArray} (hb : 2 ≤ b) (h : BasSt b n k A) (hk : ¬ k < b) : BasSt b n (k / b) (⟨#[dch (k % b)]⟩ ++ A) := by
  obtain ⟨⟨f, hf, hlt⟩, _⟩ := h
  have h1 : digL b 33 n = digL b f (k / b) ++ (⟨#[dch (k % b)]⟩ ++ A : ByteArray).data.toList := by
    rw [hf, ByteArray.data_append, Array.toList_append]
    simp only [digL]
    rw [if_neg hk]
    simp
  refine ⟨?_, BasSt.size h1⟩
  rcases f with _ | f
  · simp at hlt; omega
  · exact ⟨f, h1, Nat.div_lt_of_lt_mul (by rw [Nat.pow_succ] at hlt; rw [Nat.mul_comm]; exact hlt)⟩
theorem BasSt.last {b n k : Nat} {A : ByteArray} (h : BasSt b n k A) (hk : k < b) : (⟨#[dch (k % b)]⟩ ++ A : ByteArray) = ⟨(digL b 33 n).toArray⟩ := by
  obtain ⟨⟨f, hf, _⟩, _⟩ := h
  refine bytes_eq ?_
  rw [hf, ByteArray.data_append, Array.toList_append]
  simp only [digL]
  rw [if_pos hk]
end Go.Proofs.YtkplokfcjjcpcaaGreatDoor
end
section
namespace Go.Proofs.YtkplokfcjjcpcaaGreatDoor
open Go Go.RowKit Go.Maps
def E10 (l : List UInt8) : Prop := ∃ x, l = x ++ [10]
theorem E10.ne {l : List UInt8} (h : E10 l) : l ≠ [] := by obtain ⟨x, rfl⟩ := h; simp
theorem E10.tail {c d : UInt8} {t : List UInt8} (h : E10 (c :: d :: t)) : E10 (d :: t) := by
  obtain ⟨x, hx⟩ := h
  rcases x with _ | ⟨y, x⟩
  · simp at hx
  · exact ⟨x, by simpa using (List.cons.inj hx).2⟩
theorem E10.one {c : UInt8} {t : List UInt8} (h : E10 (c :: t)) (hc : c ≠ 10) : t ≠ [] := by
  rintro rfl
  obtain ⟨x, hx⟩ := h
  rcases x with _ | ⟨y, x⟩
  · simp at hx; exact hc hx
  · simp at hx
theorem E10.drop {l : List UInt8} (h : E10 l) : ∀ k, l.drop k ≠ [] → E10 (l.drop k) := by
  obtain ⟨x, rfl⟩ := h
  intro k hk
  by_cases h1 : k ≤ x.length
  · exact ⟨x.drop k, by rw [List.drop_append_of_le_length h1]⟩
  · exact absurd (List.drop_eq_nil_of_le (by simp; omega)) hk
end Go.Proofs.YtkplokfcjjcpcaaGreatDoor
end
section
namespace Go.Proofs.YtkplokfcjjcpcaaGreatDoor
open Go Go.RowKit Go.Maps
def Tok.sh (d : Int) (t : Tok) : Tok := ⟨t.k, t.line + d, t.n, t.s, t.open', t.tight⟩
end Go.Proofs.YtkplokfcjjcpcaaGreatDoor
end
