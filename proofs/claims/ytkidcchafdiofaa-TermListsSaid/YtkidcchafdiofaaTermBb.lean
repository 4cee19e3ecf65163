/- TermLists' walk. Conditions: the arguments' memory. -/
import Derived.Test.YtkidcchafdiofaaTermBa
namespace Go.Proofs.Ytkidcchafdiofaa
open Go Go.RowKit

set_option maxRecDepth 100000 in
set_option maxHeartbeats 8000000 in
theorem lists_walk (W : World) (ad : Option Addr) (n cap B off : Nat) (hL : LArg W ad n cap B off) (a2 : Option Addr) (n2 c2 B2 o2 : Nat) (p2 : List PRow) (h2 : ArgOk W a2 n2 c2 B2 o2 p2) :
    Calls Try.prog 7 #[.slice ad n cap, .slice a2 n2 c2] W fun e w' => e = .returned (.bool true) ∧ Below W.heap.size W w' := by
  have HA := Lib.hid (alive_is W)
  have H2 := Lib.hid h2
  have HLA := Lib.hid hL
  have hcm := hL.max
  have hcf := hL.fits
  clear h2 hL
  by_cases g1 : n ≤ 30
  case neg =>
    have t1 : decide ((30 : Int) < (n : Int)) = true := decide_eq_true (by omega)
    go_enter Try.func7, Try.ntmps7
    go_wp2_with fail
    refine HA.out.mono ?_
    rintro _ w1 ⟨rfl, hb⟩
    go_wp2
    go_ret
    exact ⟨rfl, hb⟩
  have t1 : decide ((30 : Int) < (n : Int)) = false := decide_eq_false (by omega)
  by_cases g2 : n2 ≤ 60
  case neg =>
    have G2 := Lib.hid (fun w => great_yes a2 n2 c2 w g2)
    clear g2
    go_enter Try.func7, Try.ntmps7
    go_wp2_with fail
    refine HA.out.mono ?_
    rintro _ w1 ⟨rfl, hb⟩
    go_wp2_with fail
    refine (G2.out _).mono ?_
    rintro _ _ ⟨rfl, rfl⟩
    go_wp2
    go_ret
    exact ⟨rfl, hb⟩
  obtain ⟨i0, hi, hz0, hz1, hz2⟩ := info_parts (show (Try.prog.info? 27).map (fun i => (i.zero, i.size, i.bytes)) = some (some (.agg #[.int .i64 0, .int .i64 0, .string ⟨#[]⟩, .slice none 0 0]), 4, 56) by kernel_rfl)
  have G2 := Lib.hid (fun w => great_no a2 n2 c2 w g2)
  have K2 := Lib.hid (fun w hb => arg_good (w := w) H2.out g2 hb)
  have N2 : Hid ((goodT p2).nodes ≤ 1000) := by have := good_nodes p2; have := H2.out.len; show _ ≤ _; omega
  have S2 := Lib.hid (good_short p2)
  obtain ⟨t2, ht2⟩ : ∃ t, goodT p2 = t := ⟨_, rfl⟩
  rw [ht2] at K2 N2 S2
  clear g2 ht2 H2
  go_enter Try.func7, Try.ntmps7
  go_wp2_with fail
  refine HA.out.mono ?_
  rintro _ w1 ⟨rfl, hb⟩
  have HB := Lib.hid hb
  clear hb
  go_wp2_with fail
  refine (G2.out _).mono ?_
  rintro _ _ ⟨rfl, rfl⟩
  go_wp2
  go_loopw [5, 25] (fun v ci wr => ∃ (i : Nat) (ts : List AT), ci = .int .i64 i ∧ i ≤ n ∧ Hid (OwnSt W i v ts wr)) (fun _ ci _ => n - (intOf ci).toNat)
  case atStart => exact ⟨0, [], rfl, Nat.zero_le _, rfl, ⟨rfl, .inl ⟨rfl, rfl⟩⟩, (fun t ht => by cases ht), trivial, Nat.zero_le _, HB.out⟩
  case round =>
    obtain ⟨i, ts, rfl, hin, HS⟩ := hrel
    by_cases hlt : i < n
    · obtain rfl := HLA.out.at' (by omega)
      obtain ⟨a, m, c, B', o', ps, hc, hok⟩ := HLA.out.mem i hlt
      have c0 : wr.cell? ⟨B, off + i, none⟩ = some (.slice a m c) := (HS.out.below.cell (World.block_lt_of_cell? _ _ hc)).trans hc
      have i1 : (0 : Int) ≤ (i : Int) := by omega
      have i2 : (i : Int) < (n : Int) := by omega
      by_cases g3 : m ≤ 60
      case neg =>
        have G3 := Lib.hid (fun w => great_yes a m c w g3)
        have HBR := Lib.hid HS.out.below
        clear g3 hc hok HS
        go_wp2_with fail
        refine (G3.out _).mono ?_
        rintro _ _ ⟨rfl, rfl⟩
        go_wp2
        go_ret
        exact ⟨rfl, HBR.out⟩
      have G3 := Lib.hid (fun w => great_no a m c w g3)
      have K3 := Lib.hid (arg_good (w := wr) hok g3 HS.out.below)
      have HPS : Hid (ps.length ≤ 60) := by have := hok.len; show _ ≤ _; omega
      have HB3 := Lib.hid HS.out.below.size
      clear g3 hc hok
      go_wp2_with fail
      refine (G3.out _).mono ?_
      rintro _ _ ⟨rfl, rfl⟩
      go_wp2_with fail
      refine K3.out.mono ?_
      rintro _ w5 ⟨t, rfl, b1, b2, b3, b4⟩
      obtain ⟨tax, tcx, tsv, _⟩ := sv_form (AT.mem_mk.1 b2).1
      have HS5 := Lib.hid (HS.out.on b4)
      have hti : t.ins (fun j => u5.ownBlock ≠ some j) := AT.ins_mono (fun j hj h => by have := (HS.out.own.lt j h).2; omega) t b3
      have NEXT := Lib.hid (fun g cap' w7 o hown hgrow hat => own_next (g := g) (cap' := cap') (w7 := w7) (o := o) HS5.out b1 HPS.out b2 hti hown hgrow hat)
      have ONE := Lib.hid (term_one (t := t) (by rw [tsv]; rfl))
      have NEWS := Lib.hid (fun W H h => term_news W t H h)
      have HOWN := Lib.hid HS5.out.own
      have hbase : W.heap.size ≤ w5.heap.size := HS5.out.below.size
      rw [tsv] at ONE NEWS NEXT
      rw [tsv]
      clear b1 b2 b3 b4 tsv hti HS HS5 K3
      go_wp2_with (at_builtin; refine wpList_append_lies _ rfl (.tmp 31) (.tmp 34) 25 rfl W.heap.size 27 i0 (.agg #[.int .i64 0, .int .i64 0, .string ⟨#[]⟩, .slice none 0 0]) 4 56 Try.underlying25 hi hz0 hz1 hz2 rfl (by decide) _ _ _ rfl (HOWN.out.alloc _) ⟨w5.heap.size, 0, none⟩ 1 1 [.int .i64 t.k, .int .i64 t.n, .string t.s, .slice tax t.l.length tcx] rfl rfl (NEWS.out _ _ rfl) ONE.out (by omega) ?_ ?_ ?_ (w5.heap.size + 1) (by simp) ?_)
      · unfold maxLen; omega
      · omega
      · simp; omega
      intro g' cap' w7 hown hgrow hat hlt2
      have HNX := Lib.hid (NEXT.out _ _ _ _ hown hgrow hat)
      clear hown hgrow hat hlt2 NEXT ONE NEWS HOWN
      go_wp2
      go_roundw
      case rel => exact ⟨i + 1, _, by go_num, by omega, HNX.out⟩
      case measure => simp [intOf]; omega
    · obtain rfl : i = n := by omega
      clear hlt
      go_wp2_with fail
      refine (K2.out _ HS.out.below).mono ?_
      rintro _ w6 ⟨x, rfl, x1, x2, x3, xb⟩
      obtain ⟨xax, xcx, xsv, _⟩ := sv_form (AT.mem_mk.1 x2).1
      have HS6 := HS.out.on xb
      obtain ⟨G, m1, m2, _⟩ := row_mem HS6.own HS6.len (fun t ht => (HS6.all t ht).1)
      have hlen := HS6.len
      rw [hlen] at m1
      obtain ⟨vad, vc, rfl, v1, v2, v3⟩ := sv_form m1
      unfold maxLen at v2
      have hb6 : Below w6.heap.size w6 (w6.alloc (.cells #[.int .i64 x.k, .int .i64 x.n, .string x.s, .slice xax x.l.length xcx] 27)) := (Below.refl _ _).alloc (Nat.le_refl _) _
      have h6 := new_at w6 (.cells #[.int .i64 x.k, .int .i64 x.n, .string x.s, .slice xax x.l.length xcx] 27) rfl
      have hYm : (AT.mk 0 0 ⟨#[]⟩ (.slice vad i vc) G 0 ts).mem w6 := ⟨by rw [hlen]; exact m1, m2⟩
      have hY7 := AT.mem_below hb6 (AT.ins_size _ hYm) hYm
      have hx7 := AT.mem_below hb6 (AT.ins_size _ x2) x2
      have hxn : x.nodes ≤ 1000 := by rw [← AT.nodes_erase, x1]; exact N2.out
      have hxsh : x.erase.all shortP := by rw [x1]; exact S2.out
      have hon : ATs.nodes ts ≤ 30000 := by have := HS6.nodes; omega
      have hosh := HS6.short
      have LI := list_is ts x vad vc G 0 (w6.alloc (.cells #[.int .i64 x.k, .int .i64 x.n, .string x.s, .slice xax x.l.length xcx] 27)) (by rw [hlen]; exact m1) hY7.2 hx7 (by omega) (by omega) (short_s hxsh) (short_flat hosh G 0)
      rw [hlen, xsv] at LI
      have HLI := Lib.hid LI
      have HW6 : Hid (Below W.heap.size W w6) := HS6.below
      have H6 := Lib.hid (And.intro hb6 (And.intro h6 (And.intro hY7 (And.intro hx7 (And.intro hxn (And.intro hxsh (And.intro hon (And.intro hosh (And.intro hlen (And.intro xsv (And.intro v3 m1)))))))))))
      rw [xsv]
      clear x1 x2 x3 xb xsv HS6 m1 m2 hlen v3 hb6 h6 hYm hY7 hx7 hxn hxsh hon hosh LI HS HB K2 N2 S2 G2 HA t1 HLA
      go_wp2_with fail
      refine HLI.out.mono ?_
      rintro _ w8 ⟨t, rfl, y1, y2, y3, yb⟩
      obtain ⟨tax, tcx, tsv, _⟩ := sv_form (AT.mem_mk.1 y2).1
      obtain ⟨hb6, h6, hY7, hx7, hxn, hxsh, hon, hosh, hlen, xsv, v3, m1⟩ := H6.out
      have hb8 : Below w8.heap.size w8 (w8.alloc (.cells #[.int .i64 t.k, .int .i64 t.n, .string t.s, .slice tax t.l.length tcx] 27)) := (Below.refl _ _).alloc (Nat.le_refl _) _
      have hbt := yb.trans (hb8.mono yb.size)
      have ht8 := AT.mem_below hb8 (AT.ins_size _ y2) y2
      have hY8 := AT.mem_below hbt (AT.ins_size _ hY7) hY7
      have hx8 := AT.mem_below hbt (AT.ins_size _ hx7) hx7
      have h68 := (hbt.block _ (Array.getElem?_eq_some_iff.1 h6).1).trans h6
      have htn : t.nodes ≤ 40000 := by
        rw [← AT.nodes_erase, y1, listT_nodes, ATs.nodes_erase, AT.nodes_erase, erase_len]
        have := len_nodes ts
        omega
      have htsh : t.erase.all shortP := by rw [y1]; exact listT_short hosh hxsh
      have hit : itT t.erase = (ATs.erase ts ++ (itT x.erase).1, (itT x.erase).2) := by rw [y1]; exact itT_list _ _
      have IT := items_is t (w8.alloc (.cells #[.int .i64 t.k, .int .i64 t.n, .string t.s, .slice tax t.l.length tcx] 27)) ht8 (by omega) (short_s htsh)
      rw [hit, tsv] at IT
      have HIT := Lib.hid IT
      have HW8 : Hid (Below W.heap.size W w8) := (HW6.out.trans (hb6.mono HW6.out.size)).trans (yb.mono (Nat.le_trans HW6.out.size hb6.size))
      have H8 := Lib.hid (And.intro hb8 (And.intro h68 (And.intro hY8 (And.intro hx8 (And.intro hxn (And.intro hxsh (And.intro hon (And.intro hlen (And.intro xsv (And.intro v3 m1))))))))))
      rw [tsv]
      clear y1 y2 y3 yb tsv hb6 h6 hY7 hx7 hxn hxsh hon hosh hlen xsv v3 m1 hb8 hbt ht8 hY8 hx8 h68 htn htsh hit IT HLI H6 HW6
      go_wp2_with fail
      refine HIT.out.mono ?_
      rintro _ w9 ⟨iad, n9, ic, IG, il, u, rfl, z1, z2, z3, z4, z5, z6, zb⟩
      obtain ⟨uax, ucx, usv, _⟩ := sv_form (AT.mem_mk.1 z6).1
      obtain ⟨hb8, h68, hY8, hx8, hxn, hxsh, hon, hlen, xsv, v3, m1⟩ := H8.out
      have hb9 : Below w9.heap.size w9 (w9.alloc (.cells #[.int .i64 u.k, .int .i64 u.n, .string u.s, .slice uax u.l.length ucx] 27)) := (Below.refl _ _).alloc (Nat.le_refl _) _
      have h9 := new_at w9 (.cells #[.int .i64 u.k, .int .i64 u.n, .string u.s, .slice uax u.l.length ucx] 27) rfl
      have hbt := zb.trans (hb9.mono zb.size)
      have hu9 := AT.mem_below hb9 (AT.ins_size _ z6) z6
      have hIm : (AT.mk 0 0 ⟨#[]⟩ (.slice iad n9 ic) IG 0 il).mem w9 := ⟨by rw [z1]; exact z2, z3⟩
      have hI9 := AT.mem_below hb9 (AT.ins_size _ hIm) hIm
      have hY9 := AT.mem_below hbt (AT.ins_size _ hY8) hY8
      have hx9 := AT.mem_below hbt (AT.ins_size _ hx8) hx8
      have h69 := (hbt.block _ (Array.getElem?_eq_some_iff.1 h68).1).trans h68
      have IX := items_is x (w9.alloc (.cells #[.int .i64 u.k, .int .i64 u.n, .string u.s, .slice uax u.l.length ucx] 27)) hx9 (by omega) (short_s hxsh)
      rw [xsv] at IX
      have HIX := Lib.hid IX
      have HW9 : Hid (Below W.heap.size W w9) := (HW8.out.trans (hb8.mono HW8.out.size)).trans (zb.mono (Nat.le_trans HW8.out.size hb8.size))
      have k0 : (w9.alloc (.cells #[.int .i64 u.k, .int .i64 u.n, .string u.s, .slice uax u.l.length ucx] 27)).cell? ⟨w6.heap.size, 0, none⟩ = some (.int .i64 x.k) := cell_of_heap h69 rfl
      have k1 : (w9.alloc (.cells #[.int .i64 u.k, .int .i64 u.n, .string u.s, .slice uax u.l.length ucx] 27)).cell? ⟨w6.heap.size, 1, none⟩ = some (.int .i64 x.n) := cell_of_heap h69 rfl
      have k2 : (w9.alloc (.cells #[.int .i64 u.k, .int .i64 u.n, .string u.s, .slice uax u.l.length ucx] 27)).cell? ⟨w6.heap.size, 2, none⟩ = some (.string x.s) := cell_of_heap h69 rfl
      have k3 : (w9.alloc (.cells #[.int .i64 u.k, .int .i64 u.n, .string u.s, .slice uax u.l.length ucx] 27)).cell? ⟨w6.heap.size, 3, none⟩ = some (.slice xax x.l.length xcx) := cell_of_heap h69 rfl
      have H9 := Lib.hid (And.intro hb9 (And.intro h9 (And.intro hu9 (And.intro hI9 (And.intro hY9 (And.intro z1 (And.intro z2 (And.intro z4 (And.intro z5 (And.intro usv (And.intro hon (And.intro hlen (And.intro v3 (And.intro m1 hxn))))))))))))))
      rw [usv]
      clear z1 z2 z3 z4 z5 z6 zb usv hb8 h68 hY8 hx8 hxsh hon hlen xsv v3 m1 hb9 h9 hbt hu9 hIm hI9 hY9 hx9 h69 IX HIT H8 HW8 hxn
      go_wp2_with fail
      refine HIX.out.mono ?_
      rintro _ w10 ⟨mad, n10, mc, MG, ml, q, rfl, z1, z2, z3, z4, z5, z6, zb⟩
      obtain ⟨qax, qcx, qsv, _⟩ := sv_form (AT.mem_mk.1 z6).1
      obtain ⟨hb9, h9, hu9, hI9, hY9, il1, il2, il3, il4, usv, hon, hlen, v3, m1, hxn⟩ := H9.out
      have hb10 : Below w10.heap.size w10 (w10.alloc (.cells #[.int .i64 q.k, .int .i64 q.n, .string q.s, .slice qax q.l.length qcx] 27)) := (Below.refl _ _).alloc (Nat.le_refl _) _
      have h10 := new_at w10 (.cells #[.int .i64 q.k, .int .i64 q.n, .string q.s, .slice qax q.l.length qcx] 27) rfl
      have hbt := zb.trans (hb10.mono zb.size)
      have hq10 := AT.mem_below hb10 (AT.ins_size _ z6) z6
      have hMm : (AT.mk 0 0 ⟨#[]⟩ (.slice mad n10 mc) MG 0 ml).mem w10 := ⟨by rw [z1]; exact z2, z3⟩
      have hM10 := AT.mem_below hb10 (AT.ins_size _ hMm) hMm
      have hY10 := AT.mem_below hbt (AT.ins_size _ hY9) hY9
      have hI10 := AT.mem_below hbt (AT.ins_size _ hI9) hI9
      have hu10 := AT.mem_below hbt (AT.ins_size _ hu9) hu9
      have h910 := (hbt.block _ (Array.getElem?_eq_some_iff.1 h9).1).trans h9
      have HW10 : Hid (Below W.heap.size W (w10.alloc (.cells #[.int .i64 q.k, .int .i64 q.n, .string q.s, .slice qax q.l.length qcx] 27))) := ((HW9.out.trans (hb9.mono HW9.out.size)).trans (zb.mono (Nat.le_trans HW9.out.size hb9.size))).trans (hb10.mono (Nat.le_trans (Nat.le_trans HW9.out.size hb9.size) zb.size))
      have hitn := itT_nodes x.erase
      rw [AT.nodes_erase] at hitn
      have hin9 : n9 = i + n10 := by
        have e1 := congrArg List.length il3
        have e2 := congrArg List.length z4
        rw [erase_len, List.length_append, erase_len] at e1
        rw [erase_len] at e2
        omega
      have hmn : ATs.nodes ml ≤ 1000 := by rw [← ATs.nodes_erase, z4]; omega
      have hiln : ATs.nodes il ≤ 40000 := by
        have e1 : Tms.nodes (ATs.erase il) = Tms.nodes (ATs.erase ts ++ (itT x.erase).1) := by rw [il3]
        rw [ATs.nodes_erase, ← z4, ← erase_app, ATs.nodes_erase, nodes_append] at e1
        omega
      have hn10 : n10 ≤ 1000 := by have := len_nodes ml; omega
      have hun : u.nodes ≤ 1000 := by rw [← AT.nodes_erase, il4]; omega
      have hqn : q.nodes ≤ 1000 := by rw [← AT.nodes_erase, z5]; omega
      obtain ⟨mad', mc', he1, hm1, hm2, hm3⟩ := sv_form z2
      simp at he1
      obtain ⟨rfl, rfl⟩ := he1
      obtain ⟨iad', ic', he2, hi1, hi2, hi3⟩ := sv_form il2
      simp at he2
      obtain ⟨rfl, rfl⟩ := he2
      unfold maxLen at hm2 hi2
      obtain ⟨W0, hW0⟩ : ∃ W0, (w10.alloc (.cells #[.int .i64 q.k, .int .i64 q.n, .string q.s, .slice qax q.l.length qcx] 27)) = W0 := ⟨_, rfl⟩
      rw [hW0] at h10 hq10 hM10 hY10 hI10 hu10 h910 HW10
      have A1 : ∀ (bd : Option Addr) (cy : Nat) (w : World), Below W0.heap.size W0 w → (0 < i → bd = some ⟨IG, 0, none⟩) → i ≤ cy → cy ≤ 9223372036854775807 → Calls Try.prog 28 #[.slice bd i cy, .slice vad i vc] w fun e w' => e = .returned (.bool true) ∧ Below w.heap.size w w' := fun bd cy w hb h1 h2 h3 =>
        all_true (mem_take i (AT.mem_below hb (AT.ins_size _ hI10) hI10).2) (AT.mem_below hb (AT.ins_size _ hY10) hY10).2 h1 v3 (by rw [List.length_take]; omega) hlen h2 h3 v1 (by omega) (Nat.le_trans (nodes_take_drop il i).1 (by omega)) (by omega) (by
          rw [erase_take, il3, List.take_left' (by rw [erase_len, hlen])])
      have A2 : ∀ (bd : Option Addr) (cy : Nat) (w : World), Below W0.heap.size W0 w → (0 < n10 → bd = some ⟨IG, i * 4, none⟩) → n10 ≤ cy → cy ≤ 9223372036854775807 → Calls Try.prog 28 #[.slice bd n10 cy, .slice mad n10 mc] w fun e w' => e = .returned (.bool true) ∧ Below w.heap.size w w' := fun bd cy w hb h1 h2 h3 =>
        all_true (off := 0 + i * 4) (mem_drop i (AT.mem_below hb (AT.ins_size _ hI10) hI10).2) (AT.mem_below hb (AT.ins_size _ hM10) hM10).2 (by rw [Nat.zero_add]; exact h1) hm3 (by rw [List.length_drop]; omega) z1 h2 h3 hm1 (by omega) (Nat.le_trans (nodes_take_drop il i).2 (by omega)) (by omega) (by
          rw [erase_drop, il3, List.drop_left' (by rw [erase_len, hlen]), z4])
      have A3 : ∀ w : World, Below W0.heap.size W0 w → Calls Try.prog 26 #[.agg #[.int .i64 u.k, .int .i64 u.n, .string u.s, .slice uax u.l.length ucx], .agg #[.int .i64 q.k, .int .i64 q.n, .string q.s, .slice qax q.l.length qcx]] w fun e w' => e = .returned (.bool true) ∧ Below w.heap.size w w' := fun w hb => by
        have h := same_is u.nodes u q w (Nat.le_refl _) (AT.mem_below hb (AT.ins_size _ hu10) hu10) (AT.mem_below hb (AT.ins_size _ hq10) hq10) (by omega) (by omega)
        rw [AT.same_erase u q (by rw [il4, z5])] at h
        simp only [AT.val] at h
        rw [usv, qsv] at h
        exact h
      have KQ : ∀ w : World, Below W0.heap.size W0 w → (w.cell? ⟨w9.heap.size, 0, none⟩ = some (.int .i64 u.k) ∧ w.cell? ⟨w9.heap.size, 1, none⟩ = some (.int .i64 u.n) ∧ w.cell? ⟨w9.heap.size, 2, none⟩ = some (.string u.s) ∧ w.cell? ⟨w9.heap.size, 3, none⟩ = some (.slice uax u.l.length ucx)) ∧
          (w.cell? ⟨w10.heap.size, 0, none⟩ = some (.int .i64 q.k) ∧ w.cell? ⟨w10.heap.size, 1, none⟩ = some (.int .i64 q.n) ∧ w.cell? ⟨w10.heap.size, 2, none⟩ = some (.string q.s) ∧ w.cell? ⟨w10.heap.size, 3, none⟩ = some (.slice qax q.l.length qcx)) := fun w hb => by
        have e1 := (hb.block _ (Array.getElem?_eq_some_iff.1 h910).1).trans h910
        have e2 := (hb.block _ (Array.getElem?_eq_some_iff.1 h10).1).trans h10
        exact ⟨⟨cell_of_heap e1 rfl, cell_of_heap e1 rfl, cell_of_heap e1 rfl, cell_of_heap e1 rfl⟩, ⟨cell_of_heap e2 rfl, cell_of_heap e2 rfl, cell_of_heap e2 rfl, cell_of_heap e2 rfl⟩⟩
      have HA1 := Lib.hid A1
      have HA2 := Lib.hid A2
      have HA3 := Lib.hid A3
      have HKQ := Lib.hid KQ
      have HWW := Lib.hid hW0
      have HI3 := Lib.hid hi3
      rw [qsv]
      clear z1 z2 z3 z4 z5 z6 zb qsv hb9 h9 hu9 hI9 hY9 il1 il2 il3 il4 usv hon hlen v3 m1 hxn hb10 h10 hbt hq10 hMm hM10 hY10 hI10 hu10 h910 hitn hmn hiln hun hqn hm3 hi3 hW0 A1 A2 A3 KQ HIX H9 HW9 k0 k1 k2 k3
      subst hin9
      by_cases hz : i + n10 = 0
      · obtain rfl : i = 0 := by omega
        obtain rfl : n10 = 0 := by omega
        clear hz
        go_wp2_with fail
        rw [HWW.out]
        refine (HA1.out _ _ _ (Below.refl _ _) (by first | (intro h; omega) | (intro _; rfl)) (by omega) (by omega)).mono ?_
        rintro _ w11 ⟨rfl, b11⟩
        have B11 := Lib.hid b11
        clear b11
        go_wp2_with fail
        refine (HA2.out _ _ _ B11.out (by first | (intro h; omega) | (intro _; rfl)) (by omega) (by omega)).mono ?_
        rintro _ w12 ⟨rfl, b12⟩
        have B12 : Hid (Below W0.heap.size W0 w12) := B11.out.trans (b12.mono B11.out.size)
        obtain ⟨⟨c0, c1, c2, c3⟩, ⟨d0, d1, d2, d3⟩⟩ := HKQ.out w12 B12.out
        clear b12
        go_wp2_with fail
        refine (HA3.out _ B12.out).mono ?_
        rintro _ w13 ⟨rfl, b13⟩
        have B13 : Hid (Below W.heap.size W w13) := (HW10.out.trans (B12.out.mono HW10.out.size)).trans (b13.mono (Nat.le_trans HW10.out.size B12.out.size))
        clear b13 c0 c1 c2 c3 d0 d1 d2 d3
        go_wp2
        go_ret
        exact ⟨rfl, B13.out⟩
      · obtain rfl := HI3.out (by omega)
        by_cases hc : i = ic
        · obtain rfl : n10 = 0 := by omega
          subst hc
          go_wp2_with fail
          rw [HWW.out]
          refine (HA1.out _ _ _ (Below.refl _ _) (by first | (intro h; omega) | (intro _; rfl)) (by omega) (by omega)).mono ?_
          rintro _ w11 ⟨rfl, b11⟩
          have B11 := Lib.hid b11
          clear b11
          go_wp2_with fail
          refine (HA2.out _ _ _ B11.out (by first | (intro h; omega) | (intro _; rfl)) (by omega) (by omega)).mono ?_
          rintro _ w12 ⟨rfl, b12⟩
          have B12 : Hid (Below W0.heap.size W0 w12) := B11.out.trans (b12.mono B11.out.size)
          obtain ⟨⟨c0, c1, c2, c3⟩, ⟨d0, d1, d2, d3⟩⟩ := HKQ.out w12 B12.out
          clear b12
          go_wp2_with fail
          refine (HA3.out _ B12.out).mono ?_
          rintro _ w13 ⟨rfl, b13⟩
          have B13 : Hid (Below W.heap.size W w13) := (HW10.out.trans (B12.out.mono HW10.out.size)).trans (b13.mono (Nat.le_trans HW10.out.size B12.out.size))
          clear b13 c0 c1 c2 c3 d0 d1 d2 d3
          go_wp2
          go_ret
          exact ⟨rfl, B13.out⟩
        · have hlt : i < ic := by omega
          go_wp2_with fail
          rw [HWW.out]
          refine (HA1.out _ _ _ (Below.refl _ _) (by first | (intro h; omega) | (intro _; rfl)) (by omega) (by omega)).mono ?_
          rintro _ w11 ⟨rfl, b11⟩
          have B11 := Lib.hid b11
          clear b11
          go_wp2_with fail
          refine (HA2.out _ _ _ B11.out (by first | (intro h; omega) | (intro _; rfl)) (by omega) (by omega)).mono ?_
          rintro _ w12 ⟨rfl, b12⟩
          have B12 : Hid (Below W0.heap.size W0 w12) := B11.out.trans (b12.mono B11.out.size)
          obtain ⟨⟨c0, c1, c2, c3⟩, ⟨d0, d1, d2, d3⟩⟩ := HKQ.out w12 B12.out
          clear b12
          go_wp2_with fail
          refine (HA3.out _ B12.out).mono ?_
          rintro _ w13 ⟨rfl, b13⟩
          have B13 : Hid (Below W.heap.size W w13) := (HW10.out.trans (B12.out.mono HW10.out.size)).trans (b13.mono (Nat.le_trans HW10.out.size B12.out.size))
          clear b13 c0 c1 c2 c3 d0 d1 d2 d3
          go_wp2
          go_ret
          exact ⟨rfl, B13.out⟩
end Go.Proofs.Ytkidcchafdiofaa
