/- The program's table of operators: List. Conditions: the operators are at most 256. -/
import Derived.Test.YtnnhpjpfmmlimaaDoorOpQ
namespace Go.Proofs.YtnnhpjpfmmlimaaDoor
open Go Go.RowKit Go.Maps
open Go.WideMaps Go.WideElems

/-- List's loop on the way: v: the slice, acc: what it holds -/
structure LSt (w wr : World) (m r n : Nat) (L : List Df) (D : DataW Unit) (v : Value) (left : Lit → Bool) (cnt : Nat) (acc : List Df) : Prop where
  rng : wr.ranges Tryd.prog 71 dfR m r n D left cnt
  own : wr.ownsRow w.heap.size 45 3 v acc.length (cellsD acc)
  perm : (acc ++ L.filter (fun d => left d.ent.1)).Perm L
  low : Below w.heap.size w wr
  form : ∃ g cap, v = .slice (some ⟨g, 0, none⟩) acc.length cap
structure ListPost (w : World) (L : List Df) (e : Ending) (w' : World) : Prop where
  got : ∃ g cap S, e = .returned (.slice (some ⟨g, 0, none⟩) L.length cap) ∧ w.heap.size ≤ g ∧ ArgRow w' (some ⟨g, 0, none⟩) L.length cap g 0 S ∧ S.Perm L ∧ S.Pairwise (fun x y => ¬ cmpD y x < 0) ∧ Below w.heap.size w w'

theorem filter_all {L : List Df} {p : Df → Bool} (h : ∀ d ∈ L, p d = true) : L.filter p = L := List.filter_eq_self.2 h
/-- the entry that has come is one of the list's -/
theorem come {L : List Df} {D : DataW Unit} (hr : Rel D L) (hw : Wf L) {k : Lit} {c : Df} (hat : ∀ zd, D.atKey k zd = c.dat) : c ∈ L ∧ k = c.ent.1 := by
  have hh := Maps.has_true_of_atKey hat
  obtain ⟨es, rfl, hp⟩ := hr
  rw [Maps.has_eq, List.any_eq_true] at hh
  obtain ⟨p, hpm, hk⟩ := hh
  obtain ⟨d, hd, rfl⟩ := List.mem_map.1 (hp.mem_iff.1 hpm)
  have hk' := WideAt.sameKey_eq hk
  have hx := Rel.atKey (D := .map es) ⟨es, rfl, hp⟩ hw (hw.name hd) (srt4 d.typ) .nil
  have hf : fnd L d.name (srt d.typ) = some d := by
    have h1 := Rel.has (D := .map es) ⟨es, rfl, hp⟩ hw (hw.name hd) (srt4 d.typ)
    obtain ⟨x, hx⟩ : ∃ x, fnd L d.name (srt d.typ) = some x := by
      rw [← Option.isSome_iff_exists, ← h1, Maps.has_eq, List.any_eq_true]
      exact ⟨_, hpm, WideAt.sameKey_self (kl_key (hw.name hd) (srt4 _))⟩
    obtain ⟨hx1, hx2, hx3⟩ := fnd_mem hx
    rw [hx]
    congr 1
    have := hw.one
    by_cases e : x = d
    · exact e
    · exfalso
      have hne : ∀ {l : List Df}, l.Pairwise (fun a b => ¬ (a.name = b.name ∧ srt a.typ = srt b.typ)) → x ∈ l → d ∈ l → False := by
        intro l hl hxl hdl
        induction l with
        | nil => cases hxl
        | cons y l ih =>
          obtain ⟨h1, h2⟩ := List.pairwise_cons.1 hl
          rcases List.mem_cons.1 hxl with hxe | hx'
          · rcases List.mem_cons.1 hdl with hde | hd'
            · exact e (hxe.trans hde.symm)
            · rw [← hxe] at h1
              exact h1 d hd' ⟨hx2, hx3⟩
          · rcases List.mem_cons.1 hdl with hde | hd'
            · rw [← hde] at h1
              exact h1 x hx' ⟨hx2.symm, hx3.symm⟩
            · exact ih h2 hx' hd'
      exact hne this hx1 hd
  rw [hf] at hx
  have hc : d = c := dat_inj (by rw [← hat .nil, ← hk']; exact hx.symm)
  subst hc
  exact ⟨hd, hk'.symm⟩
theorem strike_perm {L : List Df} (hw : Wf L) {c : Df} (hc : c ∈ L) {left : Lit → Bool} (hl : left c.ent.1 = true) :
    (c :: L.filter (fun d => left d.ent.1 && !d.ent.1.sameKey c.ent.1)).Perm (L.filter (fun d => left d.ent.1)) := by
  have key : ∀ l : List Df, l.Pairwise (fun a b => ¬ (a.name = b.name ∧ srt a.typ = srt b.typ)) → (∀ d ∈ l, d.name.size ≤ maxLen) → c ∈ l → (c :: l.filter (fun d => left d.ent.1 && !d.ent.1.sameKey c.ent.1)).Perm (l.filter (fun d => left d.ent.1)) := by
    intro l hl0 hn hcl
    have hcn := hn c hcl
    induction l with
    | nil => cases hcl
    | cons y l ih =>
      obtain ⟨h1, h2⟩ := List.pairwise_cons.1 hl0
      have hkey : ∀ d ∈ y :: l, d.ent.1.sameKey c.ent.1 = true → d.name = c.name ∧ srt d.typ = srt c.typ := fun d hd h => kl_inj (hn d hd) (srt4 _) hcn (srt4 _) (WideAt.sameKey_eq h)
      have hself : c.ent.1.sameKey c.ent.1 = true := WideAt.sameKey_self (kl_key hcn (srt4 _))
      rcases List.mem_cons.1 hcl with rfl | hcl'
      · have hrest : l.filter (fun d => left d.ent.1 && !d.ent.1.sameKey c.ent.1) = l.filter (fun d => left d.ent.1) := by
          refine List.filter_congr fun d hd => ?_
          cases hs : d.ent.1.sameKey c.ent.1
          · simp
          · exact absurd (hkey d (List.mem_cons_of_mem _ hd) hs) (fun h => h1 d hd ⟨h.1.symm, h.2.symm⟩)
        rw [List.filter_cons, List.filter_cons, hself, hl, hrest]
        simp
      · have hyc : y.ent.1.sameKey c.ent.1 = false := by
          cases hs : y.ent.1.sameKey c.ent.1
          · rfl
          · exact absurd (hkey y List.mem_cons_self hs) (h1 c hcl')
        rw [List.filter_cons, List.filter_cons, hyc]
        have ih' := ih h2 (fun d hd => hn d (List.mem_cons_of_mem _ hd)) hcl'
        cases hy : left y.ent.1
        · simpa using ih'
        · simp only [Bool.not_false, Bool.and_self, if_true]
          exact (List.Perm.swap y c _).trans (ih'.cons y)
  exact key L hw.one (fun d hd => hw.name hd) hc

set_option maxRecDepth 100000 in
set_option maxHeartbeats 3200000 in
theorem list_is (a m : Nat) (L : List Df) (w : World) (hT : Tb w a m L) (hL : L.length ≤ 256) :
    Calls Tryd.prog 25 #[.pointer (some ⟨a, 0, none⟩)] w (ListPost w L) := by
  have hwf := hT.wf
  obtain ⟨c0, _⟩ := hT.cells
  have LE := hT.len
  have LT := Lib.hid hT.lt
  obtain ⟨D, ho, hr⟩ := hT.own
  have HO := Lib.hid ho
  have HR := Lib.hid hr
  have HWF := Lib.hid hwf
  have HL := Lib.hid hL
  obtain ⟨nn, hnn⟩ : ∃ nn, L.length = nn := ⟨_, rfl⟩
  have HT := Lib.hid hT
  rw [hnn] at LE hL
  have HNN := Lib.hid hnn
  obtain ⟨i0, hi, hz0, hz1, hz2⟩ : ∃ i : TypeInfo, Tryd.prog.info? 45 = some i ∧ i.zero = some (.agg #[.int .i64 0, .int .i64 0, .string ⟨#[]⟩]) ∧ i.size = 3 ∧ i.bytes = 32 := by
    have h : (Tryd.prog.info? 45).map (fun i => (i.zero, i.size, i.bytes)) = some (some (.agg #[.int .i64 0, .int .i64 0, .string ⟨#[]⟩]), 3, 32) := by kernel_rfl
    cases hq : Tryd.prog.info? 45 with
    | none => rw [hq] at h; cases h
    | some i =>
      rw [hq] at h
      simp only [Option.map_some, Option.some.injEq, Prod.mk.injEq] at h
      exact ⟨i, rfl, h.1, h.2.1, h.2.2⟩
  clear ho hr hwf hnn hT
  go_enter Tryd.func25, Tryd.ntmps25
  go_wp2_with (at_make; refine wpList_make_own _ rfl _ _ 43 rfl w.heap.size 45 i0 _ 3 Tryd.underlying43 hi hz0 hz1 _ _ _ nn rfl rfl rfl ?_ ?_ ?_ ?_)
  · rw [hz2]; omega
  · unfold maxLen; omega
  · exact Nat.le_refl _
  intro w1 hown1 hg1
  have B1 := Lib.hid (show Below w.heap.size w w1 from ⟨hg1.os, hg1.tape, hg1.output, hg1.size, fun k hk => hg1.block k hk (by simp)⟩)
  have T1 := Lib.hid (HT.out.on B1.out)
  have O1 := HO.out.kept hg1 (by simp)
  have q0 := T1.out.cells.1
  have OW1 := Lib.hid hown1
  clear hg1 hown1 c0 LE
  go_wp2_with (at_range; refine wpList_range_own _ rfl _ 53 rfl 71 45 keyLaw Tryd.underlying53 dfR m _ D rfl O1 ?_; intro w2 hrg2 hg2 hs2)
  go_frame
  have B2 := Lib.hid (show Below w1.heap.size w1 w2 from ⟨hg2.os, hg2.tape, hg2.output, hg2.size, fun k hk => hg2.block k hk (by simp)⟩)
  have S2 := Lib.hid (show LSt w w2 m w1.heap.size (Maps.size D) L D (.slice (some ⟨w.heap.size, 0, none⟩) 0 nn) (Maps.has D) (Maps.size D) [] from by
    refine ⟨hrg2, ?_, ?_, bt B1.out B2.out, ⟨w.heap.size, nn, rfl⟩⟩
    · exact ⟨rfl, by
        obtain ⟨_, h0 | ⟨g, cap, cur, h1, h2, h3, h4⟩⟩ := OW1.out
        · cases h0.1
        · exact .inr ⟨g, cap, cur, h1, h2, (hg2.block g (heap_lt h3) (by simp)).trans h3, h4⟩⟩
    · rw [List.nil_append, filter_all]
      intro d hd
      have := HR.out.has HWF.out (HWF.out.name hd) (srt4 d.typ)
      show Maps.has D (kl d.name (srt d.typ)) = true
      rw [this, Option.isSome_iff_exists]
      cases hf : fnd L d.name (srt d.typ) with
      | none =>
        exfalso
        unfold fnd at hf
        rw [List.find?_eq_none] at hf
        exact hf d hd (is_iff.2 ⟨rfl, rfl⟩)
      | some x => exact ⟨x, rfl⟩)
  obtain ⟨r, hr1⟩ : ∃ r, w1.heap.size = r := ⟨_, rfl⟩
  rw [hr1] at S2 ⊢
  have HR1 := Lib.hid hr1
  have HLR := Lib.hid (show w.heap.size ≤ r by rw [← hr1]; exact B1.out.size)
  clear hrg2 hg2 hs2 hr1 O1 q0
  go_loopw [3] (fun v wr => ∃ (left : Lit → Bool) (cnt : Nat) (acc : List Df), Hid (LSt w wr m r (Maps.size D) L D v left cnt acc)) (fun _ wr => wr.rangeLeft m r)
  case atStart => exact ⟨_, _, _, S2⟩
  case round =>
    obtain ⟨left, cnt, acc, HS⟩ := hrel
    obtain ⟨g, cap, hv⟩ := HS.out.form
    subst hv
    have hrng := HS.out.rng
    go_wp2_with (at_next; refine wpList_next_ranges (α := Value) (β := Df) _ rfl _ rfl 71 keyLaw dfR id (fun d => .agg #[.int .i64 d.pri, .int .i64 d.typ, .string d.name]) (fun key _ _ => ⟨key, rfl⟩) (fun v y h => by obtain ⟨d, h1, _⟩ := dfR_inv h; exact ⟨d, h1⟩) m r _ D left cnt rfl hrng ?_ ?_)
    · intro hc0 hl0
      clear hrng
      have hperm : acc.Perm L := by
        have := HS.out.perm
        rw [show L.filter (fun d => left d.ent.1) = [] from List.filter_eq_nil_iff.2 (fun d _ => by rw [hl0]; simp), List.append_nil] at this
        exact this
      have hlen := hperm.length_eq
      obtain ⟨hb, hgl, _, hcap, hmax, _⟩ := owns_cells HS.out.own
      have hholds := owns_holds HS.out.own
      have SRT := Lib.hid (sort_is g cap acc wr hholds hgl (by rw [hlen]; have := HL.out; omega))
      have FIN := Lib.hid (fun (S : List Df) (k : Nat) (os : Array Obj) (hp : S.Perm acc) (hs : S.Pairwise (fun x y => ¬ cmpD y x < 0)) => show ListPost w L (.returned (.slice (some ⟨g, 0, none⟩) acc.length cap)) (sortWorldK Df.cells 3 wr g 0 k S.toArray os) from
        ⟨⟨g, cap, S, by rw [hlen], hb, by
            have h1 := sorted_row (m := k) (os := os) (d' := S.toArray) hholds hgl (by simpa using hp.length_eq) (by simpa using hlen) (by rw [← hlen]; exact hcap) (by unfold maxLen at hmax; omega)
            simpa using h1, hp.trans hperm, hs, HS.out.low.trans (sorted_below hb HS.out.low.size)⟩⟩)
      clear hl0 hc0 hperm hlen hb hgl hcap hmax hholds
      go_wp2_with fail
      refine SRT.out.mono ?_
      rintro e w' ⟨rfl, S, k, os, hp, hs, rfl⟩
      have F := FIN.out S k os hp hs
      clear FIN SRT hp hs
      obtain ⟨w9, hw9⟩ : ∃ w9, sortWorldK Df.cells 3 wr g 0 k S.toArray os = w9 := ⟨_, rfl⟩
      rw [hw9] at F ⊢
      have FF := Lib.hid F
      clear F hw9
      go_wp2_with fail
      go_ret
      exact FF.out
    · intro x c kk y ps w3 cnt3 hkey hlk hv hat hrg3 hlt hg3 hs3 hen
      obtain ⟨d', hd1, hd2⟩ := dfR_inv hv
      have hcd : c = d' := by
        obtain ⟨p, t, n⟩ := c
        obtain ⟨p', t', n'⟩ := d'
        simp at hd1
        obtain ⟨rfl, rfl, rfl⟩ := hd1
        rfl
      subst hcd
      obtain ⟨hcL, hkk⟩ := come HR.out HWF.out (k := kk) (c := c) (fun zd => by rw [hat zd]; exact congrArg Prod.fst hd2)
      subst hkk
      have hP2 : ((acc ++ [c]) ++ L.filter (fun d => left d.ent.1 && !d.ent.1.sameKey c.ent.1)).Perm L := by
        have h1 := strike_perm HWF.out hcL hlk
        rw [List.append_assoc, List.singleton_append]
        exact (h1.append_left acc).trans HS.out.perm
      have hname : c.name.size ≤ 2000 := by have := (HWF.out.fit c hcL).2.2.2.2; omega
      have hlacc : acc.length < 256 := by
        have h1 := hP2.length_eq
        have h2 := HL.out
        simp at h1
        omega
      obtain ⟨hb, hgl, hal, hcap, hmax, _⟩ := owns_cells HS.out.own
      have hgr : g ≠ r := by
        intro he
        subst he
        obtain ⟨_, h0 | ⟨g', cap', cur, h1, h2, h3, _⟩⟩ := HS.out.own
        · cases h0.1
        · cases h1
          obtain ⟨_, _, _, _, _, _, _, _, _, h4, _⟩ := HS.out.rng
          rw [h3] at h4
          cases h4
      have OWN3 : w3.ownsRow w.heap.size 45 3 (.slice (some ⟨g, 0, none⟩) acc.length cap) acc.length (cellsD acc) := by
        obtain ⟨h0, h1 | ⟨g', cap', cur, h1, h2, h3, h4⟩⟩ := HS.out.own
        · cases h1.1
        · cases h1
          exact ⟨h0, .inr ⟨g, cap, cur, rfl, h2, (hg3.block g (heap_lt h3) (by simpa using hgr)).trans h3, h4⟩⟩
      have B3 : Below w.heap.size w w3 := HS.out.low.grown hg3 HS.out.low.size (fun k hk => by cases hk; exact HLR.out)
      have CL := Lib.hid (fun w => clone_is c.name w hname)
      have k4 : Below w3.heap.size w3 (w3.alloc (.cells #[.int .i64 c.pri, .int .i64 c.typ, .string c.name] 45)) := (Below.refl _ _).alloc (Nat.le_refl _) _
      have N4 : (w3.alloc (.cells #[.int .i64 c.pri, .int .i64 c.typ, .string c.name] 45)).heap[w3.heap.size]? = some (.cells #[.int .i64 c.pri, .int .i64 c.typ, .string c.name] 45 (0, 0)) := new_at _ _ rfl
      obtain ⟨W4, hW4⟩ : ∃ W4, w3.alloc (.cells #[.int .i64 c.pri, .int .i64 c.typ, .string c.name] 45) = W4 := ⟨_, rfl⟩
      rw [hW4] at k4 N4
      have HW4 := Lib.hid hW4
      have HK4 := Lib.hid k4
      have HN4 := Lib.hid N4
      have HO3 := Lib.hid OWN3
      have HB3 := Lib.hid B3
      have HRG := Lib.hid hrg3
      have HLT := Lib.hid hlt
      have HP2 := Lib.hid hP2
      have HGB := Lib.hid (And.intro hb (And.intro hgl hs3))
      have HRLT := Lib.hid (show r < w3.heap.size from hrg3.lt)
      have HRNG := Lib.hid hrng
      clear hkey hlk hv hat hrg3 hlt hg3 hd1 hd2 hcL hP2 hname hgr OWN3 B3 k4 N4 hW4 hrng hs3 hb hgl hal hcap hmax
      go_wp2_with fail
      rw [HW4.out]
      refine (CL.out _).mono ?_
      rintro e w5 ⟨rfl, b5⟩
      have N5 := (b5.block _ (heap_lt HN4.out)).trans HN4.out
      obtain ⟨c0, c1, c2, z0, z1, z2⟩ := (Three.mk N5).facts
      have B35 := Lib.hid (HK4.out.trans (b5.mono HK4.out.size))
      have HN5 := Lib.hid N5
      clear b5 N5 hen
      have hgb : g ≠ w3.heap.size := by have := HGB.out; omega
      have hmb : m ≠ w3.heap.size := by have := LT.out.2; have := HB3.out.size; omega
      have hrb : r ≠ w3.heap.size := by have := HRLT.out; omega
      have hmg : m ≠ g := by have := LT.out.2; have := HGB.out.1; omega
      have hrg : r ≠ g := by
        intro he
        obtain ⟨_, h0 | ⟨g', cap', cur, h1, h2, h3, _⟩⟩ := HO3.out
        · cases h0.1
        · cases h1
          obtain ⟨_, _, _, _, _, _, _, _, _, h4, _⟩ := HRG.out
          rw [he, h3] at h4
          cases h4
      have S6 : w5.grownBy (w5.setCell ⟨w3.heap.size, 2, none⟩ (.string c.name)) (some w3.heap.size) := ⟨rfl, rfl, rfl, by rw [World.size_setCell]; exact Nat.le_refl _, fun k _ hne => heap_set_ne (by simpa using hne) _⟩
      have R6 := (HRG.out.kept (grown_of B35.out none) (by simp) (by simp)).kept S6 (by simpa using hmb) (by simpa using hrb)
      have OWN6 : (w5.setCell ⟨w3.heap.size, 2, none⟩ (.string c.name)).ownsRow w.heap.size 45 3 (.slice (some ⟨g, 0, none⟩) acc.length cap) acc.length (cellsD acc) := by
        obtain ⟨h0, h1 | ⟨g', cap', cur, h1, h2, h3, h4⟩⟩ := HO3.out
        · cases h1.1
        · cases h1
          exact ⟨h0, .inr ⟨g, cap, cur, rfl, h2, (heap_set_ne hgb _).trans ((B35.out.block g (heap_lt h3)).trans h3), h4⟩⟩
      have B6 : Below w.heap.size w (w5.setCell ⟨w3.heap.size, 2, none⟩ (.string c.name)) := (HB3.out.trans (B35.out.mono HB3.out.size)).setCell (p := ⟨w3.heap.size, 2, none⟩) HB3.out.size _
      have NEWS : ∀ (W : World) (H : Nat), W.heap.size = H → ∀ j u, [Value.int .i64 c.pri, .int .i64 c.typ, .string c.name][j]? = some u → (W.alloc (.cells #[.int .i64 c.pri, .int .i64 c.typ, .string c.name] 45)).cell? ((⟨H, 0, none⟩ : Addr).add j) = some u := fun W H h => by
        subst h
        exact World.news_of_block (heap_alloc_new W _)
      have ONE : ∀ u ∈ [Value.int .i64 c.pri, .int .i64 c.typ, .string c.name], u.oneCell' = true := by
        intro u hu
        simp at hu
        rcases hu with rfl | rfl | rfl <;> rfl
      have HR6 := Lib.hid R6
      have HO6 := Lib.hid OWN6
      have HB6 := Lib.hid B6
      have HNEWS := Lib.hid NEWS
      have HONE := Lib.hid ONE
      have HNE := Lib.hid (And.intro hmg hrg)
      have h6z : (w5.setCell ⟨w3.heap.size, 2, none⟩ (.string c.name)).heap.size = w5.heap.size := World.size_setCell _ _ _
      have H6Z := Lib.hid h6z
      clear hgb hmb hrb hmg hrg S6 R6 OWN6 B6 NEWS ONE h6z
      go_wp2_with (at_builtin; refine wpList_append_lies _ rfl (.tmp 27) (.tmp 29) 43 rfl w.heap.size 45 i0 (.agg #[.int .i64 0, .int .i64 0, .string ⟨#[]⟩]) 3 32 Tryd.underlying43 hi hz0 hz1 hz2 rfl (by decide) _ _ _ rfl (HO6.out.alloc _) ⟨w5.heap.size, 0, none⟩ 1 1 [.int .i64 c.pri, .int .i64 c.typ, .string c.name] rfl rfl (HNEWS.out _ _ H6Z.out) HONE.out (by omega) ?_ ?_ ?_ (w5.heap.size + 1) (by simp) ?_)
      · unfold maxLen; omega
      · omega
      · have := HB6.out.size; simp at this ⊢; omega
      intro g' cap' w8 hown8 hgrow8 hat8 hlt8
      have ST : LSt w w8 m r (Maps.size D) L D (.slice (some ⟨g', 0, none⟩) (acc.length + 1) cap') (fun z => left z && !z.sameKey c.ent.1) cnt3 (acc ++ [c]) := by
        refine ⟨(HR6.out.alloc _).kept hgrow8 (by simpa [Value.ownBlock] using HNE.out.1) (by simpa [Value.ownBlock] using HNE.out.2), ?_, HP2.out, ?_, ⟨g', cap', by simp⟩⟩
        · rw [List.length_append, List.length_singleton, cellsD_app]
          exact hown8
        · exact (HB6.out.alloc HB6.out.size _).grown hgrow8 (by have := HB6.out.size; simp at this ⊢; omega) (fun k hk => by
            simp only [Value.ownBlock, Option.some.injEq] at hk
            have := HGB.out.1
            omega)
      have HST := Lib.hid ST
      clear ST hown8 hgrow8 hat8 hlt8 HNEWS HONE HO6 HR6 HB6
      go_wp2_with fail
      go_roundw
      case rel => exact ⟨_, _, _, HST⟩
      case measure => rw [HST.out.rng.left_eq, HRNG.out.left_eq]; exact HLT.out

end Go.Proofs.YtnnhpjpfmmlimaaDoor
