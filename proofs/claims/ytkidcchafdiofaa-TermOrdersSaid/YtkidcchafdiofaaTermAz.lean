/- term.List: a contract. Conditions: memory holds the terms and the tail; they have at most 700000 parts; their names are short. -/
import Derived.Test.YtkidcchafdiofaaTermAx
namespace Go.Proofs.Ytkidcchafdiofaa
open Go Go.RowKit

/-- a list of terms -/
def listT : List Tm → Tm → Tm
  | [], t => t
  | a :: r, t => .mk 4 0 ⟨#[46]⟩ [a, listT r t]
structure ListSt (w : World) (H k : Nat) (Y : AT) (tl : Tm) (x : AT) (wr : World) : Prop where
  box : wr.heap[H]? = some (.cells #[.int .i64 x.k, .int .i64 x.n, .string x.s, x.sv] 27 (0, 0))
  res : wr.heap[w.heap.size + 1]? = some (.cells #[.int .i64 0, .int .i64 0, .string ⟨#[]⟩, .slice none 0 0] 27 (0, 0))
  mem : x.mem wr
  ins : x.ins (fun j => w.heap.size ≤ j ∧ j ≠ H ∧ j ≠ w.heap.size + 1)
  its : Y.mem wr
  iin : Y.ins (fun j => w.heap.size ≤ j ∧ j ≠ H ∧ j ≠ w.heap.size + 1)
  tm : x.erase = listT ((ATs.erase Y.l).drop k) tl
  below : Below w.heap.size w wr
  low : w.heap.size + 1 < H
theorem ListSt.on {w wr w1 : World} {H k : Nat} {Y : AT} {tl : Tm} {x : AT} (h : ListSt w H k Y tl x wr) (hb : Below wr.heap.size wr w1) : ListSt w H k Y tl x w1 :=
  ⟨(hb.block _ (Array.getElem?_eq_some_iff.1 h.box).1).trans h.box, (hb.block _ (Array.getElem?_eq_some_iff.1 h.res).1).trans h.res, AT.mem_below hb (AT.ins_size _ h.mem) h.mem, h.ins, AT.mem_below hb (AT.ins_size _ h.its) h.its, h.iin, h.tm, h.below.trans (hb.mono h.below.size), h.low⟩
theorem put4_mem {wr : World} {H : Nat} {y u : AT} {S : Nat → Prop} (hm : u.mem wr) (hi : u.ins S) (hS : ∀ j, S j → j ≠ H) : u.mem (put4 wr H y) := AT.mem_same (S := S) (fun j hj => put4_ne (hS j hj)) u hi hm
theorem list_next {w wr : World} {H k : Nat} {Y : AT} {tl : Tm} {x e : AT} (h : ListSt w H (k + 1) Y tl x wr) (he : Y.l[k]? = some e) :
    ListSt w H k Y tl (fT ⟨#[46]⟩ wr.heap.size [e, x]) (put4 (wr.alloc (.cells (headCells [e, x]).toArray 27)) H (fT ⟨#[46]⟩ wr.heap.size [e, x])) := by
  have hH := (Array.getElem?_eq_some_iff.1 h.box).1
  have hb := (Below.refl wr.heap.size wr).alloc (Nat.le_refl _) (.cells (headCells [e, x]).toArray 27)
  have hnew := new_at wr (.cells (headCells [e, x]).toArray 27) rfl
  obtain ⟨hhd, hem⟩ := mem_get (AT.mem_mk.1 h.its).2 he
  have hl := h.low
  have hbs := h.below.size
  have hein : e.ins (fun j => w.heap.size ≤ j ∧ j ≠ H ∧ j ≠ w.heap.size + 1) := (AT.ins_mk.1 h.iin).2 |> fun hall => ins_at hall he
  have hem1 : e.mem (wr.alloc (.cells (headCells [e, x]).toArray 27)) := AT.mem_below hb (AT.ins_size _ hem) hem
  have hxm1 : x.mem (wr.alloc (.cells (headCells [e, x]).toArray 27)) := AT.mem_below hb (AT.ins_size _ h.mem) h.mem
  have hfm : (fT ⟨#[46]⟩ wr.heap.size [e, x]).mem (wr.alloc (.cells (headCells [e, x]).toArray 27)) := f_mem hnew (by simp) (fun t ht => by
    simp at ht
    rcases ht with rfl | rfl
    · exact hem1
    · exact hxm1)
  have hfi : (fT ⟨#[46]⟩ wr.heap.size [e, x]).ins (fun j => w.heap.size ≤ j ∧ j ≠ H ∧ j ≠ w.heap.size + 1) := ⟨fun _ => ⟨by omega, by omega, by omega⟩, hein, h.ins, trivial⟩
  refine ⟨put4_at ((hb.block _ hH).trans h.box), ?_, put4_mem hfm hfi (fun j hj => hj.2.1), hfi, put4_mem (AT.mem_below hb (AT.ins_size _ h.its) h.its) h.iin (fun j hj => hj.2.1), h.iin, ?_, put4_below (h.below.alloc hbs _) (by omega), h.low⟩
  · rw [put4_ne (by omega), hb.block _ (Array.getElem?_eq_some_iff.1 h.res).1]
    exact h.res
  · have h1 : (ATs.erase Y.l).drop k = e.erase :: (ATs.erase Y.l).drop (k + 1) := by
      have h2 := erase_get he
      obtain ⟨h3, h4⟩ := List.getElem?_eq_some_iff.1 h2
      rw [List.drop_eq_getElem_cons h3, h4]
    rw [h1, listT, ← h.tm]
    rfl
where
  ins_at {S : Nat → Prop} : ∀ {l : List AT} {k : Nat} {e : AT}, ATs.ins S l → l[k]? = some e → e.ins S
    | [], _, _, _, h => by simp at h
    | a :: r, 0, e, hi, h => by simp at h; subst h; exact hi.1
    | a :: r, k + 1, e, hi, h => ins_at hi.2 (by simpa using h)

set_option maxRecDepth 100000 in
set_option maxHeartbeats 4000000 in
theorem list_is (l : List AT) (t : AT) (ad : Option Addr) (cx G off : Nat) (w : World) (hsv : SvOk (.slice ad l.length cx) G off l.length) (hlm : ATs.mem w G l off) (hm : t.mem w) (hn : ATs.nodes l ≤ 700000) (hnt : t.nodes ≤ 700000) (hS : ∀ u ∈ t :: t.parts, u.s.size ≤ 281474976710656)
    (hSl : ∀ x ∈ ATs.flat G 1 l off, x.t.s.size ≤ 281474976710656) :
    Calls Try.prog 29 #[.slice ad l.length cx, .agg #[.int .i64 t.k, .int .i64 t.n, .string t.s, t.sv]] w (MendPost w (listT (ATs.erase l) t.erase)) := by
  have CP : Calls Try.prog 43 #[.slice (some ⟨w.heap.size + 1 + 1, 0, none⟩) 1 1] (((w.alloc (.cells #[.int .i64 t.k, .int .i64 t.n, .string t.s, t.sv] 27)).alloc (.cells #[.int .i64 0, .int .i64 0, .string ⟨#[]⟩, .slice none 0 0] 27)).alloc (.cells #[.int .i64 t.k, .int .i64 t.n, .string t.s, t.sv] 27)) (CopyPost (((w.alloc (.cells #[.int .i64 t.k, .int .i64 t.n, .string t.s, t.sv] 27)).alloc (.cells #[.int .i64 0, .int .i64 0, .string ⟨#[]⟩, .slice none 0 0] 27)).alloc (.cells #[.int .i64 t.k, .int .i64 t.n, .string t.s, t.sv] 27)) [t]) := by
    obtain ⟨h1, h2, h3⟩ := world3 w (.cells #[.int .i64 t.k, .int .i64 t.n, .string t.s, t.sv] 27) (.cells #[.int .i64 0, .int .i64 0, .string ⟨#[]⟩, .slice none 0 0] 27) (.cells #[.int .i64 t.k, .int .i64 t.n, .string t.s, t.sv] 27)
    refine copies_is [t] _ (w.heap.size + 1 + 1) 0 _ (.inr ⟨1, rfl, Nat.le_refl _, by unfold maxLen; omega⟩) ⟨⟨⟨_, _, h1⟩, cell_of_heap h1 rfl, cell_of_heap h1 rfl, cell_of_heap h1 rfl, cell_of_heap h1 rfl⟩, AT.mem_below h3 (AT.ins_size _ hm) hm, trivial⟩ (by simp [ATs.nodes]; omega) (fun x hx => ?_)
    have : x.t ∈ (argL (w.heap.size + 1 + 1) t).map Nd.t := List.mem_map.2 ⟨x, hx, rfl⟩
    rw [argL_is, List.map_cons, AT.flat_parts] at this
    exact hS _ this
  have hYm : (AT.mk 0 0 ⟨#[]⟩ (.slice ad l.length cx) G off l).mem w := ⟨hsv, hlm⟩
  have CL := Lib.hid (fun w1 (hb : Below w.heap.size w w1) => copies_is l (.slice ad l.length cx) G off w1 hsv (AT.mem_below hb (AT.ins_size _ hYm) hYm).2 (by omega) hSl)
  have hln := len_nodes l
  obtain ⟨tax, tcx, tsv, _⟩ := sv_form (AT.mem_mk.1 hm).1
  obtain ⟨R, hR⟩ : ∃ R, listT (ATs.erase l) t.erase = R := ⟨_, rfl⟩
  rw [hR]
  have HR := Lib.hid hR
  rw [tsv] at CP ⊢
  have HCP := Lib.hid CP
  obtain ⟨n, hnn⟩ : ∃ n, l.length = n := ⟨_, rfl⟩
  rw [hnn] at CL hln ⊢
  have HNN := Lib.hid hnn
  have hn7 : n ≤ 700000 := by omega
  clear CP hm hS hSl hR tsv hYm hsv hlm hn hnt hnn hln
  go_enter Try.func29, Try.ntmps29
  go_wp2_with fail
  refine HCP.out.mono ?_
  rintro e w3 hpost
  obtain ⟨c, G1, u, rfl, c1, c2, hh, hum, hue, hui, hbl⟩ := copy_one hpost
  obtain ⟨_, g0, g1, g2, g3⟩ := hh
  obtain ⟨ux, uy, usv, _⟩ := sv_form (AT.mem_mk.1 hum).1
  rw [usv] at g3
  have hb1 : w3.heap[w.heap.size + 1]? = some (.cells #[.int .i64 0, .int .i64 0, .string ⟨#[]⟩, .slice none 0 0] 27 (0, 0)) := by
    rw [hbl.block _ (by simp), Below.heap_alloc _ _ _ (by simp)]
    exact new_at _ _ (by simp)
  have hbw : Below w.heap.size w w3 := below3.trans (hbl.mono (by simp; omega))
  have h3s : w.heap.size + 1 + 1 + 1 ≤ w3.heap.size := by have := hbl.size; simpa using this
  have hu3 : u.ins (fun j => w.heap.size + 1 + 1 + 1 ≤ j) := AT.ins_mono (fun j hj => by simpa using hj) u hui
  have hus := AT.ins_size u hum
  have hb4 : Below w3.heap.size w3 (w3.alloc (.cells #[.int .i64 u.k, .int .i64 u.n, .string u.s, .slice ux u.l.length uy] 27)) := (Below.refl _ _).alloc (Nat.le_refl _) _
  have h4 := new_at w3 (.cells #[.int .i64 u.k, .int .i64 u.n, .string u.s, .slice ux u.l.length uy] 27) rfl
  have CL4 := Lib.hid (CL.out (w3.alloc (.cells #[.int .i64 u.k, .int .i64 u.n, .string u.s, .slice ux u.l.length uy] 27)) (hbw.alloc hbw.size _))
  have hX := Lib.hid (And.intro hum (And.intro hue (And.intro hu3 (And.intro hus (And.intro usv (And.intro hb1 (And.intro hbw (And.intro h3s (And.intro hb4 h4)))))))))
  simp only [Nat.zero_add] at g0 g1 g2 g3
  clear hpost hum hue hui hbl hb1 hbw usv HCP h3s hu3 hus hb4 h4 CL
  go_wp2_with fail
  refine CL4.out.mono ?_
  rintro e w5 ⟨ad', c', G', l', rfl, m1, m2, m3, m4, m5, m6, m7⟩
  obtain ⟨hum, hue, hu3, hus, usv, hb1, hbw, h3s, hb4, h4⟩ := hX.out
  have hYm : (AT.mk 0 0 ⟨#[]⟩ (.slice ad' l.length c') G' 0 l').mem w5 := ⟨by rw [m2]; exact m1, m4⟩
  have hw4 : (w3.alloc (.cells #[.int .i64 u.k, .int .i64 u.n, .string u.s, .slice ux u.l.length uy] 27)).heap.size = w3.heap.size + 1 := by simp
  have hb45 : Below w3.heap.size w3 w5 := hb4.trans (m7.mono (by omega))
  have hin : ListSt w w3.heap.size n (.mk 0 0 ⟨#[]⟩ (.slice ad' l.length c') G' 0 l') t.erase u w5 := by
    refine ⟨?_, (hb45.block _ (by omega)).trans hb1, AT.mem_below hb45 (AT.ins_size _ hum) hum, AT.ins_mono (fun j hj => ⟨by omega, by omega, by omega⟩) u (AT.mem_keeps.AT.ins_and u hu3 hus), hYm, ⟨fun hne => ?_, ?_⟩, ?_, hbw.trans (hb45.mono hbw.size), by omega⟩
    · rw [m7.block _ (by omega), usv]; exact h4
    · have := m6 G' (by
        have : l.isEmpty = false := by
          rw [List.isEmpty_eq_false_iff]
          intro h
          rw [h] at m2
          exact hne (List.length_eq_zero_iff.1 m2)
        simp [this])
      omega
    · exact ATs.ins_mono (fun j hj => by
        have := m6 j (by simp [hj])
        omega) l' (ATs.ins_blocks l')
    · have : ((ATs.erase l').drop n) = [] := List.drop_eq_nil_of_le (by rw [erase_len, m2, HNN.out]; omega)
      show u.erase = listT ((ATs.erase l').drop n) t.erase
      rw [this, hue]
      rfl
  have HIN := Lib.hid hin
  have HER : Hid (ATs.erase l' = ATs.erase l) := m3
  have HLEN : Hid (l'.length = n) := by show l'.length = n; rw [m2, HNN.out]
  obtain ⟨s1, s2, s3, s4, s5, s6⟩ := sv_form m1
  simp at s3
  obtain ⟨rfl, rfl⟩ := s3
  rw [HNN.out] at s4 s6
  have HAD := Lib.hid s6
  unfold maxLen at s5
  clear hin hum hue hu3 hus usv hb1 hbw h3s hb4 h4 hYm hw4 hb45 m1 m2 m3 m4 m5 m6 m7 CL4 hX s6 g0 g1 g2 g3
  rw [HNN.out] at HIN ⊢
  go_wp2
  go_loopw [7] (fun vi wr => ∃ (k : Nat) (x : AT), vi = .int .i64 ((k : Int) - 1) ∧ k ≤ n ∧ Hid (ListSt w w3.heap.size k (.mk 0 0 ⟨#[]⟩ (.slice ad' n c') G' 0 l') t.erase x wr)) (fun vi _ => (intOf vi + 1).toNat)
  case atStart => exact ⟨n, u, rfl, Nat.le_refl _, HIN.out⟩
  case round =>
    obtain ⟨k, x, rfl, hk, HS⟩ := hrel
    have hbox := HS.out.box
    obtain ⟨xax, xcx, xsv, _⟩ := sv_form (AT.mem_mk.1 HS.out.mem).1
    rw [xsv] at hbox
    have c0 : wr.cell? ⟨w3.heap.size, 0, none⟩ = some (.int .i64 x.k) := cell_of_heap hbox rfl
    have c1 : wr.cell? ⟨w3.heap.size, 1, none⟩ = some (.int .i64 x.n) := cell_of_heap hbox rfl
    have c2 : wr.cell? ⟨w3.heap.size, 2, none⟩ = some (.string x.s) := cell_of_heap hbox rfl
    have c3 : wr.cell? ⟨w3.heap.size, 3, none⟩ = some (.slice xax x.l.length xcx) := cell_of_heap hbox rfl
    have z0 := free_of_heap (o := 0) hbox
    have z1 := free_of_heap (o := 1) hbox
    have z2 := free_of_heap (o := 2) hbox
    have z3 := free_of_heap (o := 3) hbox
    cases k with
    | zero =>
      have hr := HS.out.res
      have d0 : wr.cell? ⟨w.heap.size + 1, 0, none⟩ = some (.int .i64 0) := cell_of_heap hr rfl
      have d1 : wr.cell? ⟨w.heap.size + 1, 1, none⟩ = some (.int .i64 0) := cell_of_heap hr rfl
      have d2 : wr.cell? ⟨w.heap.size + 1, 2, none⟩ = some (.string ⟨#[]⟩) := cell_of_heap hr rfl
      have d3 : wr.cell? ⟨w.heap.size + 1, 3, none⟩ = some (.slice none 0 0) := cell_of_heap hr rfl
      have y0 := free_of_heap (o := 0) hr
      have y1 := free_of_heap (o := 1) hr
      have y2 := free_of_heap (o := 2) hr
      have y3 := free_of_heap (o := 3) hr
      have HF := Lib.hid (four_cells hr (.int .i64 x.k) (.int .i64 x.n) (.string x.s) (.slice xax x.l.length xcx))
      have hpost : MendPost w R (.returned (.agg #[.int .i64 x.k, .int .i64 x.n, .string x.s, x.sv])) (put4 wr (w.heap.size + 1) x) := by
        refine ⟨x, rfl, ?_, put4_mem HS.out.mem HS.out.ins (fun j hj => hj.2.2), AT.ins_mono (fun j hj => hj.1) x HS.out.ins, put4_below HS.out.below (by omega)⟩
        rw [HS.out.tm, ← HR.out]
        show listT ((ATs.erase l').drop 0) _ = _
        rw [HER.out, List.drop_zero]
      unfold put4 at hpost
      rw [xsv] at hpost
      have HP := Lib.hid hpost
      have e1 : decide ((0 : Int) ≤ ((0 : Nat) : Int) - 1) = false := by decide
      clear hr hpost hbox HS HIN
      go_wp2
      obtain ⟨q0, q1, q2, q3⟩ := HF.out
      refine bodyPost_ret (v := .agg #[.int .i64 x.k, .int .i64 x.n, .string x.s, .slice xax x.l.length xcx]) (by simp [results, Try.results29, go_sem, q0, q1, q2, q3]) rfl ?_
      exact HP.out
    | succ k =>
      obtain ⟨e, he⟩ : ∃ e, l'[k]? = some e := ⟨l'[k]'(by rw [HLEN.out]; omega), List.getElem?_eq_getElem _⟩
      obtain ⟨⟨_, e0, e1, e2, e3⟩, hem⟩ := mem_get (AT.mem_mk.1 HS.out.its).2 he
      obtain ⟨eax, ecx, esv, _⟩ := sv_form (AT.mem_mk.1 hem).1
      have hnext := list_next HS.out he
      have hcells : headCells [e, x] = [.int .i64 e.k, .int .i64 e.n, .string e.s, .slice eax e.l.length ecx, .int .i64 x.k, .int .i64 x.n, .string x.s, .slice xax x.l.length xcx] := by simp [headCells, esv, xsv]
      unfold put4 at hnext
      rw [hcells] at hnext
      have hH := (Array.getElem?_eq_some_iff.1 HS.out.box).1
      rw [World.setCell_alloc_past _ _ _ _ hH, World.setCell_alloc_past _ _ _ _ (by simpa using hH), World.setCell_alloc_past _ _ _ _ (by simpa using hH), World.setCell_alloc_past _ _ _ _ (by simpa using hH)] at hnext
      have NEXT := Lib.hid (hnext.on ((Below.refl _ _).drew))
      obtain rfl := HAD.out (by omega)
      rw [esv] at e3
      simp only [AT.off, AT.G, Nat.zero_add] at e0 e1 e2 e3
      have i1 : (0 : Int) ≤ (k : Int) := by omega
      have i2 : (k : Int) < (n : Int) := by omega
      have t1 : decide ((0 : Int) ≤ (k : Int)) = true := decide_eq_true i1
      clear he hem hnext hcells esv xsv hbox HS HIN HR HER
      rw [show ((k + 1 : Nat) : Int) - 1 = (k : Int) from by omega]
      go_wp2_with fail
      go_region
      all_goals
        go_wp2
        go_roundw
        case rel => exact ⟨k, _, rfl, by omega, NEXT.out⟩
        case measure => simp [intOf]
end Go.Proofs.Ytkidcchafdiofaa
