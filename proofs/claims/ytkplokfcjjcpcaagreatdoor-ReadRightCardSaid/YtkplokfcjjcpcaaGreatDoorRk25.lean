/- Joined texts: ReadV ReadW ReadX ReadY ReadZ. Conditions: as each states. -/
import Derived.Test.YtkplokfcjjcpcaaGreatDoorRk24
import Derived.StillTailTactics
import Derived.Test.YtkplokfcjjcpcaaGreatDoorRk22
import Derived.Deep.Cut
section
namespace Go.Proofs.YtkplokfcjjcpcaaGreatDoor
open Go Go.RowKit Go.Maps Trm
attribute [local go_sem ↓] Go.wp_at_zero Go.wp_at_succ
set_option maxRecDepth 100000 in
set_option maxHeartbeats 3200000 in
theorem pnumber_is {w0 : Base} {w : World} {R : Nat} {tv : Value} {a : Nat} {σ : Ms} {c : Rc} {fr : List FrA} {so : AT} (h : StX w0 w R tv a σ [] c fr so) (hi : σ.i ≤ 10000) (t : Tok) :
    Calls Tryz.prog 141 #[.pointer (some ⟨R, 0, none⟩), t.val] w (POut w0 R tv a (if t.n < 0 then .bad σ.i else .on ((σ.to (σ.i + 1)).be (intT t.n) 0))) := by
  have hR := h.mem.rd.lt
  obtain ⟨tk, tl, tn, ts, tO, tt⟩ := t
  obtain ⟨S, hS⟩ : ∃ S : ByteArray, (⟨ts.toArray⟩ : ByteArray) = S := ⟨_, rfl⟩
  simp only [Tok.val, hS]
  have b0 := (Below.refl w.heap.size w).alloc (Nat.le_refl _) (.cells #[.int .i64 tk, .int .i64 tl, .int .i64 tn, .string S, .bool tO, .bool tt] 48)
  have H0 := Lib.hid (h.on b0)
  have PA := Lib.hid (passS H0.out hi)
  have BX := Lib.hid (Box6.mk (k := tk) (n := tl) (m := tn) (s := S) (o := tO) (t := tt) (heap_alloc_new w (.cells #[.int .i64 tk, .int .i64 tl, .int .i64 tn, .string S, .bool tO, .bool tt] 48)))
  have WH := Lib.hid (fun W => whole_is tn W)
  have BE := Lib.hid (fun w2 w3 (h2 : StX w0 w2 R tv a (σ.to (σ.i + 1)) [] { c with i := c.i + 1 } fr so) (b3 : Below w2.heap.size w2 w3) => beS (h2.on b3) (leafA 2 tn ⟨#[]⟩) 0 (leafA_mem _ _ _ _) (leafA_ins _ _ _ _))
  clear h b0 hS
  by_cases hn : tn < 0
  · rw [if_pos hn]
    clear PA BX WH BE
    go_enter Tryz.func141, Tryz.ntmps141
    go_wp2_with fail
    refine (giveUp_is _ _).mono ?_
    rintro e w2 ⟨rfl, hw⟩
    obtain rfl := hw.symm
    unfold stuckE
    go_wp2_with fail
    exact ⟨rfl, rfl, H0.out.bad⟩
  · rw [if_neg hn]
    clear H0
    go_enter Tryz.func141, Tryz.ntmps141
    go_wp2_with fail
    refine PA.out.mono ?_
    rintro e w1 ⟨rfl, k1, h1⟩
    obtain ⟨_, _, q2, _, _, _⟩ := (BX.out.keeps k1 (by omega)).facts
    have H1 := Lib.hid h1
    clear h1 k1 PA BX
    go_wp2_with fail
    refine (WH.out _).mono ?_
    rintro e w2 ⟨rfl, b2⟩
    have B2 := Lib.hid (BE.out w1 w2 H1.out b2)
    clear b2 H1 WH BE q2
    go_wp2_with fail
    refine B2.out.mono ?_
    rintro e w3 ⟨rfl, _, hs⟩
    have HS := Lib.hid hs
    clear hs B2
    go_wp2_with fail
    first | go_end0 | refine bodyPost_ret (results_none rfl _ _ _) rfl ?_
    exact ⟨rfl, HS.out⟩
theorem number_st {w0 : Base} {w w' : World} {R : Nat} {tv : Value} {a : Nat} {σ : Ms} {c : Rc} {fr : List FrA} {so : AT} {n cnt : Int} {nv : Value} {vs' : List (ByteArray × Int)} {s : List UInt8} (h : StX w0 w R tv a σ [] c fr so) (hm : MemX w0.heap.size w' R { c with nv := nv, cnt := cnt } fr so vs' []) (hb : Below w0.heap.size w w')
    (hP : Prims w' c.P R) (hS : Still w' (ownL R { c with nv := nv, cnt := cnt } fr []) c.P) (hZ : Safe w0 w' (ownL R { c with nv := nv, cnt := cnt } fr []))
    (hd : (fndV σ.vs (bsOf s) = some n ∧ cnt = c.cnt ∧ vs' = σ.vs) ∨ (fndV σ.vs (bsOf s) = none ∧ n = c.cnt ∧ cnt = c.cnt + 1 ∧ vs' = if (s == [95]) = true then σ.vs else σ.vs ++ [(bsOf s, c.cnt)])) :
    (σ.number s).2 = n ∧ StX w0 w' R tv a (σ.number s).1 [] { c with nv := nv, cnt := cnt } fr so := by
  have hB := h.below.trans hb
  unfold Ms.number
  rcases hd with ⟨h1, h2, h3⟩ | ⟨h1, h2, h3, h4⟩
  · rw [h1]
    subst h2 h3
    exact ⟨rfl, hm, hB, h.tv, h.a, hP, hS, h.i, h.cnt, h.stk, h.so, h.p, h.bg, hZ⟩
  · rw [h1]
    subst h2 h3
    by_cases hu : (s == [95]) = true
    · rw [if_pos hu] at h4
      subst h4
      simp only [if_pos hu]
      exact ⟨h.cnt.symm, hm, hB, h.tv, h.a, hP, hS, h.i, by show c.cnt + 1 = σ.cnt + 1; rw [h.cnt], h.stk, h.so, h.p, h.bg, hZ⟩
    · rw [if_neg hu] at h4
      subst h4
      simp only [if_neg hu]
      refine ⟨h.cnt.symm, ?_, hB, h.tv, h.a, hP, hS, h.i, by show c.cnt + 1 = σ.cnt + 1; rw [h.cnt], h.stk, h.so, h.p, h.bg, hZ⟩
      show MemX _ _ _ _ _ _ (σ.vs ++ [(bsOf s, σ.cnt)]) _
      rw [← h.cnt]
      exact hm
theorem codes_ls {w0 : Base} {w4 : World} {R : Nat} {tv : Value} {a : Nat} {τ : Ms} {c : Rc} {fr : List FrA} {so : AT} (h4 : StX w0 w4 R tv a τ [] c fr so) (us : List UInt8) (hul : us.length ≤ 5000) (va : Option Addr) (vk b : Nat) (hr4 : w4.ownsRow b 34 4 (.slice va us.length vk) us.length (headCells (codesA us))) :
    Calls Tryz.prog 180 #[.slice va us.length vk, (leafA 3 0 ⟨#[91, 93]⟩).val] w4 fun e w5 => ∃ (t : AT) (x1 : Option Addr) (x2 x3 : Nat), e = .returned (.agg #[.int .i64 t.k, .int .i64 t.n, .string t.s, .slice x1 x2 x3]) ∧ Hid (Calls Tryz.prog 148 #[.pointer (some ⟨R, 0, none⟩), .agg #[.int .i64 t.k, .int .i64 t.n, .string t.s, .slice x1 x2 x3], .int .i64 0] w5 fun e w' => e = .returned (.tuple #[]) ∧ Keeps (fun j => j = R) w5 w' ∧ RSt w0 w' R tv a (τ.be (lstT nilT (us.map fun c => intT (c.toNat : Int))) 0)) := by
  have hlen := codesA_len us
  have hleaf : ∀ t ∈ codesA us, ∃ n, t = leafA 2 n ⟨#[]⟩ := fun t ht => by
    obtain ⟨cc, _, rfl⟩ := List.mem_map.1 ht
    exact ⟨_, rfl⟩
  obtain ⟨G, g1, g2, g3⟩ := row_mem hr4 hlen (fun t ht => by
    obtain ⟨n, rfl⟩ := hleaf t ht
    exact leafA_mem _ _ _ _)
  obtain ⟨va', vk', e1, _, _, hva⟩ := sv_form g1
  obtain rfl : va = va' := (Value.slice.inj e1).1
  have q := list_is (codesA us) (leafA 3 0 ⟨#[91, 93]⟩) va vk w4 (Still w4 (ownL R c fr [])) (fun j hj => hj.1) (by omega) G hva g2 (fun t ht => by
    obtain ⟨n, rfl⟩ := hleaf t ht
    exact ⟨leafA_mem _ _ _ _, leafA_ins _ _ _ _⟩) (leafA_mem _ _ _ _) (leafA_ins _ _ _ _)
  rw [hlen] at q
  refine q.mono ?_
  rintro e w5 ⟨t, rfl, te, tm, ti, b5, x1, x2, x3, tsv⟩
  have hh := heldNew tm ti h4.O_lt
  have hbe := beS (h4.on b5) t 0 hh.mem hh.ins
  have e1 : t.erase = lstT nilT (us.map fun c => intT (c.toNat : Int)) := by rw [te, codesA_erase]; rfl
  rw [e1] at hbe
  unfold AT.val at hbe ⊢
  rw [tsv] at hbe ⊢
  exact ⟨t, x1, x2, x3, rfl, hbe⟩
set_option maxRecDepth 100000 in
set_option maxHeartbeats 3200000 in
theorem codes_at {w0 : Base} {w : World} {R : Nat} {tv : Value} {a : Nat} {σ : Ms} {c : Rc} {fr : List FrA} {so : AT} (h : StX w0 w R tv a σ [] c fr so) (hi : σ.i ≤ 10000) (t : Tok) (hs : t.s.length ≤ 5000) :
    Calls Tryz.prog 143 #[.pointer (some ⟨R, 0, none⟩), t.val] w (POut w0 R tv a (.on ((σ.to (σ.i + 1)).be (lstT nilT (codesT t.s)) 0))) := by
  have hR := h.mem.rd.lt
  obtain ⟨tk, tl, tn, ts, tO, tt⟩ := t
  obtain ⟨S, hS⟩ : ∃ S : ByteArray, (⟨ts.toArray⟩ : ByteArray) = S := ⟨_, rfl⟩
  have hSd : S.data.toList = ts := by rw [← hS]
  simp only [Tok.val, hS]
  simp only at hs
  have b0 := (Below.refl w.heap.size w).alloc (Nat.le_refl _) (.cells #[.int .i64 tk, .int .i64 tl, .int .i64 tn, .string S, .bool tO, .bool tt] 48)
  have PA := Lib.hid (passS (h.on b0) hi)
  have BX := Lib.hid (Box6.mk (k := tk) (n := tl) (m := tn) (s := S) (o := tO) (t := tt) (heap_alloc_new w (.cells #[.int .i64 tk, .int .i64 tl, .int .i64 tn, .string S, .bool tO, .bool tt] 48)))
  have BY := Lib.hid (fun W => bytes_is S W (by rw [Lib.size_eq, hSd]; omega))
  have AT1 := Lib.hid (fun W => atom_is ⟨#[91, 93]⟩ W (by decide))
  obtain ⟨us, hus⟩ : ∃ us, ts.take 2000 = us := ⟨_, rfl⟩
  have hul : us.length ≤ 5000 := by rw [← hus, List.length_take]; omega
  have hct : codesT ts = us.map fun c => intT (c.toNat : Int) := by unfold codesT; rw [hus]
  rw [hct]
  have LS := Lib.hid (fun (w2 w3 : World) va vk (h2 : StX w0 w2 R tv a (σ.to (σ.i + 1)) [] { c with i := c.i + 1 } fr so) (b3 : Below w2.heap.size w2 w3) (hr : w3.ownsRow w2.heap.size 34 4 (.slice va us.length vk) us.length (headCells (codesA us))) w4 (b4 : Below w3.heap.size w3 w4) =>
    codes_ls ((h2.on b3).on b4) us hul va vk w2.heap.size (row_keeps (F := fun _ => False) hr (keeps_below b4) (fun _ _ h => h)))
  rw [hSd] at BY
  unfold BytesPost at BY
  rw [hus] at BY
  clear hus hct hs
  clear h b0 hS hSd
  go_enter Tryz.func143, Tryz.ntmps143
  go_wp2_with fail
  refine PA.out.mono ?_
  rintro e w1 ⟨rfl, k1, h1⟩
  obtain ⟨_, _, _, q3, _, _⟩ := (BX.out.keeps k1 (by omega)).facts
  have H1 := Lib.hid h1
  clear h1 k1 PA BX
  go_wp2_with fail
  refine (BY.out _).mono ?_
  rintro e w2 ⟨v, rfl, ho, b2⟩
  obtain ⟨va, vk, hv⟩ := owns_slice2 ho
  subst hv
  have L2 := Lib.hid (fun w4 b4 => LS.out w1 w2 va vk H1.out b2 ho w4 b4)
  clear b2 ho H1 LS BY q3
  go_wp2_with fail
  refine (AT1.out _).mono ?_
  rintro e w3 ⟨rfl, b3⟩
  have L3 := Lib.hid (L2.out w3 b3)
  unfold AT.val leafA at L3
  simp only [AT.k, AT.n, AT.s, AT.sv] at L3
  unfold AT.val leafA
  simp only [AT.k, AT.n, AT.s, AT.sv]
  clear b3 L2 AT1
  go_wp2_with fail
  refine L3.out.mono ?_
  rintro e w4 ⟨t, x1, x2, x3, rfl, B4⟩
  clear L3
  go_wp2_with fail
  refine B4.out.mono ?_
  rintro e w5 ⟨rfl, _, hs5⟩
  have HS := Lib.hid hs5
  clear hs5 B4
  go_wp2_with fail
  first | go_end0 | refine bodyPost_ret (results_none rfl _ _ _) rfl ?_
  exact ⟨rfl, HS.out⟩
end Go.Proofs.YtkplokfcjjcpcaaGreatDoor
end
section
namespace Go.Proofs.YtkplokfcjjcpcaaGreatDoor
open Go Go.RowKit Go.Maps Trm
attribute [local go_sem ↓] Go.wp_at_zero Go.wp_at_succ
set_option maxRecDepth 100000 in
set_option maxHeartbeats 3200000 in
theorem named_at {w0 : Base} {w : World} {R : Nat} {tv : Value} {a : Nat} {σ : Ms} {c : Rc} {fr : List FrA} {so : AT} (h : StX w0 w R tv a σ [] c fr so) (hi : σ.i ≤ 10000) (t : Tok) (hs : t.s.length ≤ 5000) (h0 : 0 ≤ σ.cnt) (h1 : σ.cnt ≤ 100000) (hv : σ.vs.length ≤ 100000) :
    Calls Tryz.prog 142 #[.pointer (some ⟨R, 0, none⟩), t.val] w (POut w0 R tv a (.on (((σ.to (σ.i + 1)).number t.s).1.be (varT ((σ.to (σ.i + 1)).number t.s).2) 0))) := by
  have hR := h.mem.rd.lt
  obtain ⟨tk, tl, tn, ts, tO, tt⟩ := t
  obtain ⟨S, hS⟩ : ∃ S : ByteArray, bsOf ts = S := ⟨_, rfl⟩
  have hSd : S.data.toList = ts := by rw [← hS]; rfl
  simp only [Tok.val]
  rw [show (⟨ts.toArray⟩ : ByteArray) = S from hS]
  simp only at hs
  have b0 := (Below.refl w.heap.size w).alloc (Nat.le_refl _) (.cells #[.int .i64 tk, .int .i64 tl, .int .i64 tn, .string S, .bool tO, .bool tt] 48)
  have PA := Lib.hid (passS (h.on b0) hi)
  have BX := Lib.hid (Box6.mk (k := tk) (n := tl) (m := tn) (s := S) (o := tO) (t := tt) (heap_alloc_new w (.cells #[.int .i64 tk, .int .i64 tl, .int .i64 tn, .string S, .bool tO, .bool tt] 48)))
  have hO := h.O_lt
  have NM := Lib.hid (fun w1 (hbx : Box6 w1 w.heap.size tk tl tn S tO tt) (h2 : StX w0 w1 R tv a (σ.to (σ.i + 1)) [] { c with i := c.i + 1 } fr so) => by
    have hd := h2.drewN 1
    refine (vnumber_is w0.heap.size (w1.drewN 1) R { c with i := c.i + 1 } fr so (σ.to (σ.i + 1)).vs [] S hd.mem hd.below.size (by rw [Lib.size_eq, hSd]; omega) (by rw [h2.cnt]; exact h0) (by rw [h2.cnt]; show σ.cnt ≤ _; omega) (by show σ.vs.length ≤ _; omega)).mono (R' := fun e w2 => ∃ n, e = .returned (.int .i64 n) ∧ Hid (Box6 w2 w.heap.size tk tl tn S tO tt) ∧ Hid (Calls Tryz.prog 148 #[.pointer (some ⟨R, 0, none⟩), .agg #[.int .i64 1, .int .i64 n, .string ⟨#[]⟩, .slice none 0 0], .int .i64 0] w2 fun e w' => e = .returned (.tuple #[]) ∧ Keeps (fun j => j = R) w2 w' ∧ RSt w0 w' R tv a (((σ.to (σ.i + 1)).number ts).1.be (varT ((σ.to (σ.i + 1)).number ts).2) 0))) ?_
    rintro e w2 ⟨n, nv, cnt, vs', rfl, hm, hb, ⟨hk, hOw⟩, hdj⟩
    have hpS := hd.pS
    have hFn : ∀ j, Still (w1.drewN 1) (ownL R { c with i := c.i + 1 } fr []) j → ¬ (j ∈ ownL R { c with i := c.i + 1 } fr [] ∨ (w1.drewN 1).heap.size ≤ j) := fun j hj h => by
      rcases h with h | h
      · exact hj.2 h
      · have h2 := hj.1
        omega
    have hPn : ¬ (c.P ∈ ownL R { c with i := c.i + 1 } fr [] ∨ (w1.drewN 1).heap.size ≤ c.P) := fun h => by
      rcases h with h | h
      · exact hpS.2 h
      · have h2 : c.P < (w1.drewN 1).heap.size := hpS.1
        omega
    have q := number_st (s := ts) hd hm hb (hd.prims.same (hk.block _ hpS.1 hPn)) ⟨Nat.lt_of_lt_of_le hpS.1 hk.size, fun h => hPn (hOw _ h)⟩ (hd.sf.keeps hk hFn fun j hj => ⟨Nat.lt_of_lt_of_le hj.1 hk.size, fun h => hFn j hj (hOw _ h)⟩) (by rw [hS]; rw [hSd] at hdj; exact hdj)
    have hbe := beS q.2 (leafA 1 n ⟨#[]⟩) 0 (leafA_mem _ _ _ _) (leafA_ins _ _ _ _)
    refine ⟨n, rfl, (Box6.mk (w := w1.drewN 1) hbx.row).keeps hk (fun h => ?_), ?_⟩
    · rcases h with h | h
      · have := hO _ h; omega
      · have h3 := heap_lt hbx.row
        have h4 : (w1.drewN 1).heap.size = w1.heap.size := rfl
        omega
    · rw [q.1]
      exact hbe)
  clear h b0 hS hSd hO
  go_enter Tryz.func142, Tryz.ntmps142
  go_wp2_with fail
  refine PA.out.mono ?_
  rintro e w1 ⟨rfl, k1, h1'⟩
  obtain ⟨_, _, _, q3, _, _⟩ := (BX.out.keeps k1 (by omega)).facts
  have N1 := Lib.hid (show Calls _ _ _ w1.drew _ from NM.out w1 (BX.out.keeps k1 (by omega)) h1')
  clear h1' k1 PA BX NM
  go_wp2_with fail
  go_region_held3 (fun W => W.cell? ⟨w.heap.size, 3, none⟩ = some (.string S)) (first | exact q3 | exact X2.out.facts.2.2.2.1 | exact (X2.out.keeps K3.out (by omega)).facts.2.2.2.1) (first | (go_at_call 179; refine N1.out.mono ?_; rintro _ w2 ⟨n, rfl, X2, B2⟩) | (go_at_call 148; refine B2.out.mono ?_; rintro _ w5 ⟨rfl, kk5, hs5⟩; have K3 := Lib.hid kk5; have HS := Lib.hid hs5))
  all_goals
    go_wp2_with fail
    first | go_end0 | refine bodyPost_ret (results_none rfl _ _ _) rfl ?_
    exact ⟨rfl, HS.out⟩
end Go.Proofs.YtkplokfcjjcpcaaGreatDoor
end
section
namespace Go.Proofs.YtkplokfcjjcpcaaGreatDoor
open Go Go.RowKit Go.Maps Trm
attribute [local go_sem ↓] Go.wp_at_zero Go.wp_at_succ
theorem tlist {s : List UInt8} {S : ByteArray} (h : S.data.toList = s) (c : List UInt8) : (S.toList == c) = (s == c) := by rw [Lib.toList_data, h]
def bracketZ (l : List Tok) (σ : Ms) (s : List UInt8) : Out :=
  if (s == [40]) = true then .on ((σ.to (σ.i + 1)).want 1200 .round)
  else if (s == [91]) = true then closesZ l (σ.to (σ.i + 1)) [93] ⟨#[91, 93]⟩ fun τ => τ.want 999 (.args [] .items)
  else if (s == [123]) = true then closesZ l (σ.to (σ.i + 1)) [125] ⟨#[123, 125]⟩ fun τ => τ.want 1200 .braces
  else .bad σ.i
set_option maxRecDepth 100000 in
set_option maxHeartbeats 3200000 in
theorem bracket_is {w0 : Base} {w : World} {a m : Nat} {L : List Ops.Df} {R : Nat} {tv : Value} {l : List Tok} {σ : Ms} {c : Rc} {fr : List FrA} {so : AT} (h : StX w0 w R tv a σ [] c fr so) (hC : Ctx w0 a m L tv l) (hi : σ.i + 2 ≤ 10000) (hst : σ.stk.length ≤ 90000) (t : Tok) :
    Calls Tryz.prog 144 #[.pointer (some ⟨R, 0, none⟩), t.val] w (POut w0 R tv a (bracketZ l σ t.s)) := by
  have hR := h.mem.rd.lt
  have hmf : ∀ (fn : Fn) (first cap : Array Value) (w : World), (Instr.makeFunc fn first cap).run Tryz.prog w = .ok (.func fn first cap) w := fun _ _ _ _ => rfl
  obtain ⟨tk, tl, tn, ts, tO, tt⟩ := t
  obtain ⟨S, hS⟩ : ∃ S : ByteArray, (⟨ts.toArray⟩ : ByteArray) = S := ⟨_, rfl⟩
  have hSd : S.data.toList = ts := by rw [← hS]
  simp only [Tok.val, hS]
  have b0 := (Below.refl w.heap.size w).alloc (Nat.le_refl _) (.cells #[.int .i64 tk, .int .i64 tl, .int .i64 tn, .string S, .bool tO, .bool tt] 48)
  have H0 := Lib.hid (h.on b0)
  have PA := Lib.hid (passS H0.out (by omega))
  have e40 := tlist hSd [40]
  have e91 := tlist hSd [91]
  have e123 := tlist hSd [123]
  obtain ⟨o, ho⟩ : ∃ o, bracketZ l σ ts = o := ⟨_, rfl⟩
  rw [ho]
  unfold bracketZ at ho
  rw [← e40, ← e91, ← e123] at ho
  clear h b0 hS hSd e40 e91 e123
  cases q1 : (S.toList == [40])
  · rw [q1, if_neg (by simp)] at ho
    cases q2 : (S.toList == [91])
    · rw [q2, if_neg (by simp)] at ho
      cases q3 : (S.toList == [123])
      · rw [q3, if_neg (by simp)] at ho
        subst ho
        clear PA
        go_enter Tryz.func144, Tryz.ntmps144
        go_wp2_with fail
        refine (giveUp_is _ _).mono ?_
        rintro e w2 ⟨rfl, hw⟩
        obtain rfl := hw.symm
        unfold stuckE
        go_wp2_with fail
        exact ⟨rfl, rfl, H0.out.bad⟩
      · rw [q3, if_pos rfl] at ho
        unfold closesZ at ho
        clear H0
        cases hb : isP l (σ.i + 1) [125]
        · rw [show isP l (σ.to (σ.i + 1)).i [125] = false from hb, if_neg (by simp)] at ho
          subst ho
          go_enter Tryz.func144, Tryz.ntmps144
          go_wp2_with fail
          refine PA.out.mono ?_
          rintro e w1 ⟨rfl, _, h1⟩
          have C1 := Lib.hid (closes_no h1 hC (show σ.i + 1 ≤ 10000 by omega) ⟨#[125]⟩ ⟨#[123, 125]⟩ hb)
          clear h1 PA
          go_wp2_with fail
          refine C1.out.mono ?_
          rintro e w2 ⟨rfl, h2⟩
          have W2 := Lib.hid (wantS (k := .braces) h2 trivial 1200 (show σ.stk.length ≤ 100000 by omega))
          unfold KtA.val pt at W2
          clear h2 C1
          go_wp2_with fail
          refine W2.out.mono ?_
          rintro e w3 ⟨rfl, hs⟩
          have HS := Lib.hid hs
          clear hs W2
          go_wp2_with fail
          first | go_end0 | refine bodyPost_ret (results_none rfl _ _ _) rfl ?_
          exact ⟨rfl, HS.out⟩
        · rw [show isP l (σ.to (σ.i + 1)).i [125] = true from hb, if_pos rfl] at ho
          cases o
          · go_enter Tryz.func144, Tryz.ntmps144
            go_wp2_with fail
            refine PA.out.mono ?_
            rintro e w1 ⟨rfl, _, h1⟩
            have C1 := Lib.hid (closes_yes h1 hC (show σ.i + 1 + 1 ≤ 10000 by omega) (show σ.stk.length ≤ 100000 by omega) ⟨#[125]⟩ ⟨#[123, 125]⟩ (by decide) hb _ ho)
            clear h1 PA
            go_wp2_with fail
            refine C1.out.mono ?_
            rintro e w3 ⟨rfl, hs⟩
            have HS := Lib.hid hs
            clear hs C1
            go_wp2_with fail
            first | go_end0 | refine bodyPost_ret (results_none rfl _ _ _) rfl ?_
            exact ⟨rfl, HS.out⟩
          · go_enter Tryz.func144, Tryz.ntmps144
            go_wp2_with fail
            refine PA.out.mono ?_
            rintro e w1 ⟨rfl, _, h1⟩
            have C1 := Lib.hid (closes_yes h1 hC (show σ.i + 1 + 1 ≤ 10000 by omega) (show σ.stk.length ≤ 100000 by omega) ⟨#[125]⟩ ⟨#[123, 125]⟩ (by decide) hb _ ho)
            clear h1 PA
            go_wp2_with fail
            refine C1.out.mono ?_
            rintro e w3 ⟨rfl, hs⟩
            have HS := Lib.hid hs
            clear hs C1
            unfold stuckE
            go_wp2_with fail
            exact ⟨rfl, rfl, HS.out⟩
    · rw [q2, if_pos rfl] at ho
      unfold closesZ at ho
      clear H0
      cases hb : isP l (σ.i + 1) [93]
      · rw [show isP l (σ.to (σ.i + 1)).i [93] = false from hb, if_neg (by simp)] at ho
        subst ho
        go_enter Tryz.func144, Tryz.ntmps144
        go_wp2_with fail
        refine PA.out.mono ?_
        rintro e w1 ⟨rfl, _, h1⟩
        have C1 := Lib.hid (closes_no h1 hC (show σ.i + 1 ≤ 10000 by omega) ⟨#[93]⟩ ⟨#[91, 93]⟩ hb)
        clear h1 PA
        go_wp2_with fail
        refine C1.out.mono ?_
        rintro e w2 ⟨rfl, h2⟩
        have W2 := Lib.hid (arguments_is (.slice none 0 0) h2 (show σ.stk.length ≤ 100000 by omega) [] (World.ownsRow_nil _ _ _ _) (fun t ht => by cases ht) .items trivial)
        unfold AlA.val pt at W2
        clear h2 C1
        go_wp2_with fail
        refine W2.out.mono ?_
        rintro e w3 ⟨rfl, hs⟩
        have HS := Lib.hid hs
        clear hs W2
        go_wp2_with fail
        first | go_end0 | refine bodyPost_ret (results_none rfl _ _ _) rfl ?_
        exact ⟨rfl, HS.out⟩
      · rw [show isP l (σ.to (σ.i + 1)).i [93] = true from hb, if_pos rfl] at ho
        cases o
        · go_enter Tryz.func144, Tryz.ntmps144
          go_wp2_with fail
          refine PA.out.mono ?_
          rintro e w1 ⟨rfl, _, h1⟩
          have C1 := Lib.hid (closes_yes h1 hC (show σ.i + 1 + 1 ≤ 10000 by omega) (show σ.stk.length ≤ 100000 by omega) ⟨#[93]⟩ ⟨#[91, 93]⟩ (by decide) hb _ ho)
          clear h1 PA
          go_wp2_with fail
          refine C1.out.mono ?_
          rintro e w3 ⟨rfl, hs⟩
          have HS := Lib.hid hs
          clear hs C1
          go_wp2_with fail
          first | go_end0 | refine bodyPost_ret (results_none rfl _ _ _) rfl ?_
          exact ⟨rfl, HS.out⟩
        · go_enter Tryz.func144, Tryz.ntmps144
          go_wp2_with fail
          refine PA.out.mono ?_
          rintro e w1 ⟨rfl, _, h1⟩
          have C1 := Lib.hid (closes_yes h1 hC (show σ.i + 1 + 1 ≤ 10000 by omega) (show σ.stk.length ≤ 100000 by omega) ⟨#[93]⟩ ⟨#[91, 93]⟩ (by decide) hb _ ho)
          clear h1 PA
          go_wp2_with fail
          refine C1.out.mono ?_
          rintro e w3 ⟨rfl, hs⟩
          have HS := Lib.hid hs
          clear hs C1
          unfold stuckE
          go_wp2_with fail
          exact ⟨rfl, rfl, HS.out⟩
  · rw [q1, if_pos rfl] at ho
    subst ho
    clear H0
    go_enter Tryz.func144, Tryz.ntmps144
    go_wp2_with fail
    refine PA.out.mono ?_
    rintro e w1 ⟨rfl, _, h1⟩
    have W2 := Lib.hid (wantS (k := .round) h1 trivial 1200 (show σ.stk.length ≤ 100000 by omega))
    unfold KtA.val pt at W2
    clear h1 PA
    go_wp2_with fail
    refine W2.out.mono ?_
    rintro e w3 ⟨rfl, hs⟩
    have HS := Lib.hid hs
    clear hs W2
    go_wp2_with fail
    first | go_end0 | refine bodyPost_ret (results_none rfl _ _ _) rfl ?_
    exact ⟨rfl, HS.out⟩
end Go.Proofs.YtkplokfcjjcpcaaGreatDoor
end
section
namespace Go.Proofs.YtkplokfcjjcpcaaGreatDoor
open Go Go.RowKit Go.Maps Trm
attribute [local go_sem ↓] Go.wp_at_zero Go.wp_at_succ
structure PreSt (w0 : Base) (wi wc : World) (R : Nat) (tv : Value) (a : Nat) (σ : Ms) (c : Rc) (fr : List FrA) (so : AT) (rb nb pb : Nat) (s : ByteArray) (p : Int) : Prop where
  st : StX w0 wc R tv a σ [] c fr so
  orb : One wc rb 102 (pt R)
  onb : One wc nb 9 (.string s)
  opb : One wc pb 3 (.int .i64 p)
  srb : Still wc (ownL R c fr []) rb
  snb : Still wc (ownL R c fr []) nb
  spb : Still wc (ownL R c fr []) pb
  bl : Below wi.heap.size wi wc
theorem PreSt.on {w0 : Base} {wi wc w' : World} {R : Nat} {tv : Value} {a : Nat} {σ : Ms} {c : Rc} {fr : List FrA} {so : AT} {rb nb pb : Nat} {s : ByteArray} {p : Int} (h : PreSt w0 wi wc R tv a σ c fr so rb nb pb s p) (b : Below wc.heap.size wc w') : PreSt w0 wi w' R tv a σ c fr so rb nb pb s p := by
  have k := keeps_below (F := fun _ => False) b
  exact ⟨h.st.on b, h.orb.keeps k (fun h => h), h.onb.keeps k (fun h => h), h.opb.keeps k (fun h => h), h.srb.keeps b.size, h.snb.keeps b.size, h.spb.keeps b.size, h.bl.trans (b.mono h.bl.size)⟩
theorem StX.last {w0 : Base} {w : World} {R : Nat} {tv : Value} {a : Nat} {σ : Ms} {E : List Nat} {c : Rc} {fr : List FrA} {so : AT} (h : StX w0 w R tv a σ E c fr so) (hs : σ.stk ≠ []) (hn : σ.stk.length ≤ 100000) : Last w c σ.most := by
  cases fr with
  | nil => exact absurd h.stk.symm (by simpa using hs)
  | cons f r =>
    obtain ⟨h0, ⟨h1, h2⟩ | ⟨g, cap, cur, hv, h2, h3, h4, h5, h6, h7⟩⟩ := h.mem.wait
    · simp at h2
    · have hlen := frCells_len R r
      have hm : σ.most = f.most := by
        unfold Ms.most
        rw [← h.stk]
        rfl
      have hl : r.length + 1 = σ.stk.length := by rw [← h.stk]; simp
      refine ⟨g, r.length, cap, hv, by simpa using h4, by unfold maxLen at h5; omega, cell_of_heap h3 ?_, heap_lt h3, by omega⟩
      have h8 := congrArg (fun l => l[r.length * 2]?) h7
      simp only [List.getElem?_take] at h8
      rw [if_pos (by simp), frCells, List.getElem?_append_right (by omega), hlen] at h8
      rw [hm]
      simpa using h8
set_option maxRecDepth 100000 in
set_option maxHeartbeats 6400000 in
theorem prefix_st {w0 : Base} {w : World} {a m : Nat} {L : List Ops.Df} {R : Nat} {tv : Value} {l : List Tok} {σ : Ms} {c : Rc} {fr : List FrA} {so : AT} (h : StX w0 w R tv a σ [] c fr so) (hC : Ctx w0 a m L tv l) (hi : σ.i ≤ 10000) (hst : σ.stk.length ≤ 90000) (hne : σ.stk ≠ []) (s : ByteArray) (hs : s.size ≤ 5000) (b : Bool) (hb : (decide (0 < (preP L s).1) && decide ((preP L s).1 ≤ σ.most) && beginsZ L (tokAt l σ.i)) = b) :
    Calls Tryz.prog 190 #[.pointer (some ⟨R, 0, none⟩), .string s] w fun e w' => e = .returned (.bool b) ∧ (b = true → RSt w0 w' R tv a (σ.want (preP L s).2 (.pre s (preP L s).1))) ∧ (b = false → Below w.heap.size w w') := by
  have hR := h.mem.rd.lt
  have hO := h.O_lt
  have hmf : ∀ (fn : Fn) (first cap : Array Value) (w : World), (Instr.makeFunc fn first cap).run Tryz.prog w = .ok (.func fn first cap) w := fun _ _ _ _ => rfl
  obtain ⟨W0, hW0⟩ : ∃ W0, (w.alloc (.cells #[.pointer (some ⟨R, 0, none⟩)] 102)).alloc (.cells #[.string s] 9) = W0 := ⟨_, rfl⟩
  have bW : Below w.heap.size w W0 := by
    rw [← hW0]
    exact ((Below.refl w.heap.size w).alloc (Nat.le_refl _) _).alloc (by simp) _
  have hzW : W0.heap.size = w.heap.size + 2 := by rw [← hW0]; simp
  have o1 : One W0 w.heap.size 102 (pt R) := by
    unfold One
    rw [← hW0, Below.heap_alloc _ _ _ (by simp)]
    exact new_at _ _ rfl
  have o2 : One W0 (w.heap.size + 1) 9 (.string s) := by
    unfold One
    rw [← hW0]
    exact new_at _ _ (by simp)
  have PRE := Lib.hid (fun W pb (b : Below W0.heap.size W0 W) (o3 : One W pb 3 (.int .i64 (preP L s).1)) (hp : W0.heap.size ≤ pb) => show PreSt w0 w W R tv a σ c fr so w.heap.size (w.heap.size + 1) pb s (preP L s).1 from by
    have k := keeps_below (F := fun _ => False) b
    have := b.size
    have := o3.lt
    exact ⟨(h.on bW).on b, o1.keeps k (fun h => h), o2.keeps k (fun h => h), o3, ⟨by omega, fun hm => by have := hO _ hm; omega⟩, ⟨by omega, fun hm => by have := hO _ hm; omega⟩, ⟨by omega, fun hm => by have := hO _ hm; omega⟩, bW.trans (b.mono bW.size)⟩)
  have KP := Lib.hid (fun W (b : Below W0.heap.size W0 W) => show W.cell? ⟨w.heap.size, 0, none⟩ = some (.pointer (some ⟨R, 0, none⟩)) ∧ W.cell? ⟨w.heap.size + 1, 0, none⟩ = some (.string s) ∧ W.cell? ⟨R, 2, none⟩ = some (.pointer (some ⟨a, 0, none⟩)) from by
    have k := keeps_below (F := fun _ => False) b
    have hc := ((h.on bW).on b).mem.rd.c_a
    rw [h.a] at hc
    exact ⟨(o1.keeps k (fun h => h)).cell, (o2.keeps k (fun h => h)).cell, hc⟩)
  have PF := Lib.hid (fun W (b : Below W0.heap.size W0 W) => by
    have ht := ((h.on bW).on b).tabW hC
    rw [h.a] at ht
    exact Ops.prefix_is a m L s W ht.lay ht.tb (by unfold maxLen; omega))
  have HP0 : Hid (0 ≤ (Ops.sidesZ L s 1).1) := by
    have hw := (h.tabW hC).tb.wf
    show 0 ≤ (Ops.sidesZ L s 1).1
    unfold Ops.sidesZ
    split
    · exact Int.le_refl _
    · rename_i d hd
      have := hw.fit d (Ops.fnd_mem hd).1
      simp only
      omega
  have MB := Lib.hid (fun wc (hc : StX w0 wc R tv a σ [] c fr so) => mayBegin_is wc R c m L (tokAt l σ.i) hc.mem.rd (hc.tabW hC))
  have MO := Lib.hid (fun wc (hc : StX w0 wc R tv a σ [] c fr so) => most_is wc R c σ.most hc.mem.rd (hc.last hne (by omega)))
  have NX := Lib.hid (fun wc (hc : StX w0 wc R tv a σ [] c fr so) => nextS hc hC hi)
  unfold preP at *
  obtain ⟨p, hp⟩ : ∃ p, (Ops.sidesZ L s 1).1 = p := ⟨_, rfl⟩
  obtain ⟨r, hr⟩ : ∃ r, (Ops.sidesZ L s 1).2.2 = r := ⟨_, rfl⟩
  simp only [hp, hr] at PRE PF HP0 hb ⊢
  have q := KP.out W0 (Below.refl _ _)
  have HZ := Lib.hid hzW
  clear h o1 o2 bW hO hzW hp hr
  go_enter Tryz.func190, Tryz.ntmps190
  go_wp2_with fail
  obtain ⟨q1, q2, q3⟩ := q
  go_cut [5, 6] from 7 (fun s5 s6 wc => ∃ pb, s5 = .pointer (some ⟨pb, 0, none⟩) ∧ s6 = .int .i64 r ∧ Hid (PreSt w0 w wc R tv a σ c fr so w.heap.size (w.heap.size + 1) pb s p))
  case first =>
    have BD := Lib.hid (show Below W0.heap.size W0 W0.drew from (Below.refl _ _).drew)
    have BA := Lib.hid (show Below W0.heap.size W0 (W0.alloc (.cells #[.int .i64 0] 3)).drew from ((Below.refl _ _).alloc (Nat.le_refl _) _).drew)
    have PBX := Lib.hid (fun w2 (b2 : Below (W0.alloc (.cells #[.int .i64 0] 3)).drew.heap.size (W0.alloc (.cells #[.int .i64 0] 3)).drew w2) => show w2.cell? ⟨W0.heap.size, 0, none⟩ = some (.int .i64 0) ∧ w2.frozen? ⟨W0.heap.size, 0, none⟩ = false ∧ Hid (w2.heap[W0.heap.size]? = some (.cells #[.int .i64 0] 3 (0, 0))) from by
      have e := (b2.block W0.heap.size (by show W0.heap.size < (W0.alloc _).heap.size; simp)).trans (heap_alloc_new W0 _)
      exact ⟨cell_of_heap e rfl, free_of_heap e, e⟩)
    go_region_held3 (fun W => W.cell? ⟨w.heap.size, 0, none⟩ = some (.pointer (some ⟨R, 0, none⟩)) ∧ W.cell? ⟨w.heap.size + 1, 0, none⟩ = some (.string s) ∧ W.cell? ⟨R, 2, none⟩ = some (.pointer (some ⟨a, 0, none⟩))) (first | exact KP.out _ BD.out | exact KP.out _ BA.out | exact KP.out _ B2.out | exact KP.out _ (B2.out.alloc B2.out.size _) | exact KP.out _ (B2.out.setCell (by simp) _)) (first | (go_at_call 207; refine (PF.out _ BA.out).mono ?_; rintro _ w2 ⟨rfl, b2⟩; have B2 := Lib.hid (show Below W0.heap.size W0 w2 from BA.out.trans (b2.mono BA.out.size)); obtain ⟨pc, pz, E2⟩ := PBX.out w2 b2) | (go_at_call 207; refine (PF.out _ BD.out).mono ?_; rintro _ w2 ⟨rfl, b2⟩; have B2 := Lib.hid (show Below W0.heap.size W0 w2 from BD.out.trans (b2.mono BD.out.size))))
    · go_wp2_with fail
      go_meet
      case rel => exact ⟨_, rfl, rfl, PRE.out _ _ (B2.out.alloc B2.out.size _) (new_at _ _ rfl) B2.out.size⟩
    · go_wp2_with fail
      go_meet
      case rel => exact ⟨_, rfl, rfl, PRE.out _ _ (B2.out.setCell (p := ⟨W0.heap.size, 0, none⟩) (Nat.le_refl _) _) (heap_set E2.out _) (Nat.le_refl _)⟩
  case rest =>
    obtain ⟨pb, rfl, rfl, PS⟩ := hcut
    have q4 := PS.out.opb.cell
    have q5 := PS.out.orb.cell
    unfold pt at q5
    clear q1 q2 q3 PRE KP PF
    go_upto_region 2 with fail
    go_cut [30] from 31 (fun s30 wd => s30 = .bool (!b) ∧ Hid (PreSt w0 w wd R tv a σ c fr so w.heap.size (w.heap.size + 1) pb s p))
    case first =>
      cases h1 : decide (0 < p)
      · rw [h1] at hb
        obtain rfl : false = b := by simpa using hb
        have d0 : p = 0 := by have := HP0.out; simp at h1; omega
        subst d0
        clear MB MO NX
        go_quiet (fail)
        go_wp2_with fail
        go_meet
        case rel => exact ⟨rfl, PS.out.on ⟨rfl, rfl, rfl, Nat.le_refl _, fun _ _ => rfl⟩⟩
      · rw [h1] at hb
        have d0 : (p == 0) = false := by simp at h1; simp; omega
        cases h2 : decide (p ≤ σ.most)
        · rw [h2] at hb
          obtain rfl : false = b := by simpa using hb
          have d1 : ¬ p ≤ σ.most := by simpa using h2
          have MQ := Lib.hid (fun n => (MO.out (wc.drewN n) (PS.out.st.drewN n)).mono (R' := fun e w'' => e = .returned (.int .i64 σ.most) ∧ ∃ m, w'' = wc.drewN m) (by
            rintro e w' ⟨rfl, q, rfl⟩
            exact ⟨rfl, n + q, by simp [World.drewN, Nat.add_assoc]⟩))
          clear MB NX MO h1 h2
          go_quiet ((go_at_call 227; exact MQ.out _))
          go_wp2_with fail
          go_meet
          case rel => exact ⟨rfl, PS.out.on ⟨rfl, rfl, rfl, Nat.le_refl _, fun _ _ => rfl⟩⟩
        · rw [h2] at hb
          simp only [Bool.true_and] at hb
          have d1 : p ≤ σ.most := by simpa using h2
          have d2 : decide (p > σ.most) = false := decide_eq_false (by omega)
          have d3 : decide (σ.most < p) = false := decide_eq_false (by omega)
          have HTL : Hid ((tokAt l σ.i).s.length ≤ 1000000) := by
            show (tokAt l σ.i).s.length ≤ 1000000
            unfold tokAt
            cases hq : l[σ.i]? with
            | none => simp [tok0]
            | some t =>
              have := (hC.toks t (List.mem_of_getElem? hq)).2
              simp only [Option.getD_some]
              omega
          have KD := Lib.hid (fun W (b : Below wc.heap.size wc W) => show W.cell? ⟨pb, 0, none⟩ = some (.int .i64 p) ∧ W.cell? ⟨w.heap.size, 0, none⟩ = some (.pointer (some ⟨R, 0, none⟩)) from ⟨(PS.out.on b).opb.cell, (PS.out.on b).orb.cell⟩)
          have MO2 := Lib.hid (fun W (b : Below wc.heap.size wc W) => (MO.out W (PS.out.st.on b)).mono (R' := fun e w' => e = .returned (.int .i64 σ.most) ∧ Hid (Below wc.heap.size wc w')) (by
            rintro e w' ⟨rfl, q, rfl⟩
            exact ⟨rfl, drewn_below b q⟩))
          have NX2 := Lib.hid (fun W (b : Below wc.heap.size wc W) => (NX.out W (PS.out.st.on b)).mono (R' := fun e w' => e = .returned (tokAt l σ.i).val ∧ Hid (Below wc.heap.size wc w')) (by
            rintro e w' ⟨rfl, b2⟩
            exact ⟨rfl, b.trans (b2.mono b.size)⟩))
          have MB2 := Lib.hid (fun W (b' : Below wc.heap.size wc W) => (MB.out W (PS.out.st.on b') HTL.out).mono (R' := fun e w' => e = .returned (.bool b) ∧ Hid (Below wc.heap.size wc w')) (by
            rintro e w' ⟨rfl, b2⟩
            exact ⟨by rw [hb], b'.trans (b2.mono b'.size)⟩))
          have BD := Lib.hid (show Below wc.heap.size wc wc.drew from (Below.refl _ _).drew)
          clear MB NX MO h1 h2 HTL
          go_region_law (first | (go_simp; go_at_call 227; refine (MO2.out _ BD.out).mono ?_; rintro _ w2 ⟨rfl, B2⟩; obtain ⟨u1, u2⟩ := KD.out _ B2.out) | (go_simp; go_at_call 51; refine (NX2.out _ B2.out).mono ?_; rintro _ w3 ⟨rfl, B3⟩; obtain ⟨u3, u4⟩ := KD.out _ B3.out) | (go_simp; go_at_call 228; refine (MB2.out _ B3.out).mono ?_; rintro _ w4 ⟨rfl, B4⟩; obtain ⟨u5, u6⟩ := KD.out _ B4.out))
          all_goals
            go_wp2_with fail
            go_meet
            case rel => exact ⟨rfl, PS.out.on B4.out⟩
    case rest =>
      obtain ⟨rfl, PD⟩ := hcut
      clear PS MB MO NX
      cases b
      · go_wp2_with fail
        go_ret
        exact ⟨rfl, PD.out.bl⟩
      · have q6 := PD.out.orb.cell
        have W2 := Lib.hid (wantS (k := .pre w.heap.size (w.heap.size + 1) pb s p) PD.out.st ⟨PD.out.srb, PD.out.snb, PD.out.spb, PD.out.orb, PD.out.onb, PD.out.opb⟩ r (by omega))
        unfold KtA.val pt at W2
        unfold pt at q6
        clear q4 q5
        go_wp2_with fail
        refine W2.out.mono ?_
        rintro e w3 ⟨rfl, hs⟩
        have HS := Lib.hid hs
        clear hs W2
        go_wp2_with fail
        go_ret
        exact ⟨rfl, HS.out⟩
end Go.Proofs.YtkplokfcjjcpcaaGreatDoor
end
section
namespace Go.Proofs.YtkplokfcjjcpcaaGreatDoor
open Go Go.RowKit Go.Maps Trm
attribute [local go_sem ↓] Go.wp_at_zero Go.wp_at_succ
theorem five (x y z t b : Bool) (h : (x && y && z && t) = b) : (x = false ∧ (!x) = true ∧ b = false) ∨ (x = true ∧ (!x) = false ∧ y = false ∧ b = false) ∨ (x = true ∧ (!x) = false ∧ y = true ∧ z = false ∧ (!z) = true ∧ b = false) ∨ (x = true ∧ (!x) = false ∧ y = true ∧ z = true ∧ (!z) = false ∧ t = false ∧ b = false) ∨ (x = true ∧ (!x) = false ∧ y = true ∧ z = true ∧ (!z) = false ∧ t = true ∧ b = true) := by
  subst h
  cases x <;> cases y <;> cases z <;> cases t <;> simp
set_option maxRecDepth 100000 in
set_option maxHeartbeats 3200000 in
theorem negative_is {w0 : Base} {w : World} {a m : Nat} {L : List Ops.Df} {R : Nat} {tv : Value} {l : List Tok} {σ : Ms} {c : Rc} {fr : List FrA} {so : AT} (h : StX w0 w R tv a σ [] c fr so) (hC : Ctx w0 a m L tv l) (hi : σ.i + 1 ≤ 10000) (t : Tok) (b : Bool) (hb : (t.k == 1 && t.s == [45] && (tokAt l σ.i).k == 3 && (tokAt l σ.i).tight) = b) :
    Calls Tryz.prog 188 #[.pointer (some ⟨R, 0, none⟩), t.val] w fun e w' => e = .returned (.bool b) ∧ (b = true → RSt w0 w' R tv a ((σ.to (σ.i + 1)).be (intT (wrap64 (-(tokAt l σ.i).n))) 0)) ∧ (b = false → Below w.heap.size w w') := by
  have hR := h.mem.rd.lt
  obtain ⟨tk, tl, tn, ts, tO, tt⟩ := t
  obtain ⟨S, hS⟩ : ∃ S : ByteArray, (⟨ts.toArray⟩ : ByteArray) = S := ⟨_, rfl⟩
  have hSd : S.data.toList = ts := by rw [← hS]
  have e45 := tlist hSd [45]
  simp only [Tok.val, hS]
  simp only at hb
  rw [← e45] at hb
  have b0 := (Below.refl w.heap.size w).alloc (Nat.le_refl _) (.cells #[.int .i64 tk, .int .i64 tl, .int .i64 tn, .string S, .bool tO, .bool tt] 48)
  have NX := Lib.hid (nextS (h.on b0) hC (show σ.i ≤ 10000 by omega))
  obtain ⟨u, hu⟩ : ∃ u, tokAt l σ.i = u := ⟨_, rfl⟩
  rw [hu] at NX hb ⊢
  obtain ⟨uk, ul, un, us, uO, ut⟩ := u
  obtain ⟨U, hU⟩ : ∃ U : ByteArray, (⟨us.toArray⟩ : ByteArray) = U := ⟨_, rfl⟩
  simp only [Tok.val, hU] at NX
  simp only at hb
  have BT := Lib.hid (fun (w1 : World) (b1 : Below (w.alloc (.cells #[.int .i64 tk, .int .i64 tl, .int .i64 tn, .string S, .bool tO, .bool tt] 48)).heap.size (w.alloc (.cells #[.int .i64 tk, .int .i64 tl, .int .i64 tn, .string S, .bool tO, .bool tt] 48)) w1) =>
    (Box6.mk (k := tk) (n := tl) (m := tn) (s := S) (o := tO) (t := tt) (heap_alloc_new w (.cells #[.int .i64 tk, .int .i64 tl, .int .i64 tn, .string S, .bool tO, .bool tt] 48))).keeps (F := fun _ => False) (keeps_below (b1.alloc b1.size (.cells #[.int .i64 uk, .int .i64 ul, .int .i64 un, .string U, .bool uO, .bool ut] 48))) (fun h => h))
  have BU := Lib.hid (fun (w1 : World) => Box6.mk (k := uk) (n := ul) (m := un) (s := U) (o := uO) (t := ut) (heap_alloc_new w1 (.cells #[.int .i64 uk, .int .i64 ul, .int .i64 un, .string U, .bool uO, .bool ut] 48)))
  have SZ := Lib.hid (fun (w1 : World) (b1 : Below (w.alloc (.cells #[.int .i64 tk, .int .i64 tl, .int .i64 tn, .string S, .bool tO, .bool tt] 48)).heap.size (w.alloc (.cells #[.int .i64 tk, .int .i64 tl, .int .i64 tn, .string S, .bool tO, .bool tt] 48)) w1) => show R < w1.heap.size from by
    have := b1.size
    simp at this
    omega)
  have PA := Lib.hid (fun (w1 : World) (b1 : Below (w.alloc (.cells #[.int .i64 tk, .int .i64 tl, .int .i64 tn, .string S, .bool tO, .bool tt] 48)).heap.size (w.alloc (.cells #[.int .i64 tk, .int .i64 tl, .int .i64 tn, .string S, .bool tO, .bool tt] 48)) w1) =>
    passS ((h.on b0).on (b1.alloc b1.size (.cells #[.int .i64 uk, .int .i64 ul, .int .i64 un, .string U, .bool uO, .bool ut] 48))) (show σ.i ≤ 10000 by omega))
  have BB := Lib.hid (fun (w1 : World) (b1 : Below (w.alloc (.cells #[.int .i64 tk, .int .i64 tl, .int .i64 tn, .string S, .bool tO, .bool tt] 48)).heap.size (w.alloc (.cells #[.int .i64 tk, .int .i64 tl, .int .i64 tn, .string S, .bool tO, .bool tt] 48)) w1) =>
    show Below w.heap.size w (w1.alloc (.cells #[.int .i64 uk, .int .i64 ul, .int .i64 un, .string U, .bool uO, .bool ut] 48)) from
    (b0.trans (b1.mono b0.size)).alloc (Nat.le_trans b0.size b1.size) _)
  have WH := Lib.hid (fun W => whole_is (wrap64 (-un)) W)
  have BE := Lib.hid (fun w2 w3 (h2 : StX w0 w2 R tv a (σ.to (σ.i + 1)) [] { c with i := c.i + 1 } fr so) (b3 : Below w2.heap.size w2 w3) => beS (h2.on b3) (leafA 2 (wrap64 (-un)) ⟨#[]⟩) 0 (leafA_mem _ _ _ _) (leafA_ins _ _ _ _))
  have H5 := five _ _ _ _ _ hb
  clear h b0 hS hSd hU hu hb e45
  rcases H5 with ⟨g1, g2, rfl⟩ | ⟨g1, g2, g3, rfl⟩ | ⟨g1, g2, g3, g4, g5, rfl⟩ | ⟨g1, g2, g3, g4, g5, rfl, rfl⟩ | ⟨g1, g2, g3, g4, g5, rfl, rfl⟩
  · have g2' : (tk != 1) = true := g2
    clear PA WH BE SZ
    go_enter Tryz.func188, Tryz.ntmps188
    go_wp2_with fail
    refine NX.out.mono ?_
    rintro e w1 ⟨rfl, b1⟩
    obtain ⟨p0, _, _, p3, _, _⟩ := (BT.out w1 b1).facts
    obtain ⟨r0, _, r2, _, _, r5⟩ := (BU.out w1).facts
    have B1 := Lib.hid (BB.out w1 b1)
    clear b1 NX BT BU BB
    go_wp2_with fail
    go_ret
    exact ⟨rfl, fun h => (by cases h), fun _ => B1.out⟩
  · have g2' : (tk != 1) = false := g2
    clear PA WH BE SZ
    go_enter Tryz.func188, Tryz.ntmps188
    go_wp2_with fail
    refine NX.out.mono ?_
    rintro e w1 ⟨rfl, b1⟩
    obtain ⟨p0, _, _, p3, _, _⟩ := (BT.out w1 b1).facts
    obtain ⟨r0, _, r2, _, _, r5⟩ := (BU.out w1).facts
    have B1 := Lib.hid (BB.out w1 b1)
    clear b1 NX BT BU BB
    go_wp2_with fail
    go_ret
    exact ⟨rfl, fun h => (by cases h), fun _ => B1.out⟩
  · have g2' : (tk != 1) = false := g2
    have g5' : (uk != 3) = true := g5
    clear PA WH BE SZ
    go_enter Tryz.func188, Tryz.ntmps188
    go_wp2_with fail
    refine NX.out.mono ?_
    rintro e w1 ⟨rfl, b1⟩
    obtain ⟨p0, _, _, p3, _, _⟩ := (BT.out w1 b1).facts
    obtain ⟨r0, _, r2, _, _, r5⟩ := (BU.out w1).facts
    have B1 := Lib.hid (BB.out w1 b1)
    clear b1 NX BT BU BB
    go_wp2_with fail
    go_ret
    exact ⟨rfl, fun h => (by cases h), fun _ => B1.out⟩
  · have g2' : (tk != 1) = false := g2
    have g5' : (uk != 3) = false := g5
    clear PA WH BE SZ
    go_enter Tryz.func188, Tryz.ntmps188
    go_wp2_with fail
    refine NX.out.mono ?_
    rintro e w1 ⟨rfl, b1⟩
    obtain ⟨p0, _, _, p3, _, _⟩ := (BT.out w1 b1).facts
    obtain ⟨r0, _, r2, _, _, r5⟩ := (BU.out w1).facts
    have B1 := Lib.hid (BB.out w1 b1)
    clear b1 NX BT BU BB
    go_wp2_with fail
    go_ret
    exact ⟨rfl, fun h => (by cases h), fun _ => B1.out⟩
  · have g2' : (tk != 1) = false := g2
    have g5' : (uk != 3) = false := g5
    go_enter Tryz.func188, Tryz.ntmps188
    go_wp2_with fail
    refine NX.out.mono ?_
    rintro e w1 ⟨rfl, b1⟩
    obtain ⟨p0, _, _, p3, _, _⟩ := (BT.out w1 b1).facts
    obtain ⟨r0, _, r2, _, _, r5⟩ := (BU.out w1).facts
    have hs1 := SZ.out w1 b1
    have P1 := Lib.hid (PA.out w1 b1)
    have B5 := Lib.hid (BU.out w1)
    clear b1 NX PA BT BU SZ BB
    go_wp2_with fail
    refine P1.out.mono ?_
    rintro e w2 ⟨rfl, k2, h2⟩
    have r2' := (B5.out.keeps k2 (by omega)).facts.2.2.1
    have H2 := Lib.hid h2
    clear h2 k2 P1 B5 p0 p3 r0 r2 r5
    go_wp2_with fail
    refine (WH.out _).mono ?_
    rintro e w3 ⟨rfl, b3⟩
    have B3 := Lib.hid (BE.out w2 w3 H2.out b3)
    clear b3 H2 WH BE r2'
    go_wp2_with fail
    refine B3.out.mono ?_
    rintro e w4 ⟨rfl, _, hs4⟩
    have HS := Lib.hid hs4
    clear hs4 B3
    go_wp2_with fail
    go_ret
    exact ⟨rfl, fun _ => HS.out, fun h => (by cases h)⟩
end Go.Proofs.YtkplokfcjjcpcaaGreatDoor
end
