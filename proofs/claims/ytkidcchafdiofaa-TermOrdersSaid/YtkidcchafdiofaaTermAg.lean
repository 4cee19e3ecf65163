/- The document's Check: a contract; the program's Check, Size and Deep in the document's words. Conditions: memory holds the term; it has at most 800000 parts. -/
import Derived.Test.YtkidcchafdiofaaTermAf
namespace Go.Proofs.Ytkidcchafdiofaa
open Go Go.RowKit

def mxD : List Nd → Nat
  | [] => 0
  | x :: r => max x.d (mxD r)
theorem mxD_app (l m : List Nd) : mxD (l ++ m) = max (mxD l) (mxD m) := by
  induction l with
  | nil => simp [mxD]
  | cons x r ih => rw [List.cons_append, mxD, mxD, ih]; omega
theorem fold_mx (L : List Nd) (m : Nat) : L.foldl (fun m x => max m (x.d : Int)) (m : Int) = ((max m (mxD L) : Nat) : Int) := by
  induction L generalizing m with
  | nil => simp [mxD]
  | cons x r ih =>
    rw [List.foldl_cons, show max (m : Int) (x.d : Int) = ((max m x.d : Nat) : Int) from by omega, ih, mxD]
    omega
mutual
theorem AT.mxd : ∀ (t : AT) (d : Nat), 1 ≤ d → max d (mxD (t.flat (d + 1))) = d + t.dp - 1
  | .mk _ _ _ _ G off l, d, h => by
    have := ATs.mxd l (d + 1) off G (by omega)
    rw [AT.flat, AT.dp, this]
    split <;> omega
theorem ATs.mxd : ∀ (l : List AT) (d off G : Nat), 1 ≤ d → mxD (ATs.flat G d l off) = if ATs.dp l = 0 then 0 else d + ATs.dp l - 1
  | [], d, off, G, _ => by simp [ATs.flat, mxD, ATs.dp]
  | t :: r, d, off, G, h => by
    have h1 := AT.mxd t d h
    have h2 := ATs.mxd r d (off + 4) G h
    have h3 : 1 ≤ t.dp := by rw [AT.dp_mk]; omega
    have h4 : ¬ max t.dp (ATs.dp r) = 0 := by omega
    rw [ATs.flat, mxD, mxD_app, h2, ATs.dp, if_neg h4]
    show max d (max (mxD (t.flat (d + 1))) _) = _
    split <;> omega
end
theorem dmx_dp (b : Nat) (t : AT) : dmx (argL b t) t.nodes = t.dp := by
  unfold dmx
  rw [List.take_of_length_le (by rw [argL_len]; exact Nat.le_refl _), argL_is]
  have h := fold_mx (⟨b, 0, 1, t⟩ :: t.flat 2) 0
  have h1 := AT.mxd t 1 (Nat.le_refl _)
  rw [show ((0 : Nat) : Int) = 0 from rfl] at h
  rw [h, mxD]
  show ((max 0 (max 1 (mxD (t.flat (1 + 1)))) : Nat) : Int) = _
  rw [h1]
  have h3 : 1 ≤ t.dp := by rw [AT.dp_mk]; omega
  omega
mutual
theorem AT.allOk : ∀ (t : AT) (d : Nat), okL (t.flat d) = ATs.ok t.l
  | .mk _ _ _ _ G off l, d => ATs.allOk l d off G
theorem ATs.allOk : ∀ (l : List AT) (d off G : Nat), okL (ATs.flat G d l off) = ATs.ok l
  | [], _, _, _ => rfl
  | t :: r, d, off, G => by
    have h1 := AT.allOk t (d + 1)
    have h2 := ATs.allOk r d (off + 4) G
    unfold okL at h1 h2 ⊢
    rw [ATs.flat, List.all_cons, List.all_append, h1, h2, ATs.ok, AT.ok_mk, Bool.and_assoc]
end
theorem okL_ok (b : Nat) (t : AT) : okL (argL b t) = t.ok := by
  have h := AT.allOk t 2
  rw [argL_is, AT.ok_mk, ← h]
  rfl

/-- what Check answers -/
def AT.errno (t : AT) : Int := checkZ (!t.ok) t.dp t.nodes
theorem check_errno (t : AT) (w : World) (hm : t.mem w) (hn : t.nodes ≤ 800000) : Calls Try.prog 12 #[.agg #[.int .i64 t.k, .int .i64 t.n, .string t.s, t.sv]] w fun e w' => e = .returned (.int .i64 t.errno) ∧ Below w.heap.size w w' := by
  refine (checkT_is t w hm hn).mono ?_
  rintro e w' ⟨p, d, b, rfl, h1, h2, h3⟩
  refine ⟨?_, h3⟩
  rw [okL_ok] at h1
  unfold AT.errno
  rw [← h1]
  cases b
  · obtain ⟨rfl, rfl⟩ := h2 rfl
    rw [dmx_dp]
  · rfl
theorem deep_dp (t : AT) (w : World) (hm : t.mem w) (hn : t.nodes ≤ 800000) : Calls Try.prog 16 #[.agg #[.int .i64 t.k, .int .i64 t.n, .string t.s, t.sv]] w fun e w' => e = .returned (.int .i64 t.dp) ∧ Below w.heap.size w w' := by
  have h := deep_is t w hm hn
  rw [dmx_dp] at h
  exact h

/-- what one function answers of a term that memory holds from w0 on -/
structure OneIs (f : FuncId) (w0 : World) (k n : Int) (s : ByteArray) (a : Option Addr) (l c : Nat) (z : Value) : Prop where
  at' : ∀ w, Below w0.heap.size w0 w → Calls Try.prog f #[.agg #[.int .i64 k, .int .i64 n, .string s, .slice a l c]] w fun e w' => e = .returned z ∧ Below w0.heap.size w0 w'
theorem OneIs.call {f : FuncId} {w0 w : World} {k n : Int} {s : ByteArray} {a : Option Addr} {l c : Nat} {z : Value} (h : OneIs f w0 k n s a l c z) (hb : Below w0.heap.size w0 w) :
    Calls Try.prog f #[.agg #[.int .i64 k, .int .i64 n, .string s, .slice a l c]] w fun e w' => e = .returned z ∧ Below w0.heap.size w0 w' := h.at' w hb
theorem oneIs_of {f : FuncId} {w0 : World} {x : AT} {a : Option Addr} {l c : Nat} {z : Value} (hx : x.mem w0) (e1 : x.sv = .slice a l c)
    (h : ∀ w, x.mem w → Calls Try.prog f #[.agg #[.int .i64 x.k, .int .i64 x.n, .string x.s, x.sv]] w fun e w' => e = .returned z ∧ Below w.heap.size w w') : OneIs f w0 x.k x.n x.s a l c z := ⟨fun w hb => by
  rw [← e1]
  exact (h w (AT.mem_below hb (AT.ins_size _ hx) hx)).mono fun e w' hp => ⟨hp.1, hb.trans (hp.2.mono hb.size)⟩⟩

set_option maxRecDepth 100000 in
set_option maxHeartbeats 1600000 in
theorem checkR_is (x : AT) (w : World) (hx : x.mem w) (hnx : x.nodes ≤ 800000) : Calls Try.prog 13 #[.agg #[.int .i64 x.k, .int .i64 x.n, .string x.s, x.sv]] w fun e w' => e = .returned (.int .i64 x.errno) ∧ Below w.heap.size w w' := by
  obtain ⟨ad, cx, ex, _, _, _⟩ := sv_form (AT.mem_mk.1 hx).1
  have hb : Below w.heap.size w (w.alloc (.cells #[.int .i64 x.k, .int .i64 x.n, .string x.s, .slice ad x.l.length cx] 27)) := (Below.refl _ _).alloc (Nat.le_refl _) _
  have hx1 := AT.mem_below hb (AT.ins_size _ hx) hx
  have M := oneIs_of hx1 ex (fun w h => mayR_is x.nodes x w (Nat.le_refl _) h hnx)
  have D := oneIs_of hx1 ex (fun w h => deepR_is x.nodes x w (Nat.le_refl _) h hnx)
  have S := oneIs_of hx1 ex (fun w h => sizeR_is x.nodes x w (Nat.le_refl _) h hnx)
  have h0 := new_at w (.cells #[.int .i64 x.k, .int .i64 x.n, .string x.s, .slice ad x.l.length cx] 27) rfl
  obtain ⟨z, hz⟩ : ∃ z, x.errno = z := ⟨_, rfl⟩
  have HZ : Hid (z = checkZ (!x.ok) x.dp x.nodes) := hz.symm
  have hd := x.dp_le
  rw [hz, ex]
  obtain ⟨ok, hok⟩ : ∃ z, x.ok = z := ⟨_, rfl⟩
  obtain ⟨dp, hdp⟩ : ∃ z, x.dp = z := ⟨_, rfl⟩
  obtain ⟨nd, hnd⟩ : ∃ z, x.nodes = z := ⟨_, rfl⟩
  rw [hok] at M
  rw [hdp] at D hd
  rw [hnd] at S hd hnx
  rw [hok, hdp, hnd] at HZ
  clear hz ex hx hx1 hok hdp hnd
  obtain ⟨k1, hk1⟩ : ∃ k, x.k = k := ⟨_, rfl⟩
  obtain ⟨n1, hn1⟩ : ∃ k, x.n = k := ⟨_, rfl⟩
  obtain ⟨s1, hs1⟩ : ∃ k, x.s = k := ⟨_, rfl⟩
  obtain ⟨l1, hl1⟩ : ∃ k, x.l.length = k := ⟨_, rfl⟩
  rw [hk1, hn1, hs1, hl1] at M D S h0 hb ⊢
  clear hk1 hn1 hs1 hl1
  obtain ⟨W0, hW0⟩ : ∃ W0, w.alloc (.cells #[.int .i64 k1, .int .i64 n1, .string s1, .slice ad l1 cx] 27) = W0 := ⟨_, rfl⟩
  rw [hW0] at M D S h0 hb
  have HW := Lib.hid hW0
  have hlt : w.heap.size < W0.heap.size := by rw [← hW0]; simp
  have keep : ∀ w5, Below W0.heap.size W0 w5 → w5.cell? ⟨w.heap.size, 0, none⟩ = some (.int .i64 k1) ∧ w5.cell? ⟨w.heap.size, 1, none⟩ = some (.int .i64 n1) ∧ w5.cell? ⟨w.heap.size, 2, none⟩ = some (.string s1) ∧ w5.cell? ⟨w.heap.size, 3, none⟩ = some (.slice ad l1 cx) ∧ Hid (Below w.heap.size w w5) := fun w5 h => by
    have h0 := (h.block w.heap.size hlt).trans h0
    exact ⟨cell_of_heap h0 rfl, cell_of_heap h0 rfl, cell_of_heap h0 rfl, cell_of_heap h0 rfl, hb.trans (h.mono hb.size)⟩
  have KEEP := Lib.hid keep
  clear keep h0 hb hlt hW0
  have c1 : decide ((2000 : Int) < (dp : Int)) = decide (2000 < dp) := by rw [decide_eq_decide]; omega
  have c2 : decide ((20000 : Int) < (nd : Int)) = decide (20000 < nd) := by rw [decide_eq_decide]; omega
  have HV : ∀ b1 b2 : Bool, decide (2000 < dp) = b1 → decide (20000 < nd) = b2 → z = if ok = false then 2 else if b1 = true then 4 else if b2 = true then 3 else 0 := fun b1 b2 h1 h2 => by
    rw [HZ.out, checkZ]
    subst h1 h2
    cases ok <;> simp <;> (try split) <;> (try split) <;> (try split) <;> first | rfl | omega
  obtain ⟨b1, h1⟩ : ∃ b, decide (2000 < dp) = b := ⟨_, rfl⟩
  obtain ⟨b2, h2⟩ : ∃ b, decide (20000 < nd) = b := ⟨_, rfl⟩
  have hv := HV b1 b2 h1 h2
  rw [h1] at c1
  rw [h2] at c2
  clear HV h1 h2 HZ
  have HW1 : Hid (w.alloc (.cells #[.int .i64 k1, .int .i64 n1, .string s1, .slice ad l1 cx] 27) = W0) := HW
  clear HW
  go_enter Try.func13, Try.ntmps13
  go_wp2_with fail
  rw [HW1.out]
  refine (OneIs.call M (Below.refl _ _)).mono ?_
  rintro _ w1 ⟨rfl, hb1⟩
  obtain ⟨q0, q1, q2, q3, B1⟩ := KEEP.out _ hb1
  cases ok
  · obtain rfl : z = 2 := hv
    go_wp2
    go_ret
    exact ⟨rfl, B1.out⟩
  have HB1 := Lib.hid hb1
  clear hb1
  go_wp2_with fail
  refine (OneIs.call D HB1.out).mono ?_
  rintro _ w2 ⟨rfl, hb2⟩
  clear q0 q1 q2 q3 B1
  obtain ⟨q0, q1, q2, q3, B2⟩ := KEEP.out _ hb2
  have HB2 := Lib.hid hb2
  clear hb2 HB1
  cases b1
  case true =>
    obtain rfl : z = 4 := hv
    go_wp2
    go_ret
    exact ⟨rfl, B2.out⟩
  go_wp2_with fail
  refine (OneIs.call S HB2.out).mono ?_
  rintro _ w3 ⟨rfl, hb3⟩
  clear q0 q1 q2 q3 B2
  obtain ⟨q0, q1, q2, q3, B3⟩ := KEEP.out _ hb3
  clear hb3 HB2
  cases b2
  · obtain rfl : z = 0 := hv
    go_wp2
    go_ret
    exact ⟨rfl, B3.out⟩
  · obtain rfl : z = 3 := hv
    go_wp2
    go_ret
    exact ⟨rfl, B3.out⟩

end Go.Proofs.Ytkidcchafdiofaa
