/- term.Number: a contract. Conditions: memory holds the term; at most 800000 parts; each N is a whole number of 64 bits, each name has at most 2^48 bytes. -/
import Derived.Test.YtkidcchafdiofaaTermX
namespace Go.Proofs.Ytkidcchafdiofaa
open Go Go.RowKit Go.Maps
open Go.WideMaps Go.WideElems

mutual
/-- Kinds and numbers of all parts -/
def Tm.kn : Tm → List (Int × Int)
  | .mk k n _ l => (k, n) :: Tms.kn l
def Tms.kn : List Tm → List (Int × Int)
  | [] => []
  | t :: r => Tm.kn t ++ Tms.kn r
end
mutual
theorem AT.kn_parts : ∀ t : AT, (t :: t.parts).map (fun u => (u.k, u.n)) = t.erase.kn
  | .mk k n s sv G off l => by
    rw [AT.erase, Tm.kn, List.map_cons, AT.parts, ATs.kn_parts l]; rfl
theorem ATs.kn_parts : ∀ l : List AT, (ATs.parts l).map (fun u => (u.k, u.n)) = Tms.kn (ATs.erase l)
  | [] => rfl
  | t :: r => by
    rw [ATs.parts, ATs.erase, Tms.kn, ← AT.kn_parts t, ← ATs.kn_parts r, ← List.map_append, List.cons_append]
end
def meetK (vs : List Int) (p : Int × Int) : List Int := if p.1 = 1 ∧ p.2 ∉ vs then vs ++ [p.2] else vs
theorem varsT_kn (t : AT) : varsT t = t.erase.kn.foldl meetK [] := by
  rw [← AT.kn_parts t, List.foldl_map]
  rfl
theorem varsT_erase {t u : AT} (h : t.erase = u.erase) : varsT t = varsT u := by rw [varsT_kn, varsT_kn, h]
theorem r64_erase {t u : AT} (h : t.erase = u.erase) (hr : ∀ x ∈ u :: u.parts, R64 x.n) : ∀ x ∈ t :: t.parts, R64 x.n := by
  intro x hx
  have h1 : (x.k, x.n) ∈ t.erase.kn := by
    rw [← AT.kn_parts t]
    exact List.mem_map.2 ⟨x, hx, rfl⟩
  rw [h, ← AT.kn_parts u] at h1
  obtain ⟨y, hy, he⟩ := List.mem_map.1 h1
  have := hr y hy
  simp at he
  rw [he.2] at this
  exact this

def nmW (w3 : World) : World := (w3.alloc (.map #[] 0)).alloc (.cells #[.slice none 0 0, .map (some w3.heap.size)] 59)
theorem num_start (w3 : World) : VarsAt (nmW w3) (w3.heap.size + 1) w3.heap.size (.slice none 0 0) [] := by
  have h1 := World.ownsMap_made w3 Try.prog 2 (plainElem (H := Unit) Try.prog 2)
  obtain ⟨es, clock, hb, r⟩ := h1
  refine ⟨.map [], new_at _ _ (by simp), ⟨es, clock, ?_, r⟩, mapIs_nil, ⟨rfl, .inl ⟨rfl, rfl⟩⟩, by omega, by simp [Value.ownBlock], by simp [Value.ownBlock]⟩
  unfold nmW
  rw [Below.heap_alloc _ _ _ (by simp)]
  exact hb
/-- what the way of Number leaves -/
def NumDone (w3 : World) (G : Nat) (t : AT) (e : Ending) (w' : World) : Prop :=
  e = .returned (.tuple #[]) ∧ ATs.mem w' G [t.ren (varsT t)] 0 ∧ ∀ B, B ≤ w3.heap.size → (∀ x ∈ argL G t, B ≤ x.B) → Below B w3 w'
theorem num_through (t : AT) (ad : Option Addr) (c G : Nat) (w3 : World) (hsv : SvOk (.slice ad 1 c) G 0 1) (hm : ATs.mem w3 G [t] 0) (hn : t.nodes ≤ 800000) (hr : ∀ u ∈ t :: t.parts, R64 u.n) (hnd : (G :: t.blocks).Nodup) :
    Calls Try.prog 33 #[.func (.func 45) #[.pointer (some ⟨w3.heap.size + 1, 0, none⟩)] #[], .slice ad 1 c] (nmW w3) (NumDone w3 G t) := by
  have hsz : (nmW w3).heap.size = w3.heap.size + 2 := by simp [nmW]
  have hb : Below w3.heap.size w3 (nmW w3) := ((Below.refl _ _).alloc (Nat.le_refl _) _).alloc (by simp) _
  have hfl := ATs.full [t] 1 0 G hm
  have hlen := argL_len G t
  have hrr : ∀ x ∈ argL G t, R64 x.t.n := fun x hx => by
    have : x.t ∈ (argL G t).map Nd.t := List.mem_map.2 ⟨x, hx, rfl⟩
    rw [argL_is, List.map_cons, AT.flat_parts] at this
    exact hr _ this
  have hlt : ∀ x ∈ argL G t, x.B < w3.heap.size := fun x hx => (hfl x hx).1.1.lt
  have hcb := num_cb (q := w3.heap.size + 1) (bm := w3.heap.size) (H0 := (nmW w3).heap.size) (L := argL G t) (by omega) hrr (ATs.apart [t] 1 0 G (by simpa [ATs.blocks] using hnd)) (fun x hx => by have := hlt x hx; omega)
  refine (through_is _ (.inr (.inr (.inr (.inl rfl)))) _ (.mk 0 0 ⟨#[]⟩ (.slice ad 1 c) G 0 [t]) (argL G t) _ _ (fun _ => true) (fun j => (j = w3.heap.size + 1 ∨ j = w3.heap.size ∨ (Value.slice none 0 0).ownBlock = some j) ∨ ∃ x ∈ argL G t, x.B = j) hcb ⟨.slice none 0 0, fun j => Iff.rfl, num_start w3, fun x hx hh => ?_, fun m x hx => ?_⟩ hsv rfl (by show ATs.nodes [t] ≤ 900000; rw [ATs.nodes, ATs.nodes]; omega)).mono ?_
  · have := hlt x hx
    simp [Value.ownBlock] at hh
    omega
  · rw [if_neg (by omega)]
    have h1 := hfl x (List.mem_of_getElem? hx)
    have hs : (nmW w3).heap[x.B]? = w3.heap[x.B]? := hb.block _ h1.1.1.lt
    exact row_same ⟨h1.1.1, h1.1.2.1, h1.1.2.2.1, h1.1.2.2.2.1, h1.1.2.2.2.2, h1.2⟩ hs
  · rintro e w' ⟨rfl, n, F, a1, a2, a3, ⟨v, a4⟩, a5, a6⟩
    have hnm : n = (argL G t).length := by
      rcases Nat.lt_or_ge n (argL G t).length with h | h
      · have := (a3 h).2; cases this
      · omega
    subst hnm
    refine ⟨rfl, ?_, fun B hB hx => (hb.mono hB).trans (a5.below (fun j hj => ?_) (by omega))⟩
    · have h1 := ATs.ren_mem (w := w') (varsT t) [t] 1 0 G (fun x hx => by
        obtain ⟨m, hm2, rfl⟩ := List.getElem_of_mem hx
        have h2 := a4.rows m _ (List.getElem?_eq_getElem hm2)
        rw [if_pos (show m < (argL G t).length from hm2), varsL_arg] at h2
        exact h2)
      exact h1
    · rcases hj with hj | ⟨x, hx2, rfl⟩
      · simp [Value.ownBlock] at hj; omega
      · exact hx x hx2

set_option maxRecDepth 100000 in
set_option maxHeartbeats 1600000 in
theorem numberT_is (t : AT) (w : World) (hm : t.mem w) (hn : t.nodes ≤ 800000) (hr : ∀ u ∈ t :: t.parts, R64 u.n) (hS : ∀ u ∈ t :: t.parts, u.s.size ≤ 281474976710656) :
    Calls Try.prog 25 #[.agg #[.int .i64 t.k, .int .i64 t.n, .string t.s, t.sv]] w (MendPost w (t.erase.ren (varsT t))) := by
  have hmf : ∀ (fn : Fn) (first cap : Array Value) (w : World), (Instr.makeFunc fn first cap).run Try.prog w = .ok (.func fn first cap) w := fun _ _ _ _ => rfl
  have hmm := @run_makeMap Try.prog
  have CP : ∀ o1 o2, Calls Try.prog 43 #[.slice (some ⟨w.heap.size + 1 + 1, 0, none⟩) 1 1] (((w.alloc o1).alloc o2).alloc (.cells #[.int .i64 t.k, .int .i64 t.n, .string t.s, t.sv] 27)) (CopyPost (((w.alloc o1).alloc o2).alloc (.cells #[.int .i64 t.k, .int .i64 t.n, .string t.s, t.sv] 27)) [t]) := fun o1 o2 => by
    obtain ⟨h1, h2, h3⟩ := world3 w o1 o2 (.cells #[.int .i64 t.k, .int .i64 t.n, .string t.s, t.sv] 27)
    refine copies_is [t] _ (w.heap.size + 1 + 1) 0 _ (.inr ⟨1, rfl, Nat.le_refl _, by unfold maxLen; omega⟩) ⟨⟨⟨_, _, h1⟩, cell_of_heap h1 rfl, cell_of_heap h1 rfl, cell_of_heap h1 rfl, cell_of_heap h1 rfl⟩, AT.mem_below h3 (AT.ins_size _ hm) hm, trivial⟩ (by simp [ATs.nodes]; omega) (fun x hx => ?_)
    have : x.t ∈ (argL (w.heap.size + 1 + 1) t).map Nd.t := List.mem_map.2 ⟨x, hx, rfl⟩
    rw [argL_is, List.map_cons, AT.flat_parts] at this
    exact hS _ this
  have HCP := Lib.hid CP
  have HR := Lib.hid hr
  have HN := Lib.hid hn
  clear CP hm hn hr hS
  go_enter Try.func25, Try.ntmps25
  go_wp2_with fail
  refine (HCP.out _ _).mono ?_
  rintro e w3 ⟨ad, c, G, l', rfl, m1, m2, m3, m4, m5, m6, m7⟩
  obtain ⟨t', rfl⟩ : ∃ t', l' = [t'] := by
    cases l' with
    | nil => simp at m2
    | cons a r =>
      cases r with
      | nil => exact ⟨a, rfl⟩
      | cons b r => simp at m2
  have he : t'.erase = t.erase := by simpa [ATs.erase] using m3
  have had : ad = some ⟨G, 0, none⟩ := by
    obtain ⟨ad2, c2, h1, _, _, h2⟩ := sv_form m1
    have h3 := h2 (by simp)
    simp at h1
    rw [h1.1, h3]
  subst had
  have hns : t'.nodes = t.nodes := by rw [← AT.nodes_erase, he, AT.nodes_erase]
  have T := num_through t' (some ⟨G, 0, none⟩) c G w3 m1 m4 (by rw [hns]; exact HN.out) (r64_erase he HR.out) (by simpa [ATs.blocks] using m5)
  have hc3 : 1 ≤ c := by
    rcases m1 with ⟨h, _⟩ | ⟨c2, h, h2, _⟩
    · cases h
    · simp at h; rw [h]; exact h2
  have hcm : c ≤ 9223372036854775807 := by
    rcases m1 with ⟨h, _⟩ | ⟨c2, h, _, h2⟩
    · cases h
    · simp at h; rw [h]; unfold maxLen at h2; omega
  have hw3 := m7.size
  have hres : w3.heap[w.heap.size + 1]? = some (.cells #[.int .i64 0, .int .i64 0, .string ⟨#[]⟩, .slice none 0 0] 27 (0, 0)) := by
    rw [m7.block _ (by simp), Below.heap_alloc _ _ _ (by simp)]
    exact new_at _ _ (by simp)
  have hbB : ∀ x ∈ argL G t', w.heap.size + 1 + 1 + 1 ≤ x.B := fun x hx => by
    have hin : x.B = G ∨ x.B ∈ ATs.blocks [t'] := by
      rcases ATs.flat_B [t'] 1 0 G x hx with ⟨h, _⟩ | h
      · exact .inl h
      · exact .inr h
    have := m6 x.B (by
      rcases hin with h | h
      · rw [h]; simp
      · simp [h])
    simpa using this
  have hbw : Below w.heap.size w w3 := below3.trans (m7.mono (by simp; omega))
  have HX := Lib.hid (And.intro he (And.intro hres (And.intro hbB (And.intro hbw m6))))
  have HT := Lib.hid T
  unfold nmW at HT
  have hw33 : w.heap.size + 1 + 1 + 1 ≤ w3.heap.size := by simpa using hw3
  clear m1 m2 m3 m4 m5 m6 m7 T hns he hres hbB hbw hw3 HCP
  go_wp2_with fail
  refine HT.out.mono ?_
  rintro e w5 ⟨rfl, d1, d2⟩
  obtain ⟨⟨_, g0, g1, g2, g3⟩, gm, _⟩ := d1
  have hb5 := d2 (w.heap.size + 1 + 1 + 1) hw33 HX.out.2.2.1
  have h5 : w5.heap[w.heap.size + 1]? = some (.cells #[.int .i64 0, .int .i64 0, .string ⟨#[]⟩, .slice none 0 0] 27 (0, 0)) := (hb5.block _ (by omega)).trans HX.out.2.1
  have hev : (t'.ren (varsT t')).erase = t.erase.ren (varsT t) := by rw [AT.ren_erase, HX.out.1, varsT_erase HX.out.1]
  have hins : (t'.ren (varsT t')).ins (fun j => w.heap.size + 1 < j) := AT.ren_ins _ t' (AT.ins_mono (fun j hj => by
    have := HX.out.2.2.2.2 j (by simp [ATs.blocks, hj])
    simp at this
    omega) t' (AT.ins_blocks t'))
  generalize t'.ren (varsT t') = u at *
  obtain ⟨vx, vy, vsv, _⟩ := sv_form (AT.mem_mk.1 gm).1
  rw [vsv] at g3
  have r0 : w5.cell? ⟨w.heap.size + 1, 0, none⟩ = some (.int .i64 0) := cell_of_heap h5 rfl
  have r1 : w5.cell? ⟨w.heap.size + 1, 1, none⟩ = some (.int .i64 0) := cell_of_heap h5 rfl
  have r2 : w5.cell? ⟨w.heap.size + 1, 2, none⟩ = some (.string ⟨#[]⟩) := cell_of_heap h5 rfl
  have r3 : w5.cell? ⟨w.heap.size + 1, 3, none⟩ = some (.slice none 0 0) := cell_of_heap h5 rfl
  have z0 := free_of_heap (o := 0) h5
  have z1 := free_of_heap (o := 1) h5
  have z2 := free_of_heap (o := 2) h5
  have z3 := free_of_heap (o := 3) h5
  have HBW : Hid (Below w.heap.size w w5) := HX.out.2.2.2.1.trans (hb5.mono (by omega))
  have HSV := Lib.hid vsv
  have H5 := Lib.hid h5
  have HE := Lib.hid (And.intro hev (And.intro gm hins))
  clear d2 hb5 h5 hev hins vsv gm HT HX
  go_wp2
  obtain ⟨q0, q1, q2, q3⟩ := four_cells H5.out (.int .i64 u.k) (.int .i64 u.n) (.string u.s) (.slice vx u.l.length vy)
  refine bodyPost_ret (v := .agg #[.int .i64 u.k, .int .i64 u.n, .string u.s, .slice vx u.l.length vy]) (by simp [results, Try.results25, go_sem, q0, q1, q2, q3]) rfl ?_
  have hw1 : w.heap.size ≤ w.heap.size + 1 := by omega
  refine ⟨u, by rw [HSV.out], HE.out.1, AT.mem_same (S := fun j => w.heap.size + 1 < j) (fun j hj => ?_) u HE.out.2.2 HE.out.2.1, AT.ins_mono (fun j hj => by omega) u HE.out.2.2, ((((HBW.out.setCell hw1 _).setCell hw1 _).setCell hw1 _).setCell hw1 _)⟩
  rw [heap_set_ne (by omega), heap_set_ne (by omega), heap_set_ne (by omega), heap_set_ne (by omega)]

end Go.Proofs.Ytkidcchafdiofaa
