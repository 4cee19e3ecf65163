/- term.copies: a contract. Conditions: memory holds the terms; at most 800000 parts; each name has at most 2^48 bytes. -/
import Derived.Test.YtkidcchafdiofaaTermU
namespace Go.Proofs.Ytkidcchafdiofaa
open Go Go.RowKit

theorem todo_done : ∀ (σ : List GF), todo σ = [] → ∀ f ∈ σ, f.t.l.length ≤ f.k
  | [], _, f, hf => by cases hf
  | f :: σ, h, g, hg => by
    rw [todo, List.append_eq_nil_iff] at h
    rcases List.mem_cons.1 hg with rfl | hg
    · have h1 := h.1
      have h2 := ATs.flat_len (g.t.l.drop g.k) (σ.length + 1) (g.t.off + g.k * 4) g.t.G
      rw [h1] at h2
      have h3 := len_nodes (g.t.l.drop g.k)
      rw [List.length_drop] at h3
      simp at h2
      omega
    · exact todo_done σ h.2 g hg

/-- what copies leaves: terms like those that were handed over, in new memory, each list of Args in a block of its own -/
def CopyPost (w : World) (l : List AT) (e : Ending) (w' : World) : Prop :=
  ∃ (ad : Option Addr) (c G : Nat) (l' : List AT), e = .returned (.slice ad l.length c) ∧ SvOk (.slice ad l.length c) G 0 l.length ∧ l'.length = l.length ∧ ATs.erase l' = ATs.erase l ∧ ATs.mem w' G l' 0 ∧ ((if l.isEmpty then [] else [G]) ++ ATs.blocks l').Nodup ∧
    (∀ j ∈ (if l.isEmpty then [] else [G]) ++ ATs.blocks l', w.heap.size ≤ j) ∧ Below w.heap.size w w'
def cpyW (w1 : World) (sv' : Value) : World :=
  ((w1.alloc (.cells #[.int .i64 0, .int .i64 0, .string ⟨#[]⟩, sv'] 27)).alloc (.cells #[.pointer (some ⟨w1.heap.size, 0, none⟩), .int .i64 0] 77)).alloc (.cells #[.slice (some ⟨w1.heap.size + 1, 0, none⟩) 1 1] 84)
theorem copies_through (l : List AT) (sv : Value) (G off : Nat) (w w1 : World) (ad : Option Addr) (c G0 : Nat) (hsv : SvOk sv G off l.length) (hm : ATs.mem w G l off) (hn : ATs.nodes l ≤ 800000) (hS : ∀ x ∈ ATs.flat G 1 l off, x.t.s.size ≤ 281474976710656)
    (m1 : SvOk (.slice ad l.length c) G0 0 l.length) (m2 : 0 < l.length → (∃ cur, w1.heap[G0]? = some (.cells cur 27 (0, 0)) ∧ cur.size = l.length * 4) ∧ w.heap.size ≤ G0) (hb : Below w.heap.size w w1) :
    Calls Try.prog 33 #[.func (.func 55) #[.pointer (some ⟨w1.heap.size + 1 + 1, 0, none⟩)] #[], sv] (cpyW w1 (.slice ad l.length c)) fun e w' => e = .returned (.tuple #[]) ∧ CopyPost w l (.returned (.slice ad l.length c)) w' := by
  have hsz : (cpyW w1 (.slice ad l.length c)).heap.size = w1.heap.size + 3 := by simp [cpyW]
  have hs1 := hb.size
  have hbW : Below w1.heap.size w1 (cpyW w1 (.slice ad l.length c)) := below3
  have hbw : Below w.heap.size w (cpyW w1 (.slice ad l.length c)) := hb.trans (hbW.mono hs1)
  have h2 : (cpyW w1 (.slice ad l.length c)).heap[w1.heap.size + 1 + 1]? = some (.cells #[.slice (some ⟨w1.heap.size + 1, 0, none⟩) 1 1] 84 (0, 0)) := new_at _ _ (by simp)
  have h1 : (cpyW w1 (.slice ad l.length c)).heap[w1.heap.size + 1]? = some (.cells #[.pointer (some ⟨w1.heap.size, 0, none⟩), .int .i64 0] 77 (0, 0)) := by
    unfold cpyW
    rw [Below.heap_alloc _ _ _ (by simp)]
    exact new_at _ _ (by simp)
  have h0 : (cpyW w1 (.slice ad l.length c)).heap[w1.heap.size]? = some (.cells #[.int .i64 0, .int .i64 0, .string ⟨#[]⟩, .slice ad l.length c] 27 (0, 0)) := by
    unfold cpyW
    rw [Below.heap_alloc _ _ _ (by simp <;> omega), Below.heap_alloc _ _ _ (by simp)]
    exact new_at _ _ rfl
  have hfl := ATs.full l 1 off G hm
  have hLl : (ATs.flat G 1 l off).length = ATs.nodes l := ATs.flat_len l 1 off G
  have hzb : zblocks [⟨w1.heap.size, 0, 0, .mk 0 0 ⟨#[]⟩ sv G off l, .slice ad l.length c, G0, []⟩] = if l.isEmpty then [] else [G0] := by
    simp only [zblocks, List.flatMap_cons, List.flatMap_nil, ATs.blocks, List.append_nil]
    rfl
  have hG0 : ∀ j ∈ (if l.isEmpty then [] else [G0] : List Nat), w.heap.size ≤ j ∧ j < w1.heap.size := fun j hj => by
    split at hj
    · cases hj
    · rename_i hne
      obtain rfl := List.mem_singleton.1 hj
      obtain ⟨⟨cur, c1, _⟩, c3⟩ := m2 (by cases l with | nil => simp at hne | cons a b => simp)
      exact ⟨c3, (Array.getElem?_eq_some_iff.1 c1).1⟩
  have hcb := cb_of (K := 55) (pv := .pointer (some ⟨w1.heap.size + 1 + 1, 0, none⟩)) (L := ATs.flat G 1 l off) (go := fun _ => true) (fillS_own (q := w1.heap.size + 1 + 1) (r := w1.heap.size) (H0 := (cpyW w1 (.slice ad l.length c)).heap.size) (G0 := G0) (t0 := .mk 0 0 ⟨#[]⟩ sv G off l) (sv := .slice ad l.length c) (L := ATs.flat G 1 l off) (by rw [hsz]; omega))
    (fun i w2 F x hs hf _ _ hx => fill_cb (by rw [hLl]; exact hn) (fun x hx => ⟨hS x hx, by
      have h5 := ATs.flat_nodes l 1 off G x hx
      rw [AT.nodes_mk] at h5
      have h6 := len_nodes x.t.l
      omega⟩) (by omega) i w2 F x hs hf hx)
  have hst : FillS (w1.heap.size + 1 + 1) w1.heap.size (.mk 0 0 ⟨#[]⟩ sv G off l) (.slice ad l.length c) G0 (ATs.flat G 1 l off) 0 (cpyW w1 (.slice ad l.length c)) (fun j => j = w1.heap.size + 1 + 1 ∨ j = w1.heap.size + 1 ∨ j ∈ zblocks [⟨w1.heap.size, 0, 0, .mk 0 0 ⟨#[]⟩ sv G off l, .slice ad l.length c, G0, []⟩]) := by
    refine ⟨_, w1.heap.size + 1, fun j => Iff.rfl, ?_, ⟨⟨⟨_, _, h0⟩, cell_of_heap h0 rfl, cell_of_heap h0 rfl, cell_of_heap h0 rfl, cell_of_heap h0 rfl, m1, fun hp => ?_, trivial, rfl, Nat.zero_le _⟩, rfl, trivial⟩, ?_, ⟨_, rfl, rfl, rfl, rfl⟩, ?_, ?_, ?_, ?_, by simp, ?_⟩
    · exact ⟨1, _, h2, h1, by omega, Nat.le_refl _, by unfold maxLen; omega, by simp, by simp [stCells, MF.st]⟩
    · obtain ⟨⟨cur, c1, c2⟩, c3⟩ := m2 hp
      exact ⟨cur, (hbW.block _ (Array.getElem?_eq_some_iff.1 c1).1).trans c1, c2⟩
    · intro f hf
      simp at hf
      subst hf
      exact ⟨rfl, rfl⟩
    · rw [hzb]; split <;> simp
    · rw [hzb]
      refine ⟨fun h => ?_, fun h => ?_, fun h => ?_, by omega, by omega⟩ <;> (have := (hG0 _ h).2; omega)
    · rw [hzb]
      intro j hj
      have := (hG0 j hj).2
      rw [hsz]; omega
    · simp [todo, MF.gf, AT.l, AT.G, AT.off]
    · intro f hf
      simp at hf
      subst hf
      have := len_nodes l
      show l.length ≤ 900000
      omega
  refine (through_is _ (.inr (.inr (.inr (.inr (.inr rfl))))) _ (.mk 0 0 ⟨#[]⟩ sv G off l) (ATs.flat G 1 l off) _ _ (fun _ => true) _ hcb ⟨fun x hx => ?_, Nat.le_refl _, hst⟩ hsv rfl (by show ATs.nodes l ≤ 900000; omega)).mono ?_
  · have h5 := hfl x hx
    have h6 := h5.1.1.lt
    refine ⟨⟨h5.1.same (hbw.block _ h6), h5.2⟩, by rw [hsz]; omega, fun hF => ?_⟩
    rcases hF with h | h | h
    · omega
    · omega
    · rw [hzb] at h; have := (hG0 _ h).1; omega
  · rintro e w' ⟨rfl, n, F, a1, a2, a3, a4, a5, a6⟩
    have hnm : n = (ATs.flat G 1 l off).length := by
      rcases Nat.lt_or_ge n (ATs.flat G 1 l off).length with h | h
      · have := (a3 h).2; cases this
      · omega
    subst hnm
    obtain ⟨_, _, σ, g, s⟩ := a4
    have htd := s.td
    rw [List.drop_of_length_le (by simp)] at htd
    have htd2 : todo (σ.map MF.gf) = [] := List.map_eq_nil_iff.1 htd
    obtain ⟨f0, l1, l2, l3, l4⟩ := s.last
    obtain ⟨f, g2, b1, b2, b3, b4, b5, b6, b7, b8⟩ := zip_root σ.length σ (Nat.le_refl _) (by intro h; rw [h] at l1; cases l1) s.zip s.root (fun f hf => todo_done _ htd2 f.gf (List.mem_map.2 ⟨f, hf, rfl⟩))
    rw [l1] at b1
    cases b1
    rw [l2] at b2
    rw [l3] at b3
    rw [l4] at b4
    have hsl : f.src.l = l := by rw [b2]; rfl
    have hfb : f.fb = if l.isEmpty then [] else [G0] := by unfold MF.fb; rw [hsl, b4]
    refine ⟨rfl, ad, c, G0, f.done, rfl, m1, by rw [b7, hsl], ?_, by have := b6.mem; rw [b4] at this; exact this, ?_, fun j hj => ?_, hbw.trans (a5.below (fun j hj => ?_) hbw.size)⟩
    · rw [b6.er, b7, List.take_length, hsl]
    · rw [← hfb]; exact b8.nodup_iff.2 s.nd
    · rw [← hfb] at hj
      have hz := b8.mem_iff.1 hj
      rcases a6 j ((s.F j).2 (.inr (.inr hz))) with h | h
      · rcases h with h | h | h
        · omega
        · omega
        · rw [hzb] at h; exact (hG0 j h).1
      · rw [hsz] at h; omega
    · rcases hj with h | h | h
      · omega
      · omega
      · rw [hzb] at h; exact (hG0 j h).1

set_option maxRecDepth 100000 in
set_option maxHeartbeats 800000 in
theorem copies_is (l : List AT) (sv : Value) (G off : Nat) (w : World) (hsv : SvOk sv G off l.length) (hm : ATs.mem w G l off) (hn : ATs.nodes l ≤ 800000) (hS : ∀ x ∈ ATs.flat G 1 l off, x.t.s.size ≤ 281474976710656) :
    Calls Try.prog 43 #[sv] w (CopyPost w l) := by
  have hln := len_nodes l
  have T := Lib.hid (fun w1 ad c G0 m1 m2 hb => copies_through l sv G off w w1 ad c G0 hsv hm hn hS m1 m2 hb)
  obtain ⟨vad, vc, hv, _⟩ := sv_form hsv
  rw [hv] at T ⊢
  have RM := Lib.hid (room_is l.length w (by omega))
  obtain ⟨n, hnn⟩ : ∃ n, l.length = n := ⟨_, rfl⟩
  rw [hnn] at T RM hln ⊢
  have hmf : ∀ (fn : Fn) (first cap : Array Value) (w : World), (Instr.makeFunc fn first cap).run Try.prog w = .ok (.func fn first cap) w := fun _ _ _ _ => rfl
  clear hsv hm hS hv hnn hln hn
  go_enter Try.func43, Try.ntmps43
  go_wp2_with fail
  refine RM.out.mono ?_
  rintro e w1 ⟨ad, c, G0, rfl, m1, m2, hb⟩
  have T1 := Lib.hid (T.out w1 ad c G0 m1 m2 hb)
  unfold cpyW at T1
  clear m1 m2 hb T RM
  go_wp2_with fail
  refine (from_is _ _ ⟨_, _, _, rfl⟩).mono ?_
  rintro e w2 ⟨rfl, rfl⟩
  go_wp2_with fail
  refine T1.out.mono ?_
  rintro e w3 ⟨rfl, hc⟩
  have HC := Lib.hid hc
  clear hc T1
  go_wp2
  go_ret
  exact HC.out

end Go.Proofs.Ytkidcchafdiofaa
