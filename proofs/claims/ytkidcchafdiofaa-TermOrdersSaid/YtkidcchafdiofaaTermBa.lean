/- TermLists: the mathematics; parts of rows. Conditions: none. -/
import Derived.Test.YtkidcchafdiofaaTermAz
import Derived.Test.YtkidcchafdiofaaTermAj
namespace Go.Proofs.Ytkidcchafdiofaa
open Go Go.RowKit

abbrev shortP : Int → Int → ByteArray → Prop := fun _ _ s => s.size ≤ 20
mutual
theorem mendT_short : ∀ t : Tm, (mendT t).all shortP
  | .mk k n s l => by
    have ha : atomA.all shortP := atomA_all (by decide)
    have hl := mendL_short l
    rw [mendT]
    split
    · exact ha
    · rename_i hs
      split
      · exact ⟨show (⟨#[]⟩ : ByteArray).size ≤ 20 by decide, trivial⟩
      · split
        · exact ⟨show (⟨#[]⟩ : ByteArray).size ≤ 20 by decide, trivial⟩
        · split
          · exact ⟨by show s.size ≤ 20; omega, trivial⟩
          · split
            · split
              · exact ha
              · exact ⟨by show s.size ≤ 20; omega, hl⟩
            · exact ha
theorem mendL_short : ∀ l : List Tm, Tms.all shortP (mendL l)
  | [] => trivial
  | t :: r => ⟨mendT_short t, mendL_short r⟩
end
theorem good_short (ps : List PRow) : (goodT ps).all shortP := mendT_short _
theorem short_s {x : AT} (h : x.erase.all shortP) : ∀ u ∈ x :: x.parts, u.s.size ≤ 281474976710656 := fun u hu => by
  have := AT.all_of shortP x h u hu
  show u.s.size ≤ _
  have h2 : u.s.size ≤ 20 := this
  omega
theorem short_flat {l : List AT} (h : Tms.all shortP (ATs.erase l)) (G off : Nat) : ∀ x ∈ ATs.flat G 1 l off, x.t.s.size ≤ 281474976710656 := fun x hx => by
  have h1 : x.t ∈ (ATs.flat G 1 l off).map Nd.t := List.mem_map.2 ⟨x, hx, rfl⟩
  rw [ATs.flat_parts] at h1
  have h2 : x.t.s.size ≤ 20 := ATs.all_of shortP l h x.t h1
  omega
theorem listT_short : ∀ {l : List Tm} {t : Tm}, Tms.all shortP l → t.all shortP → (listT l t).all shortP
  | [], _, _, h => h
  | _ :: _, _, hl, h => ⟨by decide, hl.1, listT_short hl.2 h, trivial⟩
theorem listT_nodes : ∀ (l : List Tm) (t : Tm), (listT l t).nodes = Tms.nodes l + l.length + t.nodes
  | [], t => by simp [listT, Tms.nodes]
  | a :: r, t => by
    rw [listT, Tm.nodes, Tms.nodes, Tms.nodes, Tms.nodes, Tms.nodes, listT_nodes r t, List.length_cons]
    omega
theorem isCons_dot : isCons 4 ⟨#[46]⟩ 2 = true := by
  unfold isCons
  rw [ByteArray.toList_eq]
  rfl
theorem itT_list : ∀ (l : List Tm) (t : Tm), itT (listT l t) = (l ++ (itT t).1, (itT t).2)
  | [], t => rfl
  | a :: r, t => by
    rw [listT, it_cons isCons_dot, itT_list r t]
    rfl
theorem itF_nodes : ∀ (f : Nat) (t : Tm), Tms.nodes (itF f t).1 + (itF f t).2.nodes ≤ t.nodes
  | 0, t => by simp [itF, Tms.nodes]
  | f + 1, .mk k n s l => by
    cases hc : isCons k s l.length with
    | false => rw [itF_end hc]; simp [Tms.nodes]
    | true =>
      match l, isCons_len hc with
      | [a, b], _ =>
        have := itF_nodes f b
        rw [itF, if_pos hc, Tm.nodes, Tms.nodes, Tms.nodes, Tms.nodes]
        simp only [Tms.nodes]
        omega
theorem itT_nodes (t : Tm) : Tms.nodes (itT t).1 + (itT t).2.nodes ≤ t.nodes := itF_nodes _ t
theorem mem_take {w : World} {G : Nat} : ∀ {l : List AT} {off : Nat} (n : Nat), ATs.mem w G l off → ATs.mem w G (l.take n) off
  | [], _, n, _ => by cases n <;> exact trivial
  | t :: r, off, 0, h => trivial
  | t :: r, off, n + 1, h => ⟨h.1, h.2.1, mem_take n h.2.2⟩
theorem mem_drop {w : World} {G : Nat} : ∀ {l : List AT} {off : Nat} (n : Nat), ATs.mem w G l off → ATs.mem w G (l.drop n) (off + n * 4)
  | [], _, n, _ => by cases n <;> exact trivial
  | t :: r, off, 0, h => by simpa using h
  | t :: r, off, n + 1, h => by
    have := mem_drop n h.2.2
    rw [show off + 4 + n * 4 = off + (n + 1) * 4 from by omega] at this
    exact this
theorem erase_take : ∀ (l : List AT) (n : Nat), ATs.erase (l.take n) = (ATs.erase l).take n
  | [], n => by simp [ATs.erase]
  | t :: r, 0 => rfl
  | t :: r, n + 1 => by rw [List.take_succ_cons, ATs.erase, ATs.erase, List.take_succ_cons, erase_take r n]
theorem erase_drop : ∀ (l : List AT) (n : Nat), ATs.erase (l.drop n) = (ATs.erase l).drop n
  | [], n => by simp [ATs.erase]
  | t :: r, 0 => rfl
  | t :: r, n + 1 => by rw [List.drop_succ_cons, ATs.erase, List.drop_succ_cons, erase_drop r n]
theorem nodes_append (l m : List AT) : ATs.nodes (l ++ m) = ATs.nodes l + ATs.nodes m := by
  induction l with
  | nil => simp [ATs.nodes]
  | cons t l ih => rw [List.cons_append, ATs.nodes, ATs.nodes, ih]; omega
theorem nodes_take_drop (l : List AT) (n : Nat) : ATs.nodes (l.take n) ≤ ATs.nodes l ∧ ATs.nodes (l.drop n) ≤ ATs.nodes l := by
  have h : ATs.nodes l = ATs.nodes (l.take n) + ATs.nodes (l.drop n) := by rw [← nodes_append, List.take_append_drop]
  omega
/-- All answers true of rows that are alike -/
theorem all_true {l m : List AT} {G off G' off' : Nat} {ad bd : Option Addr} {n cx cy : Nat} {w : World} (hl : ATs.mem w G l off) (hm : ATs.mem w G' m off') (ax : 0 < n → ad = some ⟨G, off, none⟩) (ay : 0 < n → bd = some ⟨G', off', none⟩)
    (hln : l.length = n) (hmn : m.length = n) (lx : n ≤ cx) (mx : cx ≤ 9223372036854775807) (ly : n ≤ cy) (my : cy ≤ 9223372036854775807) (h1 : ATs.nodes l ≤ 800000) (h2 : ATs.nodes m ≤ 800000) (he : ATs.erase l = ATs.erase m) :
    Calls Try.prog 28 #[.slice ad n cx, .slice bd n cy] w fun e w' => e = .returned (.bool true) ∧ Below w.heap.size w w' := by
  have h := all_is l m G off G' off' ad bd cx cy w hl hm (by rw [hln]; exact ax) (by rw [hmn]; exact ay) (by omega) mx (by omega) my h1 h2
  rw [hln, hmn, ATs.same_erase l m he] at h
  simpa using h

/-- an argument: a row of rows of parts -/
structure LArg (W : World) (ad : Option Addr) (n cap B off : Nat) : Prop where
  fits : n ≤ cap
  max : cap ≤ 9223372036854775807
  at' : 0 < n → ad = some ⟨B, off, none⟩
  mem : ∀ i, i < n → ∃ (a : Option Addr) (m c B' o' : Nat) (ps : List PRow), W.cell? ⟨B, off + i, none⟩ = some (.slice a m c) ∧ ArgOk W a m c B' o' ps
/-- what holds ahead of each round: the terms that were made -/
structure OwnSt (W : World) (i : Nat) (v : Value) (ts : List AT) (wr : World) : Prop where
  len : ts.length = i
  own : wr.ownsRow W.heap.size 27 4 v i (headCells ts)
  all : ∀ t ∈ ts, t.mem wr ∧ t.ins (fun j => v.ownBlock ≠ some j)
  short : Tms.all shortP (ATs.erase ts)
  nodes : ATs.nodes ts ≤ 1000 * i
  below : Below W.heap.size W wr
theorem own_mem {wr w7 : World} {g : Nat} {v : Value} {o : Obj} {u : AT} (hm : u.mem wr) (hi : u.ins (fun j => v.ownBlock ≠ some j)) (hgrow : (wr.alloc o).grownBy w7 v.ownBlock) (hat : v.ownBlock = some g ∨ g = wr.heap.size + 1) :
    u.mem w7 ∧ u.ins (fun j => (some g : Option Nat) ≠ some j) := by
  have hs := AT.ins_size u hm
  have h1 : u.ins (fun j => v.ownBlock ≠ some j ∧ j < wr.heap.size) := AT.mem_keeps.AT.ins_and u hi hs
  refine ⟨AT.mem_same (S := fun j => v.ownBlock ≠ some j ∧ j < wr.heap.size) (fun j hj => ?_) u h1 hm, AT.ins_mono (fun j hj h => ?_) u h1⟩
  · rw [hgrow.block j (by simp; omega) (fun h => hj.1 h.symm), Below.heap_alloc _ _ _ hj.2]
  · rcases hat with h2 | h2
    · exact hj.1 (h2.trans h)
    · have h3 : g = j := by simpa using h
      omega
theorem OwnSt.on {W wr w1 : World} {i : Nat} {v : Value} {ts : List AT} (h : OwnSt W i v ts wr) (hb : Below wr.heap.size wr w1) : OwnSt W i v ts w1 :=
  ⟨h.len, owns_same h.own (fun g hg => hb.block g (h.own.lt g hg).2), fun t ht => ⟨AT.mem_below hb (AT.ins_size _ (h.all t ht).1) (h.all t ht).1, (h.all t ht).2⟩, h.short, h.nodes, h.below.trans (hb.mono h.below.size)⟩
theorem own_next {W wr w7 : World} {i g cap' : Nat} {v : Value} {ts : List AT} {t : AT} {ps : List PRow} {o : Obj} (h : OwnSt W i v ts wr) (he : t.erase = goodT ps) (hps : ps.length ≤ 60) (hm : t.mem wr) (hi : t.ins (fun j => v.ownBlock ≠ some j))
    (hown : w7.ownsRow W.heap.size 27 4 (.slice (some ⟨g, 0, none⟩) (i + 1) cap') (i + 1) (headCells ts ++ [.int .i64 t.k, .int .i64 t.n, .string t.s, t.sv])) (hgrow : (wr.alloc o).grownBy w7 v.ownBlock) (hat : v.ownBlock = some g ∨ g = wr.heap.size + 1) :
    OwnSt W (i + 1) (.slice (some ⟨g, 0, none⟩) (i + 1) cap') (ts ++ [t]) w7 := by
  have hn := good_nodes ps
  rw [← he, AT.nodes_erase] at hn
  refine ⟨by simp [h.len], by rw [headCells_app]; simpa [headCells] using hown, fun u hu => ?_, ?_, ?_, ?_⟩
  · rcases List.mem_append.1 hu with hu | hu
    · exact own_mem (h.all u hu).1 (h.all u hu).2 hgrow hat
    · obtain rfl := List.mem_singleton.1 hu
      exact own_mem hm hi hgrow hat
  · rw [erase_app]
    refine (all_app shortP _ _).2 ⟨h.short, ?_⟩
    rw [ATs.erase, he]
    exact ⟨good_short ps, trivial⟩
  · rw [nodes_append]
    have := h.nodes
    simp only [ATs.nodes]
    omega
  · have h2 := h.below.alloc h.below.size o
    exact h2.grown hgrow (by simp; have := h.below.size; omega) (fun k hk => (h.own.lt k hk).1)

end Go.Proofs.Ytkidcchafdiofaa
