/- name.Get: a contract. Conditions: the text has at most 3100 bytes; the library's variables hold what their text lays. -/
import Derived.Test.YtkbeaddbnnboaaaDoorNameM
namespace Go.Proofs.YtkbeaddbnnboaaaDoor
open Go Go.RowKit Go.Maps
open Go.WideMaps Go.WideElems

/-- one step behind a quote: it ends here; it is none; or bytes are got, of so many -/
inductive St
  | done
  | bad
  | go (b : List UInt8) (n : Nat)
def stepC (q : Int) (c : UInt8) (t : List UInt8) : St :=
    if ((c.toNat : Int) == q) = true then (if dblB (c :: t) = true then .go [c] 2 else .done)
    else if ((c.toNat : Int) == 92) = true then (match escF (c :: t) with | some (b, n) => .go b n | none => .bad)
    else if ((c.toNat : Int) == 10) = true then .bad else .go [c] 1
def stepF (q : Int) : List UInt8 → St
  | [] => .bad
  | c :: t => stepC q c t
def getF (q : Int) : Nat → List UInt8 → List UInt8 → Nat → Option (List UInt8 × Nat)
  | 0, _, _, _ => none
  | f + 1, l, acc, m => match stepF q l with
    | .done => some (acc, m + 1)
    | .bad => none
    | .go b n => getF q f (l.drop n) (acc ++ b) (m + n)
def getL (q : Int) (l : List UInt8) : Option (List UInt8 × Nat) := getF q (l.length + 1) l [] 0

theorem numAt_len {base : Int} {t : List UInt8} {b : UInt8} {k : Nat} (h : numAt base t = some (b, k)) : 1 ≤ k ∧ k ≤ t.length := by
  unfold numAt at h
  split at h
  · cases h
  · rename_i hneg
    split at h
    · cases h
    · simp at h
      obtain ⟨_, rfl⟩ := h
      have := index_lt (t := t) (i := (Lib.indexByte t 92).toNat) (by omega)
      omega
theorem escF_len {l : List UInt8} {b : List UInt8} {k : Nat} (h : escF l = some (b, k)) : 1 ≤ k ∧ k ≤ l.length ∧ b.length ≤ 1 := by
  match l, h with
  | a :: e :: t, h =>
    rw [show escF (a :: e :: t) = escT e t from rfl] at h
    unfold escT at h
    split at h
    · simp at h; obtain ⟨rfl, rfl⟩ := h; simp
    · split at h
      · split at h
        · rename_i b' k' hn
          have := numAt_len hn
          simp at h; obtain ⟨rfl, rfl⟩ := h; simp; omega
        · cases h
      · split at h
        · split at h
          · rename_i b' k' hn
            have := numAt_len hn
            simp at h this; obtain ⟨rfl, rfl⟩ := h; simp; omega
          · cases h
        · split at h
          · simp at h; obtain ⟨rfl, rfl⟩ := h; simp
          · cases h
theorem stepF_len {q : Int} {l b : List UInt8} {n : Nat} (h : stepF q l = .go b n) : 1 ≤ n ∧ n ≤ l.length ∧ b.length ≤ 1 := by
  match l, h with
  | c :: t, h =>
    rw [show stepF q (c :: t) = stepC q c t from rfl] at h
    unfold stepC at h
    split at h
    · split at h
      · rename_i hd
        simp at h; obtain ⟨rfl, rfl⟩ := h
        match t, hd with
        | _ :: _, _ => simp
      · cases h
    · split at h
      · split at h
        · rename_i b' n' he
          have := escF_len he
          simp at h; obtain ⟨rfl, rfl⟩ := h; exact this
        · cases h
      · split at h
        · cases h
        · simp at h; obtain ⟨rfl, rfl⟩ := h; simp
theorem getF_fuel (q : Int) : ∀ (f f' : Nat) (l acc : List UInt8) (m : Nat), l.length < f → l.length < f' → getF q f l acc m = getF q f' l acc m
  | 0, _, _, _, _, h, _ => by omega
  | _, 0, _, _, _, _, h => by omega
  | f + 1, f' + 1, l, acc, m, h, h' => by
    unfold getF
    cases hs : stepF q l with
    | done => rfl
    | bad => rfl
    | go b n =>
      have := stepF_len hs
      exact getF_fuel q f f' _ _ _ (by rw [List.length_drop]; omega) (by rw [List.length_drop]; omega)
theorem getF_go {q : Int} {l b acc : List UInt8} {n m : Nat} (h : stepF q l = .go b n) : getF q (l.length + 1) l acc m = getF q ((l.drop n).length + 1) (l.drop n) (acc ++ b) (m + n) := by
  have hl := stepF_len h
  rw [show getF q (l.length + 1) l acc m = getF q l.length (l.drop n) (acc ++ b) (m + n) by rw [getF, h]]
  exact getF_fuel q _ _ _ _ _ (by rw [List.length_drop]; omega) (by omega)
theorem getF_done {q : Int} {l acc : List UInt8} {m : Nat} (h : stepF q l = .done) : getF q (l.length + 1) l acc m = some (acc, m + 1) := by rw [getF, h]
theorem getF_bad {q : Int} {l acc : List UInt8} {m : Nat} (h : stepF q l = .bad) : getF q (l.length + 1) l acc m = none := by rw [getF, h]

/-- three results of Go: a text, how many bytes, an error's number -/
abbrev ret3 (s : ByteArray) (n e : Int) : Ending := .returned (.tuple #[.string s, .int .i64 n, .int .i64 e])
def GetPost (w : World) (o : Option (List UInt8 × Nat)) (e : Ending) (w' : World) : Prop := match o with
  | none => e = ret3 ⟨#[]⟩ 0 5 ∧ Below w.heap.size w w'
  | some (b, k) => e = ret3 ⟨b.toArray⟩ k 0 ∧ Below w.heap.size w w'

def meas (w : World) (br : Nat) : Nat := match w.cell? ⟨br, 0, none⟩ with | some (.string s) => s.size | _ => 0
theorem meas_RD {w : World} {br : Nat} {l g : List UInt8} (h : RD w br l g) : meas w br = l.length := by
  obtain ⟨s, gv, mv, hs, h2, _, _⟩ := h
  obtain ⟨c0, _⟩ := reader_cells h2
  unfold meas
  rw [c0, ← hs]
  exact (Lib.size_eq s).symm
/-- what holds at each round's head -/
def GetRel (w : World) (q : Int) (z : Nat) (r : Option (List UInt8 × Nat)) (wr : World) : Prop :=
  ∃ (l g : List UInt8) (m : Nat), RD wr w.heap.size l g ∧ Below w.heap.size w wr ∧ l.length + m = z ∧ g.length ≤ m ∧ getF q (l.length + 1) l g m = r
theorem GetRel.step {w wr w1 : World} {q : Int} {z m n : Nat} {r : Option (List UInt8 × Nat)} {l g b : List UInt8} (hb : Below w.heap.size w wr) (hz : l.length + m = z) (hg : g.length ≤ m) (hr : getF q (l.length + 1) l g m = r)
    (hs : stepF q l = .go b n) (h1 : RD w1 w.heap.size (l.drop n) (g ++ b)) (h2 : Below w.heap.size wr w1) : GetRel w q z r w1 := by
  have hl := stepF_len hs
  exact ⟨l.drop n, g ++ b, m + n, h1, hb.trans h2, by rw [List.length_drop]; omega, by rw [List.length_append]; omega, by rw [← getF_go hs]; exact hr⟩
theorem meas_step {w w1 : World} {br n : Nat} {q : Int} {l g g' b : List UInt8} (h : RD w br l g) (h1 : RD w1 br (l.drop n) g') (hs : stepF q l = .go b n) : meas w1 br < meas w br := by
  have hl := stepF_len hs
  rw [meas_RD h, meas_RD h1, List.length_drop]
  omega

end Go.Proofs.YtkbeaddbnnboaaaDoor
