/- name.Get's reader: its methods doubled, zero and number, and octal. Conditions: as each states. -/
import Derived.Test.YtkbeaddbnnboaaaDoorNameJ
import Derived.Deep.QuietTactic
import Derived.BigQuiet
namespace Go.Proofs.YtkbeaddbnnboaaaDoor
open Go Go.RowKit Go.Maps
open Go.WideMaps Go.WideElems

theorem take_one (w : World) (br n : Nat) (l g : List UInt8) (h : RD w br l g) (hn : n ≤ l.length) (hl : l.length ≤ 30000) (hg : g.length ≤ 100000) (c : Int) (h0 : 0 ≤ c) (h1 : c ≤ 255) :
    Calls Tryd.prog 83 #[.pointer (some ⟨br, 0, none⟩), .int .i64 n, .slice (some ⟨w.heap.size, 0, none⟩) 1 1] (w.alloc (.cells #[.int .u8 c] 5)) fun e w' => e = .returned (.tuple #[]) ∧ RD w' br (l.drop n) (g ++ [UInt8.ofNat c.toNat]) ∧ Below br w w' := by
  have hc : bc [UInt8.ofNat c.toNat] = [.int .u8 c] := by
    have : (UInt8.ofNat c.toNat).toNat = c.toNat := by rw [UInt8.toNat_ofNat']; omega
    simp only [bc, List.map_cons, List.map_nil, this, Int.toNat_of_nonneg h0]
  have hbr : br < w.heap.size := by
    obtain ⟨_, _, _, _, h2, _⟩ := h
    exact heap_lt h2
  have := take_more (w.alloc (.cells #[.int .u8 c] 5)) br n l g [UInt8.ofNat c.toNat] (h.below ((Below.refl _ _).alloc (Nat.le_refl _) _)) hn hl hg ⟨w.heap.size, 0, none⟩ 1 (by simp) (by simp) hbr (by rw [hc]; exact cell_one_new _ _ _)
  refine this.mono fun e w' ⟨h1, h2, h3⟩ => ⟨h1, h2, ((Below.refl br w).alloc (by omega) _).trans h3⟩

def octZ (c : Int) : Bool := decide (48 ≤ c) && decide (c ≤ 55)
set_option maxHeartbeats 400000 in
theorem octal_is (c : Int) (w : World) :
    Calls Tryd.prog 92 #[.int .u8 c] w fun e w' => e = .returned (.bool (octZ c)) ∧ w' = w := by
  obtain ⟨r, hr⟩ : ∃ r, octZ c = r := ⟨_, rfl⟩
  rw [hr]
  unfold octZ at hr
  cases h1 : decide (48 ≤ c) <;> cases h2 : decide (c ≤ 55)
  all_goals
    rw [h1, h2] at hr
    subst hr
    go_enter Tryd.func92, Tryd.ntmps92
    go_wp2_with fail
    go_ret
    exact ⟨rfl, rfl⟩

/-- does the byte ahead stand twice? -/
def dblB : List UInt8 → Bool
  | a :: b :: _ => (b.toNat : Int) == (a.toNat : Int)
  | _ => false
theorem at_0 {s : ByteArray} {a : UInt8} {t : List UInt8} (h : s.data.toList = a :: t) (hs : 0 < s.size) : s[0] = a := by
  obtain ⟨⟨l⟩⟩ := s
  simp at h
  subst h
  rfl
theorem at_1 {s : ByteArray} {a b : UInt8} {t : List UInt8} (h : s.data.toList = a :: b :: t) (hs : 1 < s.size) : s[1] = b := by
  obtain ⟨⟨l⟩⟩ := s
  simp at h
  subst h
  rfl
theorem at_2 {s : ByteArray} {a b c : UInt8} {t : List UInt8} (h : s.data.toList = a :: b :: c :: t) (hs : 2 < s.size) : s[2] = c := by
  obtain ⟨⟨l⟩⟩ := s
  simp at h
  subst h
  rfl

set_option maxHeartbeats 800000 in
theorem doubled_is (w : World) (br : Nat) (l g : List UInt8) (h : RD w br l g) (hl : l.length ≤ 30000) (hne : l ≠ []) :
    Calls Tryd.prog 82 #[.pointer (some ⟨br, 0, none⟩)] w fun e w' => e = .returned (.bool (dblB l)) ∧ ∃ q, w' = w.drewN q := by
  obtain ⟨s, gv, mv, rfl, h2, _, _⟩ := h
  obtain ⟨c0, _, _, f0, _, _⟩ := reader_cells h2
  have hsz : s.data.toList.length = s.size := by simp
  rw [hsz] at hl
  clear h2
  obtain ⟨r, hr⟩ : ∃ r, dblB s.data.toList = r := ⟨_, rfl⟩
  rw [hr]
  rcases hs : s.data.toList with _ | ⟨a, _ | ⟨b, t⟩⟩
  · exact absurd hs hne
  · rw [hs] at hr hsz
    simp [dblB] at hr
    subst hr
    have hd : decide ((1 : Int) < (s.size : Int)) = false := by simp at hsz ⊢; omega
    clear hs hsz hne
    go_enter Tryd.func82, Tryd.ntmps82
    go_wp2_with fail
    go_quiet (fail)
    go_wp2_with fail
    go_ret
    exact ⟨rfl, _, rfl⟩
  · rw [hs] at hr hsz
    have hs1 : 1 < s.size := by simp at hsz; omega
    have hs0 : 0 < s.size := by omega
    have e0 := at_0 hs hs0
    have e1 := at_1 hs hs1
    have hd : decide ((1 : Int) < (s.size : Int)) = true := by simp; omega
    have hr2 : ((b.toNat : Int) == (a.toNat : Int)) = r := hr
    clear hs hsz hne hr
    have HR := Lib.hid hr2
    clear hr2
    go_enter Tryd.func82, Tryd.ntmps82
    go_wp2_with fail
    go_quiet (fail)
    go_wp2_with fail
    go_ret
    exact ⟨by rw [← HR.out]; rfl, _, rfl⟩

end Go.Proofs.YtkbeaddbnnboaaaDoor
