/- The document's examples: what alive builds. Conditions: none. -/
import Derived.Test.YtkidcchafdiofaaTermY
import Derived.Test.YtkidcchafdiofaaTermK
namespace Go.Proofs.Ytkidcchafdiofaa
open Go Go.RowKit

theorem v_is (n : Int) (w : World) : Calls Try.prog 31 #[.int .i64 n] w fun e w' => e = .returned (.agg #[.int .i64 1, .int .i64 n, .string ⟨#[]⟩, .slice none 0 0]) ∧ w.alloc (.cells #[.int .i64 1, .int .i64 n, .string ⟨#[]⟩, .slice none 0 0] 27) = w' := by
  go_enter Try.func31, Try.ntmps31
  go_wp2
  exact bodyPost_ret (v := .agg #[.int .i64 1, .int .i64 n, .string ⟨#[]⟩, .slice none 0 0]) (by simp [results, Try.results31, go_sem]) rfl ⟨rfl, rfl⟩
theorem a_is (s : ByteArray) (w : World) : Calls Try.prog 32 #[.string s] w fun e w' => e = .returned (.agg #[.int .i64 3, .int .i64 0, .string s, .slice none 0 0]) ∧ w.alloc (.cells #[.int .i64 3, .int .i64 0, .string s, .slice none 0 0] 27) = w' := by
  go_enter Try.func32, Try.ntmps32
  go_wp2
  exact bodyPost_ret (v := .agg #[.int .i64 3, .int .i64 0, .string s, .slice none 0 0]) (by simp [results, Try.results32, go_sem]) rfl ⟨rfl, rfl⟩
theorem f_is (s : ByteArray) (x : Option Addr) (n c : Nat) (w : World) : Calls Try.prog 30 #[.string s, .slice x n c] w fun e w' => e = .returned (.agg #[.int .i64 4, .int .i64 0, .string s, .slice x n c]) ∧ w.alloc (.cells #[.int .i64 4, .int .i64 0, .string s, .slice x n c] 27) = w' := by
  go_enter Try.func30, Try.ntmps30
  go_wp2
  exact bodyPost_ret (v := .agg #[.int .i64 4, .int .i64 0, .string s, .slice x n c]) (by simp [results, Try.results30, go_sem]) rfl ⟨rfl, rfl⟩

def vT (n : Int) : AT := .mk 1 n ⟨#[]⟩ (.slice none 0 0) 0 0 []
def aT (s : ByteArray) : AT := .mk 3 0 s (.slice none 0 0) 0 0 []
def fT (s : ByteArray) (b : Nat) (l : List AT) : AT := .mk 4 0 s (.slice (some ⟨b, 0, none⟩) l.length l.length) b 0 l
/-- the example's term -/
def exT (b1 b2 : Nat) (x y z : Int) : AT := fT ⟨#[102]⟩ b2 [vT x, fT ⟨#[103]⟩ b1 [vT y, vT z]]
theorem f_mem {w : World} {s : ByteArray} {b : Nat} {l : List AT} {T : TypeId} (h : w.heap[b]? = some (.cells (headCells l).toArray T (0, 0))) (hl : l.length ≤ 1000) (hm : ∀ t ∈ l, t.mem w) : (fT s b l).mem w :=
  ⟨.inr ⟨l.length, rfl, Nat.le_refl _, by unfold maxLen; omega⟩, mem_row h l 0 (fun j hj => by simp) hm⟩
theorem v_mem (w : World) (n : Int) : (vT n).mem w := ⟨.inl ⟨rfl, rfl⟩, trivial⟩
theorem a_mem (w : World) (s : ByteArray) : (aT s).mem w := ⟨.inl ⟨rfl, rfl⟩, trivial⟩
theorem ex_mem {w : World} {b1 b2 : Nat} {x y z : Int} {T : TypeId} (h1 : w.heap[b1]? = some (.cells #[.int .i64 1, .int .i64 y, .string ⟨#[]⟩, .slice none 0 0, .int .i64 1, .int .i64 z, .string ⟨#[]⟩, .slice none 0 0] T (0, 0)))
    (h2 : w.heap[b2]? = some (.cells #[.int .i64 1, .int .i64 x, .string ⟨#[]⟩, .slice none 0 0, .int .i64 4, .int .i64 0, .string ⟨#[103]⟩, .slice (some ⟨b1, 0, none⟩) 2 2] T (0, 0))) : (exT b1 b2 x y z).mem w := by
  refine f_mem h2 (by simp) (fun t ht => ?_)
  simp at ht
  rcases ht with rfl | rfl
  · exact v_mem _ _
  · refine f_mem h1 (by simp) (fun t ht => ?_)
    simp at ht
    rcases ht with rfl | rfl <;> exact v_mem _ _
theorem ex_vars (b1 b2 : Nat) : varsT (exT b1 b2 7 2 7) = [7, 2] := rfl
theorem ex_nodes (b1 b2 : Nat) (x y z : Int) : (exT b1 b2 x y z).nodes = 5 := rfl
theorem ex_ren (b1 b2 c1 c2 : Nat) : (exT b1 b2 7 2 7).erase.ren [7, 2] = (exT c1 c2 0 1 0).erase := rfl
theorem may_v {n : Int} (h : 0 ≤ n) : mayB 1 n ⟨#[]⟩ 0 = true := by
  unfold mayB
  have h2 : (⟨#[]⟩ : ByteArray).toList = [] := by rw [ByteArray.toList_eq]
  rw [if_pos rfl, h2]
  simp [h]
theorem ex_ok (b b1 b2 : Nat) : okL (argL b (exT b1 b2 7 2 7)) = true := by
  have h : okL (argL b (exT b1 b2 7 2 7)) = (mayB 4 0 ⟨#[102]⟩ 2 && (mayB 1 7 ⟨#[]⟩ 0 && (mayB 4 0 ⟨#[103]⟩ 2 && (mayB 1 2 ⟨#[]⟩ 0 && (mayB 1 7 ⟨#[]⟩ 0 && true))))) := rfl
  rw [h, may_v (by omega), may_v (by omega)]
  rfl
theorem ex_deep (b b1 b2 : Nat) : dmx (argL b (exT b1 b2 7 2 7)) 5 = 3 := rfl
theorem ex_cmp (b1 b2 : Nat) : cmpT (fT ⟨#[102]⟩ b1 [aT ⟨#[97]⟩, aT ⟨#[98]⟩]) (fT ⟨#[103]⟩ b2 [aT ⟨#[99]⟩]) = 1 := rfl
theorem ex_n (b1 b2 : Nat) : ∀ u ∈ exT b1 b2 7 2 7 :: (exT b1 b2 7 2 7).parts, R64 u.n := by
  intro u hu
  simp [exT, fT, vT, AT.parts, ATs.parts] at hu
  rcases hu with rfl | rfl | rfl | rfl | rfl <;> exact ⟨by simp [AT.n], by simp [AT.n]⟩
theorem ex_s (b1 b2 : Nat) : ∀ u ∈ exT b1 b2 7 2 7 :: (exT b1 b2 7 2 7).parts, u.s.size ≤ 281474976710656 := by
  intro u hu
  simp [exT, fT, vT, AT.parts, ATs.parts] at hu
  rcases hu with rfl | rfl | rfl | rfl | rfl <;> simp [AT.s, ByteArray.size]
mutual
theorem AT.same_erase : ∀ (t u : AT), t.erase = u.erase → t.same u = true
  | .mk k n s sv G off l, u, h => by
    rw [AT.erase_mk (t := u), AT.erase] at h
    simp only [Tm.mk.injEq] at h
    obtain ⟨h1, h2, h3, h4⟩ := h
    rw [AT.same, h1, h2, h3, ATs.same_erase l u.l h4]
    have := congrArg List.length h4
    rw [erase_len, erase_len] at this
    simp [this]
theorem ATs.same_erase : ∀ (l m : List AT), ATs.erase l = ATs.erase m → ATs.same l m = true
  | [], _, _ => rfl
  | t :: r, [], h => by simp [ATs.erase] at h
  | t :: r, u :: v, h => by
    simp only [ATs.erase, List.cons.injEq] at h
    rw [ATs.same, AT.same_erase t u h.1, ATs.same_erase r v h.2]; rfl
end

end Go.Proofs.Ytkidcchafdiofaa
