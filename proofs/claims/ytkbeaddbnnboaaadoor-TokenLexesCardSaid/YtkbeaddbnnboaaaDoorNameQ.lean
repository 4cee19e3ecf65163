/- What Put writes in quotes Get reads, on lists of bytes (plain mathematics). Conditions: none. -/
import Derived.Test.YtkbeaddbnnboaaaDoorNameN
namespace Go.Proofs.YtkbeaddbnnboaaaDoor
open Go Go.RowKit

theorem index_app : ∀ (d rest : List UInt8), (∀ b ∈ d, b ≠ 92) → Lib.indexByte (d ++ 92 :: rest) 92 = (d.length : Int)
  | [], rest, _ => by simp [Lib.indexByte]
  | b :: d, rest, h => by
    have ih := index_app d rest (fun x hx => h x (List.mem_cons_of_mem _ hx))
    have hb : (b == 92) = false := beq_eq_false_iff_ne.2 (h b (List.mem_cons_self ..))
    show (if b == 92 then (0 : Int) else if Lib.indexByte (d ++ 92 :: rest) 92 == -1 then -1 else Lib.indexByte (d ++ 92 :: rest) 92 + 1) = _
    rw [ih, hb]
    have : ((d.length : Int) == -1) = false := beq_eq_false_iff_ne.2 (by omega)
    rw [this]
    simp
theorem numAt_dig {base n : Int} {d : List UInt8} (rest : List UInt8) (hd : ∀ b ∈ d, b ≠ 92) (h : numR base d = some n) : numAt base (d ++ 92 :: rest) = some (UInt8.ofNat n.toNat, d.length + 1) := by
  unfold numAt
  rw [index_app d rest hd, if_neg (by omega), Int.toNat_natCast, List.take_left, h]

theorem hexL_ok : ∀ k : Fin 256, numR 16 (hexL k.val) = some (k.val : Int) ∧ (hexL k.val).all (fun b => b != 92) = true := by decide +kernel
theorem hex_read (c : UInt8) (rest : List UInt8) : numAt 16 (hexL c.toNat ++ 92 :: rest) = some (c, (hexL c.toNat).length + 1) := by
  obtain ⟨h1, h2⟩ := hexL_ok ⟨c.toNat, c.toNat_lt⟩
  rw [numAt_dig rest (fun b hb => by simpa using List.all_eq_true.1 h2 b hb) h1]
  simp

theorem back_step (c : UInt8) (rest : List UInt8) : stepF 39 (putC c ++ rest) = .go [c] (putC c).length := by
  unfold putC
  by_cases hO : wrO (c.toNat : Int) = true
  · rw [if_pos hO]
    have hc : c = 39 ∨ c = 92 ∨ c = 10 ∨ c = 9 := by
      unfold wrO at hO
      simp at hO
      rcases hO with ((h | h) | h) | h
      · exact .inl (UInt8.toNat_inj.1 (by show _ = 39; omega))
      · exact .inr (.inl (UInt8.toNat_inj.1 (by show _ = 92; omega)))
      · exact .inr (.inr (.inl (UInt8.toNat_inj.1 (by show _ = 10; omega))))
      · exact .inr (.inr (.inr (UInt8.toNat_inj.1 (by show _ = 9; omega))))
    rcases hc with rfl | rfl | rfl | rfl <;> rfl
  · rw [if_neg hO]
    split
    · have e0 : [92, 120] ++ hexL c.toNat ++ [92] ++ rest = 92 :: 120 :: (hexL c.toNat ++ 92 :: rest) := by simp
      rw [e0]
      have h := hex_read c rest
      generalize hexL c.toNat ++ 92 :: rest = T at *
      have he : escF (92 :: 120 :: T) = some ([c], 2 + ((hexL c.toNat).length + 1)) := by
        rw [show escF (92 :: 120 :: T) = escT 120 T from rfl]
        unfold escT
        rw [if_neg (by decide), if_pos (by decide), h]
      rw [show stepF 39 (92 :: 120 :: T) = stepC 39 92 (120 :: T) from rfl]
      unfold stepC
      rw [if_neg (by decide), if_pos (by decide), he]
      simp
      omega
    · rename_i h2
      unfold wrO at hO
      simp at hO
      obtain ⟨⟨⟨h39, h92⟩, h10⟩, _⟩ := hO
      show stepC 39 c rest = _
      unfold stepC
      rw [if_neg (by simpa using h39), if_neg (by simpa using h92), if_neg (by simpa using h10)]
      rfl
theorem back_end (more : List UInt8) (h : more.head? ≠ some 39) : stepF 39 (39 :: more) = .done := by
  show stepC 39 39 more = _
  unfold stepC
  rw [if_pos (by decide)]
  match more, h with
  | [], _ => rfl
  | b :: t, h =>
    have hb : ((b.toNat : Int) == ((39 : UInt8).toNat : Int)) = false := beq_eq_false_iff_ne.2 (fun e => h (by
      have : b = 39 := UInt8.toNat_inj.1 (by show _ = 39; have : ((39 : UInt8).toNat : Int) = 39 := rfl; omega)
      rw [this]; rfl))
    rw [show dblB (39 :: b :: t) = ((b.toNat : Int) == ((39 : UInt8).toNat : Int)) from rfl, hb]
    rfl
theorem back_get (more : List UInt8) (h : more.head? ≠ some 39) : ∀ (l acc : List UInt8) (m : Nat),
    getF 39 ((l.flatMap putC ++ 39 :: more).length + 1) (l.flatMap putC ++ 39 :: more) acc m = some (acc ++ l, m + (l.flatMap putC).length + 1)
  | [], acc, m => by
    rw [List.flatMap_nil, List.nil_append, getF_done (back_end more h)]
    simp
  | c :: l, acc, m => by
    have hs : stepF 39 ((c :: l).flatMap putC ++ 39 :: more) = .go [c] (putC c).length := by
      rw [List.flatMap_cons, List.append_assoc]
      exact back_step c _
    rw [getF_go hs]
    rw [show ((c :: l).flatMap putC ++ 39 :: more).drop (putC c).length = l.flatMap putC ++ 39 :: more by rw [List.flatMap_cons, List.append_assoc, List.drop_left]]
    rw [back_get more h l]
    simp
    omega
theorem back_all (l more : List UInt8) (h : more.head? ≠ some 39) : getL 39 (l.flatMap putC ++ 39 :: more) = some (l, (l.flatMap putC).length + 1) := by
  unfold getL
  rw [back_get more h]
  simp

end Go.Proofs.YtkbeaddbnnboaaaDoor
