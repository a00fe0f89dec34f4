/- Where the last stroke of a text stands; its end without strokes: plain facts on lists. -/
import Derived.Test.YtjopmchbphjliaaGreatDoorPaS
import Derived.Lib.LastIndexByte
namespace Go.Proofs.YtjopmchbphjliaaGreatDoor
open Go

theorem tw_all (p : UInt8 → Bool) (l : List UInt8) (h : ∀ c ∈ l, p c = true) : l.takeWhile p = l := by
  induction l with
  | nil => rfl
  | cons c r ih => rw [List.takeWhile_cons, if_pos (h c (by simp)), ih (fun x hx => h x (by simp [hx]))]
theorem tw_mem (p : UInt8 → Bool) (l : List UInt8) : ∀ c ∈ l.takeWhile p, p c = true := by
  induction l with
  | nil => intro c hc; cases hc
  | cons x r ih =>
    intro c hc
    rw [List.takeWhile_cons] at hc
    by_cases hx : p x = true
    · rw [if_pos hx] at hc
      rcases List.mem_cons.1 hc with rfl | hc
      · exact hx
      · exact ih c hc
    · rw [if_neg hx] at hc; cases hc
theorem up_tail (l : List UInt8) : upS l ++ tailS l = l := by
  unfold upS tailS
  rw [← List.reverse_append, List.takeWhile_append_dropWhile, List.reverse_reverse]
theorem tail_plain (l : List UInt8) (h : ∀ c ∈ l, c ≠ 47) : tailS l = l ∧ upS l = [] := by
  have e : tailS l = l := by
    unfold tailS
    have : l.reverse.takeWhile (· != 47) = l.reverse := tw_all _ _ (fun c hc => by simpa using h c (by simpa using hc))
    rw [this, List.reverse_reverse]
  refine ⟨e, ?_⟩
  have := up_tail l
  rw [e] at this
  simpa using this
theorem tail_of (a b : List UInt8) (h : ∀ c ∈ b, c ≠ 47) : tailS (a ++ 47 :: b) = b ∧ upS (a ++ 47 :: b) = a ++ [47] := by
  have e : tailS (a ++ 47 :: b) = b := by
    unfold tailS
    have : (a ++ 47 :: b).reverse = b.reverse ++ 47 :: a.reverse := by simp
    rw [this, List.takeWhile_append_of_pos (by intro c hc; simpa using h c (by simpa using hc)), List.takeWhile_cons]
    simp
  refine ⟨e, ?_⟩
  have := up_tail (a ++ 47 :: b)
  rw [e] at this
  have h2 : upS (a ++ 47 :: b) ++ b = (a ++ [47]) ++ b := by rw [this]; simp
  exact List.append_cancel_right h2
theorem last_split (l : List UInt8) : (∀ c ∈ l, c ≠ 47) ∨ ∃ a b, l = a ++ 47 :: b ∧ ∀ c ∈ b, c ≠ 47 := by
  induction l with
  | nil => exact Or.inl (fun c hc => by cases hc)
  | cons x r ih =>
    rcases ih with h | ⟨a, b, rfl, h⟩
    · by_cases hx : x = 47
      · subst hx; exact Or.inr ⟨[], r, rfl, h⟩
      · refine Or.inl (fun c hc => ?_)
        rcases List.mem_cons.1 hc with rfl | hc
        · exact hx
        · exact h c hc
    · exact Or.inr ⟨x :: a, b, rfl, h⟩
theorem lastP_tail (l : List UInt8) : lastP l = tailS l := by
  unfold lastP
  rcases last_split l with h | ⟨a, b, rfl, h⟩
  · rw [spl_one l h, (tail_plain l h).1]; rfl
  · rw [spl_append, spl_one b h, (tail_of a b h).1]; simp
theorem tail_clean (l : List UInt8) : ∀ c ∈ tailS l, c ≠ 47 := by
  rcases last_split l with h | ⟨a, b, rfl, h⟩
  · rw [(tail_plain l h).1]; exact h
  · rw [(tail_of a b h).1]; exact h
theorem up_end (l : List UInt8) : upS l = [] ∨ (upS l).getLast? = some 47 := by
  rcases last_split l with h | ⟨a, b, rfl, h⟩
  · exact Or.inl (tail_plain l h).2
  · right; rw [(tail_of a b h).2]; simp
theorem bang_at (s : ByteArray) (j : Nat) (h : j < s.data.toList.length) : s.data[j]! = s.data.toList[j] := by
  have h' : j < s.data.size := by simpa using h
  rw [getElem!_pos s.data j h']; simp
theorem lastIdx_take (s : ByteArray) (k : Nat) (hk : k ≤ s.data.toList.length) : Lib.lastIdx s 47 k = ((upS (s.data.toList.take k)).length : Int) - 1 := by
  induction k with
  | zero => rfl
  | succ k ih =>
    have hj : k < s.data.toList.length := by omega
    have e : s.data.toList.take (k + 1) = s.data.toList.take k ++ [s.data.toList[k]] := List.take_succ_eq_append_getElem hj
    unfold Lib.lastIdx
    rw [bang_at s k hj, e]
    by_cases h : s.data.toList[k] = 47
    · rw [if_pos (by rw [h]; rfl), h, (tail_of _ [] (fun c hc => by cases hc)).2]
      rw [List.length_append, List.length_take, Nat.min_eq_left (by omega)]; show (k : Int) = ((k + 1 : Nat) : Int) - 1; omega
    · rw [if_neg (fun x => h (UInt8.toNat_inj.1 (by show (s.data.toList[k]).toNat = 47; omega))), ih (by omega)]
      have e2 : upS (s.data.toList.take k ++ [s.data.toList[k]]) = upS (s.data.toList.take k) := by
        unfold upS
        rw [List.reverse_append, List.reverse_singleton, List.singleton_append, List.dropWhile_cons, if_pos (by simpa using h)]
      rw [e2]
theorem lastIdx_up (s : ByteArray) : Lib.lastIndexByte s 47 = ((upS s.data.toList).length : Int) - 1 := by
  have h : s.size = s.data.toList.length := by simp
  unfold Lib.lastIndexByte
  rw [lastIdx_take s s.size (by omega), List.take_of_length_le (by omega)]
theorem drop_up (l : List UInt8) : l.drop (upS l).length = tailS l := by
  have := up_tail l
  rw [← this]
  have h2 : (upS (upS l ++ tailS l)).length = (upS l).length := by rw [this]
  rw [h2, List.drop_left]
  rw [this]
theorem take_up (l : List UInt8) : l.take (upS l).length = upS l := by
  have := up_tail l
  have h3 : (upS l ++ tailS l).take (upS l).length = upS l := List.take_left
  rw [this] at h3; exact h3
theorem up_len (l : List UInt8) : (upS l).length ≤ l.length := by
  have := congrArg List.length (up_tail l)
  rw [List.length_append] at this; omega
theorem trim_split (l : List UInt8) : ∃ k, l = trimS l ++ List.replicate k 47 ∧ (trimS l = [] ∨ (trimS l).getLast? ≠ some 47) := by
  unfold trimS Lib.trimRightB
  have h := List.takeWhile_append_dropWhile (p := (· == (47 : UInt8))) (l := l.reverse)
  refine ⟨(l.reverse.takeWhile (· == 47)).length, ?_, ?_⟩
  · have ht : l.reverse.takeWhile (· == 47) = List.replicate (l.reverse.takeWhile (· == 47)).length 47 := by
      rw [List.eq_replicate_iff]
      refine ⟨rfl, fun b hb => ?_⟩
      simpa using tw_mem _ _ b hb
    have h2 := congrArg List.reverse h
    rw [List.reverse_append, List.reverse_reverse] at h2
    rw [ht, List.reverse_replicate] at h2
    exact h2.symm
  · cases hd : l.reverse.dropWhile (· == 47) with
    | nil => left; rfl
    | cons c r =>
      right
      rw [List.getLast?_reverse, List.head?_cons]
      have := List.head?_dropWhile_not (· == (47 : UInt8)) l.reverse
      rw [hd] at this
      intro e
      simp at this e
      exact this e
end Go.Proofs.YtjopmchbphjliaaGreatDoor
