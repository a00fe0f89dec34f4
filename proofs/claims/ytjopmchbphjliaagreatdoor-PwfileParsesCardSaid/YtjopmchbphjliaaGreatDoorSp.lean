/- A text cut at each byte of one kind: plain facts. -/
import Derived.Test.YtjopmchbphjliaaGreatDoorPaS
import Derived.Lib.SplitLaws
namespace Go.Proofs.YtjopmchbphjliaaGreatDoor
open Go

/-- the parts between bytes c, empty ones too. -/
def spt (c : UInt8) : List UInt8 → List (List UInt8)
  | [] => [[]]
  | b :: r => if b = c then [] :: spt c r else glue [b] (spt c r)
theorem spt_eq (c : UInt8) (r : List UInt8) : spt c (c :: r) = [] :: spt c r := by rw [spt, if_pos rfl]
theorem spt_cons (c b : UInt8) (r : List UInt8) (h : b ≠ c) : spt c (b :: r) = glue [b] (spt c r) := by rw [spt, if_neg h]
theorem splitK_glue (c b : UInt8) (r : List UInt8) (h : b ≠ c) (k : Nat) : Lib.splitK [c] 0 k (b :: r) = glue [b] (Lib.splitK [c] 0 k r) := by
  cases k with
  | zero => rfl
  | succ k =>
    have hge := Lib.indexByte_ge r c
    have hb : (b == c) = false := beq_eq_false_iff_ne.2 h
    by_cases hi : Lib.indexByte r c = -1
    · have h2 : Lib.indexByte (b :: r) c = -1 := by rw [Lib.indexByte, hb, if_neg Bool.false_ne_true, hi]; rfl
      unfold Lib.splitK
      rw [Lib.index_one, Lib.index_one, h2, hi]; rfl
    · obtain ⟨n, hn⟩ : ∃ n : Nat, Lib.indexByte r c = n := ⟨(Lib.indexByte r c).toNat, by omega⟩
      have hn1 : ((n : Int) == -1) = false := by rw [beq_eq_false_iff_ne]; omega
      have hn2 : ((n : Int) + 1 == -1) = false := by rw [beq_eq_false_iff_ne]; omega
      have h2 : Lib.indexByte (b :: r) c = (n : Int) + 1 := by rw [Lib.indexByte, hb, if_neg Bool.false_ne_true, hn, hn1]; rfl
      unfold Lib.splitK
      rw [Lib.index_one, Lib.index_one, h2, hn, hn1, hn2, if_neg Bool.false_ne_true, if_neg Bool.false_ne_true]
      rw [show ((n : Int) + 1).toNat = n + 1 by omega, show (n : Int).toNat = n by omega]
      rfl
theorem splitK_spt (c : UInt8) (l : List UInt8) : Lib.splitK [c] 0 (l.count c) l = spt c l := by
  induction l with
  | nil => rfl
  | cons b r ih =>
    by_cases h : b = c
    · subst h
      rw [spt_eq, List.count_cons_self, ← ih]
      have h2 : Lib.indexByte (b :: r) b = 0 := by rw [Lib.indexByte, beq_self_eq_true, if_pos rfl]
      show Lib.splitK [b] 0 (List.count b r + 1) (b :: r) = _
      rw [Lib.splitK, Lib.index_one, h2]
      rfl
    · rw [spt_cons c b r h, List.count_cons_of_ne h, splitK_glue c b r h, ih]
theorem spt_plain (c : UInt8) (a : List UInt8) (h : ∀ x ∈ a, x ≠ c) : spt c a = [a] := by
  induction a with
  | nil => rfl
  | cons b r ih =>
    rw [spt_cons c b r (h b (by simp)), ih (fun x hx => h x (by simp [hx]))]; rfl
theorem spt_app (c : UInt8) (a r : List UInt8) (h : ∀ x ∈ a, x ≠ c) : spt c (a ++ c :: r) = a :: spt c r := by
  induction a with
  | nil => exact spt_eq c r
  | cons b t ih =>
    rw [List.cons_append, spt_cons c b _ (h b (by simp)), ih (fun x hx => h x (by simp [hx]))]; rfl
/-- the parts, as strings. -/
def partsB (s : ByteArray) : List ByteArray := Lib.splitB ⟨#[58]⟩ 0 (Lib.countB s ⟨#[58]⟩) s
theorem countB_58 (s : ByteArray) : Lib.countB s ⟨#[58]⟩ = s.data.toList.count 58 := by
  show Lib.count s.data.toList [58] = _
  exact Lib.count_one 58 _
theorem partsB_data (s : ByteArray) : (partsB s).map (·.data.toList) = spt 58 s.data.toList := by
  unfold partsB
  rw [Lib.splitB_data, countB_58]
  exact splitK_spt 58 _
theorem partsB_len (s : ByteArray) : (partsB s).length = Lib.countB s ⟨#[58]⟩ + 1 := Lib.splitB_all ⟨#[58]⟩ (by decide) 0 _ s rfl
end Go.Proofs.YtjopmchbphjliaaGreatDoor
