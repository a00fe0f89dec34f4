/- Plain facts: what changes that set, add and take rights of all three classes give. -/
import Derived.Test.YtmjjhoaplcjjcaaM4
namespace Go.Proofs.Ytmjjhoaplcjjcaa
open Go

def ltrL (x : Nat) : List UInt8 := (if x.testBit 2 then [114] else []) ++ ((if x.testBit 1 then [119] else []) ++ (if x.testBit 0 then [120] else []))
def litv (x : Nat) : Nat := (if x.testBit 2 then 292 else 0) ||| ((if x.testBit 1 then 146 else 0) ||| (if x.testBit 0 then 73 else 0))
theorem lit_r (m : Int) (dir : Bool) : litOf m dir 114 = some 292 := rfl
theorem lit_w (m : Int) (dir : Bool) : litOf m dir 119 = some 146 := rfl
theorem lit_x (m : Int) (dir : Bool) : litOf m dir 120 = some 73 := rfl
theorem take_ltr (m : Int) (dir : Bool) (x : Nat) : takeF (litOf m dir) (ltrL x) 0 = (litv x, []) := by
  unfold ltrL litv
  cases x.testBit 2 <;> cases x.testBit 1 <;> cases x.testBit 0 <;> simp [takeF, lit_r, lit_w, lit_x]
theorem ltr_noc (x : Nat) : ∀ a ∈ ltrL x, (a != 44) = true := by
  unfold ltrL
  cases x.testBit 2 <;> cases x.testBit 1 <;> cases x.testBit 0 <;> simp <;> decide
theorem ltr_len (x : Nat) : (ltrL x).length ≤ 3 := by
  unfold ltrL
  cases x.testBit 2 <;> cases x.testBit 1 <;> cases x.testBit 0 <;> simp
/-- one clause of one class, a sign and letters. -/
theorem clause_one (c sg : UInt8) (K x : Nat) (m : Int) (dir : Bool) (hc : clsOf c = some K) (hs : clsOf sg = none) : clauseS (c :: sg :: ltrL x) m dir = applyS K (litv x) sg m := by
  have e : splitS (c :: sg :: ltrL x) = (K, sg :: ltrL x) := by
    unfold splitS
    simp [hc, takeF, hs]
  unfold clauseS
  rw [e, if_neg (by simp)]
  show actS K dir ((ltrL x).length + 1) (sg :: ltrL x) m = _
  rw [actS, take_ltr]
  cases h : applyS K (litv x) sg m with
  | none => rfl
  | some y => simp only []; cases (ltrL x).length <;> rfl
theorem head_app (A B : List UInt8) (h : ∀ a ∈ A, (a != 44) = true) : headS (A ++ 44 :: B) = A := by
  unfold headS
  rw [List.takeWhile_append_of_pos h]
  simp
theorem head_all (A : List UInt8) (h : ∀ a ∈ A, (a != 44) = true) : headS A = A := by
  induction A with
  | nil => rfl
  | cons c r ih =>
    rw [headS_cons, if_neg (by have := h c (List.mem_cons_self ..); simpa using this), ih (fun a ha => h a (List.mem_cons_of_mem _ ha))]
theorem chg_more (dir : Bool) (f : Nat) (A B : List UInt8) (m y : Int) (h : ∀ a ∈ A, (a != 44) = true) (hc : clauseS A m dir = some y) : chgS dir (f + 1) (A ++ 44 :: B) m = chgS dir f B y := by
  rw [chgS, head_app A B h, hc]
  simp
theorem chg_one (dir : Bool) (f : Nat) (A : List UInt8) (m y : Int) (h : ∀ a ∈ A, (a != 44) = true) (hc : clauseS A m dir = some y) : chgS dir (f + 1) A m = some y := by
  rw [chgS, head_all A h, hc]
  simp
def setL (sg : UInt8) (u g o : Nat) : List UInt8 := (117 :: sg :: ltrL u) ++ 44 :: ((103 :: sg :: ltrL g) ++ 44 :: (111 :: sg :: ltrL o))
theorem set_change (sg : UInt8) (u g o : Nat) (n : Nat) (dir : Bool) (y1 y2 y3 : Int) (hn : n < 4096) (hn2 : n &&& 3071 = n) (hs : clsOf sg = none) (hs2 : (sg != 44) = true)
    (h1 : applyS 2496 (litv u) sg (n : Int) = some y1) (h2 : applyS 56 (litv g) sg y1 = some y2) (h3 : applyS 519 (litv o) sg y2 = some y3) : changeS (setL sg u g o) (n : Int) dir = some y3 := by
  have noc : ∀ (c : UInt8) (x : Nat), (c != 44) = true → ∀ a ∈ (c :: sg :: ltrL x), (a != 44) = true := by
    intro c x hc a ha
    rcases List.mem_cons.1 ha with rfl | ha
    · exact hc
    · rcases List.mem_cons.1 ha with rfl | ha
      · exact hs2
      · exact ltr_noc x a ha
  have hl : octS (setL sg u g o) = none := by
    unfold octS
    rw [if_neg]
    simp [setL]; omega
  unfold changeS
  rw [if_pos (right_of n hn hn2), hl]
  obtain ⟨f, hf⟩ : ∃ f, (setL sg u g o).length + 1 = f + 1 + 1 + 1 := ⟨(setL sg u g o).length - 2, by simp [setL]⟩
  rw [hf]
  unfold setL
  rw [chg_more dir _ _ _ _ y1 (noc 117 u rfl) (by rw [clause_one 117 sg 2496 u _ _ rfl hs, h1])]
  rw [chg_more dir _ _ _ _ y2 (noc 103 g rfl) (by rw [clause_one 103 sg 56 g _ _ rfl hs, h2])]
  exact chg_one dir _ _ _ y3 (noc 111 o rfl) (by rw [clause_one 111 sg 519 o _ _ rfl hs, h3])

theorem litv_lt : ∀ x : Fin 8, litv x.val < 4096 := by decide
def uN (x : Nat) : Nat := litv x &&& 2496
def gN (x : Nat) : Nat := litv x &&& 56
def oN (x : Nat) : Nat := litv x &&& 519
theorem rights_nat : ∀ u g o : Fin 8, uN u.val ||| (gN g.val ||| oN o.val) = u.val * 64 + g.val * 8 + o.val ∧
    (18446744073709551615 - uN u.val) &&& ((18446744073709551615 - gN g.val) &&& (18446744073709551615 - oN o.val)) = 18446744073709551615 - (u.val * 64 + g.val * 8 + o.val) := by decide +kernel
theorem parts_nat : ∀ x : Fin 8, uN x.val < 4096 ∧ gN x.val < 4096 ∧ oN x.val < 4096 ∧ uN x.val &&& ((18446744073709551615 - 56) &&& (18446744073709551615 - 519)) = uN x.val ∧ gN x.val &&& (18446744073709551615 - 519) = gN x.val := by decide +kernel
theorem bits_K (x : Nat) (hx : x < 8) : bits .and .i64 (litv x : Int) ((2496 : Nat) : Int) = (uN x : Int) ∧ bits .and .i64 (litv x : Int) ((56 : Nat) : Int) = (gN x : Int) ∧ bits .and .i64 (litv x : Int) ((519 : Nat) : Int) = (oN x : Int) := by
  have := litv_lt ⟨x, hx⟩
  simp only [] at this
  exact ⟨and_nat _ _ (by omega) (by decide), and_nat _ _ (by omega) (by decide), and_nat _ _ (by omega) (by decide)⟩
theorem and_lt (a b : Nat) (h : a < 4096) : a &&& b < 4096 := Nat.lt_of_le_of_lt Nat.and_le_left h

theorem plus_all (u g o n : Nat) (dir : Bool) (hu : u < 8) (hg : g < 8) (ho : o < 8) (hn : n < 4096) (hn2 : n &&& 3071 = n) :
    changeS (setL 43 u g o) (n : Int) dir = some (bits .or .i64 (n : Int) ((u * 64 + g * 8 + o : Nat) : Int)) := by
  obtain ⟨p1, _, _, _, _⟩ := parts_nat ⟨u, hu⟩
  obtain ⟨_, p2, _, _, _⟩ := parts_nat ⟨g, hg⟩
  obtain ⟨_, _, p3, _, _⟩ := parts_nat ⟨o, ho⟩
  simp only [] at p1 p2 p3
  have r := (rights_nat ⟨u, hu⟩ ⟨g, hg⟩ ⟨o, ho⟩).1
  simp only [] at r
  have l1 := or_lt n (uN u) hn p1
  have l2 := or_lt (n ||| uN u) (gN g) l1 p2
  refine set_change 43 u g o n dir ((n ||| uN u : Nat) : Int) (((n ||| uN u) ||| gN g : Nat) : Int) _ hn hn2 rfl rfl ?_ ?_ ?_
  · unfold applyS; rw [if_pos rfl, (bits_K u hu).1, or_nat _ _ (by omega) (by omega)]
  · unfold applyS; rw [if_pos rfl, (bits_K g hg).2.1, or_nat _ _ (by omega) (by omega)]
  · unfold applyS; rw [if_pos rfl, (bits_K o ho).2.2, or_nat _ _ (by omega) (by omega), ← r, or_nat _ _ (by omega) (Nat.lt_trans (or_lt _ _ p1 (or_lt _ _ p2 p3)) (by decide))]
    rw [Nat.or_assoc, Nat.or_assoc]
theorem minus_all (u g o n : Nat) (dir : Bool) (hu : u < 8) (hg : g < 8) (ho : o < 8) (hn : n < 4096) (hn2 : n &&& 3071 = n) :
    changeS (setL 45 u g o) (n : Int) dir = some (bits .andNot .i64 (n : Int) ((u * 64 + g * 8 + o : Nat) : Int)) := by
  obtain ⟨p1, _, _, _, _⟩ := parts_nat ⟨u, hu⟩
  obtain ⟨_, p2, _, _, _⟩ := parts_nat ⟨g, hg⟩
  obtain ⟨_, _, p3, _, _⟩ := parts_nat ⟨o, ho⟩
  simp only [] at p1 p2 p3
  have r := (rights_nat ⟨u, hu⟩ ⟨g, hg⟩ ⟨o, ho⟩).2
  simp only [] at r
  have l1 := and_lt n (18446744073709551615 - uN u) hn
  have l2 := and_lt _ (18446744073709551615 - gN g) l1
  refine set_change 45 u g o n dir ((n &&& (18446744073709551615 - uN u) : Nat) : Int) (((n &&& (18446744073709551615 - uN u)) &&& (18446744073709551615 - gN g) : Nat) : Int) _ hn hn2 rfl rfl ?_ ?_ ?_
  · unfold applyS; rw [if_neg (by decide), if_pos rfl, (bits_K u hu).1, andNot_nat _ _ (by omega) (by omega)]
  · unfold applyS; rw [if_neg (by decide), if_pos rfl, (bits_K g hg).2.1, andNot_nat _ _ (by omega) (by omega)]
  · unfold applyS; rw [if_neg (by decide), if_pos rfl, (bits_K o ho).2.2, andNot_nat _ _ (by omega) (by omega), andNot_nat _ _ (by omega) (by omega), ← r]
    rw [Nat.and_assoc, Nat.and_assoc]
theorem equal_all (u g o n : Nat) (dir : Bool) (hu : u < 8) (hg : g < 8) (ho : o < 8) (hn : n < 4096) (hn2 : n &&& 3071 = n) :
    changeS (setL 61 u g o) (n : Int) dir = some ((u * 64 + g * 8 + o : Nat) : Int) := by
  obtain ⟨p1, _, _, k1, _⟩ := parts_nat ⟨u, hu⟩
  obtain ⟨_, p2, _, _, k2⟩ := parts_nat ⟨g, hg⟩
  obtain ⟨_, _, p3, _, _⟩ := parts_nat ⟨o, ho⟩
  simp only [] at p1 p2 p3 k1 k2
  have r := (rights_nat ⟨u, hu⟩ ⟨g, hg⟩ ⟨o, ho⟩).1
  simp only [] at r
  have l1 := or_lt _ (uN u) (and_lt n (18446744073709551615 - 2496) hn) p1
  have l2 := or_lt _ (gN g) (and_lt _ (18446744073709551615 - 56) l1) p2
  have l3 := and_lt _ (18446744073709551615 - 519) l2
  have step : ∀ (x K b : Nat), x < 4096 → K < 4096 → b < 4096 → bits .or .i64 (bits .andNot .i64 (x : Int) (K : Int)) (b : Int) = (((x &&& (18446744073709551615 - K)) ||| b : Nat) : Int) := by
    intro x K b hx hK hb
    have := and_lt x (18446744073709551615 - K) hx
    rw [andNot_nat _ _ (by omega) (by omega), or_nat _ _ (by omega) (by omega)]
  refine set_change 61 u g o n dir (((n &&& (18446744073709551615 - 2496)) ||| uN u : Nat) : Int) (((((n &&& (18446744073709551615 - 2496)) ||| uN u) &&& (18446744073709551615 - 56)) ||| gN g : Nat) : Int) _ hn hn2 rfl rfl ?_ ?_ ?_
  · unfold applyS; rw [if_neg (by decide), if_neg (by decide), if_pos rfl, (bits_K u hu).1, step _ _ _ hn (by decide) p1]
  · unfold applyS; rw [if_neg (by decide), if_neg (by decide), if_pos rfl, (bits_K g hg).2.1, step _ _ _ l1 (by decide) p2]
  · unfold applyS; rw [if_neg (by decide), if_neg (by decide), if_pos rfl, (bits_K o ho).2.2, step _ _ _ l2 (by decide) p3]
    have e : (((((n &&& (18446744073709551615 - 2496)) ||| uN u) &&& (18446744073709551615 - 56)) ||| gN g) &&& (18446744073709551615 - 519)) ||| oN o = u * 64 + g * 8 + o := by
      rw [Nat.and_or_distrib_right, k2, Nat.and_assoc, Nat.and_or_distrib_right, k1, Nat.and_assoc, ← r]
      have z : n &&& ((18446744073709551615 - 2496) &&& ((18446744073709551615 - 56) &&& (18446744073709551615 - 519))) = 0 := by
        rw [← hn2, Nat.and_assoc, show (3071 &&& ((18446744073709551615 - 2496) &&& ((18446744073709551615 - 56) &&& (18446744073709551615 - 519))) : Nat) = 0 by decide, Nat.and_zero]
      rw [z, Nat.zero_or, Nat.or_assoc]
    rw [e]
end Go.Proofs.Ytmjjhoaplcjjcaa
