/- Plain facts for the document's answer: digits, numbers, parts at a colon, users of a line. -/
import Derived.Test.YtjopmchbphjliaaGreatDoorH1
import Derived.Test.YtjopmchbphjliaaGreatDoorRA
namespace Go.Proofs.YtjopmchbphjliaaGreatDoor
open Go.RowKit Go.Shelf

def decPre (m : Nat) : List UInt8 := if m < 10 then [] else Lib.decDigits (m / 10)
theorem dec_split (m : Nat) : Lib.decDigits m = decPre m ++ [UInt8.ofNat (48 + m % 10)] := by
  unfold decPre
  by_cases h : m < 10
  · rw [if_pos h, Lib.decDigits_one h, Nat.mod_eq_of_lt h]; rfl
  · rw [if_neg h, Lib.decDigits, dif_neg h]
theorem dec_step (n m : Nat) (t : List UInt8) (h : ¬ m < 10) (hm : decPre m ++ t = Lib.decDigits n) : decPre (m / 10) ++ (UInt8.ofNat (48 + m / 10 % 10) :: t) = Lib.decDigits n := by
  rw [← hm]
  show _ = (if m < 10 then [] else Lib.decDigits (m / 10)) ++ t
  rw [if_neg h, dec_split (m / 10), List.append_assoc]; rfl
theorem dec_end (n m : Nat) (t : List UInt8) (h : m < 10) (hm : decPre m ++ t = Lib.decDigits n) : t = Lib.decDigits n := by
  unfold decPre at hm; rw [if_pos h] at hm; exact hm
def numV (acc : Nat) (l : List UInt8) : Nat := l.foldl (fun a c => 10 * a + (c.toNat - 48)) acc
theorem numV_nil (acc : Nat) : numV acc [] = acc := rfl
theorem numV_cons (acc : Nat) (c : UInt8) (r : List UInt8) : numV acc (c :: r) = numV (10 * acc + (c.toNat - 48)) r := by unfold numV; rw [List.foldl_cons]
def numOk (l : List UInt8) : Bool := decide (1 ≤ l.length) && (decide (l.length ≤ 5) && l.all decB)
def numI (l : List UInt8) : Int := if numOk l = true then (numV 0 l : Int) else -1
theorem numV_app (a b : List UInt8) (acc : Nat) : numV acc (a ++ b) = numV (numV acc a) b := by
  unfold numV; rw [List.foldl_append]
theorem dec_lt {c : UInt8} (h : decB c = true) : 48 ≤ c.toNat ∧ c.toNat ≤ 57 := by
  unfold decB at h; simpa using h
theorem numV_lt : ∀ (l : List UInt8) (acc : Nat), l.all decB = true → numV acc l < (acc + 1) * 10 ^ l.length
  | [], acc, _ => by rw [numV_nil]; simp
  | c :: r, acc, h => by
    rw [List.all_cons, Bool.and_eq_true] at h
    have hc := dec_lt h.1
    have := numV_lt r (10 * acc + (c.toNat - 48)) h.2
    rw [numV_cons, List.length_cons, Nat.pow_succ]
    have h2 : (10 * acc + (c.toNat - 48) + 1) * 10 ^ r.length ≤ ((acc + 1) * 10) * 10 ^ r.length := Nat.mul_le_mul_right _ (by omega)
    have h3 : (acc + 1) * (10 ^ r.length * 10) = ((acc + 1) * 10) * 10 ^ r.length := by
      rw [Nat.mul_assoc, Nat.mul_comm 10 (10 ^ r.length)]
    omega
theorem numV_dec : ∀ u : Nat, numV 0 (Lib.decDigits u) = u := by
  intro u
  induction u using Nat.strongRecOn with
  | ind u ih =>
    by_cases h : u < 10
    · rw [Lib.decDigits_one h, numV_cons, numV_nil, UInt8.toNat_ofNat']; omega
    · rw [Lib.decDigits, dif_neg h, numV_app, ih (u / 10) (by omega), numV_cons, numV_nil, UInt8.toNat_ofNat']; omega
theorem num_itoa {n : Int} (h : idB n = true) : numI (Lib.itoa n) = n := by
  have hl := itoa_len h
  have hr := id_range h
  rw [itoa_id h] at hl ⊢
  have hp : 1 ≤ (Lib.decDigits n.toNat).length := by rw [Lib.decDigits_length]; exact Lib.nDigits_pos _
  have ha : (Lib.decDigits n.toNat).all decB = true := List.all_eq_true.2 fun c hc => by
    have := digits_range _ c hc
    unfold decB; rw [decide_eq_true this.1, decide_eq_true this.2]; rfl
  unfold numI numOk
  rw [decide_eq_true hp, decide_eq_true hl, ha, if_pos (by rfl), numV_dec]
  omega
theorem numI_range (l : List UInt8) : -1 ≤ numI l ∧ numI l ≤ 99999 := by
  unfold numI
  by_cases h : numOk l = true
  · rw [if_pos h]
    unfold numOk at h
    rw [Bool.and_eq_true, Bool.and_eq_true, decide_eq_true_iff, decide_eq_true_iff] at h
    have h1 := numV_lt l 0 h.2.2
    have h2 : (10 : Nat) ^ l.length ≤ 10 ^ 5 := Nat.pow_le_pow_right (by decide) h.2.1
    have h3 : (10 : Nat) ^ 5 = 100000 := by decide
    omega
  · rw [if_neg h]; omega

theorem spt_ne (c : UInt8) (l : List UInt8) : spt c l ≠ [] := by
  cases l with
  | nil => exact List.cons_ne_nil _ _
  | cons b r =>
    by_cases h : b = c
    · subst h; rw [spt_eq]; exact List.cons_ne_nil _ _
    · rw [spt_cons c b r h]
      cases spt c r with
      | nil => exact List.cons_ne_nil _ _
      | cons p ps => exact List.cons_ne_nil _ _
/-- the state of the walk over a line's bytes: from, and how far. -/
def colI (l : List UInt8) (f i : Nat) (out : List (List UInt8)) : Prop :=
  if i ≤ l.length then spt 58 l = out ++ glue ((l.take i).drop f) (spt 58 (l.drop i)) else spt 58 l = out
theorem col_start (l : List UInt8) : colI l 0 0 [] := by
  unfold colI
  rw [if_pos (Nat.zero_le _)]
  show spt 58 l = glue [] (spt 58 l)
  rw [glue_nil _ (spt_ne 58 l)]
theorem col_next {l : List UInt8} {f i : Nat} {out : List (List UInt8)} {c : UInt8} (hf : f ≤ i) (h : l[i]? = some c) (hc : c ≠ 58) (hp : colI l f i out) : colI l f (i + 1) out := by
  have hi := (List.getElem?_eq_some_iff.1 h).1
  unfold colI at hp ⊢
  rw [if_pos (by omega)] at hp
  rw [if_pos (by omega), take_drop_succ l f i c hf h, hp, drop_cons l i c h, spt_cons 58 c _ hc, glue_glue]
theorem col_sep {l : List UInt8} {f i : Nat} {out : List (List UInt8)} (h : l[i]? = some 58) (hp : colI l f i out) : colI l (i + 1) (i + 1) (out ++ [(l.take i).drop f]) := by
  have hi := (List.getElem?_eq_some_iff.1 h).1
  unfold colI at hp ⊢
  rw [if_pos (by omega), drop_cons l i 58 h, spt_eq] at hp
  have e : (l.take (i + 1)).drop (i + 1) = [] := by rw [List.drop_eq_nil_iff]; rw [List.length_take]; omega
  rw [if_pos (by omega), e, glue_nil _ (spt_ne 58 _), hp]
  show out ++ (((l.take i).drop f ++ []) :: spt 58 (l.drop (i + 1))) = _
  rw [List.append_nil, List.append_assoc]; rfl
theorem col_end {l : List UInt8} {f : Nat} {out : List (List UInt8)} (hp : colI l f l.length out) : colI l (l.length + 1) (l.length + 1) (out ++ [(l.take l.length).drop f]) := by
  unfold colI at hp ⊢
  rw [if_pos (Nat.le_refl _), List.drop_length] at hp
  rw [if_neg (by omega), hp]
  show out ++ [((l.take l.length).drop f) ++ []] = _
  rw [List.append_nil]
theorem col_done {l : List UInt8} {f i : Nat} {out : List (List UInt8)} (h : l.length < i) (hp : colI l f i out) : spt 58 l = out := by
  unfold colI at hp; rwa [if_neg (by omega)] at hp
/-- a line without its line feed. -/
def lnB (l : List UInt8) : ByteArray := ⟨(l ++ [10]).toArray⟩
theorem core_of {u : Usr} {l : List UInt8} (h : lineS u = (lnB l).data.toList) : coreS u = l := by
  have : coreS u ++ [10] = l ++ [10] := h
  exact List.append_cancel_right this
theorem ruser_len {l : List UInt8} (h : (spt 58 l).length ≠ 6) : userS (lnB l) = none := by
  cases hu : userS (lnB l) with
  | none => rfl
  | some v =>
    obtain ⟨hr, hl⟩ := user_right hu
    have := core_parts hr
    rw [core_of hl] at this
    rw [this] at h
    exact absurd rfl h
def usrP (a b c d e f : List UInt8) : Usr := ⟨⟨a.toArray⟩, ⟨b.toArray⟩, numI c, numI d, ⟨e.toArray⟩, ⟨f.toArray⟩⟩
theorem ruser_six {l a b c d e f : List UInt8} (h : spt 58 l = [a, b, c, d, e, f]) : userS (lnB l) = if (rightU (usrP a b c d e f) && coreS (usrP a b c d e f) == l) = true then some (usrP a b c d e f) else none := by
  by_cases hx : (rightU (usrP a b c d e f) && coreS (usrP a b c d e f) == l) = true
  · rw [if_pos hx]
    rw [Bool.and_eq_true, beq_iff_eq] at hx
    refine user_of hx.1 ?_
    show coreS _ ++ [10] = l ++ [10]
    rw [hx.2]
  · rw [if_neg hx]
    cases hu : userS (lnB l) with
    | none => rfl
    | some v =>
      exfalso
      obtain ⟨hr, hl⟩ := user_right hu
      have hc := core_of hl
      have hp := core_parts hr
      rw [hc, h] at hp
      obtain ⟨_, _, h3, h4, _, _⟩ := right_parts hr
      unfold fieldsS at hp
      injection hp with e1 hp
      injection hp with e2 hp
      injection hp with e3 hp
      injection hp with e4 hp
      injection hp with e5 hp
      injection hp with e6 _
      have : usrP a b c d e f = v := by
        unfold usrP
        rw [e1, e2, e3, e4, e5, e6, num_itoa h3, num_itoa h4]
      rw [this] at hx
      exact hx (by rw [Bool.and_eq_true, beq_iff_eq]; exact ⟨hr, hc⟩)
end Go.Proofs.YtjopmchbphjliaaGreatDoor
