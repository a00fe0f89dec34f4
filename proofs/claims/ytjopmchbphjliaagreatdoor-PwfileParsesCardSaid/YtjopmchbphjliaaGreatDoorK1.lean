/- A user's line tells the user: plain facts. -/
import Derived.Test.YtjopmchbphjliaaGreatDoorG1
import Derived.Lib.ItoaMem
import Derived.Lib.AtoiAllCases
namespace Go.Proofs.YtjopmchbphjliaaGreatDoor
open Go.RowKit Go.Shelf

theorem digits_range : ∀ (u : Nat), ∀ c ∈ Lib.decDigits u, 48 ≤ c.toNat ∧ c.toNat ≤ 57 := by
  intro u
  induction u using Nat.strongRecOn with
  | ind u ih =>
    intro c hc
    by_cases h : u < 10
    · rw [Lib.decDigits_one h, List.mem_singleton] at hc
      subst hc
      rw [UInt8.toNat_ofNat']; omega
    · rw [Lib.decDigits, dif_neg h] at hc
      rcases List.mem_append.1 hc with hc | hc
      · exact ih (u / 10) (by omega) c hc
      · rw [List.mem_singleton] at hc
        subst hc
        rw [UInt8.toNat_ofNat']; omega
theorem digits_ne (u : Nat) : Lib.decDigits u ≠ [] := by
  intro h
  have h1 := Lib.decDigits_length u
  have h2 := Lib.nDigits_pos u
  rw [h] at h1; simp at h1; omega
theorem parse_snoc (l : List UInt8) : ∀ (acc m : Nat) (c : UInt8), Lib.parseUint10 acc l = .ok m → 48 ≤ c.toNat → c.toNat ≤ 57 → m < 1000000 → Lib.parseUint10 acc (l ++ [c]) = .ok (m * 10 + (c.toNat - 48)) := by
  induction l with
  | nil =>
    intro acc m c h h1 h2 hm
    simp only [Lib.parseUint10] at h
    obtain rfl : acc = m := by injection h
    rw [List.nil_append, Lib.parseUint10, if_pos ⟨h1, h2⟩, if_neg (by omega), if_neg (by omega)]
    rfl
  | cons b r ih =>
    intro acc m c h h1 h2 hm
    rw [List.cons_append]
    rw [Lib.parseUint10] at h ⊢
    by_cases hb : 48 ≤ b.toNat ∧ b.toNat ≤ 57
    · rw [if_pos hb] at h ⊢
      by_cases h3 : 1844674407370955162 ≤ acc
      · rw [if_pos h3] at h; cases h
      · rw [if_neg h3] at h ⊢
        by_cases h4 : 18446744073709551616 ≤ acc * 10 + (b.toNat - 48)
        · rw [if_pos h4] at h; cases h
        · rw [if_neg h4] at h ⊢
          exact ih _ m c h h1 h2 hm
    · rw [if_neg hb] at h; cases h
theorem parse_digits : ∀ (u : Nat), u ≤ 65535 → Lib.parseUint10 0 (Lib.decDigits u) = .ok u := by
  intro u
  induction u using Nat.strongRecOn with
  | ind u ih =>
    intro hu
    by_cases h : u < 10
    · rw [Lib.decDigits_one h, Lib.parseUint10]
      have e : (UInt8.ofNat (48 + u)).toNat = 48 + u := by rw [UInt8.toNat_ofNat']; omega
      rw [e, if_pos (by omega), if_neg (by omega), if_neg (by omega), Lib.parseUint10]
      congr 1; omega
    · rw [Lib.decDigits, dif_neg h]
      have e : (UInt8.ofNat (48 + u % 10)).toNat = 48 + u % 10 := by rw [UInt8.toNat_ofNat']; omega
      rw [parse_snoc _ 0 (u / 10) _ (ih (u / 10) (by omega) (by omega)) (by rw [e]; omega) (by rw [e]; omega) (by omega), e]
      congr 1; omega
theorem itoa_id {n : Int} (h : idB n = true) : Lib.itoa n = Lib.decDigits n.toNat := by
  have := id_range h
  unfold Lib.itoa; rw [if_neg (by omega)]
theorem atoi_itoa {n : Int} (h : idB n = true) : atoiO (Lib.itoa n) = some n := by
  have hr := id_range h
  rw [itoa_id h]
  have hp := parse_digits n.toNat (by omega)
  have hne := digits_ne n.toNat
  have hd := digits_range n.toNat
  unfold atoiO
  cases hl : Lib.decDigits n.toNat with
  | nil => exact absurd hl hne
  | cons c r =>
    rw [hl] at hp hd
    have hc := hd c (by simp)
    rw [Lib.atoiAll_plain c r (by omega) (by omega)]
    have hm : Lib.parseMag (c :: r) = .ok n.toNat := by unfold Lib.parseMag; rw [if_neg (by simp)]; exact hp
    rw [hm]
    unfold Lib.signless
    simp only
    rw [if_neg (by omega)]
    simp only [Option.some.injEq]
    omega
theorem name_plain {l : List UInt8} (h : nameU l = true) : ∀ c ∈ l, c ≠ 58 := by
  unfold nameU at h
  rw [Bool.and_eq_true, Bool.and_eq_true, Bool.and_eq_true, List.all_eq_true] at h
  intro c hc e
  have := h.2.2.2 c hc
  subst e
  exact absurd this (by decide)
theorem pass_plain {l : List UInt8} (h : Mx.rightS l = true) : ∀ c ∈ l, c ≠ 58 := by
  unfold Mx.rightS at h
  rw [Bool.or_eq_true, Bool.or_eq_true, beq_iff_eq, beq_iff_eq] at h
  intro c hc e
  subst e
  rcases h with h | h | h
  · rw [h] at hc; cases hc
  · rw [h] at hc; simp at hc
  · obtain ⟨hl, ha⟩ := (Mx.form_iff l).1 h
    obtain ⟨j, hj⟩ := List.getElem?_of_mem hc
    have hjl := (List.getElem?_eq_some_iff.1 hj).1
    have := ha j (by omega)
    unfold Mx.okAt at this
    rw [List.getD_eq_getElem?_getD, hj] at this
    by_cases h4 : j = 4
    · rw [if_pos h4] at this; exact absurd this (by decide)
    · rw [if_neg h4] at this; exact absurd this (by decide)
theorem place_plain {l : List UInt8} (h : placeB l = true) : ∀ c ∈ l, c ≠ 58 := by
  unfold placeB at h
  rw [Bool.and_eq_true, Bool.and_eq_true] at h
  intro c hc e
  subst e
  have : l.contains 58 = true := List.contains_iff_mem.2 hc
  rw [this] at h
  exact absurd h.2.2 (by decide)
theorem itoa_plain {n : Int} (h : idB n = true) : ∀ c ∈ Lib.itoa n, c ≠ 58 := by
  rw [itoa_id h]
  intro c hc e
  have := digits_range n.toNat c hc
  subst e
  exact absurd this (by decide)
/-- a right user's line, without the line feed. -/
def coreS (u : Usr) : List UInt8 := Lib.join (fieldsS u) [58]
theorem core_parts {u : Usr} (h : rightU u = true) : spt 58 (coreS u) = fieldsS u := by
  obtain ⟨h1, h2, h3, h4, h5, h6⟩ := right_parts h
  unfold coreS fieldsS
  rw [join6]
  show spt 58 (u.name.data.toList ++ 58 :: (u.pass.data.toList ++ 58 :: (Lib.itoa u.id ++ 58 :: (Lib.itoa u.grp ++ 58 :: (u.home.data.toList ++ 58 :: u.shell.data.toList))))) = _
  rw [spt_app 58 _ _ (name_plain h1), spt_app 58 _ _ (pass_plain h2), spt_app 58 _ _ (itoa_plain h3), spt_app 58 _ _ (itoa_plain h4), spt_app 58 _ _ (place_plain h5), spt_plain 58 _ (place_plain h6)]
theorem trim_line (a : List UInt8) : trimL (a ++ [10]) = a := by
  unfold trimL Lib.trimSuffix Lib.hasSuffix
  rw [if_pos (by rw [List.isSuffixOf_iff_suffix]; exact ⟨a, rfl⟩)]
  simp
theorem user_of {u : Usr} {s : ByteArray} (h : rightU u = true) (hs : lineS u = s.data.toList) : userS s = some u := by
  have ht : (trimB s).data.toList = coreS u := by
    show trimL s.data.toList = _
    rw [← hs]
    exact trim_line _
  have hp := partsB_data (trimB s)
  rw [ht, core_parts h] at hp
  obtain ⟨_, _, h3, h4, _, _⟩ := right_parts h
  have h6 : (partsB (trimB s)).length = 6 := by
    have := congrArg List.length hp
    rw [List.length_map] at this; exact this
  obtain ⟨a, b, c, d, e, f, hab⟩ := six _ h6
  rw [hab] at hp
  unfold fieldsS at hp
  simp only [List.map_cons, List.map_nil, List.cons.injEq, and_true] at hp
  obtain ⟨p1, p2, p3, p4, p5, p6⟩ := hp
  obtain rfl := Mx.list_eq _ _ p1
  obtain rfl := Mx.list_eq _ _ p2
  obtain rfl := Mx.list_eq _ _ p5
  obtain rfl := Mx.list_eq _ _ p6
  unfold userS
  rw [hab, userP_some _ _ _ _ _ _ _ u.id u.grp (by rw [p3]; exact atoi_itoa h3) (by rw [p4]; exact atoi_itoa h4)]
  rw [if_pos]
  rw [Bool.and_eq_true, beq_iff_eq]
  exact ⟨h, hs⟩
theorem user_iff (s : ByteArray) (u : Usr) : userS s = some u ↔ rightU u = true ∧ lineS u = s.data.toList := ⟨user_right, fun h => user_of h.1 h.2⟩
end Go.Proofs.YtjopmchbphjliaaGreatDoor
