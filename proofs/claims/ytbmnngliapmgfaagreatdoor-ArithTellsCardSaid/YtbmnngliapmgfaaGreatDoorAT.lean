/- Contract of the program's numberOf. -/
/- The program's variables in memory; contracts of placeOf's closure, IndexFunc, placeOf. -/
import Derived.Test.YtbmnngliapmgfaaGreatDoorAR
namespace Go.Proofs.YtbmnngliapmgfaaGreatDoor
open Go.RowKit
set_option linter.unusedVariables false
set_option linter.unusedSimpArgs false
theorem has_minus (t : Bs) : Lib.hasPrefix t [45] = decide (t.head? = some 45) := by
  cases t with
  | nil => rfl
  | cons c r =>
    rw [Bool.eq_iff_iff, decide_eq_true_eq]
    simp [Lib.hasPrefix]
    try exact ⟨fun h => h.symm, fun h => h.symm⟩
theorem cut_minus (t : Bs) : Lib.trimPrefix t [45] = if t.head? = some 45 then t.tail else t := by
  unfold Lib.trimPrefix
  rw [has_minus]
  by_cases h : t.head? = some 45
  · rw [if_pos h, if_pos (by simpa using h)]
    cases t with
    | nil => rfl
    | cons c r => rfl
  · rw [if_neg h, if_neg (by simpa using h)]
set_option maxHeartbeats 1000000 in
theorem numberOf_any (s : ByteArray) (hs : s.size ≤ maxLen) (w : World) :
    Calls Tryz.prog 117 #[.string s] w fun e w' => e = .returned (.tuple #[.int .i64 (numV s.data.toList).1, .int .i64 (numV s.data.toList).2]) ∧ w' = w := by
  have hs' := hs
  unfold maxLen at hs
  have hl := size_len s
  by_cases h0 : s.data.toList = []
  · have E := Lib.hid (show numV s.data.toList = (0, 0) by rw [h0]; rfl)
    have g : s.toList.isEmpty = true := by rw [Lib.toList_data, h0]; rfl
    clear h0
    go_enter Tryz.func117, Tryz.ntmps117
    go_wp2
    go_ret2
    exact ⟨ret_two (by rw [E.out]; rfl) (by rw [E.out]; rfl), rfl⟩
  · have g : s.toList.isEmpty = false := by rw [Lib.toList_data]; cases h : s.data.toList with | nil => exact absurd h h0 | cons _ _ => rfl
    have HC := Lib.hid (Tryz.strings_CutPrefix s ⟨#[45]⟩)
    have hcut : Lib.trimPrefix s.data.toList (⟨#[45]⟩ : ByteArray).data.toList = if s.data.toList.head? = some 45 then s.data.toList.tail else s.data.toList := cut_minus _
    have hhas : Lib.hasPrefix s.data.toList (⟨#[45]⟩ : ByteArray).data.toList = decide (s.data.toList.head? = some 45) := has_minus _
    rw [hcut, hhas] at HC
    have hN : numV s.data.toList = if (if s.data.toList.head? = some 45 then s.data.toList.tail else s.data.toList) = [] ∨ cstN (if s.data.toList.head? = some 45 then s.data.toList.tail else s.data.toList) < (if s.data.toList.head? = some 45 then s.data.toList.tail else s.data.toList).length then (0, 20) else
        if s.data.toList.head? = some 45 then (wrap64 (-cstV (if s.data.toList.head? = some 45 then s.data.toList.tail else s.data.toList)), 0) else (cstV (if s.data.toList.head? = some 45 then s.data.toList.tail else s.data.toList), 0) := by
      unfold numV
      rw [if_neg h0]
    have hle : (if s.data.toList.head? = some 45 then s.data.toList.tail else s.data.toList).length ≤ s.size := by
      split
      · rw [List.length_tail]; omega
      · omega
    generalize (if s.data.toList.head? = some 45 then s.data.toList.tail else s.data.toList) = d at *
    generalize hb : decide (s.data.toList.head? = some 45) = b at *
    have hNb : numV s.data.toList = if d = [] ∨ cstN d < d.length then (0, 20) else if b = true then (wrap64 (-cstV d), 0) else (cstV d, 0) := by
      rw [hN]
      cases b
      · have : ¬ s.data.toList.head? = some 45 := by simpa using hb
        rw [if_neg this]; simp
      · have : s.data.toList.head? = some 45 := by simpa using hb
        rw [if_pos this]; simp
    have HV := Lib.hid (constant_any (st d) (by rw [st_size]; unfold maxLen; omega))
    rw [st_data] at HV
    have hds : (st d).size = d.length := st_size d
    have hdt : (st d).toList = d := st_toList d
    have HNb := Lib.hid hNb
    have hcl := cstN_le d
    change Hid (∀ w, Calls _ _ _ w fun e w' => e = .returned (.tuple #[.string (st d), .bool b]) ∧ w' = w) at HC
    generalize st d = x at *
    clear hcut hhas hN hNb hb h0
    generalize cstV d = z at *
    generalize cstN d = n at *
    by_cases hd : d = []
    · have g2 : x.toList.isEmpty = true := by rw [hdt, hd]; rfl
      have E := Lib.hid (show numV s.data.toList = (0, 20) by rw [HNb.out, if_pos (.inl hd)])
      clear hd hdt hle hcl
      go_enter Tryz.func117, Tryz.ntmps117
      go_wp2_with (first | (go_at_call 122; (with_reducible refine (HC.out _).mono ?_); rintro e w' ⟨rfl, rfl⟩) | (go_at_call 46; (with_reducible refine (HV.out _).mono ?_); rintro e w' ⟨rfl, rfl⟩))
      go_ret2
      exact ⟨ret_two (by rw [E.out]; rfl) (by rw [E.out]; rfl), rfl⟩
    · have g2 : x.toList.isEmpty = false := by rw [hdt]; cases d with | nil => exact absurd rfl hd | cons _ _ => rfl
      rw [← hds] at hcl hle
      by_cases hlt : n < x.size
      · have E := Lib.hid (show numV s.data.toList = (0, 20) by rw [HNb.out, if_pos (.inr (by omega))])
        have hlt' : (n : Int) < (x.size : Int) := by omega
        clear hd hdt hds hlt
        go_enter Tryz.func117, Tryz.ntmps117
        go_wp2_with (first | (go_at_call 122; (with_reducible refine (HC.out _).mono ?_); rintro e w' ⟨rfl, rfl⟩) | (go_at_call 46; (with_reducible refine (HV.out _).mono ?_); rintro e w' ⟨rfl, rfl⟩))
        go_ret2
        exact ⟨ret_two (by rw [E.out]; rfl) (by rw [E.out]; rfl), rfl⟩
      · have E := Lib.hid (show numV s.data.toList = if b = true then (wrap64 (-z), 0) else (z, 0) by rw [HNb.out, if_neg (fun h => h.elim hd (fun h => by omega))])
        have hlt' : ¬ (n : Int) < (x.size : Int) := by omega
        clear hd hdt hds hlt
        cases b
        all_goals
          go_enter Tryz.func117, Tryz.ntmps117
          go_wp2_with (first | (go_at_call 122; (with_reducible refine (HC.out _).mono ?_); rintro e w' ⟨rfl, rfl⟩) | (go_at_call 46; (with_reducible refine (HV.out _).mono ?_); rintro e w' ⟨rfl, rfl⟩))
          go_ret2
          exact ⟨ret_two (by rw [E.out]; rfl) (by rw [E.out]; rfl), rfl⟩
end Go.Proofs.YtbmnngliapmgfaaGreatDoor
namespace Go.Proofs.YtbmnngliapmgfaaGreatDoor
open Go.RowKit
set_option linter.unusedVariables false
set_option linter.unusedSimpArgs false
/-- a step on the blocks S, which are S' then. -/
def Step (S S' : Nat → Prop) (W W' : World) : Prop := Fr S W W' ∧ ∀ k, S' k → S k ∨ W.heap.size ≤ k
theorem Step.refl (S : Nat → Prop) (W : World) : Step S S W W := ⟨Fr.refl _ _, fun _ h => .inl h⟩
theorem Step.trans {S S1 S2 : Nat → Prop} {W W1 W2 : World} (h : Step S S1 W W1) (k : Step S1 S2 W1 W2) : Step S S2 W W2 := by
  refine ⟨⟨k.1.os.trans h.1.os, k.1.tape.trans h.1.tape, k.1.output.trans h.1.output, Nat.le_trans h.1.size k.1.size, fun i hi hn => (k.1.block i (Nat.lt_of_lt_of_le hi h.1.size) ?_).trans (h.1.block i hi hn)⟩, fun i hi => ?_⟩
  · intro h1
    rcases h.2 i h1 with h2 | h2
    · exact hn h2
    · omega
  · rcases k.2 i hi with h1 | h1
    · exact h.2 i h1
    · exact .inr (Nat.le_trans h.1.size h1)
theorem Step.fresh {S S1 : Nat → Prop} {W W1 W2 : World} (h : Step S S1 W W1) (k : Fr (fun _ => False) W1 W2) : Step S S1 W W2 :=
  h.trans ⟨k.mono fun _ _ h => h.elim, fun _ h => .inl h⟩
theorem Step.new {S : Nat → Prop} {W W1 : World} (k : Fr (fun _ => False) W W1) : Step S S W W1 := ⟨k.mono fun _ _ h => h.elim, fun _ h => .inl h⟩
section
variable {W W' : World} {B n z : Nat} {e : TypeId} {v : Value} {xs : List Value}
theorem ownz_type (h : W.ownsRow B e z v n xs) {k : Nat} (hk : v.ownBlock = some k) : B ≤ k ∧ k < W.heap.size ∧ ∃ cur fz, W.heap[k]? = some (.cells cur e fz) := by
  rcases h.2 with ⟨rfl, _⟩ | ⟨g, cap, cur, rfl, hb, hg, _⟩
  · simp [Value.ownBlock] at hk
  · simp [Value.ownBlock] at hk
    subst hk
    exact ⟨hb, heap_lt hg, cur, _, hg⟩
theorem ownz_fr {S : Nat → Prop} (h : W.ownsRow B e z v n xs) (f : Fr S W W') (hs : ∀ k, v.ownBlock = some k → ¬ S k) : W'.ownsRow B e z v n xs := by
  refine ⟨h.1, ?_⟩
  rcases h.2 with hn | ⟨g, cap, cur, rfl, hb, hg, rest⟩
  · exact .inl hn
  · exact .inr ⟨g, cap, cur, rfl, hb, (f.block g (heap_lt hg) (hs g rfl)).trans hg, rest⟩
theorem ownz_form (h : W.ownsRow B e z v n xs) : ∃ ao cap, v = .slice ao n cap ∧ n ≤ cap ∧ (0 < n → ∃ g, ao = some ⟨g, 0, none⟩) := by
  rcases h.2 with ⟨rfl, rfl⟩ | ⟨g, cap, cur, rfl, _, _, hc, _⟩
  · exact ⟨_, _, rfl, Nat.le_refl _, fun h => by omega⟩
  · exact ⟨_, _, rfl, hc, fun _ => ⟨g, rfl⟩⟩
end
def varC (p : Bs × Int) : List Value := [.string (st p.1), .int .i64 p.2]
def ownC (o : Own) : List Value := o.flatMap varC
theorem ownC_len (o : Own) : (ownC o).length = o.length * 2 := by
  induction o with
  | nil => rfl
  | cons p r ih => rw [ownC, List.flatMap_cons, List.length_append]; rw [ownC] at ih; rw [ih]; simp [varC]; omega
theorem ownC_at : ∀ (o : Own) (i : Nat) (p : Bs × Int), o[i]? = some p → (ownC o)[i * 2]? = some (.string (st p.1)) ∧ (ownC o)[i * 2 + 1]? = some (.int .i64 p.2)
  | [], i, p, h => by simp at h
  | q :: r, 0, p, h => by
    simp at h
    subst h
    exact ⟨rfl, rfl⟩
  | q :: r, i + 1, p, h => by
    have := ownC_at r i p (by simpa using h)
    have e : ownC (q :: r) = varC q ++ ownC r := rfl
    rw [e, show (i + 1) * 2 = (varC q).length + i * 2 by simp [varC]; omega, List.getElem?_append_right (by omega), Nat.add_sub_cancel_left, show (varC q).length + i * 2 + 1 = (varC q).length + (i * 2 + 1) by omega, List.getElem?_append_right (by omega), Nat.add_sub_cancel_left]
    exact this
/-- what was handed in. -/
def Giv (W : World) (B : Nat) (gv : Value) (g : List (Bs × Bs)) : Prop := ∃ ao cap, gv = .slice ao g.length cap ∧ g.length ≤ cap ∧ cap ≤ maxLen ∧ ∀ i p, g[i]? = some p → p.2.length ≤ maxLen ∧ ∃ gb off, ao = some ⟨gb, off, none⟩ ∧ gb < B ∧
  W.cell? ⟨gb, off + i * 4, none⟩ = some (.string (st p.1)) ∧ W.cell? ⟨gb, off + i * 4 + 1, none⟩ = some (.string (st p.2)) ∧ ∃ b c, W.cell? ⟨gb, off + i * 4 + 2, none⟩ = some (.bool b) ∧ W.cell? ⟨gb, off + i * 4 + 3, none⟩ = some (.bool c)
theorem Giv.fr {S : Nat → Prop} {W W' : World} {B : Nat} {gv : Value} {g : List (Bs × Bs)} (h : Giv W B gv g) (f : Fr S W W') (hs : ∀ k, k < B → ¬ S k) : Giv W' B gv g := by
  obtain ⟨ao, cap, h1, h2, h3, h4⟩ := h
  refine ⟨ao, cap, h1, h2, h3, fun i p hp => ?_⟩
  obtain ⟨h5, gb, off, h6, h7, c0, c1, b, c, c2, c3⟩ := h4 i p hp
  exact ⟨h5, gb, off, h6, h7, f.cell c0 (hs _ h7), f.cell c1 (hs _ h7), b, c, f.cell c2 (hs _ h7), f.cell c3 (hs _ h7)⟩
/-- the variables, and their blocks S: what was given, what was set. -/
def VT (W : World) (B vb : Nat) (S : Nat → Prop) (g : List (Bs × Bs)) (o : Own) : Prop := ∃ gv ov, W.heap[vb]? = some (.cells #[gv, ov] 41 (0, 0)) ∧ B ≤ vb ∧ Giv W B gv g ∧ W.ownsRow B 60 2 ov o.length (ownC o) ∧ S = (fun k => k = vb ∨ ov.ownBlock = some k)
section
variable {W W' : World} {B vb : Nat} {S : Nat → Prop} {g : List (Bs × Bs)} {o : Own}
theorem VT.lt (h : VT W B vb S g o) {k : Nat} (hk : S k) : B ≤ k ∧ k < W.heap.size := by
  obtain ⟨gv, ov, h1, h2, h3, h4, rfl⟩ := h
  rcases hk with rfl | hk
  · exact ⟨h2, heap_lt h1⟩
  · have := ownz_type h4 hk; exact ⟨this.1, this.2.1⟩
theorem VT.blk (h : VT W B vb S g o) : S vb ∧ vb < W.heap.size := by
  obtain ⟨gv, ov, h1, h2, h3, h4, rfl⟩ := h
  exact ⟨.inl rfl, heap_lt h1⟩
theorem VT.le (h : VT W B vb S g o) : B ≤ W.heap.size := Nat.le_trans (h.lt h.blk.1).1 (Nat.le_of_lt h.blk.2)
theorem VT.fr {S' : Nat → Prop} (h : VT W B vb S g o) (f : Fr S' W W') (hs : ∀ k, S' k → ¬ S k) (hB : ∀ k, S' k → B ≤ k) : VT W' B vb S g o := by
  obtain ⟨gv, ov, h1, h2, h3, h4, rfl⟩ := h
  exact ⟨gv, ov, (f.block _ (heap_lt h1) (fun hk => hs _ hk (.inl rfl))).trans h1, h2, h3.fr f (fun k hk hk2 => by have := hB k hk2; omega), ownz_fr h4 f (fun k hk hk2 => hs k hk2 (.inr hk)), rfl⟩
theorem VT.fresh (h : VT W B vb S g o) (f : Fr (fun _ => False) W W') : VT W' B vb S g o := h.fr f (fun _ h => h.elim) (fun _ h => h.elim)
end
/-- where a name is among those that were set. -/
def Place (o : Own) (n : Bs) (z : Int) : Prop := (z = -1 ∧ findO o n = none ∧ ∀ v, setV o n v = o ++ [(n, v)]) ∨ (∃ (i : Nat) (x : Int), z = i ∧ o[i]? = some (n, x) ∧ findO o n = some x ∧ ∀ v, setV o n v = o.set i (n, v))
theorem place_hit : ∀ (o : Own) (n : Bs) (i : Nat) (x : Int), o[i]? = some (n, x) → (∀ (j : Nat) (p : Bs × Int), j < i → o[j]? = some p → p.1 ≠ n) → findO o n = some x ∧ ∀ v, setV o n v = o.set i (n, v)
  | [], n, i, x, h, _ => by simp at h
  | q :: r, n, 0, x, h, hn => by
    simp at h
    subst h
    exact ⟨by rw [findO, if_pos rfl], fun v => by rw [setV, if_pos rfl]; rfl⟩
  | q :: r, n, i + 1, x, h, hn => by
    have h0 := hn 0 q (by omega) rfl
    obtain ⟨h1, h2⟩ := place_hit r n i x (by simpa using h) (fun j p hj hp => hn (j + 1) p (by omega) (by simpa using hp))
    exact ⟨by rw [findO, if_neg h0, h1], fun v => by rw [setV, if_neg h0, h2]; rfl⟩
theorem place_miss : ∀ (o : Own) (n : Bs), (∀ (j : Nat) (p : Bs × Int), o[j]? = some p → p.1 ≠ n) → findO o n = none ∧ ∀ v, setV o n v = o ++ [(n, v)]
  | [], n, _ => ⟨rfl, fun v => rfl⟩
  | q :: r, n, hn => by
    have h0 := hn 0 q rfl
    obtain ⟨h1, h2⟩ := place_miss r n (fun j p hp => hn (j + 1) p (by simpa using hp))
    exact ⟨by rw [findO, if_neg h0, h1], fun v => by rw [setV, if_neg h0, h2]; rfl⟩
theorem placeFn_any (a nm : Bs) (v : Int) (nb : Nat) (w : World) (hc : w.cell? ⟨nb, 0, none⟩ = some (.string (st nm))) :
    Calls Tryz.prog 116 #[.agg #[.string (st a), .int .i64 v], .pointer (some ⟨nb, 0, none⟩)] w fun e w' => e = .returned (.bool (decide (a = nm))) ∧ Fr (fun _ => False) w w' := by
  have hlt := cell_lt hc
  have E := Lib.hid (show ((st a).toList == (st nm).toList) = decide (a = nm) by rw [st_toList, st_toList, Bool.eq_iff_iff, beq_iff_eq, decide_eq_true_eq])
  have hF := Lib.hid ((Fr.refl (fun _ => False) w).alloc (.cells #[.string (st a), .int .i64 v] 60))
  generalize st a = x at *
  generalize st nm = y at *
  go_enter Tryz.func116, Tryz.ntmps116
  go_wp2
  go_ret
  exact ⟨ret_bool E.out, hF.out⟩
def ixRel (W : World) (o : Own) (n : Bs) (iv : Value) (wr : World) : Prop := ∃ k : Nat, iv = .int .i64 k ∧ k ≤ o.length ∧ (∀ (j : Nat) (p : Bs × Int), j < k → o[j]? = some p → p.1 ≠ n) ∧ Fr (fun _ => False) W wr
set_option maxRecDepth 100000 in
set_option maxHeartbeats 1000000 in
theorem indexFunc_any {W : World} {B : Nat} {ov : Value} {o : Own} (n : Bs) (nb : Nat) (hown : W.ownsRow B 60 2 ov o.length (ownC o)) (hc : W.cell? ⟨nb, 0, none⟩ = some (.string (st n))) (hl : o.length ≤ 1000000) :
    Calls Tryz.prog 115 #[ov, .func (.func 116) #[] #[.pointer (some ⟨nb, 0, none⟩)]] W fun e w' => ∃ z, e = .returned (.int .i64 z) ∧ Place o n z ∧ Fr (fun _ => False) W w' := by
  obtain ⟨ao, cap, rfl, hcap, hao⟩ := ownz_form hown
  have HO := Lib.hid hown
  have HC := Lib.hid hc
  have HA := Lib.hid hao
  clear hown hc hao
  obtain ⟨m, hm⟩ : ∃ m, o.length = m := ⟨_, rfl⟩
  have HM := Lib.hid hm
  rw [hm] at hl hcap HO HA ⊢
  clear hm
  go_enter Tryz.func115, Tryz.ntmps115
  go_wp2
  go_loopw [8] (fun iv wr => ixRel W o n iv wr) (fun iv _ => m - (intOf iv).toNat)
  case atStart => exact ⟨0, rfl, Nat.zero_le _, fun j p hj => absurd hj (Nat.not_lt_zero _), Fr.refl _ _⟩
  case round =>
    obtain ⟨k, rfl, hk, hn, hF⟩ := hrel
    rw [HM.out] at hk
    have HF := Lib.hid hF
    by_cases hlt : k < m
    · obtain ⟨gb, rfl⟩ := HA.out (by omega)
      obtain ⟨p, hp⟩ : ∃ p, o[k]? = some p := ⟨o[k]'(by rw [HM.out]; exact hlt), List.getElem?_eq_getElem _⟩
      obtain ⟨a0, a1⟩ := ownC_at o k p hp
      have c0 : wr.cell? ⟨gb, k * 2, none⟩ = some (.string (st p.1)) := hF.cell (by rw [HO.out.cellAt (k * 2) (by omega)]; exact a0) id
      have c1 : wr.cell? ⟨gb, k * 2 + 1, none⟩ = some (.int .i64 p.2) := hF.cell (by rw [HO.out.cellAt (k * 2 + 1) (by omega)]; exact a1) id
      have cn : wr.cell? ⟨nb, 0, none⟩ = some (.string (st n)) := hF.cell HC.out id
      have HP := Lib.hid (placeFn_any p.1 n p.2 nb wr cn)
      have hk63 : (k : Int) < 1000000 := by omega
      clear hF a0 a1 cn
      by_cases he : p.1 = n
      · have HR := Lib.hid (show Place o n (k : Int) from .inr ⟨k, p.2, rfl, by rw [hp, ← he], (place_hit o n k p.2 (by rw [hp, ← he]) hn).1, (place_hit o n k p.2 (by rw [hp, ← he]) hn).2⟩)
        rw [show decide (p.1 = n) = true by simpa using he] at HP
        clear hn hp he
        generalize st p.1 = x at *
        generalize p.2 = v at *
        go_wp2_with (go_at_call 116; (with_reducible refine HP.out.mono ?_); rintro e w1 ⟨rfl, hF1⟩; have HF1 := Lib.hid hF1; clear hF1)
        go_ret
        exact ⟨k, rfl, HR.out, HF.out.trans HF1.out⟩
      · have HN := Lib.hid (show ∀ (j : Nat) (q : Bs × Int), j < k + 1 → o[j]? = some q → q.1 ≠ n from fun j q hj hq => by
          by_cases e : j = k
          · subst e; rw [hp] at hq; cases hq; exact he
          · exact hn j q (by omega) hq)
        rw [show decide (p.1 = n) = false by simpa using he] at HP
        clear hn hp he
        generalize st p.1 = x at *
        generalize p.2 = v at *
        go_wp2_with (go_at_call 116; (with_reducible refine HP.out.mono ?_); rintro e w1 ⟨rfl, hF1⟩; have HF1 := Lib.hid hF1; clear hF1)
        go_roundw
        case rel => exact ⟨k + 1, by go_num, by rw [HM.out]; omega, HN.out, HF.out.trans HF1.out⟩
        case measure => simp [intOf]; omega
    · have hke : k = m := by omega
      subst hke
      have HR := Lib.hid (show Place o n (-1) from .inl ⟨rfl, place_miss o n (fun j p hp => hn j p (by rw [← HM.out]; exact (List.getElem?_eq_some_iff.1 hp).1) hp)⟩)
      clear hn hF
      go_wp2
      go_ret
      exact ⟨-1, rfl, HR.out, HF.out⟩
theorem placeOf_any {W : World} {B vb : Nat} {S : Nat → Prop} {g : List (Bs × Bs)} {o : Own} (n : Bs) (h : VT W B vb S g o) (hl : o.length ≤ 1000000) :
    Calls Tryz.prog 108 #[.pointer (some ⟨vb, 0, none⟩), .string (st n)] W fun e w' => ∃ z, e = .returned (.int .i64 z) ∧ Place o n z ∧ Fr (fun _ => False) W w' := by
  obtain ⟨gv, ov, h1, h2, h3, h4, -⟩ := h
  have c1 : W.cell? ⟨vb, 1, none⟩ = some ov := by rw [Lib.cell_of_heap h1]; rfl
  have hlt := heap_lt h1
  have hF : Fr (fun _ => False) W (W.alloc (.cells #[.string (st n)] 9)) := (Fr.refl _ _).alloc _
  have HI := Lib.hid (indexFunc_any n W.heap.size (ownz_fr h4 hF (fun _ _ => id)) (by rw [Lib.cell_of_heap (heap_alloc_new W _)]; rfl) hl)
  have HF := Lib.hid hF
  obtain ⟨ao, cap, rfl, -, -⟩ := ownz_form h4
  have hmf : ∀ (fn : Fn) (first cap : Array Value) (w : World), (Instr.makeFunc fn first cap).run Tryz.prog w = .ok (.func fn first cap) w := fun _ _ _ _ => rfl
  clear h1 h2 h3 h4 hF
  generalize st n = x at *
  go_enter Tryz.func108, Tryz.ntmps108
  go_wp2_with (go_at_call 115; (with_reducible refine HI.out.mono ?_); rintro e w1 ⟨z, rfl, hz, hF1⟩; have HZ := Lib.hid hz; have HF1 := Lib.hid hF1; clear hF1 hz)
  go_ret
  exact ⟨z, rfl, HZ.out, HF.out.trans HF1.out⟩
end Go.Proofs.YtbmnngliapmgfaaGreatDoor
