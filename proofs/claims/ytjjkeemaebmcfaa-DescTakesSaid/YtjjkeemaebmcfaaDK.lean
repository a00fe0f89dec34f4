/- The walk of DescTakes. -/
import Derived.Test.YtjjkeemaebmcfaaDJ
import Derived.Laws.BitsLemmas
namespace Go.Proofs.Ytjjkeemaebmcfaa
open Go.RowKit
set_option linter.unusedVariables false
set_option linter.unusedSimpArgs false
variable {w0 W W' : World} {P B : Nat} {e : Tab}

theorem toNat_ofInt (m : Int) : (BitVec.ofInt 64 m).toNat = (m % 18446744073709551616).toNat := by
  rw [BitVec.toNat_ofInt]; rfl
theorem and_mask (m : Int) (k : Nat) (hk : k < 9223372036854775808) : bits .and .i64 m (k : Int) = (((m % 18446744073709551616).toNat &&& k : Nat) : Int) := by
  show IntKind.i64.wrap ((BitVec.ofInt 64 m &&& BitVec.ofInt 64 (k : Int)).toNat : Int) = _
  rw [BitVec.toNat_and, toNat_ofInt, toNat_ofInt, show ((k : Int) % 18446744073709551616).toNat = k from by omega]
  have h : (m % 18446744073709551616).toNat &&& k ≤ k := Nat.and_le_right
  rw [IntKind.wrap_i64]; omega
theorem and_le (n : Int) (k : Nat) (hk : k < 9223372036854775808) : ∃ m : Nat, bits .and .i64 n (k : Int) = (m : Int) ∧ m ≤ k := ⟨_, and_mask n k hk, Nat.and_le_right⟩
def tkF (l : List Int) (j : Nat) : Value := .bool (!(l[j]?.getD 0 == -1))
theorem tk_set {l : List Int} (hl : l.length = 20) {m : Nat} (hm : m < 20) (v : Int) (b : Bool) (hb : b = !(v == -1)) : ∀ j, j < 20 → (if j = m then Value.bool b else tkF l j) = tkF (l.set m v) j := by
  intro j hj
  unfold tkF
  by_cases e : j = m
  · subst e
    rw [if_pos rfl, List.getElem?_set_self (by omega), hb]
    rfl
  · rw [if_neg e, List.getElem?_set_ne (Ne.symm e)]
theorem tk_close {base G cap m : Nat} {l : List Int} (o : OR W base G cap 20 l) (hb : base ≤ W.heap.size) (hm : m < 20) (h1 : ¬ l[m]?.getD 0 = -1) (h2 : ∀ v ∈ l, -1 ≤ v) :
    Calls Try.prog 26 #[.slice (some ⟨G, 0, none⟩) 20 cap, .int .i64 m] W fun r w' => ∃ G' cap' x, r = .returned (.tuple #[.slice (some ⟨G', 0, none⟩) 20 cap', .int .i64 x, .bool true]) ∧ 0 ≤ x ∧ OR w' base G' cap' 20 (l.set m (-1)) ∧ W.heap.size ≤ G' ∧ Fr (fun _ => False) W w' := by
  have hl := o.1
  have hml : m < l.length := by omega
  have hB : atB l (m : Int) = true := by
    rw [atB_lit hml]
    rw [List.getElem?_eq_getElem hml] at h1
    simpa using h1
  have hA := atA_lit hml hB
  have hx : 0 ≤ l[m] := by
    have := h2 _ (List.getElem_mem hml)
    rw [List.getElem?_eq_getElem hml] at h1
    have : l[m] ≠ -1 := h1
    omega
  refine (pclose_any l G 0 20 cap m hl (by decide) W o.rd).mono fun r w' ⟨v, h3, h4, h5⟩ => ?_
  unfold closeO at h4
  rw [hB] at h3 h4
  rw [if_pos rfl, Int.toNat_natCast] at h4
  rcases h4 with ⟨h4, _⟩ | ⟨l', G', cap', h4, rfl, h6⟩
  · cases h4
  · obtain rfl := Option.some.inj h4
    rw [List.length_set, hl] at h3 h6
    exact ⟨G', cap', _, h3, by rw [hA]; exact hx, h6.weak hb, h6.form.1, h5⟩
theorem tk_put {base G cap j : Nat} {l : List Int} (i : Int) (o : OR W base G cap 20 l) (hb : base ≤ W.heap.size) (hj : j < 20) (hf : pfr l 20 = j) :
    Calls Try.prog 23 #[.slice (some ⟨G, 0, none⟩) 20 cap, .int .i64 i, .int .i64 0] W fun r w' => ∃ G' cap', r = .returned (.tuple #[.slice (some ⟨G', 0, none⟩) 20 cap', .int .i64 j, .int .i64 0]) ∧ OR w' base G' cap' 20 (l.set j i) ∧ W.heap.size ≤ G' ∧ Fr (fun _ => False) W w' := by
  have hl := o.1
  obtain ⟨q1, q2, q3⟩ := put_at (l := l) (from_ := 0) (k := j) (by omega) (by unfold putK; rw [hl]; exact hf) i
  refine (pput_any l G 0 20 cap i 0 hl (by decide) W o.rd).mono fun r w' ⟨v, h3, h4, h5⟩ => ?_
  rw [q2, q3] at h3
  rw [q1] at h4
  rcases h4 with ⟨h4, _⟩ | ⟨l', G', cap', h4, rfl, h6⟩
  · cases h4
  · obtain rfl := Option.some.inj h4
    rw [List.length_set, hl] at h3 h6
    exact ⟨G', cap', h3, h6.weak hb, h6.form.1, h5⟩
theorem tk_full {base G cap : Nat} {l : List Int} (i : Int) (o : OR W base G cap 20 l) (hf : pfr l 20 = 20) :
    Calls Try.prog 23 #[.slice (some ⟨G, 0, none⟩) 20 cap, .int .i64 i, .int .i64 0] W fun r w' => r = .returned (.tuple #[.slice none 0 0, .int .i64 0, .int .i64 12]) ∧ Fr (fun _ => False) W w' := by
  have hl := o.1
  obtain ⟨q1, q2, q3⟩ := put_none (l := l) (from_ := 0) (by unfold putK; rw [hl]; exact hf) i
  refine (pput_any l G 0 20 cap i 0 hl (by decide) W o.rd).mono fun r w' ⟨v, h3, h4, h5⟩ => ?_
  rw [q2, q3] at h3
  rw [q1] at h4
  rcases h4 with ⟨_, rfl⟩ | ⟨l', G', cap', h4, _⟩
  · exact ⟨h3, h5⟩
  · cases h4
def zB : Array Value := #[.bool false, .bool false, .bool false, .bool false, .bool false, .bool false, .bool false, .bool false, .bool false, .bool false, .bool false, .bool false, .bool false, .bool false, .bool false, .bool false, .bool false, .bool false, .bool false, .bool false]
theorem zB_at (i : Nat) (hi : i < zB.size) : zB[i]? = some (tkF (List.replicate 20 (-1)) i) := by
  have hi2 : i < 20 := hi
  rw [show zB = (List.replicate 20 (Value.bool false)).toArray from rfl, List.getElem?_toArray, List.getElem?_replicate, if_pos hi2]
  unfold tkF
  rw [List.getElem?_replicate, if_pos hi2]
  rfl
/-- behind k steps. -/
def takeRel (w : World) (A : Nat) (rv iv : Value) (wr : World) : Prop :=
  ∃ (k : Nat) (l : List Int) (G cap : Nat), iv = .int .i64 k ∧ k ≤ 100 ∧ rv = .slice (some ⟨G, 0, none⟩) 20 cap ∧ OR wr w.heap.size G cap 20 l ∧ (∀ v ∈ l, -1 ≤ v) ∧ wr.rowIs A 56 20 (tkF l) ∧ A ≠ G ∧ w.heap.size ≤ A ∧ Below w.heap.size w wr
theorem mem_set {l : List Int} {m : Nat} {x : Int} (h : ∀ v ∈ l, -1 ≤ v) (hx : -1 ≤ x) : ∀ v ∈ l.set m x, -1 ≤ v := by
  intro v hv
  rcases List.mem_or_eq_of_mem_set hv with hv | rfl
  · exact h v hv
  · exact hx
set_option maxHeartbeats 4000000 in
set_option maxRecDepth 100000 in
theorem takes_any (p0 : Option Addr) (n0 c0 : Nat) (z0 : List Int) (w : World) (h0 : InInts w p0 n0 z0) (l0 : n0 ≤ maxLen) :
    Calls Try.prog 6 #[.slice p0 n0 c0] w fun r w' => r = .returned (.bool true) ∧ Below w.heap.size w w' := by
  have H0 := Lib.hid h0
  unfold maxLen at l0
  clear h0
  go_enter Try.func6, Try.ntmps6
  go_wp2_with fail
  refine (shown_any w).mono ?_
  rintro r w1 ⟨rfl, b1⟩
  go_wp2_with fail
  refine (sh5 b1).mono ?_
  rintro r w2 ⟨G0, rfl, o2, b2, f2⟩
  have o3 := o2.fr (S := fun _ => False) ((Fr.refl _ _).alloc (.cells zB 56)) id
  have b3 := b2.alloc b2.size (.cells zB 56)
  have a3 := World.rowIs_alloc w2 zB 56 (tkF (List.replicate 20 (-1))) zB_at
  have ne3 : w2.heap.size ≠ G0 := fun e => by have := o2.form.2.1; omega
  have ge3 := b2.size
  have START := Lib.hid (show takeRel w w2.heap.size (.slice (some ⟨G0, 0, none⟩) 20 20) (.int .i64 0) (w2.alloc (.cells zB 56)) from ⟨0, _, G0, 20, rfl, by decide, rfl, o3, by decide, a3, ne3, ge3, b3⟩)
  clear o2 b1 b2 f2 o3 b3 a3 ne3
  generalize hA : w2.heap.size = A at *
  go_wp2
  go_loopw [4, 6] (fun rv iv wr => takeRel w A rv iv wr) (fun _ iv _ => 100 - (intOf iv).toNat)
  case atStart => exact START.out
  case round =>
    clear START
    obtain ⟨k, l, G, cap, rfl, hk, rfl, ho, hmin, ha, hne, hgA, hbel⟩ := hrel
    have hl := ho.1
    by_cases hlt : k < n0 ∧ k < 100
    · obtain ⟨k0, k2⟩ := hlt
      obtain ⟨g0, o0, rfl, hc0, _⟩ := H0.out.2 k (z0[k]'(by rw [H0.out.1]; exact k0)) (List.getElem?_eq_getElem _)
      have hc := Below.cell hbel (p := ⟨g0, o0 + k, none⟩) (cell_lt hc0) |>.trans hc0
      generalize z0[k]'(by rw [H0.out.1]; exact k0) = x at hc hc0
      clear hc0
      obtain ⟨m, hm', hm31⟩ := and_le x 31 (by decide)
      have hm : bits .and .i64 x 31 = (m : Int) := hm'
      clear hm'
      by_cases hcond : m < 20 ∧ ¬ l[m]?.getD 0 = -1
      · obtain ⟨hm20, hlm⟩ := hcond
        have ca : wr.cell? ⟨A, m, none⟩ = some (.bool true) := by
          rw [ha.cell hm20]
          unfold tkF
          have : (l[m]?.getD 0 == -1) = false := by simpa using hlm
          rw [this]; rfl
        have HC := tk_close ho hbel.size hm20 hlm hmin
        clear ho
        go_wp2_with fail
        refine HC.mono ?_
        rintro r w4 ⟨G', cap', y, rfl, hy, o4, hG', f4⟩
        have a4 := ha.of_block (f4.block A ha.lt id)
        have b4 := f4.below hbel (Nat.le_refl _) fun _ => False.elim
        have c4 := f4.cell ca id
        have z4 := a4.frozen m
        have hAG : A ≠ G' := fun e => by have := ha.lt; omega
        have a5 := (a4.set m (.bool false)).congr (tk_set hl hm20 (-1) false rfl)
        have o5 := o4.fr (S := (· = A)) (Fr.one w4 A m (.bool false)) (Ne.symm hAG)
        have b5 := (Fr.one w4 A m (.bool false)).below b4 (Nat.le_refl _) fun g hg => by subst hg; exact hgA
        have hmin5 := mem_set (m := m) hmin (show (-1 : Int) ≤ -1 by decide)
        have OUT := Lib.hid (show takeRel w A (.slice (some ⟨G', 0, none⟩) 20 cap') (.int .i64 ((k + 1 : Nat) : Int)) _ from ⟨k + 1, _, G', cap', rfl, by omega, rfl, o5, hmin5, a5, hAG, hgA, b5⟩)
        clear a4 b4 a5 o5 b5 hmin5 o4 f4 HC ha hbel ca
        go_wp2
        go_roundw
        case rel => exact OUT.out
        case measure => simp [intOf]; omega
      · have hq : 20 ≤ m ∨ (m < 20 ∧ wr.cell? ⟨A, m, none⟩ = some (.bool false)) := by
          by_cases hm20 : m < 20
          · refine .inr ⟨hm20, ?_⟩
            rw [ha.cell hm20]
            have : l[m]?.getD 0 = -1 := Classical.byContradiction fun e => hcond ⟨hm20, e⟩
            unfold tkF
            rw [this]; rfl
          · exact .inl (by omega)
        clear hcond
        rcases hq with hq | ⟨hq, ca⟩
        all_goals
          go_wp2
          go_loopw [11] (fun jv wx => wx = wr ∧ ∃ j : Nat, jv = .int .i64 j ∧ j ≤ 20 ∧ pfr l 20 = pfr l (20 - j)) (fun jv _ => 20 - (intOf jv).toNat)
          case atStart => exact ⟨rfl, 0, rfl, by decide, rfl⟩
          case round =>
            obtain ⟨rfl, j, rfl, hj, hf⟩ := hrel
            by_cases hj20 : j < 20
            · have cj := ha.cell hj20
              have hs := pfr_step2 hl hj20 (show j < l.length by omega)
              by_cases hv : l[j]?.getD 0 = -1
              · have ct : wr.cell? ⟨A, j, none⟩ = some (.bool false) := by
                  rw [cj]; unfold tkF; rw [hv]; rfl
                have hv' : l[j]'(by omega) = -1 := by rw [List.getElem?_eq_getElem (by omega)] at hv; exact hv
                rw [if_pos hv'] at hs
                have HP := tk_put (k : Int) ho hbel.size hj20 (hf.trans hs)
                clear hs hf hv hv' cj ho
                go_wp2_with fail
                refine HP.mono ?_
                rintro r w4 ⟨G', cap', rfl, o4, hG', f4⟩
                have hjl : j < (l.set j (k : Int)).length := by rw [List.length_set]; omega
                have rj := o4.rd j (k : Int) (by rw [List.getElem?_set_self (by omega)])
                rw [Nat.zero_add] at rj
                have a4 := ha.of_block (f4.block A ha.lt id)
                have b4 := f4.below hbel (Nat.le_refl _) fun _ => False.elim
                have c4 := f4.cell ct id
                have z4 := a4.frozen j
                have hAG : A ≠ G' := fun e => by have := ha.lt; omega
                have a5 := (a4.set j (.bool true)).congr (tk_set hl hj20 (k : Int) true (by simp))
                have o5 := o4.fr (S := (· = A)) (Fr.one w4 A j (.bool true)) (Ne.symm hAG)
                have b5 := (Fr.one w4 A j (.bool true)).below b4 (Nat.le_refl _) fun g hg => by subst hg; exact hgA
                have hmin5 := mem_set (m := j) hmin (show (-1 : Int) ≤ (k : Int) by omega)
                have OUT := Lib.hid (show takeRel w A (.slice (some ⟨G', 0, none⟩) 20 cap') (.int .i64 ((k + 1 : Nat) : Int)) _ from ⟨k + 1, _, G', cap', rfl, by omega, rfl, o5, hmin5, a5, hAG, hgA, b5⟩)
                clear a4 b4 a5 o5 b5 hmin5 o4 f4 HP ha hbel ct hc hmin
                go_wp2
                go_roundw
                case rel => exact OUT.out
                case measure => simp [intOf]; omega
              · have ct : wr.cell? ⟨A, j, none⟩ = some (.bool true) := by
                  rw [cj]; unfold tkF
                  have : (l[j]?.getD 0 == -1) = false := by simpa using hv
                  rw [this]; rfl
                have hv' : ¬ l[j]'(by omega) = -1 := by rw [List.getElem?_eq_getElem (by omega)] at hv; exact hv
                rw [if_neg hv'] at hs
                have HF := Lib.hid (hf.trans hs)
                clear hs hf hv hv' cj
                go_wp2
                go_roundw
                case rel => exact ⟨by trivial, j + 1, by go_num, by omega, HF.out⟩
                case measure => simp [intOf]; omega
            · obtain rfl : j = 20 := by omega
              have HP := tk_full (k : Int) ho (hf.trans (by unfold pfr; exact hl))
              have HO := Lib.hid ho
              clear ho
              go_wp2_with fail
              refine HP.mono ?_
              rintro r w4 ⟨rfl, f4⟩
              have a4 := ha.of_block (f4.block A ha.lt id)
              have b4 := f4.below hbel (Nat.le_refl _) fun _ => False.elim
              have o4 := HO.out.fr f4 id
              have OUT := Lib.hid (show takeRel w A (.slice (some ⟨G, 0, none⟩) 20 cap) (.int .i64 ((k + 1 : Nat) : Int)) w4 from ⟨k + 1, l, G, cap, rfl, by omega, rfl, o4, hmin, a4, hne, hgA, b4⟩)
              clear a4 b4 o4 f4 HP ha hbel hc hmin
              go_wp2
              go_roundw
              case rel => exact OUT.out
              case measure => simp [intOf]; omega
    · clear ho ha
      by_cases hn : k < n0
      · have i3 : ¬ (k : Int) < 100 := by omega
        have i4 : (k : Int) < n0 := by omega
        go_wp2
        go_ret
        exact ⟨rfl, hbel⟩
      · have i4 : ¬ (k : Int) < n0 := by omega
        go_wp2
        go_ret
        exact ⟨rfl, hbel⟩
end Go.Proofs.Ytjjkeemaebmcfaa
