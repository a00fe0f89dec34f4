/- The law GlobStars: the walk. -/
import Derived.Test.YtacohhmhggljhaaHO
namespace Go.Proofs.Ytacohhmhggljhaa
open Go.RowKit
set_option linter.unusedVariables false
set_option linter.unusedSimpArgs false
/-- the pattern stands for the text, with anything behind it. -/
def StarInv (pat s : List UInt8) : Prop := ∃ (T : List Tok) (P : List Prt), (∀ x, toks (pat ++ x) = T ++ toks x) ∧ (∀ ts, parts (T ++ ts) = P ++ parts ts) ∧ ∀ g, M P (s ++ g) = true
theorem StarInv.start : StarInv [42] [] := ⟨[(42, false)], [star], fun x => toks_one _ _ (fun e => by cases e), fun ts => (by rw [List.singleton_append, parts_cons]; rfl), fun g => M_star_end _⟩
theorem StarInv.step {pat s : List UInt8} (h : StarInv pat s) (gap l : List UInt8) : StarInv (pat ++ quo l ++ [42]) (s ++ gap ++ l) := by
  obtain ⟨T, P, h1, h2, h3⟩ := h
  refine ⟨T ++ (l.map qt ++ [(42, false)]), P ++ (l.map lit ++ [star]), fun x => ?_, fun ts => ?_, fun g => ?_⟩
  · rw [List.append_assoc, List.append_assoc, h1, toks_quo, List.singleton_append, toks_one _ _ (fun e => by cases e)]
    simp
  · rw [List.append_assoc, h2, List.append_assoc, parts_qt, List.singleton_append, parts_cons]
    show P ++ (l.map lit ++ (star :: parts ts)) = _
    simp
  · rw [M_append]
    refine ⟨s ++ gap, l ++ g, by simp, h3 gap, M_lit_more _ _ _ (M_star_end _)⟩
theorem StarInv.done {pat s : List UInt8} (h : StarInv pat s) (g : List UInt8) : matchB pat (s ++ g) false = true := by
  obtain ⟨T, P, h1, h2, h3⟩ := h
  have e1 := h1 []
  rw [List.append_nil, show toks [] = [] from rfl, List.append_nil] at e1
  have e2 := h2 []
  rw [List.append_nil, parts_nil, List.append_nil] at e2
  rw [match_false, e1, e2]
  exact h3 g
set_option maxHeartbeats 4000000 in
set_option maxRecDepth 100000 in
theorem stars_any (p0 : Option Addr) (n0 c0 : Nat) (z0 : List ByteArray) (p1 : Option Addr) (n1 c1 : Nat) (z1 : List ByteArray) (p : ByteArray) (W : World) (h0 : InStrs W p0 n0 z0) (l0 : n0 ≤ maxLen) (h1 : InStrs W p1 n1 z1) (l1 : n1 ≤ maxLen) (hp : p.size ≤ maxLen) :
    Calls Try.prog 6 #[.slice p0 n0 c0, .slice p1 n1 c1, .string p] W fun e w' => e = .returned (.bool true) ∧ Below W.heap.size W w' := by
  have HS := Lib.hid shown_any
  have H0 := Lib.hid h0
  have H1 := Lib.hid h1
  unfold maxLen at l0 l1 hp
  clear h0 h1
  by_cases h400 : 400 < p.size
  · go_enter Try.func6, Try.ntmps6
    go_wp2_with (go_at_call 9; (with_reducible refine (HS.out _).mono ?_); rintro e w1 ⟨rfl, b1⟩)
    go_ret
    exact ⟨rfl, b1⟩
  go_enter Try.func6, Try.ntmps6
  go_wp2_with (go_at_call 9; (with_reducible refine (HS.out _).mono ?_); rintro e w1 ⟨rfl, b1⟩)
  go_loopw [8, 9, 10] (fun pv sv iv wr => ∃ (k : Nat) (q u : ByteArray), iv = .int .i64 k ∧ k ≤ 8 ∧ pv = .string q ∧ sv = .string u ∧ StarInv q.data.toList u.data.toList ∧ q.size ≤ 1 + 61 * k ∧ u.size ≤ 60 * k ∧ Below W.heap.size W wr) (fun _ _ iv _ => 8 - (intOf iv).toNat)
  case atStart => exact ⟨0, ⟨#[42]⟩, ⟨#[]⟩, rfl, by omega, rfl, rfl, StarInv.start, by decide, by decide, b1⟩
  case round =>
    obtain ⟨k, q, u, rfl, hk, rfl, rfl, hI, hq, hu, hb⟩ := hrel
    clear b1
    have HI := Lib.hid hI
    clear hI
    by_cases hlt : k < n0 ∧ k < 8
    · obtain ⟨k0, k8⟩ := hlt
      have hz0 : z0[k]? = some (z0[k]'(by rw [H0.out.1]; exact k0)) := List.getElem?_eq_getElem _
      obtain ⟨g0, o0, rfl, hc, hs⟩ := H0.out.2 k _ hz0
      generalize z0[k]'(by rw [H0.out.1]; exact k0) = z at hz0 hc hs
      have e0 : wr.cell? ⟨g0, o0 + k, none⟩ = some (.string z) := below_cell hb hc
      have HC := Lib.hid hc
      have i2 : (k : Int) < n0 := by omega
      have i4 : (k : Int) < 8 := by omega
      unfold maxLen at hs
      clear hz0 hc
      by_cases h30 : 30 < z.size
      · go_wp2
        go_ret
        exact ⟨rfl, hb⟩
      have hql := quo_len z.data.toList
      rw [size_len] at hql
      obtain ⟨y, hyd⟩ : ∃ y : ByteArray, (⟨(quo z.data.toList).toArray⟩ : ByteArray) = y := ⟨_, rfl⟩
      have hyl : y.data.toList = quo z.data.toList := by rw [← hyd]
      have hys : y.size ≤ 60 := by rw [← size_len, hyl]; omega
      have CQ := Lib.hid (fun w => (show Calls Try.prog 16 #[.string z] w fun e w' => e = .returned (.string y) ∧ Below w.heap.size w w' from by
        have := quote_any z (by omega) w
        rw [hyd] at this
        exact this))
      have HY := Lib.hid hyl
      clear hyd hql hyl
      by_cases h1 : k < n1
      · have hz1 : z1[k]? = some (z1[k]'(by rw [H1.out.1]; exact h1)) := List.getElem?_eq_getElem _
        obtain ⟨g1, o1, rfl, hc1, hs1⟩ := H1.out.2 k _ hz1
        generalize z1[k]'(by rw [H1.out.1]; exact h1) = x at hz1 hc1 hs1
        have e2 : wr.cell? ⟨g1, o1 + k, none⟩ = some (.string x) := below_cell hb hc1
        have i5 : (k : Int) < n1 := by omega
        unfold maxLen at hs1
        clear hz1 hc1
        by_cases hx : x.size < 30
        · have HR := Lib.hid (show StarInv (q ++ y ++ ⟨#[42]⟩).data.toList ((u ++ x) ++ z).data.toList by
            have := HI.out.step x.data.toList z.data.toList
            rw [app_list, app_list, app_list, app_list, HY.out]
            exact this)
          have hz1 : (q ++ y ++ ⟨#[42]⟩ : ByteArray).size ≤ 1 + 61 * (k + 1) := by rw [app_size, app_size]; show q.size + y.size + 1 ≤ _; omega
          have hz2 : ((u ++ x) ++ z : ByteArray).size ≤ 60 * (k + 1) := by rw [app_size, app_size]; omega
          go_wp2_with (go_at_call 16; (with_reducible refine (CQ.out _).mono ?_); rintro e w2 ⟨rfl, b2⟩; have e1 := below_cell b2 e0)
          go_roundw
          case rel => exact ⟨k + 1, _, _, by go_num, by omega, rfl, rfl, HR.out, hz1, hz2, hb.trans (b2.mono hb.size)⟩
          case measure => simp [intOf]; omega
        · have HR := Lib.hid (show StarInv (q ++ y ++ ⟨#[42]⟩).data.toList (u ++ z).data.toList by
            have := HI.out.step [] z.data.toList
            rw [app_list, app_list, app_list, HY.out]
            rw [List.append_nil] at this; exact this)
          have hz1 : (q ++ y ++ ⟨#[42]⟩ : ByteArray).size ≤ 1 + 61 * (k + 1) := by rw [app_size, app_size]; show q.size + y.size + 1 ≤ _; omega
          have hz2 : (u ++ z : ByteArray).size ≤ 60 * (k + 1) := by rw [app_size]; omega
          go_wp2_with (go_at_call 16; (with_reducible refine (CQ.out _).mono ?_); rintro e w2 ⟨rfl, b2⟩; have e1 := below_cell b2 e0)
          go_roundw
          case rel => exact ⟨k + 1, _, _, by go_num, by omega, rfl, rfl, HR.out, hz1, hz2, hb.trans (b2.mono hb.size)⟩
          case measure => simp [intOf]; omega
      · have hj : decide (k < n1) = false := decide_eq_false h1
        have HR := Lib.hid (show StarInv (q ++ y ++ ⟨#[42]⟩).data.toList (u ++ z).data.toList by
          have := HI.out.step [] z.data.toList
          rw [app_list, app_list, app_list, HY.out]
          rw [List.append_nil] at this; exact this)
        have hz1 : (q ++ y ++ ⟨#[42]⟩ : ByteArray).size ≤ 1 + 61 * (k + 1) := by rw [app_size, app_size]; show q.size + y.size + 1 ≤ _; omega
        have hz2 : (u ++ z : ByteArray).size ≤ 60 * (k + 1) := by rw [app_size]; omega
        go_wp2_with (go_at_call 16; (with_reducible refine (CQ.out _).mono ?_); rintro e w2 ⟨rfl, b2⟩; have e1 := below_cell b2 e0)
        go_roundw
        case rel => exact ⟨k + 1, _, _, by go_num, by omega, rfl, rfl, HR.out, hz1, hz2, hb.trans (b2.mono hb.size)⟩
        case measure => simp [intOf]; omega
    · have C1 := Lib.hid (fun w => (show Calls Try.prog 10 #[.string q, .string u, .bool false] w fun e w' => e = .returned (.bool true) ∧ Below w.heap.size w w' from by
        have := match_any q u false (by omega) (by omega) w
        have h := HI.out.done []
        rw [List.append_nil] at h
        rw [h] at this
        exact this))
      have C2 := Lib.hid (fun w => (show Calls Try.prog 10 #[.string q, .string (u ++ ⟨#[109, 111, 114, 101]⟩), .bool false] w fun e w' => e = .returned (.bool true) ∧ Below w.heap.size w w' from by
        have := match_any q (u ++ ⟨#[109, 111, 114, 101]⟩) false (by omega) (by rw [app_size]; show u.size + 4 ≤ _; omega) w
        rw [app_list, HI.out.done] at this
        exact this))
      have hj : (decide (k < n0) && decide (k < 8)) = false := by
        rw [Bool.and_eq_false_iff, decide_eq_false_iff_not, decide_eq_false_iff_not]; omega
      have CH := Lib.hid (fun w => hasB_any p (by omega) w)
      have hpq : (plainB p.data.toList).length ≤ 400 := by
        unfold plainB
        rw [List.length_map]
        have := toks_len p.data.toList
        rw [size_len] at this
        omega
      obtain ⟨y, hyd⟩ : ∃ y : ByteArray, (⟨(plainB p.data.toList).toArray⟩ : ByteArray) = y := ⟨_, rfl⟩
      have hyl : y.data.toList = plainB p.data.toList := by rw [← hyd]
      have hys : y.size ≤ 400 := by rw [← size_len, hyl]; omega
      have CP := Lib.hid (fun w => (show Calls Try.prog 14 #[.string p] w fun e w' => e = .returned (.string y) ∧ Below w.heap.size w w' from by
        have := plain_any p (by omega) w
        rw [hyd] at this
        exact this))
      have CM := Lib.hid (fun w => (show Calls Try.prog 10 #[.string p, .string y, .bool false] w fun e w' => e = .returned (.bool (matchB p.data.toList (plainB p.data.toList) false)) ∧ Below w.heap.size w w' from by
        have := match_any p y false (by omega) (by omega) w
        rw [hyl] at this
        exact this))
      have hor := has_or_plain p.data.toList
      clear hyd hyl hpq
      generalize matchB p.data.toList (plainB p.data.toList) false = bm at *
      have hk8 : ¬ (k < n0 ∧ k < 8) := hlt
      clear hlt
      cases hh : hasB p.data.toList
      · rw [hh] at CH hor
        have hbm : bm = true := by
          rcases hor with h | h
          · cases h
          · exact h
        subst hbm
        by_cases hA : k < n0
        · have hB : decide (k < 8) = false := decide_eq_false (by omega)
          go_wp2_with (first
            | (go_at_call 12; (with_reducible refine (CH.out _).mono ?_); rintro e w2 ⟨rfl, b2⟩)
            | (go_at_call 14; (with_reducible refine (CP.out _).mono ?_); rintro e w3 ⟨rfl, b3⟩)
            | (go_at_call 10; (with_reducible refine (C2.out _).mono ?_); rintro e w6 ⟨rfl, b6⟩)
            | (go_at_call 10; (with_reducible refine (C1.out _).mono ?_); rintro e w5 ⟨rfl, b5⟩)
            | (go_at_call 10; (with_reducible refine (CM.out _).mono ?_); rintro e w4 ⟨rfl, b4⟩))
          go_ret
          exact ⟨rfl, hb.trans (((nxt b2 (nxt b3 (nxt b4 (nxt b5 b6))))).mono hb.size)⟩
        · have hB : decide (k < n0) = false := decide_eq_false hA
          go_wp2_with (first
            | (go_at_call 12; (with_reducible refine (CH.out _).mono ?_); rintro e w2 ⟨rfl, b2⟩)
            | (go_at_call 14; (with_reducible refine (CP.out _).mono ?_); rintro e w3 ⟨rfl, b3⟩)
            | (go_at_call 10; (with_reducible refine (C2.out _).mono ?_); rintro e w6 ⟨rfl, b6⟩)
            | (go_at_call 10; (with_reducible refine (C1.out _).mono ?_); rintro e w5 ⟨rfl, b5⟩)
            | (go_at_call 10; (with_reducible refine (CM.out _).mono ?_); rintro e w4 ⟨rfl, b4⟩))
          go_ret
          exact ⟨rfl, hb.trans (((nxt b2 (nxt b3 (nxt b4 (nxt b5 b6))))).mono hb.size)⟩
      · rw [hh] at CH
        by_cases hA : k < n0
        · have hB : decide (k < 8) = false := decide_eq_false (by omega)
          go_wp2_with (first
            | (go_at_call 12; (with_reducible refine (CH.out _).mono ?_); rintro e w2 ⟨rfl, b2⟩)
            | (go_at_call 10; (with_reducible refine (C2.out _).mono ?_); rintro e w6 ⟨rfl, b6⟩)
            | (go_at_call 10; (with_reducible refine (C1.out _).mono ?_); rintro e w5 ⟨rfl, b5⟩))
          go_ret
          exact ⟨rfl, hb.trans (((nxt b2 (nxt b5 b6))).mono hb.size)⟩
        · have hB : decide (k < n0) = false := decide_eq_false hA
          go_wp2_with (first
            | (go_at_call 12; (with_reducible refine (CH.out _).mono ?_); rintro e w2 ⟨rfl, b2⟩)
            | (go_at_call 10; (with_reducible refine (C2.out _).mono ?_); rintro e w6 ⟨rfl, b6⟩)
            | (go_at_call 10; (with_reducible refine (C1.out _).mono ?_); rintro e w5 ⟨rfl, b5⟩))
          go_ret
          exact ⟨rfl, hb.trans (((nxt b2 (nxt b5 b6))).mono hb.size)⟩
end Go.Proofs.Ytacohhmhggljhaa
