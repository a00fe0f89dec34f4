/- Contracts of the program's get, set. -/
/- Contracts of the nodes' value. -/
import Derived.Test.YtbmnngliapmgfaaGreatDoorAT
namespace Go.Proofs.YtbmnngliapmgfaaGreatDoor
open Go.RowKit
set_option linter.unusedVariables false
set_option linter.unusedSimpArgs false
theorem giv_hit : ∀ (g : List (Bs × Bs)) (n : Bs) (i : Nat) (x : Bs), g[i]? = some (n, x) → (∀ (j : Nat) (p : Bs × Bs), j < i → g[j]? = some p → p.1 ≠ n) → findG g n = some x
  | [], n, i, x, h, _ => by simp at h
  | q :: r, n, 0, x, h, hn => by
    simp at h
    subst h
    rw [findG, if_pos rfl]
  | q :: r, n, i + 1, x, h, hn => by
    have h0 := hn 0 q (by omega) rfl
    rw [findG, if_neg h0]
    exact giv_hit r n i x (by simpa using h) (fun j p hj hp => hn (j + 1) p (by omega) (by simpa using hp))
theorem giv_miss : ∀ (g : List (Bs × Bs)) (n : Bs), (∀ (j : Nat) (p : Bs × Bs), g[j]? = some p → p.1 ≠ n) → findG g n = none
  | [], n, _ => rfl
  | q :: r, n, hn => by
    have h0 := hn 0 q rfl
    rw [findG, if_neg h0]
    exact giv_miss r n (fun j p hp => hn (j + 1) p (by simpa using hp))
def gvRel (W : World) (g : List (Bs × Bs)) (n : Bs) (iv : Value) (wr : World) : Prop := ∃ k : Nat, iv = .int .i64 k ∧ k ≤ g.length ∧ (∀ (j : Nat) (p : Bs × Bs), j < k → g[j]? = some p → p.1 ≠ n) ∧ Fr (fun _ => False) W wr
theorem place_none {o : Own} {n : Bs} {z : Int} (h : Place o n z) (hf : findO o n = none) : z = -1 ∧ ∀ v, setV o n v = o ++ [(n, v)] := by
  rcases h with ⟨h1, h2, h3⟩ | ⟨i, x, h1, h2, h3, h4⟩
  · exact ⟨h1, h3⟩
  · rw [hf] at h3; cases h3
theorem place_some {o : Own} {n : Bs} {z x : Int} (h : Place o n z) (hf : findO o n = some x) : ∃ i : Nat, z = i ∧ o[i]? = some (n, x) ∧ ∀ v, setV o n v = o.set i (n, v) := by
  rcases h with ⟨h1, h2, h3⟩ | ⟨i, x', h1, h2, h3, h4⟩
  · rw [hf] at h2; cases h2
  · rw [hf] at h3; cases h3; exact ⟨i, h1, h2, h4⟩
set_option maxRecDepth 100000 in
set_option maxHeartbeats 2000000 in
theorem get_any {W : World} {B vb : Nat} {S : Nat → Prop} {g : List (Bs × Bs)} {o : Own} (n : Bs) (h : VT W B vb S g o) (hl : o.length ≤ 1000000) :
    Calls Tryz.prog 113 #[.pointer (some ⟨vb, 0, none⟩), .string (st n)] W fun e w' => e = .returned (.tuple #[.int .i64 (getV g o n).1, .int .i64 (getV g o n).2]) ∧ Fr (fun _ => False) W w' := by
  have hpl := placeOf_any n h hl
  obtain ⟨gv, ov, h1, h2, h3, h4, -⟩ := h
  have HO := Lib.hid h4
  have HG := Lib.hid h3
  obtain ⟨ao, cap, rfl, hcap, hao⟩ := ownz_form h4
  obtain ⟨go, gcap, rfl, hgc, hgm, -⟩ := h3
  have HA := Lib.hid hao
  have HB := Lib.hid h1
  unfold maxLen at hgm
  clear h1 h4 hao h2
  obtain ⟨m, hm⟩ : ∃ m, o.length = m := ⟨_, rfl⟩
  have HM := Lib.hid hm
  rw [hm] at hl hcap HO HA HB
  clear hm
  obtain ⟨q, hq⟩ : ∃ q, g.length = q := ⟨_, rfl⟩
  have HQ := Lib.hid hq
  rw [hq] at hgc HB
  clear hq
  cases hf : findO o n with
  | some x =>
    have HPL := Lib.hid (show Calls Tryz.prog 108 #[.pointer (some ⟨vb, 0, none⟩), .string (st n)] W (fun e w' => ∃ i gb : Nat, e = .returned (.int .i64 (i : Int)) ∧ ao = some ⟨gb, 0, none⟩ ∧ (i : Int) < (m : Int) ∧ w'.cell? ⟨vb, 1, none⟩ = some (.slice ao m cap) ∧ w'.cell? ⟨gb, i * 2 + 1, none⟩ = some (.int .i64 x) ∧ Fr (fun _ => False) W w') from hpl.mono (by
      rintro e w' ⟨z, rfl, hz, hF⟩
      obtain ⟨i, rfl, hi, -⟩ := place_some hz hf
      have him : i < m := by rw [← HM.out]; exact (List.getElem?_eq_some_iff.1 hi).1
      obtain ⟨gb, hgb⟩ := HA.out (by omega)
      have HO2 := HO.out
      rw [hgb] at HO2
      refine ⟨i, gb, rfl, hgb, by omega, hF.cell (by rw [Lib.cell_of_heap HB.out]; rfl) id, hF.cell (by rw [HO2.cellAt (i * 2 + 1) (by omega)]; exact (ownC_at o i _ hi).2) id, hF⟩))
    have E := Lib.hid (show getV g o n = (x, 0) by unfold getV; rw [hf])
    clear hpl hf
    go_enter Tryz.func113, Tryz.ntmps113
    go_wp2_with (go_at_call 108; (with_reducible refine HPL.out.mono ?_); rintro e w1 ⟨i, gb, rfl, rfl, him, c1, k1, hF1⟩; have HF1 := Lib.hid hF1; clear hF1)
    go_ret2
    exact ⟨ret_two (by rw [E.out]; rfl) (by rw [E.out]; rfl), HF1.out⟩
  | none =>
    have HPL := Lib.hid (show Calls Tryz.prog 108 #[.pointer (some ⟨vb, 0, none⟩), .string (st n)] W (fun e w' => e = .returned (.int .i64 (-1)) ∧ w'.cell? ⟨vb, 0, none⟩ = some (.slice go q gcap) ∧ Fr (fun _ => False) W w') from hpl.mono (by
      rintro e w' ⟨z, rfl, hz, hF⟩
      obtain ⟨rfl, -⟩ := place_none hz hf
      exact ⟨rfl, hF.cell (by rw [Lib.cell_of_heap HB.out]; rfl) id, hF⟩))
    have E := Lib.hid (show getV g o n = match findG g n with | some t => numV t | none => (0, 0) by unfold getV; simp only [hf]; rfl)
    clear hpl hf
    go_enter Tryz.func113, Tryz.ntmps113
    go_wp2_with (go_at_call 108; (with_reducible refine HPL.out.mono ?_); rintro e w1 ⟨rfl, c0, hF1⟩; have HF1 := Lib.hid hF1; clear hF1)
    go_loopw [27] (fun iv wr => gvRel W g n iv wr) (fun iv _ => q - (intOf iv).toNat)
    case atStart => exact ⟨0, rfl, Nat.zero_le _, fun j p hj => absurd hj (Nat.not_lt_zero _), HF1.out⟩
    case round =>
      obtain ⟨k, rfl, hk, hn, hF⟩ := hrel
      rw [HQ.out] at hk
      have HF := Lib.hid hF
      clear c0
      by_cases hlt : k < q
      · obtain ⟨p, hp⟩ : ∃ p, g[k]? = some p := ⟨g[k]'(by rw [HQ.out]; exact hlt), List.getElem?_eq_getElem _⟩
        obtain ⟨ao', cap', hsl, -, -, hcells⟩ := HG.out
        cases hsl
        obtain ⟨hpm, gb, off, rfl, hgB, a0, a1, eb, rb, a2, a3⟩ := hcells k p hp
        have c0 := hF.cell a0 id
        have c1 := hF.cell a1 id
        have c2 := hF.cell a2 id
        have c3 := hF.cell a3 id
        have hlt0 := cell_lt c0
        have HNU := Lib.hid (numberOf_any (st p.2) (by rw [st_size]; exact hpm))
        rw [st_data] at HNU
        have g1 : ((st p.1).toList == (st n).toList) = decide (p.1 = n) := by rw [st_toList, st_toList, Bool.eq_iff_iff, beq_iff_eq, decide_eq_true_eq]
        have HFA := Lib.hid (fun (cs : Array Value) => HF.out.alloc (.cells cs 29))
        clear hF a0 a1 a2 a3 hcells hpm hgB
        by_cases he : p.1 = n
        · have E2 := Lib.hid (show getV g o n = numV p.2 by rw [E.out, giv_hit g n k p.2 (by rw [hp, ← he]) hn])
          rw [show decide (p.1 = n) = true by simpa using he] at g1
          clear hn hp he E
          generalize st p.1 = x at *
          generalize st p.2 = y at *
          generalize numV p.2 = v at *
          generalize st n = nx at *
          go_wp2_with (go_at_call 117; (with_reducible refine (HNU.out _).mono ?_); rintro e w1 ⟨rfl, rfl⟩)
          go_ret2
          exact ⟨ret_two (by rw [E2.out]; rfl) (by rw [E2.out]; rfl), HFA.out _⟩
        · have HN := Lib.hid (show ∀ (j : Nat) (r : Bs × Bs), j < k + 1 → g[j]? = some r → r.1 ≠ n from fun j r hj hr => by
            by_cases e : j = k
            · subst e; rw [hp] at hr; cases hr; exact he
            · exact hn j r (by omega) hr)
          rw [show decide (p.1 = n) = false by simpa using he] at g1
          clear hn hp he
          generalize st p.1 = x at *
          generalize st p.2 = y at *
          generalize st n = nx at *
          go_wp2
          go_roundw
          case rel => exact ⟨k + 1, by go_num, by rw [HQ.out]; omega, HN.out, HFA.out _⟩
          case measure => simp [intOf]; omega
      · have hke : k = q := by omega
        subst hke
        have E2 := Lib.hid (show getV g o n = (0, 0) by rw [E.out, giv_miss g n (fun j p hp => hn j p (by rw [← HQ.out]; exact (List.getElem?_eq_some_iff.1 hp).1) hp)])
        clear hn hF E
        go_wp2
        go_ret2
        exact ⟨ret_two (by rw [E2.out]; rfl) (by rw [E2.out]; rfl), HF.out⟩
theorem infoVariable : (Tryz.prog.info? 60).map (fun i => (i.zero, i.size, i.bytes)) = some (some (.agg #[.string ByteArray.empty, .int .i64 0]), 2, 24) := by kernel_rfl
theorem ownz_set {W : World} {B n z g cap j : Nat} {e : TypeId} {xs : List Value} (h : W.ownsRow B e z (.slice (some ⟨g, 0, none⟩) n cap) n xs) (hj : j < n * z) (u : Value) : (W.setCell ⟨g, j, none⟩ u).ownsRow B e z (.slice (some ⟨g, 0, none⟩) n cap) n (xs.set j u) := by
  refine ⟨by rw [List.length_set]; exact h.1, ?_⟩
  rcases h.2 with ⟨h', _⟩ | ⟨g', cap', cur, h', hb, hg, h1, h2, h3, h4⟩
  · cases h'
  · cases h'
    refine .inr ⟨g, cap, _, rfl, hb, heap_set hg j u, h1, h2, by rw [Array.size_setIfInBounds]; exact h3, ?_⟩
    rw [← h4, Array.toList_setIfInBounds, List.take_set]
theorem ownC_set : ∀ (o : Own) (i : Nat) (n : Bs) (x v : Int), o[i]? = some (n, x) → (ownC o).set (i * 2 + 1) (.int .i64 v) = ownC (o.set i (n, v))
  | [], i, n, x, v, h => by simp at h
  | q :: r, 0, n, x, v, h => by
    simp at h
    subst h
    rfl
  | q :: r, i + 1, n, x, v, h => by
    have := ownC_set r i n x v (by simpa using h)
    have e : ownC (q :: r) = varC q ++ ownC r := rfl
    have e2 : ownC ((q :: r).set (i + 1) (n, v)) = varC q ++ ownC (r.set i (n, v)) := rfl
    rw [e, e2, ← this, show (i + 1) * 2 + 1 = (varC q).length + (i * 2 + 1) by simp [varC]; omega, List.set_append_right _ _ (by omega), Nat.add_sub_cancel_left]
theorem cell_new2 (w : World) (x y : Value) (t : TypeId) : ∀ j u, [x, y][j]? = some u → (w.alloc (.cells #[x, y] t)).cell? ((⟨w.heap.size, 0, none⟩ : Addr).add j) = some u := by
  intro j u hj
  match j, hj with
  | 0, hj => simp at hj; subst hj; simp [Addr.add]
  | 1, hj => simp at hj; subst hj; simp [Addr.add]
theorem setV_none : ∀ (o : Own) (n : Bs), findO o n = none → ∀ v, setV o n v = o ++ [(n, v)]
  | [], n, _, v => rfl
  | q :: r, n, h, v => by
    rw [findO] at h
    split at h
    · cases h
    · rename_i hne
      rw [setV, if_neg hne, setV_none r n h v]; rfl
theorem own_ne {W : World} {B vb m z : Nat} {ov : Value} {cs : Array Value} {xs : List Value} (h : W.ownsRow B 60 z ov m xs) (e : W.heap[vb]? = some (.cells cs 41 (0, 0))) : ov.ownBlock ≠ some vb := by
  intro hk
  obtain ⟨_, _, cur, fz, hc⟩ := ownz_type h hk
  exact types_ne hc e (by decide)
/-- one more is set: the row grew, its value is stored. -/
theorem set_step {W w1 w2 : World} {B vb gb cap2 : Nat} {S : Nat → Prop} {g : List (Bs × Bs)} {o : Own} {n : Bs} {v : Int} {gv ov : Value} {cs : Array Value} (h : VT W B vb S g o) (h1 : W.heap[vb]? = some (.cells #[gv, ov] 41 (0, 0))) (hF : Fr (fun _ => False) W w1)
    (hown' : w2.ownsRow B 60 2 (.slice (some ⟨gb, 0, none⟩) (o.length + 1) cap2) (o.length + 1) (ownC o ++ [.string (st n), .int .i64 v])) (hg : (w1.alloc (.cells cs 60)).grownBy w2 ov.ownBlock) (hat : ov.ownBlock = some gb ∨ gb = w1.heap.size + 1) :
    ∃ S', VT (w2.setCell ⟨vb, 1, none⟩ (.slice (some ⟨gb, 0, none⟩) (o.length + 1) cap2)) B vb S' g (o ++ [(n, v)]) ∧ Step S S' W (w2.setCell ⟨vb, 1, none⟩ (.slice (some ⟨gb, 0, none⟩) (o.length + 1) cap2)) := by
  have hV := h.fresh hF
  have hlt1 : vb < w1.heap.size := Nat.lt_of_lt_of_le (heap_lt h1) hF.size
  have e1 := (hF.block _ (heap_lt h1) id).trans h1
  obtain ⟨gv', ov', k1, k2, k3, k4, k5⟩ := hV
  have hgg : gv' = gv ∧ ov' = ov := by
    rw [e1] at k1
    cases k1
    exact ⟨rfl, rfl⟩
  obtain ⟨rfl, rfl⟩ := hgg
  have hne := own_ne k4 e1
  have f2 : Fr (fun k => ov'.ownBlock = some k) w1 w2 := ((Fr.refl _ w1).alloc _).trans (Fr.grown hg)
  have e2 := (f2.block vb hlt1 hne).trans e1
  have fr := Fr.one w2 vb 1 (.slice (some ⟨gb, 0, none⟩) (o.length + 1) cap2)
  have hgb : gb ≠ vb := by
    rintro rfl
    exact own_ne hown' e2 rfl
  refine ⟨fun k => k = vb ∨ gb = k, ⟨gv', _, heap_set e2 _ _, k2, ?_, ?_, ?_⟩, ?_⟩
  · refine (k3.fr f2 (fun k hk hk2 => ?_)).fr fr (fun k hk e => by omega)
    have := (ownz_type k4 hk2).1
    omega
  · have e : ownC (o ++ [(n, v)]) = ownC o ++ [.string (st n), .int .i64 v] := by
      unfold ownC; rw [List.flatMap_append]; rfl
    rw [e, List.length_append, List.length_singleton]
    exact ownz_fr hown' fr (fun k hk e => by cases hk; exact hgb e)
  · funext k
    simp [Value.ownBlock]
  · refine (Step.new hF).trans ⟨(f2.mono (fun k _ hk => ?_)).trans (fr.mono (fun k _ hk => ?_)), ?_⟩
    · rw [k5]; exact .inr hk
    · subst hk; rw [k5]; exact .inl rfl
    · rintro k (hk | hk)
      · left; rw [k5]; exact .inl hk
      · subst hk
        rcases hat with h | h
        · left; rw [k5]; exact .inr h
        · right; omega
set_option maxRecDepth 100000 in
set_option maxHeartbeats 2000000 in
theorem set_any {W : World} {B vb : Nat} {S : Nat → Prop} {g : List (Bs × Bs)} {o : Own} (n : Bs) (v : Int) (h : VT W B vb S g o) (hl : o.length < 1000000) :
    Calls Tryz.prog 112 #[.pointer (some ⟨vb, 0, none⟩), .string (st n), .int .i64 v] W fun e w' => e = .returned (.tuple #[]) ∧ ∃ S', VT w' B vb S' g (setV o n v) ∧ Step S S' W w' := by
  have hpl := placeOf_any n h (by omega)
  have hH := h
  obtain ⟨gv, ov, h1, h2, h3, h4, hS⟩ := h
  obtain ⟨ao, cap, rfl, hcap, hao⟩ := ownz_form h4
  obtain ⟨go, gcap, rfl, hgc, hgm, -⟩ := h3
  cases hf : findO o n with
  | some x =>
    have HPL := Lib.hid (show Calls Tryz.prog 108 #[.pointer (some ⟨vb, 0, none⟩), .string (st n)] W (fun e w' => ∃ i gb : Nat, e = .returned (.int .i64 (i : Int)) ∧ ao = some ⟨gb, 0, none⟩ ∧ (i : Int) < (o.length : Int) ∧ w'.cell? ⟨vb, 1, none⟩ = some (.slice ao o.length cap) ∧ w'.cell? ⟨gb, i * 2 + 1, none⟩ = some (.int .i64 x) ∧ w'.frozen? ⟨gb, i * 2 + 1, none⟩ = false ∧
        (VT (w'.setCell ⟨gb, i * 2 + 1, none⟩ (.int .i64 v)) B vb S g (setV o n v) ∧ Step S S W (w'.setCell ⟨gb, i * 2 + 1, none⟩ (.int .i64 v)))) from hpl.mono (by
      rintro e w' ⟨z, rfl, hz, hF⟩
      obtain ⟨i, rfl, hi, hset⟩ := place_some hz hf
      have him : i < o.length := (List.getElem?_eq_some_iff.1 hi).1
      obtain ⟨gb, rfl⟩ := hao (by omega)
      have hV' := hH.fresh hF
      obtain ⟨gv', ov', k1, k2, k3, k4, k5⟩ := hV'
      have e1 : w'.heap[vb]? = some (.cells #[.slice go g.length gcap, .slice (some ⟨gb, 0, none⟩) o.length cap] 41 (0, 0)) := (hF.block _ (heap_lt h1) id).trans h1
      have hgg : gv' = .slice go g.length gcap ∧ ov' = .slice (some ⟨gb, 0, none⟩) o.length cap := by
        rw [e1] at k1
        cases k1
        exact ⟨rfl, rfl⟩
      obtain ⟨rfl, rfl⟩ := hgg
      obtain ⟨hB1, hgl, cur, fz, hcur⟩ := ownz_type k4 (k := gb) rfl
      have hne : gb ≠ vb := by
        rintro rfl
        exact types_ne hcur e1 (by decide)
      have fr := Fr.one w' gb (i * 2 + 1) (.int .i64 v)
      have hgz : w'.frozen? ⟨gb, i * 2 + 1, none⟩ = false := by
        rcases k4.2 with ⟨h', _⟩ | ⟨g', cap', cur', h', _, hg', _⟩
        · cases h'
        · cases h'; exact Lib.frozen_of_heap hg' _
      refine ⟨i, gb, rfl, rfl, by omega, by rw [Lib.cell_of_heap e1]; rfl, by rw [k4.cellAt (i * 2 + 1) (by omega)]; exact (ownC_at o i _ hi).2, hgz, ⟨.slice go g.length gcap, .slice (some ⟨gb, 0, none⟩) o.length cap, ?_, k2, ?_, ?_, k5⟩, ?_⟩
      · exact (fr.block vb (heap_lt e1) (fun e => hne e.symm)).trans e1
      · exact k3.fr fr (fun k hk e => by omega)
      · rw [hset v]
        have := ownz_set k4 (j := i * 2 + 1) (by omega) (.int .i64 v)
        rw [ownC_set o i n x v hi] at this
        rw [List.length_set]
        exact this
      · exact (Step.new hF).trans ⟨fr.mono (fun k _ hk => by subst hk; rw [k5]; exact .inr rfl), fun _ h => .inl h⟩))
    clear hpl hf hH h1 h2 h4 hao hS
    generalize o.length = m at *
    generalize setV o n v = o2 at *
    go_enter Tryz.func112, Tryz.ntmps112
    go_wp2_with (go_at_call 108; (with_reducible refine HPL.out.mono ?_); rintro e w1 ⟨i, gb, rfl, rfl, him, c1, k1, f1, hV, hS1⟩; have HV := Lib.hid hV; have HS1 := Lib.hid hS1; clear hV hS1)
    refine bodyPost_ret (results_none rfl _ _ _) rfl ?_
    exact ⟨rfl, _, HV.out, HS1.out⟩
  | none =>
    obtain ⟨i0, hi, hz0, hz1, hz2⟩ := info_parts infoVariable
    have HPL := Lib.hid (show Calls Tryz.prog 108 #[.pointer (some ⟨vb, 0, none⟩), .string (st n)] W (fun e w' => e = .returned (.int .i64 (-1)) ∧ w'.cell? ⟨vb, 1, none⟩ = some (.slice ao o.length cap) ∧ w'.frozen? ⟨vb, 1, none⟩ = false ∧ vb < w'.heap.size ∧ B ≤ w'.heap.size ∧ w'.ownsRow B 60 2 (.slice ao o.length cap) o.length (ownC o) ∧ w'.heap[vb]? = some (.cells #[.slice go g.length gcap, .slice ao o.length cap] 41 (0, 0)) ∧ Fr (fun _ => False) W w') from hpl.mono (by
      rintro e w' ⟨z, rfl, hz, hF⟩
      obtain ⟨rfl, -⟩ := place_none hz hf
      have e1 : w'.heap[vb]? = some (.cells #[.slice go g.length gcap, .slice ao o.length cap] 41 (0, 0)) := (hF.block _ (heap_lt h1) id).trans h1
      exact ⟨rfl, by rw [Lib.cell_of_heap e1]; rfl, Lib.frozen_of_heap e1 1, heap_lt e1, Nat.le_trans hH.le hF.size, ownz_fr h4 hF (fun _ _ => id), e1, hF⟩))
    have HSET := Lib.hid (setV_none o n hf v)
    have HV := Lib.hid (fun (w1 w2 : World) (gb cap2 : Nat) => set_step (w1 := w1) (w2 := w2) (gb := gb) (cap2 := cap2) (n := n) (v := v) (cs := #[.string (st n), .int .i64 v]) hH h1)
    have HSTR := Lib.hid (show ∀ u ∈ [Value.string (st n), .int .i64 v], u.oneCell' = true by intro u hu; simp at hu; rcases hu with rfl | rfl <;> rfl)
    clear hpl hf hH h1 h2 h4 hao hS
    rw [HSET.out]
    generalize hx : st n = x at *
    generalize hm : o.length = m at *
    go_enter Tryz.func112, Tryz.ntmps112
    go_wp2_with (first
      | (go_at_call 108; (with_reducible refine HPL.out.mono ?_); rintro e w1 ⟨rfl, c1, f1, hvl, hBl, hown, e1, hF1⟩; have HO := Lib.hid hown; have HE := Lib.hid e1; have HF1 := Lib.hid hF1; clear hown e1 hF1)
      | (at_builtin; refine wpList_append_lies _ rfl _ _ 39 rfl B 60 i0 (.agg #[.string ByteArray.empty, .int .i64 0]) 2 24 Tryz.underlying39 hi hz0 hz1 hz2 rfl (by decide) _ _ _ rfl (HO.out.alloc _) ⟨_, 0, none⟩ 1 1 [.string x, .int .i64 v] rfl rfl (cell_new2 _ _ _ _) HSTR.out (by decide) (by unfold maxLen; omega) (by omega) (by simp; omega) (w1.heap.size + 1) (by simp) ?_
         intro gb cap2 w2 hown' hgrow hat hlt2
         have HW := Lib.hid (HV.out w1 w2 gb cap2 HF1.out hown' hgrow hat)
         have e2 : w2.heap[vb]? = some (.cells #[.slice go g.length gcap, .slice ao m cap] 41 (0, 0)) := (hgrow.block vb (by simp; omega) (by intro hk; exact own_ne HO.out HE.out hk.symm)).trans ((Below.heap_alloc _ _ _ hvl).trans HE.out)
         have c2 : w2.cell? ⟨vb, 1, none⟩ = some (.slice ao m cap) := (by rw [Lib.cell_of_heap e2]; rfl)
         have f2 : w2.frozen? ⟨vb, 1, none⟩ = false := Lib.frozen_of_heap e2 1
         clear hown' hgrow hat c1 f1 e2))
    refine bodyPost_end (results_none rfl _ _ _) rfl ?_
    exact ⟨rfl, HW.out⟩
end Go.Proofs.YtbmnngliapmgfaaGreatDoor
namespace Go.Proofs.YtbmnngliapmgfaaGreatDoor
open Go.RowKit
set_option linter.unusedVariables false
set_option linter.unusedSimpArgs false
def tyN : Nd → TypeId
  | .num _ => 57
  | .nam _ => 125
  | .pre _ _ => 124
  | .bin _ _ _ => 111
  | .cho _ _ _ => 87
  | .asg _ _ _ => 72
def vlN : Nd → Value
  | .num n => .int .i64 n
  | .nam s => .string (st s)
  | .pre g r => .agg #[.string (st g), enc r]
  | .bin g l r => .agg #[.string (st g), enc l, enc r]
  | .cho c y n => .agg #[enc c, enc y, enc n]
  | .asg s g r => .agg #[.string (st s), .string (st g), enc r]
def fnN : Nd → Nat
  | .num _ => 109
  | .nam _ => 128
  | .pre _ _ => 127
  | .bin _ _ _ => 126
  | .cho _ _ _ => 125
  | .asg _ _ _ => 110
theorem enc_form (n : Nd) : enc n = .iface (tyN n) (vlN n) := by cases n <;> rfl
def asgN : Nd → Nat
  | .num _ => 0
  | .nam _ => 0
  | .pre _ r => asgN r
  | .bin _ l r => asgN l + asgN r
  | .cho c y n => asgN c + asgN y + asgN n
  | .asg _ _ r => asgN r + 1
theorem setV_len (o : Own) (n : Bs) (v : Int) : (setV o n v).length ≤ o.length + 1 := by
  induction o with
  | nil => simp [setV]
  | cons q r ih => rw [setV]; split <;> simp; omega
theorem ev_len (g : List (Bs × Bs)) : ∀ (n : Nd) (o : Own), (ev g n o).2.length ≤ o.length + asgN n
  | .num n, o => by simp [ev, asgN]
  | .nam s, o => by simp [ev, asgN]
  | .pre s r, o => by
    have := ev_len g r o
    rw [ev, asgN]
    split
    rename_i a e o1 h
    rw [h] at this
    split <;> exact this
  | .bin s l r, o => by
    have h1 := ev_len g l o
    rw [ev, asgN]
    split
    rename_i a e o1 h
    rw [h] at h1
    dsimp only at h1
    have h2 := ev_len g r o1
    split
    · split
      · dsimp only; omega
      · split
        rename_i b e2 o2 h'
        rw [h'] at h2
        dsimp only at h2
        split <;> dsimp only <;> omega
    · dsimp only; omega
  | .cho c y n, o => by
    have h1 := ev_len g c o
    rw [ev, asgN]
    split
    rename_i a e o1 h
    rw [h] at h1
    dsimp only at h1
    have h2 := ev_len g y o1
    have h3 := ev_len g n o1
    split
    · split <;> omega
    · dsimp only; omega
  | .asg s t r, o => by
    have h1 := ev_len g r o
    rw [ev, asgN]
    split
    rename_i a e o1 h
    rw [h] at h1
    dsimp only at h1
    have h2 := fun v => setV_len o1 s v
    split
    · split
      · dsimp only; have := h2 a; omega
      · split
        · split
          · dsimp only; have := h2 (opI t (getV g o1 s).fst a).fst; omega
          · dsimp only; omega
        · dsimp only; omega
    · dsimp only; omega
def evPost (B vb : Nat) (g : List (Bs × Bs)) (S : Nat → Prop) (W : World) (r : (Int × Int) × Own) (e : Ending) (w' : World) : Prop :=
  e = .returned (.tuple #[.int .i64 r.1.1, .int .i64 r.1.2]) ∧ ∃ S', VT w' B vb S' g r.2 ∧ Step S S' W w'
def Evs (B vb : Nat) (g : List (Bs × Bs)) (n : Nd) : Prop := ∀ (o : Own) (S : Nat → Prop) (W : World), VT W B vb S g o → o.length + asgN n ≤ 1000000 → Calls Tryz.prog (fnN n) #[vlN n, .pointer (some ⟨vb, 0, none⟩)] W (evPost B vb g S W (ev g n o))
/-- the method that a node's type has. -/
theorem meth (n : Nd) (w : World) : (method 251 (tyN n) (vlN n) "almoner/arith.value").run Tryz.prog w = .ok (fnN n, vlN n) w := by
  cases n <;> kernel_rfl
theorem meth_in (n : Nd) (args : Array Value) (w : World) : (callFunc (fnN n) args).run Tryz.prog w = .ok (.enter (fnN n) args) w := by
  cases n <;> kernel_rfl
theorem ev_num (B vb : Nat) (g : List (Bs × Bs)) (n : Int) : Evs B vb g (.num n) := by
  intro o S W h hl
  show Calls Tryz.prog 109 #[.int .i64 n, .pointer (some ⟨vb, 0, none⟩)] W (evPost B vb g S W ((n, 0), o))
  go_enter Tryz.func109, Tryz.ntmps109
  go_wp2
  go_ret2
  exact ⟨rfl, S, h, Step.refl _ _⟩
theorem ev_nam (B vb : Nat) (g : List (Bs × Bs)) (s : Bs) : Evs B vb g (.nam s) := by
  intro o S W h hl
  show Calls Tryz.prog 128 #[.string (st s), .pointer (some ⟨vb, 0, none⟩)] W (evPost B vb g S W (getV g o s, o))
  have HG := Lib.hid (get_any s h (by omega))
  have HV := Lib.hid (fun W' (f : Fr (fun _ => False) W W') => h.fresh f)
  clear h
  generalize getV g o s = r at *
  generalize st s = x at *
  go_enter Tryz.func128, Tryz.ntmps128
  go_wp2_with (go_at_call 113; (with_reducible refine HG.out.mono ?_); rintro e w1 ⟨rfl, hF1⟩; have HF1 := Lib.hid hF1; clear hF1)
  go_ret2
  exact ⟨rfl, S, HV.out _ HF1.out, Step.new HF1.out⟩
/-- what stands in the block that was made last, behind a step. -/
theorem box_keep {W w1 : World} {B vb : Nat} {S S' : Nat → Prop} {g : List (Bs × Bs)} {o : Own} {cs : Array Value} {t : TypeId} (h : VT W B vb S g o) (hs : Step S S' (W.alloc (.cells cs t)) w1) {j : Nat} {v : Value} (hj : cs[j]? = some v) : w1.cell? ⟨W.heap.size, j, none⟩ = some v := by
  refine hs.1.cell ?_ (fun hk => ?_)
  · rw [Lib.cell_of_heap (heap_alloc_new W _)]; exact hj
  · have := (h.lt hk).2; omega
theorem step_box {W w1 : World} {B vb : Nat} {S S' : Nat → Prop} {g : List (Bs × Bs)} {o : Own} {cs : Array Value} {t : TypeId} (hs : Step S S' (W.alloc (.cells cs t)) w1) : Step S S' W w1 :=
  (Step.new ((Fr.refl _ W).alloc _)).trans hs
set_option maxRecDepth 100000 in
set_option maxHeartbeats 2000000 in
theorem ev_pre (B vb : Nat) (g : List (Bs × Bs)) (s : Bs) (r : Nd) (ih : Evs B vb g r) : Evs B vb g (.pre s r) := by
  intro o S W h hl
  show Calls Tryz.prog 127 #[.agg #[.string (st s), enc r], .pointer (some ⟨vb, 0, none⟩)] W (evPost B vb g S W (ev g (.pre s r) o))
  have hF : Fr (fun _ => False) W (W.alloc (.cells #[.string (st s), .iface (tyN r) (vlN r)] 124)) := (Fr.refl _ _).alloc _
  have hI := ih o S _ (h.fresh hF) (by simp only [asgN] at hl; omega)
  rw [enc_form, ev]
  have hme := meth r
  have hmi := meth_in r
  clear hl ih
  rcases hev : ev g r o with ⟨⟨a, e⟩, o1⟩
  rw [hev] at hI
  have HI := Lib.hid (hI.mono (show ∀ e' w', _ → (e' = .returned (.tuple #[.int .i64 a, .int .i64 e]) ∧ W.heap.size < w'.heap.size ∧ w'.cell? ⟨W.heap.size, 0, none⟩ = some (.string (st s)) ∧ ∃ S', VT w' B vb S' g o1 ∧ Step S S' W w') from by
    rintro e' w' ⟨rfl, S', hV, hS⟩
    exact ⟨rfl, Nat.lt_of_lt_of_le (by simp) hS.1.size, box_keep h hS rfl, S', hV, (Step.new hF).trans hS⟩))
  clear hI hev hF
  generalize tyN r = ta at *
  generalize vlN r = va at *
  generalize fnN r = fa at *
  dsimp only
  by_cases he : e = 0
  · subst he
    rw [if_pos rfl]
    have hb : (s = [45]) ∨ (s ≠ [45] ∧ s = [126]) ∨ (s ≠ [45] ∧ s ≠ [126] ∧ s = [33]) ∨ (s ≠ [45] ∧ s ≠ [126] ∧ s ≠ [33]) := by
      by_cases h1 : s = [45]
      · exact .inl h1
      · by_cases h2 : s = [126]
        · exact .inr (.inl ⟨h1, h2⟩)
        · by_cases h3 : s = [33]
          · exact .inr (.inr (.inl ⟨h1, h2, h3⟩))
          · exact .inr (.inr (.inr ⟨h1, h2, h3⟩))
    have g45 := st_dec s [45]
    have g126 := st_dec s [126]
    have g33 := st_dec s [33]
    have HT := Lib.hid (truth_any (a == 0))
    have E := Lib.hid (show preI s a = if s = [45] then wrap64 (-a) else if s = [126] then bits .xor .i64 (-1) a else if s = [33] then truth (a == 0) else a from rfl)
    generalize st s = x at *
    rcases hb with h1 | ⟨h1, h2⟩ | ⟨h1, h2, h3⟩ | ⟨h1, h2, h3⟩
    · rw [if_pos h1] at E
      rw [show decide (s = [45]) = true by simpa using h1] at g45
      clear g126 g33 h1
      go_enter Tryz.func127, Tryz.ntmps127
      go_wp2_with ((with_reducible refine HI.out.mono ?_); rintro e w1 ⟨rfl, hlt, c0, S', hV, hS⟩; have HV := Lib.hid hV; have HS := Lib.hid hS; clear hV hS)
      go_ret2
      exact ⟨ret_two (by rw [E.out]; rfl) rfl, S', HV.out, HS.out⟩
    · rw [if_neg h1, if_pos h2] at E
      rw [show decide (s = [45]) = false by simpa using h1] at g45
      rw [show decide (s = [126]) = true by simpa using h2] at g126
      clear g33 h1 h2
      go_enter Tryz.func127, Tryz.ntmps127
      go_wp2_with ((with_reducible refine HI.out.mono ?_); rintro e w1 ⟨rfl, hlt, c0, S', hV, hS⟩; have HV := Lib.hid hV; have HS := Lib.hid hS; clear hV hS)
      go_ret2
      exact ⟨ret_two (by rw [E.out]; rfl) rfl, S', HV.out, HS.out⟩
    · rw [if_neg h1, if_neg h2, if_pos h3] at E
      rw [show decide (s = [45]) = false by simpa using h1] at g45
      rw [show decide (s = [126]) = false by simpa using h2] at g126
      rw [show decide (s = [33]) = true by simpa using h3] at g33
      clear h1 h2 h3
      generalize truth (a == 0) = tz at *
      go_enter Tryz.func127, Tryz.ntmps127
      go_wp2_with (first | (go_at_call 120; (with_reducible refine (HT.out _).mono ?_); rintro e w1 ⟨rfl, rfl⟩) | ((with_reducible refine HI.out.mono ?_); rintro e w1 ⟨rfl, hlt, c0, S', hV, hS⟩; have HV := Lib.hid hV; have HS := Lib.hid hS; clear hV hS))
      go_ret2
      exact ⟨ret_two (by rw [E.out]; rfl) rfl, S', HV.out, HS.out⟩
    · rw [if_neg h1, if_neg h2, if_neg h3] at E
      rw [show decide (s = [45]) = false by simpa using h1] at g45
      rw [show decide (s = [126]) = false by simpa using h2] at g126
      rw [show decide (s = [33]) = false by simpa using h3] at g33
      clear h1 h2 h3
      go_enter Tryz.func127, Tryz.ntmps127
      go_wp2_with ((with_reducible refine HI.out.mono ?_); rintro e w1 ⟨rfl, hlt, c0, S', hV, hS⟩; have HV := Lib.hid hV; have HS := Lib.hid hS; clear hV hS)
      go_ret2
      exact ⟨ret_two (by rw [E.out]; rfl) rfl, S', HV.out, HS.out⟩
  · rw [if_neg he]
    have he' : (e == 0) = false := by simpa using he
    clear he
    go_enter Tryz.func127, Tryz.ntmps127
    go_wp2_with ((with_reducible refine HI.out.mono ?_); rintro e w1 ⟨rfl, hlt, c0, S', hV, hS⟩; have HV := Lib.hid hV; have HS := Lib.hid hS; clear hV hS)
    go_ret2
    exact ⟨rfl, S', HV.out, HS.out⟩
end Go.Proofs.YtbmnngliapmgfaaGreatDoor
