/- All words of a text stand in its nodes: the law's walk. -/
/- All words of a text stand in its nodes: the walk itself. -/
import Derived.Test.YtoahgblgchmclaaQM
import Derived.Test.YtoahgblgchmclaaQG
import Derived.Test.YtoahgblgchmclaaLU
import Derived.Test.YtoahgblgchmclaaLP
namespace Go.Proofs.Ytoahgblgchmclaa
open Go.RowKit
set_option linter.unusedVariables false
set_option linter.unusedSimpArgs false
theorem wT_snoc (ts : List Tk) (i : Nat) (h : i < ts.length) : wT (ts.take (i + 1)) = wT (ts.take i) + wTk ts[i] := by
  unfold wT; rw [List.take_succ_eq_append_getElem h, List.map_append, List.sum_append]; simp
theorem wTk_le (t : Tk) : wTk t ≤ 1 := by
  unfold wTk; split
  · exact nres_le _
  · omega
theorem wT_le (l : List Tk) : wT l ≤ l.length := by
  induction l with
  | nil => exact Nat.le_refl _
  | cons a r ih =>
    have := wTk_le a
    have e : wT (a :: r) = wTk a + wT r := by simp [wT]
    rw [e, List.length_cons]; omega
theorem wNs_snoc (l : List Nd) (i : Nat) (h : i < l.length) : wNs (l.take (i + 1)) = wNs (l.take i) + wN l[i] := by
  rw [List.take_succ_eq_append_getElem h, wNs_app]; simp [wNs]
theorem wPs_snoc (l : List (List Bs)) (i : Nat) (h : i < l.length) : wPs (l.take (i + 1)) = wPs (l.take i) + wl l[i] := by
  rw [List.take_succ_eq_append_getElem h, wPs_app]; simp [wPs]
theorem wRd_snoc (l : List Rd) (i : Nat) (h : i < l.length) : wRd (l.take (i + 1)) = wRd (l.take i) + nres (l[i]).word := by
  rw [List.take_succ_eq_append_getElem h, wRd_app]; simp [wRd]
theorem wRd_le (l : List Rd) : wRd l ≤ l.length := by
  induction l with
  | nil => exact Nat.le_refl _
  | cons a r ih =>
    have := nres_le a.word
    have e : wRd (a :: r) = nres a.word + wRd r := by simp [wRd]
    rw [e, List.length_cons]; omega
theorem wPs_le : ∀ (l : List (List Bs)), (∀ p ∈ l, p.length ≤ 1000) → wPs l ≤ 1000 * l.length := by
  intro l
  induction l with
  | nil => intro _; exact Nat.zero_le _
  | cons a r ih =>
    intro h
    have h1 := ih (fun p hp => h p (List.mem_cons_of_mem _ hp))
    have h2 := Nat.le_trans (wl_le a) (h a (List.mem_cons_self ..))
    have e : wPs (a :: r) = wl a + wPs r := by simp [wPs]
    rw [e, List.length_cons]; omega
theorem wN_le (n : Nd) (h : Sm n) : wN n ≤ 1002001 := by
  have h1 := wPs_le n.pats h.2.2
  have h2 := wl_le n.words
  have h3 := wRd_le n.redirs
  have h4 := h.1
  have h5 := h.2.1
  have h6 := nres_le n.name
  unfold wN
  split <;> omega
theorem wNs_le : ∀ (l : List Nd), (∀ n ∈ l, Sm n) → wNs l ≤ 1002001 * l.length := by
  intro l
  induction l with
  | nil => intro _; exact Nat.zero_le _
  | cons a r ih =>
    intro h
    have h1 := ih (fun p hp => h p (List.mem_cons_of_mem _ hp))
    have h2 := wN_le a (h a (List.mem_cons_self ..))
    have e : wNs (a :: r) = wN a + wNs r := by simp [wNs]
    rw [e, List.length_cons]; omega
theorem noDig_snoc {l : List Nd} {i : Nat} (h : i < l.length) (hd : noDig (l.take i)) (hr : ndR l[i].redirs) : noDig (l.take (i + 1)) := by
  intro n hn
  rw [List.take_succ_eq_append_getElem h, List.mem_append, List.mem_singleton] at hn
  rcases hn with hn | rfl
  · exact hd n hn
  · exact hr
theorem ndR_snoc {l : List Rd} {i : Nat} (h : i < l.length) (hd : ndR (l.take i)) (hr : digW l[i].word = false) : ndR (l.take (i + 1)) := by
  intro n hn
  rw [List.take_succ_eq_append_getElem h, List.mem_append, List.mem_singleton] at hn
  rcases hn with hn | rfl
  · exact hd n hn
  · exact hr
/-- the slices of a case's patterns. -/
theorem Pats.cell {W : World} {K : Nat → Prop} {v : Value} {l : List (List Bs)} (h : Pats W K v l) : ∃ ao cap, v = .slice ao l.length cap ∧ ∀ (i : Nat) (x : List Bs), l[i]? = some x → ∃ g u, ao = some ⟨g, 0, none⟩ ∧ W.cell? ⟨g, i, none⟩ = some u ∧ Strs W K u x := by
  obtain ⟨vs, h1, _, h2, h3⟩ := h
  obtain ⟨ao, cap, rfl, _, _, h5⟩ := ownz_form h1
  refine ⟨ao, cap, rfl, fun i x hx => ?_⟩
  have hi := (List.getElem?_eq_some_iff.1 hx).1
  obtain ⟨g, rfl⟩ := h5 (by omega)
  have hu : vs[i]? = some (vs[i]'(by omega)) := List.getElem?_eq_getElem (by omega)
  refine ⟨g, vs[i]'(by omega), rfl, ?_, h3 i _ x hu hx⟩
  rw [h1.cellAt i (by omega)]
  exact hu
theorem Strs.at {W : World} {K : Nat → Prop} {v : Value} {l : List Bs} (h : Strs W K v l) : ∃ ao cap, v = .slice ao l.length cap ∧ ∀ (i : Nat) (x : Bs), l[i]? = some x → ∃ g, ao = some ⟨g, 0, none⟩ ∧ W.cell? ⟨g, i, none⟩ = some (.string (st x)) := by
  have h1 := h.1
  obtain ⟨ao, cap, rfl, _, _, h5⟩ := ownz_form h1
  refine ⟨ao, cap, rfl, fun i x hx => ?_⟩
  have hi := (List.getElem?_eq_some_iff.1 hx).1
  obtain ⟨g, rfl⟩ := h5 (by omega)
  refine ⟨g, rfl, ?_⟩
  rw [h1.cellAt i (by omega), List.getElem?_map, hx]
  rfl
theorem rdC_len (l : List Rd) : (l.flatMap rdC).length = l.length * 3 := by
  induction l with
  | nil => rfl
  | cons t r ih => rw [List.flatMap_cons, List.length_append, ih]; simp [rdC]; omega
theorem rdC_get (l : List Rd) (k : Nat) (h : k < l.length) : (l.flatMap rdC)[k * 3 + 2]? = some (.string (st l[k].word)) := by
  induction l generalizing k with
  | nil => simp at h
  | cons t r ih =>
    rw [List.flatMap_cons]
    cases k with
    | zero => rfl
    | succ k =>
      have := ih k (by simpa using h)
      have h3 : (rdC t).length = 3 := rfl
      rw [List.getElem?_append_right (by omega), h3, show (k + 1) * 3 + 2 - 3 = k * 3 + 2 by omega]
      exact this
theorem Rds.at {W : World} {K : Nat → Prop} {v : Value} {l : List Rd} (h : Rds W K v l) : ∃ ao cap, v = .slice ao l.length cap ∧ ∀ (i : Nat) (hi : i < l.length), ∃ g, ao = some ⟨g, 0, none⟩ ∧ W.cell? ⟨g, i * 3 + 2, none⟩ = some (.string (st l[i].word)) := by
  have h1 := h.1
  obtain ⟨ao, cap, rfl, _, _, h5⟩ := ownz_form h1
  refine ⟨ao, cap, rfl, fun i hi => ?_⟩
  obtain ⟨g, rfl⟩ := h5 (by omega)
  refine ⟨g, rfl, ?_⟩
  rw [h1.cellAt (i * 3 + 2) (by omega)]
  exact rdC_get l i hi
theorem plain_one (g cap : Nat) (x : Bs) (W : World) (h : W.cell? ⟨g, 0, none⟩ = some (.string (st x))) :
    Calls Try.prog 13 #[.slice (some ⟨g, 0, none⟩) 1 cap] W fun e w' => e = .returned (.int .i64 (nres x)) ∧ w' = W := by
  have e : wl [x] = nres x := by simp [wl]
  rw [← e]
  refine rows_any (some ⟨g, 0, none⟩) cap [x] W (by simp) (fun i y hy => ?_)
  cases i with
  | zero => simp at hy; subst hy; exact ⟨g, rfl, h⟩
  | succ i => simp at hy
theorem cell_new (W : World) (x : Value) (t : TypeId) : (W.alloc (.cells #[x] t)).cell? ⟨W.heap.size, 0, none⟩ = some x := by
  rw [Lib.cell_of_heap (heap_alloc_new W _)]; rfl
theorem words_eq {l : Bs} {ts : List Tk} {ns : List Nd} (h : allA l = .ok ts) (hT : parseT ts = (ns, 0, 0)) (hd : noDig ns) : wT ts = wNs ns := by
  have := parseT_words (allA_good h).1 (by rw [hT]) (by rw [hT]; exact hd)
  rw [hT] at this
  exact this
end Go.Proofs.Ytoahgblgchmclaa
namespace Go.Proofs.Ytoahgblgchmclaa
open Go.RowKit
set_option linter.unusedVariables false
set_option linter.unusedSimpArgs false
set_option maxRecDepth 100000 in
set_option maxHeartbeats 32000000 in
theorem words_any (s : ByteArray) (W : World) (hs : s.size ≤ maxLen) :
    Calls Try.prog 4 #[.string s] W fun e w' => e = .returned (.bool true) ∧ Below W.heap.size W w' := by
  have HS := Lib.hid pshown_any
  rcases parseA_cases s.data.toList with ⟨k, c, hA, hc, hk⟩ | ⟨ts, ns, bs, hAl, hT, hA, hsnd, hlen, hfin⟩
  · have C := Lib.hid (parse_bad s hs k c hA)
    rw [size_len] at hk
    unfold maxLen at hs
    have gc : (((c : Int) != 0) : Bool) = true := by rw [bne_iff_ne]; exact hc
    clear hA hc
    go_enter Try.func4, Try.ntmps4
    go_wp2_with (first
      | (go_at_call 8; (with_reducible refine (HS.out _).mono ?_); rintro e w1 ⟨rfl, hF1⟩; have HF1 := Lib.hid hF1; clear hF1)
      | (go_at_call 9; (with_reducible refine (C.out _).mono ?_); rintro e w2 ⟨ao, cap, rfl, hF2⟩; have HF2 := Lib.hid (HF1.out.trans hF2); clear hF2))
    go_ret
    exact ⟨rfl, HF2.out.bel (fun _ h => h.elim) (Nat.le_refl _)⟩
  · have C := Lib.hid (fun w => (show Calls Try.prog 9 #[.string s] w fun e w' => ∃ ao cap K, e = .returned (.tuple #[.slice ao ns.length cap, .int .i64 0, .int .i64 0]) ∧ Nds w' K (.slice ao ns.length cap) ns ∧ (0 < ns.length → ∃ g, ao = some ⟨g, 0, none⟩) ∧ ns.length ≤ cap ∧ Fr (fun _ => False) w w' from by
      refine (parse_any s hs w).mono ?_
      rw [hA]
      rintro e w' ⟨v, K, rfl, hN, hK, hv, hF⟩
      obtain ⟨cs, h1, _⟩ := id hN
      obtain ⟨ao, cap, rfl, hc, _, h5⟩ := ownz_form h1
      exact ⟨ao, cap, K, rfl, hN, h5, hc, hF⟩))
    have CA := Lib.hid (fun w => (show Calls Try.prog 11 #[.string s] w fun e w' => ∃ g cap, e = .returned (.tuple #[.slice (some ⟨g, 0, none⟩) ts.length cap, .int .i64 0, .int .i64 0]) ∧ Row w' w.heap.size (.slice (some ⟨g, 0, none⟩) ts.length cap) ts ∧ ts.length ≤ cap ∧ Fr (fun _ => False) w w' from by
      refine (rAll_any s hs w).mono ?_
      rw [hAl]
      rintro e w' ⟨v, rfl, hr, hF⟩
      obtain ⟨g, cap, rfl, h1, h2, h3⟩ := row_open hr (allA_good hAl).1.ne
      exact ⟨g, cap, rfl, hr, h3, hF⟩))
    have hsm : ∀ n ∈ ns, Sm n := by have := parseT_sm (ts := ts) (by have := allA_len' hAl; omega); rw [hT] at this; exact this
    have HSM := Lib.hid hsm
    have HEQ := Lib.hid (fun hd => words_eq hAl hT hd)
    have htl := allA_len' hAl
    have HTB := Lib.hid (fun i => Nat.le_trans (wT_le (ts.take i)) (by rw [List.length_take]; omega : (ts.take i).length ≤ 401))
    have HNB := Lib.hid (fun i => (show wNs (ns.take i) ≤ 400000000 from by
      have h1 := wNs_le (ns.take i) (fun n hn => hsm n (List.mem_of_mem_take hn))
      have h2 : (ns.take i).length ≤ 300 := by rw [List.length_take]; omega
      omega))
    have HTN := Lib.hid (wT_snoc ts)
    have HNN := Lib.hid (wNs_snoc ns)
    have HR := Lib.hid resv_any
    clear hA hAl hT hsnd hfin hsm
    unfold maxLen at hs
    go_enter Try.func4, Try.ntmps4
    go_upto_region 8 with (first
      | (go_at_call 8; (with_reducible refine (HS.out _).mono ?_); rintro e w1 ⟨rfl, hF1⟩; have HF1 := Lib.hid hF1; clear hF1)
      | (go_at_call 9; (with_reducible refine (C.out _).mono ?_); rintro e w2 ⟨ao, cap, K, rfl, hN, hao, hcap, hF2⟩; have HN2 := Lib.hid hN; have HAO := Lib.hid hao; have HF2 := Lib.hid (HF1.out.trans hF2); clear hF2 hN hao)
      | (go_at_call 11; (with_reducible refine (CA.out _).mono ?_); rintro e w3 ⟨g3, cap3, rfl, hr3, hcap3, hF3⟩; have HR3 := Lib.hid hr3; have HN := Lib.hid (HN2.out.keep hF3 (fun _ _ => id) (fun _ _ => id)); have HF3 := Lib.hid (HF2.out.trans hF3); clear hF3 hr3))
    go_loop [10, 11, 12] (fun nv iv _ => ∃ i : Nat, iv = .int .i64 i ∧ i ≤ ts.length ∧ nv = .int .i64 (wT (ts.take i) : Nat)) (fun _ iv _ => ts.length - (intOf iv).toNat)
    case atStart => exact ⟨0, rfl, Nat.zero_le _, rfl⟩
    case round =>
      obtain ⟨i, rfl, hi, rfl⟩ := hrel
      by_cases hlt : i < ts.length
      · obtain ⟨q0, q1, _⟩ := row_cell HR3.out i hlt
        have hk := HTB.out i
        have hw := HTN.out i hlt
        generalize ts[i] = t at *
        generalize wT (ts.take i) = k at *
        have HRT := Lib.hid (HR.out t.text)
        by_cases h1 : t.kind = 1
        · have g1 : ((t.kind == 1) : Bool) = true := by rw [h1]; rfl
          cases hx : isRes t.text with
          | true =>
            have hn : wTk t = 0 := by unfold wTk nres; rw [if_pos h1, if_pos hx]
            have HX := Lib.hid hx
            clear hx h1
            go_wp2_with (go_at_call 12; (with_reducible refine (HRT.out _).mono ?_); rintro e wx ⟨rfl, rfl⟩; rw [HX.out])
            go_round
            case rel => exact ⟨i + 1, by go_num, hlt, by rw [hw, hn]; go_num⟩
            case measure => simp [intOf]; omega
          | false =>
            have hn : wTk t = 1 := by unfold wTk nres; rw [if_pos h1, if_neg (by rw [hx]; decide)]
            have HX := Lib.hid hx
            clear hx h1
            go_wp2_with (go_at_call 12; (with_reducible refine (HRT.out _).mono ?_); rintro e wx ⟨rfl, rfl⟩; rw [HX.out])
            go_round
            case rel => exact ⟨i + 1, by go_num, hlt, by rw [hw, hn]; go_num⟩
            case measure => simp [intOf]; omega
        · have g1 : ((t.kind == 1) : Bool) = false := by rw [beq_eq_false_iff_ne]; exact h1
          have hn : wTk t = 0 := by unfold wTk; rw [if_neg h1]
          go_wp2_with (go_at_call 12; (with_reducible refine (HRT.out _).mono ?_); rintro e wx ⟨rfl, rfl⟩)
          go_round
          case rel => exact ⟨i + 1, by go_num, hlt, by rw [hw, hn]; go_num⟩
          case measure => simp [intOf]; omega
      · obtain rfl : i = ts.length := by omega
        rw [List.take_length] at *
        clear hlt HR3
        go_upto_region 15 with fail
        go_loopw [13, 14, 15, 16, 17, 18, 19, 20] (fun mv iv _ _ _ _ _ _ wr => ∃ i : Nat, iv = .int .i64 i ∧ i ≤ ns.length ∧ mv = .int .i64 (wNs (ns.take i) : Nat) ∧ noDig (ns.take i) ∧ Fr (fun _ => False) w3 wr) (fun _ iv _ _ _ _ _ _ _ => ns.length - (intOf iv).toNat)
        case atStart => exact ⟨0, rfl, Nat.zero_le _, rfl, fun n hn => by simp at hn, Fr.refl _ _⟩
        case round =>
          obtain ⟨i, rfl, hi, rfl, hnd, hF⟩ := hrel
          have HND := Lib.hid hnd
          have HF := Lib.hid hF
          have HNr := Lib.hid (HN.out.keep hF (fun _ _ => id) (fun _ _ => id))
          clear hnd hF
          by_cases hlt : i < ns.length
          · skip
            obtain ⟨g, rfl⟩ := HAO.out (by omega)
            obtain ⟨sv, wv, rv, pv, kv, hNd, r1, r2, r3, r4, r5, hcell⟩ := Nds.cell HNr.out rfl i _ (get_getD hlt)
            have hsm := HSM.out _ (List.mem_of_getElem? (get_getD hlt))
            have hw := HNN.out i hlt
            have hk := HNB.out i
            have hk1 := HNB.out (i + 1)
            have hei : ns[i] = ns.getD i (nd 0 []) := by have := get_getD hlt; rw [List.getElem?_eq_getElem hlt] at this; injection this
            have hnx := fun (hr : ndR (ns.getD i (nd 0 [])).redirs) => noDig_snoc hlt HND.out (by rw [hei]; exact hr)
            rw [hei] at hw
            clear hei
            generalize ns.getD i (nd 0 []) = m at *
            have HNXT := Lib.hid hnx
            have HWN := Lib.hid hw
            have HK1 := Lib.hid hk1
            have hwm := wN_le m hsm
            have HSMM := Lib.hid hsm
            obtain ⟨hs1, hs2, hs3⟩ := hsm
            generalize wNs (ns.take i) = k at *
            have q0 : wr.cell? ⟨g, i * 8, none⟩ = some (.int .i64 m.kind) := hcell 0 _ rfl
            have q1 := hcell 1 _ rfl
            have q2 := hcell 2 _ rfl
            have q3 := hcell 3 _ rfl
            have q4 := hcell 4 _ rfl
            have q5 := hcell 5 _ rfl
            have q6 := hcell 6 _ rfl
            have q7 := hcell 7 _ rfl
            have HR2 := Lib.hid r2
            have HR3 := Lib.hid r3
            have HR4 := Lib.hid r4
            obtain ⟨so, sc, rfl, _, hsc, _⟩ := ownz_form r1.1
            obtain ⟨wo, wc, rfl, _⟩ := Strs.at r2
            obtain ⟨ro, rc, rfl, _⟩ := Rds.at r3
            obtain ⟨ko, kc, rfl, hkc, hkm, hko⟩ := ownz_form r5.1
            obtain ⟨po, pc, rfl, _⟩ := Pats.cell r4
            clear hcell hNd r1 r2 r3 r4 r5 hnx hw hk1
            go_upto_region 18 with fail
            obtain ⟨wn, hwn⟩ : ∃ wn, wr.alloc (.cells #[.int .i64 m.kind, .string (st m.name), .bool m.inn, .slice so m.sets.length sc, .slice wo m.words.length wc, .slice ro m.redirs.length rc, .slice po m.pats.length pc, .slice ko m.kids.length kc] 32) = wn := ⟨_, rfl⟩
            obtain ⟨T, hTT⟩ : ∃ T, wr.heap.size = T := ⟨_, rfl⟩
            have hT : wn.heap[T]? = some (.cells #[.int .i64 m.kind, .string (st m.name), .bool m.inn, .slice so m.sets.length sc, .slice wo m.words.length wc, .slice ro m.redirs.length rc, .slice po m.pats.length pc, .slice ko m.kids.length kc] 32 (0, 0)) := by rw [← hwn, ← hTT]; exact heap_alloc_new wr _
            have hFn : Fr (fun _ => False) wr wn := by rw [← hwn]; exact (Fr.refl _ _).alloc _
            rw [hwn, hTT]
            have HFn := Lib.hid (HF.out.trans hFn)
            have HT := Lib.hid hT
            have HW3 := Lib.hid (HR2.out.keep hFn (fun _ _ => id))
            have HRD := Lib.hid (HR3.out.keep hFn (fun _ _ => id))
            have HPT := Lib.hid (HR4.out.keep hFn (fun _ _ => id))
            have t1 : wn.cell? ⟨T, 1, none⟩ = some (.string (st m.name)) := by rw [Lib.cell_of_heap hT]; rfl
            have t3 : wn.cell? ⟨T, 3, none⟩ = some (.slice so m.sets.length sc) := by rw [Lib.cell_of_heap hT]; rfl
            have t4 : wn.cell? ⟨T, 4, none⟩ = some (.slice wo m.words.length wc) := by rw [Lib.cell_of_heap hT]; rfl
            have t5 : wn.cell? ⟨T, 5, none⟩ = some (.slice ro m.redirs.length rc) := by rw [Lib.cell_of_heap hT]; rfl
            have t6 : wn.cell? ⟨T, 6, none⟩ = some (.slice po m.pats.length pc) := by rw [Lib.cell_of_heap hT]; rfl
            clear hwn hTT hT hFn q0 q1 q2 q3 q4 q5 q6 q7 HR2 HR3 HR4
            obtain ⟨nm, hnm, hnm1⟩ : ∃ nm, (if m.name = [] then 0 else nres m.name) = nm ∧ nm ≤ 1 := ⟨_, rfl, by have := nres_le m.name; split <;> omega⟩
            have hwN : wN m = m.sets.length + nm + wl m.words + wPs m.pats + wRd m.redirs := by unfold wN; rw [hnm]
            have hwlb := wl_le m.words
            have HPLW := Lib.hid (show Calls Try.prog 13 #[.slice wo m.words.length wc] wn fun e w' => e = .returned (.int .i64 (wl m.words)) ∧ w' = wn from by
              obtain ⟨ao, cap, he, hc⟩ := Strs.at HW3.out
              cases he
              exact rows_any wo wc m.words wn (by omega) hc)
            have HPS := Lib.hid (show ∀ (j : Nat) (hj : j < m.pats.length), ∃ g u n ao c, po = some ⟨g, 0, none⟩ ∧ wn.cell? ⟨g, j, none⟩ = some u ∧ u = .slice ao n c ∧ Calls Try.prog 13 #[.slice ao n c] wn fun e w' => e = .returned (.int .i64 (wl m.pats[j])) ∧ w' = wn from by
              intro j hj
              obtain ⟨ao, cap, he, hc⟩ := Pats.cell HPT.out
              cases he
              obtain ⟨g, u, e1, e2, e3⟩ := hc j _ (List.getElem?_eq_getElem hj)
              obtain ⟨a2, c2, rfl, hc2⟩ := Strs.at e3
              exact ⟨g, _, _, a2, c2, e1, e2, rfl, rows_any a2 c2 _ wn (HSMM.out.2.2 _ (List.getElem_mem hj)) hc2⟩)
            clear HW3 HPT
            obtain ⟨bn, gS, hbn⟩ : ∃ bn : Bool, (((st m.name).toList != []) : Bool) = bn ∧ nm = if bn then nres m.name else 0 := by
              refine ⟨_, rfl, ?_⟩
              rw [st_toList, ← hnm]
              by_cases hne : m.name = []
              · rw [if_pos hne, hne]; rfl
              · rw [if_neg hne, if_pos (by rw [bne_iff_ne]; exact hne)]
            have gE : (!(st m.name).toList.isEmpty) = bn := by rw [← gS]; cases (st m.name).toList <;> rfl
            clear hnm
            go_upto_if 78 with fail
            go_cut [13, 16] from 79 to 85 (fun mv _ wx => mv = .int .i64 ((k + m.sets.length + nm : Nat) : Int) ∧ wx = wn)
            case first =>
              have HRN := Lib.hid (HR.out m.name)
              cases bn with
              | false =>
                have hn0 : nm = 0 := hbn
                clear hbn
                go_wp2
                go_meet
                exact ⟨congrArg (Value.int .i64) (by rw [hn0]; push_cast; omega), rfl⟩
              | true =>
                rw [if_pos rfl] at hbn
                cases hx : isRes m.name with
                | true =>
                  have hn0 : nm = 0 := by rw [hbn]; unfold nres; rw [if_pos hx]
                  have HX := Lib.hid hx
                  clear hx hbn
                  go_wp2_with (go_at_call 12; (with_reducible refine (HRN.out _).mono ?_); rintro e wx ⟨rfl, rfl⟩; rw [HX.out])
                  go_meet
                  exact ⟨congrArg (Value.int .i64) (by rw [hn0]; push_cast; omega), rfl⟩
                | false =>
                  have hn0 : nm = 1 := by rw [hbn]; unfold nres; rw [if_neg (by rw [hx]; decide)]
                  have HX := Lib.hid hx
                  clear hx hbn
                  go_wp2_with (go_at_call 12; (with_reducible refine (HRN.out _).mono ?_); rintro e wx ⟨rfl, rfl⟩; rw [HX.out])
                  go_meet
                  exact ⟨congrArg (Value.int .i64) (by rw [hn0]; push_cast; omega), rfl⟩
            obtain ⟨rfl, hwc⟩ := hcut
            have hwc2 := hwc.symm
            clear hwc
            subst hwc2
            clear hbn gE gS
            go_upto_region 25 with (go_at_call 13; (with_reducible refine HPLW.out.mono ?_); rintro e wp ⟨rfl, hwp⟩; have hwp2 := hwp.symm; clear hwp; subst hwp2)
            obtain ⟨B1, hB1⟩ : ∃ B1 : Nat, k + m.sets.length + nm + wl m.words = B1 := ⟨_, rfl⟩
            go_loop [13, 17] (fun mv jv => ∃ j : Nat, jv = .int .i64 j ∧ j ≤ m.pats.length ∧ mv = .int .i64 ((B1 + wPs (m.pats.take j) : Nat) : Int)) (fun _ jv => m.pats.length - (intOf jv).toNat)
            case atStart => exact ⟨0, rfl, Nat.zero_le _, by rw [← hB1, List.take_zero]; exact congrArg (Value.int .i64) (by simp [wPs])⟩
            case round =>
              obtain ⟨j, rfl, hj, rfl⟩ := hrel
              have hpb : wPs (m.pats.take j) ≤ 1000000 := by
                have h1 := wPs_le (m.pats.take j) (fun p hp => HSMM.out.2.2 p (List.mem_of_mem_take hp))
                have h2 : (m.pats.take j).length ≤ 1000 := by rw [List.length_take]; omega
                omega
              by_cases hjl : j < m.pats.length
              · obtain ⟨gp, u, n2, a2, c2, rfl, hc, rfl, hcall⟩ := HPS.out j hjl
                have HCA2 := Lib.hid hcall
                have hn2 := wPs_snoc m.pats j hjl
                have hwb : wl m.pats[j] ≤ 1000 := Nat.le_trans (wl_le _) (HSMM.out.2.2 _ (List.getElem_mem hjl))
                clear hcall HPS
                generalize wl m.pats[j] = z at *
                generalize wPs (m.pats.take j) = y at *
                go_wp2_with (go_at_call 13; (with_reducible refine HCA2.out.mono ?_); rintro e wp ⟨rfl, rfl⟩)
                go_round
                case rel => exact ⟨j + 1, by go_num, hjl, by rw [hn2]; exact congrArg (Value.int .i64) (by push_cast; omega)⟩
                case measure => simp [intOf]; omega
              · obtain rfl : j = m.pats.length := by omega
                rw [List.take_length] at *
                clear hjl HPS
                go_upto_region 29 with fail
                obtain ⟨B2, hB2⟩ : ∃ B2 : Nat, B1 + wPs m.pats = B2 := ⟨_, rfl⟩
                go_loopw [13, 18, 19, 20] (fun mv jv _ _ wr2 => ∃ j : Nat, jv = .int .i64 j ∧ j ≤ m.redirs.length ∧ mv = .int .i64 ((B2 + wRd (m.redirs.take j) : Nat) : Int) ∧ ndR (m.redirs.take j) ∧ Fr (fun _ => False) wn wr2) (fun _ jv _ _ _ => m.redirs.length - (intOf jv).toNat)
                case atStart => exact ⟨0, rfl, Nat.zero_le _, by rw [← hB2, List.take_zero]; exact congrArg (Value.int .i64) (by simp [wRd]), fun r hr => by simp at hr, Fr.refl _ _⟩
                case round =>
                  obtain ⟨j, rfl, hj, rfl, hndr, hF4⟩ := hrel
                  have hrb : wRd (m.redirs.take j) ≤ 1000 := by
                    have h1 := wRd_le (m.redirs.take j)
                    rw [List.length_take] at h1
                    omega
                  have HNDR := Lib.hid hndr
                  have HF4 := Lib.hid hF4
                  have HT4 := Lib.hid ((hF4.block T (heap_lt HT.out) id).trans HT.out)
                  have t5 : wr.cell? ⟨T, 5, none⟩ = some (.slice ro m.redirs.length rc) := by rw [Lib.cell_of_heap HT4.out]; rfl
                  have hRD4 := HRD.out.keep hF4 (fun _ _ => id)
                  by_cases hjl : j < m.redirs.length
                  · obtain ⟨ao, cap, he, hc⟩ := Rds.at hRD4
                    cases he
                    obtain ⟨gr, rfl, hcw⟩ := hc j hjl
                    have hn2 := wRd_snoc m.redirs j hjl
                    have HNDN := Lib.hid (fun h => ndR_snoc hjl HNDR.out h)
                    clear hc hndr hF4 hRD4
                    generalize m.redirs[j].word = x at *
                    generalize wRd (m.redirs.take j) = y at *
                    have hnx1 := nres_le x
                    have HP1 := Lib.hid (fun (g cap : Nat) (W : World) h => plain_one g cap x W h)
                    by_cases hx1 : ∃ b : UInt8, x = [b]
                    · obtain ⟨b, rfl⟩ := hx1
                      have hsz : (st [b]).size = 1 := st_size [b]
                      have hidx : ((st [b])[0]'(by rw [hsz]; decide)).toNat = b.toNat := rfl
                      by_cases hb1 : 48 ≤ b.toNat
                      · by_cases hb2 : b.toNat ≤ 57
                        · go_wp2
                          go_ret
                          exact ⟨rfl, (HF3.out.trans (HFn.out.trans HF4.out)).bel (fun _ h => h.elim) (Nat.le_refl _)⟩
                        · have HD := Lib.hid (HNDN.out (by unfold digW isDig; simp; omega))
                          go_wp2_with (go_at_call 13; (with_reducible refine (HP1.out _ _ _ (cell_new _ _ _)).mono ?_); rintro e wp ⟨rfl, rfl⟩)
                          go_roundw
                          case rel => exact ⟨j + 1, by go_num, hjl, by rw [hn2]; exact congrArg (Value.int .i64) (by push_cast; omega), HD.out, HF4.out.alloc _⟩
                          case measure => simp [intOf]; omega
                      · have HD := Lib.hid (HNDN.out (by unfold digW isDig; simp; omega))
                        go_wp2_with (go_at_call 13; (with_reducible refine (HP1.out _ _ _ (cell_new _ _ _)).mono ?_); rintro e wp ⟨rfl, rfl⟩)
                        go_roundw
                        case rel => exact ⟨j + 1, by go_num, hjl, by rw [hn2]; exact congrArg (Value.int .i64) (by push_cast; omega), HD.out, HF4.out.alloc _⟩
                        case measure => simp [intOf]; omega
                    · have hl1 : ¬ (st x).size = 1 := by
                        rw [st_size]
                        intro h
                        obtain ⟨b, hb⟩ := List.length_eq_one_iff.1 h
                        exact hx1 ⟨b, hb⟩
                      have HD := Lib.hid (HNDN.out (by
                        rw [st_size] at hl1
                        unfold digW
                        rw [decide_eq_false hl1]; rfl))
                      have gl : ((((st x).size : Int) == 1) : Bool) = false := by rw [beq_eq_false_iff_ne]; omega
                      clear hx1 hl1
                      go_wp2_with (go_at_call 13; (with_reducible refine (HP1.out _ _ _ (cell_new _ _ _)).mono ?_); rintro e wp ⟨rfl, rfl⟩)
                      go_roundw
                      case rel => exact ⟨j + 1, by go_num, hjl, by rw [hn2]; exact congrArg (Value.int .i64) (by push_cast; omega), HD.out, HF4.out.alloc _⟩
                      case measure => simp [intOf]; omega
                  · obtain rfl : j = m.redirs.length := by omega
                    rw [List.take_length] at *
                    clear hjl hndr hF4 hRD4
                    go_wp2
                    go_roundw
                    case rel => exact ⟨i + 1, by go_num, hlt, congrArg (fun z : Nat => Value.int .i64 (z : Int)) (by rw [HWN.out, hwN]; omega), HNXT.out HNDR.out, HFn.out.trans HF4.out⟩
                    case measure => simp [intOf]; omega
          · obtain rfl : i = ns.length := by omega
            rw [List.take_length] at *
            have heq := HEQ.out HND.out
            have hk := HTB.out ts.length
            rw [List.take_length] at hk
            rw [heq] at *
            generalize wNs ns = k at *
            go_wp2
            go_ret
            exact ⟨ret_bool (by simp), (HF3.out.trans HF.out).bel (fun _ h => h.elim) (Nat.le_refl _)⟩
end Go.Proofs.Ytoahgblgchmclaa
