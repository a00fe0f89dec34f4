/- Nodes stand in order: the law's walk. -/
import Derived.Test.YtoahgblgchmclaaQF
import Derived.Test.YtoahgblgchmclaaQG
namespace Go.Proofs.Ytoahgblgchmclaa
open Go.RowKit
set_option linter.unusedVariables false
set_option linter.unusedSimpArgs false
/-- own rows may change. -/
theorem Fr.app0 {W w w' : World} {v : Value} (f : Fr (fun _ => False) W w) (f2 : Fr (own1 v) w w') (hf : Fresh W v) : Fr (fun _ => False) W w' :=
  ⟨f2.os.trans f.os, f2.tape.trans f.tape, f2.output.trans f.output, Nat.le_trans f.size f2.size, fun i hi hn => (f2.block i (Nat.lt_of_lt_of_le hi f.size) (fun e => by have := hf i e; omega)).trans (f.block i hi hn)⟩
theorem Ints.cell {W : World} {K : Nat → Prop} {g n cap : Nat} {l : List Int} (h : Ints W K (.slice (some ⟨g, 0, none⟩) n cap) l) (i : Nat) (x : Int) (hx : l[i]? = some x) : W.cell? ⟨g, i, none⟩ = some (.int .i64 x) := by
  have hi := (List.getElem?_eq_some_iff.1 hx).1
  have e := h.1
  obtain ⟨ao, c, e2, _⟩ := ownz_form e
  cases e2
  rw [e.cellAt i (by omega)]
  rw [List.getElem?_map, hx]
  rfl
/-- where the nodes begin, up to a place. -/
def begs (bs : List Nat) (i : Nat) : List Int := (List.range i).map fun j => ((bs.getD j 0 : Nat) : Int)
theorem begs_len (bs : List Nat) (i : Nat) : (begs bs i).length = i := by simp [begs]
theorem begs_next (bs : List Nat) (i : Nat) : begs bs i ++ [((bs.getD i 0 : Nat) : Int)] = begs bs (i + 1) := by
  unfold begs
  rw [List.range_succ, List.map_append]; rfl
theorem begs_get (bs : List Nat) (i j : Nat) (h : j < i) : (begs bs i)[j]? = some ((bs.getD j 0 : Nat) : Int) := by
  unfold begs
  rw [List.getElem?_map, List.getElem?_range h]; rfl
def soRel (W : World) (ns : List Nd) (bs : List Nat) (bv iv : Value) (wr : World) : Prop :=
  ∃ i : Nat, iv = .int .i64 i ∧ i ≤ ns.length ∧ Ints wr (own1 bv) bv (begs bs i) ∧ Fresh W bv ∧ Fr (fun _ => False) W wr
def soIn (bs : List Nat) (k : Int) (kids : List Int) (i b : Nat) (fv kv : Value) : Prop :=
  ∃ f m : Nat, fv = .int .i64 f ∧ kv = .int .i64 ((m : Int) - 1) ∧ m ≤ kids.length ∧ f ≤ i ∧ fromK bs k (kids.take m).reverse f = some b
set_option maxRecDepth 100000 in
set_option maxHeartbeats 32000000 in
theorem sound_any (s : ByteArray) (W : World) (hs : s.size ≤ maxLen) :
    Calls Try.prog 3 #[.string s] W fun e w' => e = .returned (.bool true) ∧ Below W.heap.size W w' := by
  have HS := Lib.hid pshown_any
  rcases parseA_cases s.data.toList with ⟨k, c, hA, hc, hk⟩ | ⟨ts, ns, bs, hAl, hT, hA, hsnd, hlen, hfin⟩
  · have C := Lib.hid (parse_bad s hs k c hA)
    rw [size_len] at hk
    unfold maxLen at hs
    have gc : (((c : Int) != 0) : Bool) = true := by rw [bne_iff_ne]; exact hc
    clear hA hc
    go_enter Try.func3, Try.ntmps3
    go_wp2_with (first
      | (go_at_call 8; (with_reducible refine (HS.out _).mono ?_); rintro e w1 ⟨rfl, hF1⟩; have HF1 := Lib.hid hF1; clear hF1)
      | (go_at_call 9; (with_reducible refine (C.out _).mono ?_); rintro e w2 ⟨ao, cap, rfl, hF2⟩; have HF2 := Lib.hid (HF1.out.trans hF2); clear hF2))
    go_ret
    exact ⟨ret_bool (by simp; try omega), HF2.out.bel (fun _ h => h.elim) (Nat.le_refl _)⟩
  · have C := Lib.hid (fun w => (show Calls Try.prog 9 #[.string s] w fun e w' => ∃ ao cap K, e = .returned (.tuple #[.slice ao ns.length cap, .int .i64 0, .int .i64 0]) ∧ Nds w' K (.slice ao ns.length cap) ns ∧ (0 < ns.length → ∃ g, ao = some ⟨g, 0, none⟩) ∧ ns.length ≤ cap ∧ Fr (fun _ => False) w w' from by
      refine (parse_any s hs w).mono ?_
      rw [hA]
      rintro e w' ⟨v, K, rfl, hN, hK, hv, hF⟩
      obtain ⟨cs, h1, _⟩ := id hN
      obtain ⟨ao, cap, rfl, hc, _, h5⟩ := ownz_form h1
      exact ⟨ao, cap, K, rfl, hN, h5, hc, hF⟩))
    have HSN := Lib.hid hsnd
    have HFIN := Lib.hid hfin
    have HSM := Lib.hid (show ∀ n ∈ ns, Sm n from by have := parseT_sm (ts := ts) (by have := allA_len' hAl; omega); rw [hT] at this; exact this)
    clear hA hAl hT hsnd hfin
    unfold maxLen at hs
    go_enter Try.func3, Try.ntmps3
    go_wp2_with (first
      | (go_at_call 8; (with_reducible refine (HS.out _).mono ?_); rintro e w1 ⟨rfl, hF1⟩; have HF1 := Lib.hid hF1; clear hF1)
      | (go_at_call 9; (with_reducible refine (C.out _).mono ?_); rintro e w2 ⟨ao, cap, K, rfl, hN, hao, hcap, hF2⟩; have HN := Lib.hid hN; have HAO := Lib.hid hao; have HF2 := Lib.hid (HF1.out.trans hF2); clear hF2 hN hao))
    go_loopw [7, 8, 9, 10, 11, 12, 13] (fun bv iv _ _ _ _ _ wr => soRel w2 ns bs bv iv wr) (fun _ iv _ _ _ _ _ _ => ns.length - (intOf iv).toNat)
    case atStart => exact ⟨0, rfl, Nat.zero_le _, Ints.nil _ _, Fresh.nil _, Fr.refl _ _⟩
    case round =>
      obtain ⟨i, rfl, hi, hI, hfr, hF⟩ := hrel
      have HF := Lib.hid hF
      have HI := Lib.hid hI
      have HFR := Lib.hid hfr
      have HNr := Lib.hid (HN.out.keep hF (fun _ _ => id) (fun _ _ => id))
      obtain ⟨bo, bc, rfl, hbc, _, hbo⟩ := ownz_form hI.1
      clear hI hfr hF
      by_cases hlt : i < ns.length
      · obtain ⟨g, rfl⟩ := HAO.out (by omega)
        obtain ⟨sv, wv, rv, pv, kv, hNd, r1, r2, r3, r4, r5, hcell⟩ := Nds.cell HNr.out rfl i _ (get_getD hlt)
        obtain ⟨hok, hfk⟩ := HSN.out.ok i _ (get_getD hlt)
        have hsm := (HSM.out _ (List.mem_of_getElem? (get_getD hlt))).1
        generalize ns.getD i (nd 0 []) = m at *
        have q0 : wr.cell? ⟨g, i * 8, none⟩ = some (.int .i64 m.kind) := hcell 0 _ rfl
        have q1 := hcell 1 _ rfl
        have q2 := hcell 2 _ rfl
        have q3 := hcell 3 _ rfl
        have q4 := hcell 4 _ rfl
        have q5 := hcell 5 _ rfl
        have q6 := hcell 6 _ rfl
        have q7 := hcell 7 _ rfl
        have HR1 := Lib.hid r1
        have HR2 := Lib.hid r2
        have HR3 := Lib.hid r3
        have HR4 := Lib.hid r4
        have HR5 := Lib.hid r5
        have HOK := Lib.hid hok
        have HFK := Lib.hid hfk
        obtain ⟨so, sc, rfl, _, hsc, _⟩ := ownz_form r1.1
        obtain ⟨wo, wc, rfl, _, hwc, _⟩ := ownz_form r2.1
        obtain ⟨ro, rc, rfl, _, hrc, _⟩ := ownz_form r3.1
        obtain ⟨ko, kc, rfl, hkc, hkm, hko⟩ := ownz_form r5.1
        obtain ⟨po, pc, rfl⟩ : ∃ po pc, pv = .slice po m.pats.length pc := by obtain ⟨_, hp, _⟩ := r4; obtain ⟨po, pc, e, _⟩ := ownz_form hp; exact ⟨po, pc, e⟩
        clear hcell hNd r1 r2 r3 r4 r5 hok hfk
        have hkn : m.kids.length ≤ 9223372036854775807 := by unfold maxLen at hkm; omega
        go_upto_region 12 with fail
        obtain ⟨wn, hwn⟩ : ∃ wn, wr.alloc (.cells #[.int .i64 m.kind, .string (st m.name), .bool m.inn, .slice so m.sets.length sc, .slice wo m.words.length wc, .slice ro m.redirs.length rc, .slice po m.pats.length pc, .slice ko m.kids.length kc] 32) = wn := ⟨_, rfl⟩
        obtain ⟨T, hTT⟩ : ∃ T, wr.heap.size = T := ⟨_, rfl⟩
        have hT : wn.heap[T]? = some (.cells #[.int .i64 m.kind, .string (st m.name), .bool m.inn, .slice so m.sets.length sc, .slice wo m.words.length wc, .slice ro m.redirs.length rc, .slice po m.pats.length pc, .slice ko m.kids.length kc] 32 (0, 0)) := by rw [← hwn, ← hTT]; exact heap_alloc_new wr _
        have hFn : Fr (fun _ => False) wr wn := by rw [← hwn]; exact (Fr.refl _ _).alloc _
        rw [hwn, hTT]
        have HF3 := Lib.hid (HF.out.trans hFn)
        have HT := Lib.hid hT
        have HI3 := Lib.hid (show Ints wn (own1 (.slice bo (begs bs i).length bc)) (.slice bo (begs bs i).length bc) (begs bs i) from HI.out.keep hFn (fun _ _ => id))
        have HK3 := Lib.hid (HR5.out.keep hFn (fun _ _ => id))
        have HKC := Lib.hid (kids_any (W := wn) m (HR1.out.keep hFn (fun _ _ => id)) (HR2.out.keep hFn (fun _ _ => id)) (HR3.out.keep hFn (fun _ _ => id)) (HR4.out.keep hFn (fun _ _ => id)) HK3.out)
        have t0 : wn.cell? ⟨T, 0, none⟩ = some (.int .i64 m.kind) := by rw [Lib.cell_of_heap hT]; rfl
        have t1 : wn.cell? ⟨T, 1, none⟩ = some (.string (st m.name)) := by rw [Lib.cell_of_heap hT]; rfl
        have t2 : wn.cell? ⟨T, 2, none⟩ = some (.bool m.inn) := by rw [Lib.cell_of_heap hT]; rfl
        have t3 : wn.cell? ⟨T, 3, none⟩ = some (.slice so m.sets.length sc) := by rw [Lib.cell_of_heap hT]; rfl
        have t4 : wn.cell? ⟨T, 4, none⟩ = some (.slice wo m.words.length wc) := by rw [Lib.cell_of_heap hT]; rfl
        have t5 : wn.cell? ⟨T, 5, none⟩ = some (.slice ro m.redirs.length rc) := by rw [Lib.cell_of_heap hT]; rfl
        have t6 : wn.cell? ⟨T, 6, none⟩ = some (.slice po m.pats.length pc) := by rw [Lib.cell_of_heap hT]; rfl
        have t7 : wn.cell? ⟨T, 7, none⟩ = some (.slice ko m.kids.length kc) := by rw [Lib.cell_of_heap hT]; rfl
        clear hwn hTT hT hFn q0 q1 q2 q3 q4 q5 q6 q7
        go_upto_region 13 with (first | (go_at_call 10; (with_reducible refine HKC.out.mono ?_); rintro e w4 ⟨rfl, hF4⟩; have HI4 := Lib.hid (HI3.out.keep hF4 (fun _ _ => id)); have HK4 := Lib.hid (HK3.out.keep hF4 (fun _ _ => id)); have HT4 := Lib.hid ((hF4.block T (heap_lt HT.out) id).trans HT.out); have HF4 := Lib.hid (HF3.out.trans hF4); clear hF4))
        have t0 : w4.cell? ⟨T, 0, none⟩ = some (.int .i64 m.kind) := by rw [Lib.cell_of_heap HT4.out]; rfl
        have t1 : w4.cell? ⟨T, 1, none⟩ = some (.string (st m.name)) := by rw [Lib.cell_of_heap HT4.out]; rfl
        have t3 : w4.cell? ⟨T, 3, none⟩ = some (.slice so m.sets.length sc) := by rw [Lib.cell_of_heap HT4.out]; rfl
        have t4 : w4.cell? ⟨T, 4, none⟩ = some (.slice wo m.words.length wc) := by rw [Lib.cell_of_heap HT4.out]; rfl
        have t5 : w4.cell? ⟨T, 5, none⟩ = some (.slice ro m.redirs.length rc) := by rw [Lib.cell_of_heap HT4.out]; rfl
        have t7 : w4.cell? ⟨T, 7, none⟩ = some (.slice ko m.kids.length kc) := by rw [Lib.cell_of_heap HT4.out]; rfl
        have hkl : m.kids.length ≤ (kidN m).2 := by
          rcases HOK.out.hi with h | h | h
          · exact h
          · have h1 := (fromK_le bs m.kind HSN.out.le _ _ _ HFK.out).2 (by omega)
            rw [List.length_reverse] at h1
            unfold kidN; rw [h]; simp; omega
          · have h1 := (fromK_le bs m.kind HSN.out.le _ _ _ HFK.out).2 (by omega)
            rw [List.length_reverse] at h1
            unfold kidN; rw [h]; simp; omega
        have d1 : decide (m.kids.length < (kidN m).1) = false := decide_eq_false (by have := HOK.out.lo; omega)
        have d2 : decide ((kidN m).2 < m.kids.length) = false := decide_eq_false (by omega)
        obtain ⟨b1, hb1, hs1⟩ : ∃ b1 : Bool, (m.kind == 1) = b1 ∧ (b1 = true → (((m.sets.length : Int) + (m.words.length : Int) + (m.redirs.length : Int) == 0) : Bool) = false) := ⟨_, rfl, fun h => by rw [beq_iff_eq] at h; rw [beq_eq_false_iff_ne]; have := HOK.out.cmd h; omega⟩
        obtain ⟨b13, hb13⟩ : ∃ b, (m.kind == 13) = b := ⟨_, rfl⟩
        obtain ⟨b15, hb15⟩ : ∃ b, (m.kind == 15) = b := ⟨_, rfl⟩
        have gS : (((st m.name).toList == []) : Bool) = !(b13 || b15) := by rw [st_toList, ← hb13, ← hb15, ← HOK.out.nam, Bool.not_not]
        have gS2 : (((st m.name).toList != []) : Bool) = (b13 || b15) := by unfold bne; rw [gS, Bool.not_not]
        have hlo : (kidN m).1 ≤ m.kids.length := HOK.out.lo
        go_cut [101] from 57 to 101 (fun d wx => d = .bool false ∧ wx = w4)
        case first =>
          cases b1
          all_goals go_wp2
          all_goals (
            go_meet
            refine ⟨congrArg Value.bool ?_, rfl⟩
            first | rfl | simp [*])
        obtain ⟨hd, hw⟩ := hcut
        subst hd
        have hw2 := hw.symm
        clear hw
        subst hw2
        clear d1 d2 hs1 hb1 hb13 hb15 gS gS2 hkl hlo
        go_upto_region 17 with fail
        obtain ⟨b0, hb0⟩ : ∃ b0, bs.getD i 0 = b0 := ⟨_, rfl⟩
        rw [hb0] at HFK
        have hI4 := HI4.out
        go_loop [12, 13] (fun fv kv => soIn bs m.kind m.kids i b0 fv kv) (fun _ kv => (intOf kv + 1).toNat)
        case atStart => exact ⟨i, m.kids.length, rfl, by go_num, Nat.le_refl _, Nat.le_refl _, by rw [List.take_length]; exact HFK.out⟩
        case round =>
          obtain ⟨f, j, rfl, rfl, hj, hf, hfr⟩ := hrel
          cases j with
          | zero =>
            have hfb : f = b0 := by
              rw [List.take_zero, List.reverse_nil] at hfr
              injection hfr
            subst hfb
            clear hfr hI4
            go_wp2_with (at_builtin; refine wpList_int rfl _ _ rfl (begs bs i) f rfl rfl rfl HI4.out (by rw [begs_len]; omega) ?_; intro g5 c5 w5 hr5 hat5 hF5; have HR5' := Lib.hid hr5; have HAT5 := Lib.hid hat5; have HF5 := Lib.hid hF5; clear hr5 hat5 hF5)
            go_round
            case rel =>
              refine ⟨i + 1, by go_num, by omega, ?_, HFR.out.more HF4.out.size HAT5.out, HF4.out.app0 HF5.out HFR.out⟩
              rw [← begs_next, hb0]
              exact HR5'.out
            case measure => first | (simp [intOf]; done) | (simp [intOf]; omega)
          | succ j =>
            have hjk : j < m.kids.length := by omega
            obtain ⟨gk, rfl⟩ := hko (by omega)
            have hx : m.kids[j]? = some (m.kids[j]) := List.getElem?_eq_getElem hjk
            have hc := Ints.cell HK4.out j _ hx
            rw [List.take_succ_eq_append_getElem hjk, List.reverse_append, List.reverse_singleton, List.singleton_append] at hfr
            generalize m.kids[j] = x at *
            unfold fromK at hfr
            by_cases hx1 : x = -1 ∧ m.kind = 14
            · rw [if_pos hx1] at hfr
              have HV := Lib.hid hfr
              have g1 : ((x == -1) : Bool) = true := by rw [hx1.1]; rfl
              have g2 : ((m.kind == 14) : Bool) = true := by rw [hx1.2]; rfl
              clear hfr hI4 hx hx1
              go_wp2
              go_round
              case rel => exact ⟨f, j, rfl, by go_num, by omega, hf, HV.out⟩
              case measure => first | (simp [intOf]; done) | (simp [intOf]; omega)
            · rw [if_neg hx1] at hfr
              by_cases hf0 : f = 0 ∨ ¬ x = (f : Int) - 1
              · rw [if_pos hf0] at hfr; cases hfr
              · rw [if_neg hf0] at hfr
                obtain ⟨f, rfl⟩ : ∃ f', f = f' + 1 := ⟨f - 1, by omega⟩
                have hxf : x = (f : Int) := by omega
                subst hxf
                rw [Nat.add_sub_cancel] at hfr
                have g1 : (((f : Int) == -1) : Bool) = false := by rw [beq_eq_false_iff_ne]; omega
                obtain ⟨gb, rfl⟩ := hbo (by rw [begs_len]; omega)
                have hb := Ints.cell hI4 f _ (begs_get bs i f (by omega))
                have hle := HSN.out.le f
                have hbl := begs_len bs i
                generalize bs.getD f 0 = y at hfr hb hle
                have HV := Lib.hid hfr
                clear hfr hI4 hx hx1 hf0
                go_wp2
                refine ⟨⟨_, _, _, ⟨y, j, rfl, rfl, by omega, by omega, HV.out⟩, rfl, rfl, rfl⟩, ?_⟩
                simp [intOf]
                try omega
      · have hin : i = ns.length := by omega
        subst hin
        by_cases h0 : 0 < ns.length
        · obtain ⟨gb, rfl⟩ := hbo (by rw [begs_len]; exact h0)
          have hb := Ints.cell HI.out (ns.length - 1) _ (begs_get bs ns.length (ns.length - 1) (by omega))
          rw [HFIN.out h0] at hb
          have hbl := begs_len bs ns.length
          have hne : ¬ ns = [] := fun e => by rw [e] at h0; simp at h0
          go_wp2
          all_goals first
            | contradiction
            | (exfalso; omega)
            | (go_ret; exact ⟨ret_bool (by simp), (HF2.out.trans HF.out).bel (fun _ h => h.elim) (Nat.le_refl _)⟩)
        · have hz : ns.length = 0 := by omega
          rw [hz] at *
          go_wp2
          go_ret
          exact ⟨ret_bool (by simp; try omega), (HF2.out.trans HF.out).bel (fun _ h => h.elim) (Nat.le_refl _)⟩
end Go.Proofs.Ytoahgblgchmclaa
