/- The document's answer: inner. -/
import Derived.Test.YtoahgblgchmclaaLM
namespace Go.Proofs.Ytoahgblgchmclaa
open Go.RowKit
set_option linter.unusedVariables false
set_option linter.unusedSimpArgs false
set_option maxRecDepth 100000 in
set_option maxHeartbeats 32000000 in
theorem inner_any (d : Nat) (HD : PartR d) (W : World) (l : Bs) (x : ByteArray) (b from_ : Nat) (cl op : UInt8) (sn db q : Bool) (deep n : Nat) (hx : x.data.toList = l.drop b) (hb : b + x.size ≤ 4611686018427387904) (hdeep : deep + 1 + d = 25) (hc : Cfg cl op sn db q) (hf : from_ ≤ x.size) (hn : x.size - from_ ≤ n) :
    Calls Try.prog 43 #[.string x, .int .i64 from_, .int .u8 cl.toNat, .int .u8 op.toNat, .bool sn, .bool db, .bool q, .int .i64 deep, .int .i64 b] W (endPost W b (nestL (partL l d) cl q l n (b + from_) 0)) := by
  have HD := Lib.hid HD
  obtain ⟨r, hr⟩ : ∃ r, nestL (partL l d) cl q l n (b + from_) 0 = r := ⟨_, rfl⟩
  rw [hr]
  have HR0 := Lib.hid hr
  have HN0 := Lib.hid hn
  have HX := Lib.hid hx
  have HBL := Lib.hid (base_len hx)
  have hdp : deep ≤ 24 := by omega
  obtain ⟨hkc, hko, hkz, hsn, hdb⟩ := hc
  have HKO := Lib.hid hko
  have HKZ := Lib.hid hkz
  have HK := Lib.hid hkc
  have HDB := Lib.hid hdb
  have gsn : (!sn) = q := by rw [hsn, Bool.not_not]
  clear hsn
  clear hr hn hx hkc hdb hko hkz
  go_enter Try.func43, Try.ntmps43
  go_wp2
  go_loopw [19, 20, 21, 22] (fun ov iv _ _ wr => inRel W l x b d cl op q r ov iv wr) (fun _ iv _ _ _ => x.size - (intOf iv).toNat)
  case atStart => exact ⟨0, from_, n, rfl, rfl, heap_alloc_new W _, (Fr.refl _ _).alloc _, hf, Nat.zero_le _, fun _ => rfl, HN0.out, HR0.out⟩
  case round =>
    obtain ⟨o, i, n, rfl, rfl, hE, hF, hi, ho, hz, hn, hr⟩ := hrel
    clear HR0 HN0
    have HE := Lib.hid hE
    have HF := Lib.hid hF
    have HZ := Lib.hid hz
    clear hz
    obtain ⟨e0, e1, e2, e3, ef0, ef1, ef2, ef3⟩ := hE.cells
    have HG := Lib.hid (heap_lt hE)
    clear hE hF
    by_cases his : i < x.size
    · obtain ⟨m, rfl⟩ : ∃ m, n = m + 1 := ⟨n - 1, by omega⟩
      have hm : x.size - (i + 1) ≤ m := by omega
      have hl1 : b + x.size ≤ l.length := by have := HBL.out; omega
      have hl2 : l.length ≤ b + x.size := by have := HBL.out; omega
      have hll : b + i < l.length := by omega
      have hgd := base_at HX.out his
      have hdr : l.drop (b + i) = x[i] :: x.data.toList.drop (i + 1) := by rw [drop_base HX.out, at_byte his]
      by_cases hcl : x[i] = cl
      · have gcl : (((x[i].toNat : Int) == (cl.toNat : Int)) : Bool) = true := u8_true _ _ hcl
        have hs := nest_none hr hll (by rw [hdr, hcl]; exact HK.out _)
        rw [hgd] at hs
        clear hr hgd hdr
        by_cases ho0 : o = 0
        · rw [if_pos ⟨hcl, ho0⟩] at hs
          subst ho0
          have HV := Lib.hid hs
          clear hs hcl
          go_wp2
          rw [← HV.out]
          have he : enN b (.ok (b + i + 1)) = i + 1 := by show b + i + 1 - b = i + 1; omega
          refine bodyPost_ret (resEnds Try.f43 18 rfl (HE.out.all (i + 1) false false 0) _ rfl) rfl ⟨?_, HF.out.four (Nat.le_refl _) _ _ _ _⟩
          rw [he]; rfl
        · rw [if_neg (fun h => ho0 h.2)] at hs
          have hop : ¬ op = 0 := fun e => ho0 (HZ.out e)
          have h41 := (HKO.out hop).2
          rw [if_neg (fun h => by rw [hcl, h41] at h; exact absurd h.2 (by decide)), if_pos ⟨h41, by rw [hcl, h41]⟩] at hs
          have go0 : ((((o : Nat) : Int) == 0) : Bool) = false := by rw [beq_eq_false_iff_ne]; omega
          have HV := Lib.hid hs
          have HOP := Lib.hid hop
          clear hs hcl h41 hop
          go_wp2
          refine ⟨⟨o - 1, i + 1, m, by congr 1; omega, rfl, HE.out, HF.out, by omega, by omega, fun e => absurd e HOP.out, hm, HV.out⟩, ?_⟩
          simp only [intOf]; omega
      · have gcl : (((x[i].toNat : Int) == (cl.toNat : Int)) : Bool) = false := u8_false _ _ hcl
        by_cases hop : ¬ op = 0 ∧ x[i] = op
        · have g1 : (((op.toNat : Int) != 0) : Bool) = true := by rw [bne_iff_ne]; intro e; exact hop.1 (UInt8.toNat_inj.1 (by simpa using e))
          have g2 : (((x[i].toNat : Int) == (op.toNat : Int)) : Bool) = true := u8_true _ _ hop.2
          obtain ⟨h40, h41⟩ := HKO.out hop.1
          have hs := nest_none hr hll (by rw [hdr, hop.2, h40]; exact kd_40 _ _)
          rw [hgd, if_neg (fun h => hcl h.1), if_pos ⟨h41, by rw [hop.2, h40]⟩] at hs
          have HV := Lib.hid hs
          have HOP := Lib.hid hop.1
          clear hs hr hgd hdr hcl hop h40 h41
          go_wp2
          refine ⟨⟨o + 1, i + 1, m, rfl, rfl, HE.out, HF.out, by omega, by omega, fun e => absurd e HOP.out, hm, HV.out⟩, ?_⟩
          simp only [intOf]; omega
        · have hno : kd q (l.drop (b + i)) = none → nestL (partL l d) cl q l m (b + (i + 1)) o = r := by
            intro hk
            have hs := nest_none hr hll hk
            rw [hgd, if_neg (fun h => hcl h.1)] at hs
            by_cases h41 : cl = 41
            · have hop1 : ¬ op = 0 := fun e => HKZ.out e h41
              have h40 := (HKO.out hop1).1
              rw [if_neg (fun h => hop ⟨hop1, by rw [h.2, h40]⟩), if_neg (fun h => hcl (by rw [h.2, h41]))] at hs
              exact hs
            · rw [if_neg (fun h => h41 h.1), if_neg (fun h => h41 h.1)] at hs
              exact hs
          have HNO := Lib.hid hno
          have HYES := Lib.hid (fun k hk => nest_some (k := k) hr hll hk)
          have HP := Lib.hid (fun w => (show Calls Try.prog 29 #[.string (x.extract i x.size), .bool q, .int .i64 ((deep : Int) + 1), .int .i64 ((b : Int) + (i : Int))] w (endPost w (b + i) (partE l d q (b + i))) from
            HD.out w l (x.extract i x.size) (b + i) q (deep + 1) (by rw [extract_drop, st_data, drop_base HX.out]) (by simp; omega) (by omega)))
          have gA : ((((op.toNat : Int) != 0) : Bool) = false) ∨ ((((op.toNat : Int) != 0) : Bool) = true ∧ (((x[i].toNat : Int) == (op.toNat : Int)) : Bool) = false) := by
            by_cases h0 : op = 0
            · left; subst h0; rfl
            · right
              exact ⟨by rw [bne_iff_ne]; intro e; exact h0 (UInt8.toNat_inj.1 (by simpa using e)), u8_false _ _ (fun e => hop ⟨h0, e⟩)⟩
          have h39k : x[i] = 39 → q = true → kd q (l.drop (b + i)) = none := fun h1 h2 => by rw [hdr, h1, h2]; exact kd_39 _
          have h34k : x[i] = 34 → db = false → kd q (l.drop (b + i)) = none := fun h1 h2 => by rw [hdr, h1, HDB.out h2]; exact kd_34 _
          have H39 := Lib.hid h39k
          have H34 := Lib.hid h34k
          have g39 : (((x[i].toNat : Int) == 39) : Bool) = decide (x[i] = 39) := by
            by_cases h : x[i] = 39
            · rw [decide_eq_true h]; exact u8_true x[i] 39 h
            · rw [decide_eq_false h]; exact u8_false x[i] 39 h
          have g34 : (((x[i].toNat : Int) == 34) : Bool) = decide (x[i] = 34) := by
            by_cases h : x[i] = 34
            · rw [decide_eq_true h]; exact u8_true x[i] 34 h
            · rw [decide_eq_false h]; exact u8_false x[i] 34 h
          have hskip : (decide (x[i] = 39) && q || decide (x[i] = 34) && !db) = true → kd q (l.drop (b + i)) = none := by
            intro h
            rw [Bool.or_eq_true, Bool.and_eq_true, Bool.and_eq_true, decide_eq_true_eq, decide_eq_true_eq] at h
            rcases h with h | h
            · exact H39.out h.1 h.2
            · exact H34.out h.1 (by simpa using h.2)
          have HSK := Lib.hid hskip
          clear hr hno hgd hdr hcl hop h39k h34k hskip H39 H34
          generalize decide (x[i] = 39) = b39 at *
          generalize decide (x[i] = 34) = b34 at *
          cases b39 <;> cases b34 <;> cases q <;> cases db
          case false.false.false.false =>
            cases hk : kd false (l.drop (b + i)) with
            | none =>
              have HV := Lib.hid (HNO.out hk)
              have hpe : partE l d false (b + i) = .ok (b + i) := by unfold partE; rw [hk]
              rw [hpe] at HP
              have HP := Lib.hid (fun w => (show Calls Try.prog 29 #[.string (x.extract i x.size), .bool false, .int .i64 ((deep : Int) + 1), .int .i64 ((b : Int) + (i : Int))] w (fun e w' => e = .returned (.agg #[.int .i64 (0 : Nat), .bool false, .bool false, .int .i64 (0 : Nat)]) ∧ Fr (fun _ => False) w w') from by
                refine (HP.out w).mono ?_
                rintro e w' ⟨rfl, h⟩
                exact ⟨by rw [show enN (b + i) (.ok (b + i)) = 0 from Nat.sub_self _]; rfl, h⟩))
              clear HSK HNO HYES hk hpe
              rcases gA with gA | ⟨gA, gB⟩
              all_goals
                go_upto_region 16 with (go_at_call 29; (with_reducible refine (HP.out _).mono ?_); rintro e w2 ⟨rfl, hF⟩; have HFF := Lib.hid hF; clear hF)
                have HE2 := Lib.hid ((HE.out.fr HFF.out id).fr ((Fr.refl (fun _ => False) w2).alloc (.cells #[.int .i64 0, .bool false, .bool false, .int .i64 0] 51)) id)
                have HT2 := Lib.hid (show EKP (w2.alloc (.cells #[.int .i64 0, .bool false, .bool false, .int .i64 0] 51)) w2.heap.size 0 false false 0 from heap_alloc_new w2 _)
                have HF2 := Lib.hid ((HF.out.trans HFF.out).alloc (.cells #[.int .i64 0, .bool false, .bool false, .int .i64 0] 51))
                have HSZ := Lib.hid (show W.heap.size < w2.heap.size from Nat.lt_of_lt_of_le (heap_lt HE.out) HFF.out.size)
                clear HFF
                generalize w2.alloc (.cells #[.int .i64 0, .bool false, .bool false, .int .i64 0] 51) = w3 at *
                generalize w2.heap.size = T at *
                obtain ⟨t0, t1, t2, t3, tf0, tf1, tf2, tf3⟩ := HT2.out.cells
                obtain ⟨g0, g1, g2, g3, gf0, gf1, gf2, gf3⟩ := HE2.out.cells
                go_wp2
                go_roundw
                case rel => exact ⟨o, i + 1, m, rfl, rfl, HE2.out.fr (Fr.one _ T 0 _) (fun e => by have := HSZ.out; omega), HF2.out.setCell (p := ⟨T, 0, none⟩) (.inr (Nat.le_of_lt HSZ.out)) _, by omega, by omega, HZ.out, hm, HV.out⟩
                case measure => simp [intOf]; omega
            | some k =>
              cases hp : partL l d false k (b + i) with
              | ok j =>
                have hle := partL_le _ _ _ _ _ _ hp
                have hpe : partE l d false (b + i) = .ok j := by unfold partE; rw [hk]; exact hp
                rw [hpe] at HP
                have hs := HYES.out k hk
                rw [hp] at hs
                obtain ⟨t, ht⟩ : ∃ t, j = b + i + t := ⟨j - (b + i), by omega⟩
                subst ht
                have HV := Lib.hid (show nestL (partL l d) cl false l m (b + (i + t)) o = r from by rw [← Nat.add_assoc]; exact hs)
                have HP := Lib.hid (fun w => (show Calls Try.prog 29 #[.string (x.extract i x.size), .bool false, .int .i64 ((deep : Int) + 1), .int .i64 ((b : Int) + (i : Int))] w (fun e w' => e = .returned (.agg #[.int .i64 (t : Nat), .bool false, .bool false, .int .i64 (0 : Nat)]) ∧ Fr (fun _ => False) w w') from by
                  refine (HP.out w).mono ?_
                  rintro e w' ⟨rfl, h⟩
                  exact ⟨by rw [show enN (b + i) (.ok (b + i + t)) = t from Nat.add_sub_cancel_left _ _]; rfl, h⟩))
                have gt : ((((t : Nat) : Int) == 0) : Bool) = false := by rw [beq_eq_false_iff_ne]; omega
                clear HSK HNO HYES hk hpe hp hs
                rcases gA with gA | ⟨gA, gB⟩
                all_goals
                  go_upto_region 16 with (go_at_call 29; (with_reducible refine (HP.out _).mono ?_); rintro e w2 ⟨rfl, hF⟩; have HFF := Lib.hid hF; clear hF)
                  have HE2 := Lib.hid ((HE.out.fr HFF.out id).fr ((Fr.refl (fun _ => False) w2).alloc (.cells #[.int .i64 (t : Nat), .bool false, .bool false, .int .i64 0] 51)) id)
                  have HT2 := Lib.hid (show EKP (w2.alloc (.cells #[.int .i64 (t : Nat), .bool false, .bool false, .int .i64 0] 51)) w2.heap.size t false false 0 from heap_alloc_new w2 _)
                  have HF2 := Lib.hid ((HF.out.trans HFF.out).alloc (.cells #[.int .i64 (t : Nat), .bool false, .bool false, .int .i64 0] 51))
                  have HSZ := Lib.hid (show W.heap.size < w2.heap.size from Nat.lt_of_lt_of_le (heap_lt HE.out) HFF.out.size)
                  clear HFF
                  generalize w2.alloc (.cells #[.int .i64 (t : Nat), .bool false, .bool false, .int .i64 0] 51) = w3 at *
                  generalize w2.heap.size = T at *
                  obtain ⟨t0, t1, t2, t3, tf0, tf1, tf2, tf3⟩ := HT2.out.cells
                  obtain ⟨g0, g1, g2, g3, gf0, gf1, gf2, gf3⟩ := HE2.out.cells
                  go_wp2
                  go_roundw
                  case rel => exact ⟨o, i + t, m, rfl, by go_num, HE2.out, HF2.out, by omega, by omega, HZ.out, by omega, HV.out⟩
                  case measure => simp [intOf]; omega
              | more =>
                have hpe : partE l d false (b + i) = .more := by unfold partE; rw [hk]; exact hp
                rw [hpe] at HP
                have hs := HYES.out k hk
                rw [hp] at hs
                subst hs
                have HP := Lib.hid (fun w => (show Calls Try.prog 29 #[.string (x.extract i x.size), .bool false, .int .i64 ((deep : Int) + 1), .int .i64 ((b : Int) + (i : Int))] w (fun e w' => e = .returned (.agg #[.int .i64 (0 : Nat), .bool true, .bool false, .int .i64 (0 : Nat)]) ∧ Fr (fun _ => False) w w') from HP.out w))
                clear HSK HNO HYES hk hpe hp
                rcases gA with gA | ⟨gA, gB⟩
                all_goals
                  go_upto_region 16 with (go_at_call 29; (with_reducible refine (HP.out _).mono ?_); rintro e w2 ⟨rfl, hF⟩; have HFF := Lib.hid hF; clear hF)
                  have HE2 := Lib.hid ((HE.out.fr HFF.out id).fr ((Fr.refl (fun _ => False) w2).alloc (.cells #[.int .i64 0, .bool true, .bool false, .int .i64 0] 51)) id)
                  have HT2 := Lib.hid (show EKP (w2.alloc (.cells #[.int .i64 0, .bool true, .bool false, .int .i64 0] 51)) w2.heap.size 0 true false 0 from heap_alloc_new w2 _)
                  have HF2 := Lib.hid ((HF.out.trans HFF.out).alloc (.cells #[.int .i64 0, .bool true, .bool false, .int .i64 0] 51))
                  have HSZ := Lib.hid (show W.heap.size < w2.heap.size from Nat.lt_of_lt_of_le (heap_lt HE.out) HFF.out.size)
                  clear HFF
                  generalize w2.alloc (.cells #[.int .i64 0, .bool true, .bool false, .int .i64 0] 51) = w3 at *
                  generalize w2.heap.size = T at *
                  obtain ⟨t0, t1, t2, t3, tf0, tf1, tf2, tf3⟩ := HT2.out.cells
                  obtain ⟨g0, g1, g2, g3, gf0, gf1, gf2, gf3⟩ := HE2.out.cells
                  go_wp2
                  exact bodyPost_ret (resEnds Try.f43 18 rfl (HE2.out.all 0 true false 0) _ rfl) rfl ⟨rfl, HF2.out.four (Nat.le_refl _) _ _ _ _⟩
              | deep z =>
                have hpe : partE l d false (b + i) = .deep z := by unfold partE; rw [hk]; exact hp
                rw [hpe] at HP
                have hs := HYES.out k hk
                rw [hp] at hs
                subst hs
                have HP := Lib.hid (fun w => (show Calls Try.prog 29 #[.string (x.extract i x.size), .bool false, .int .i64 ((deep : Int) + 1), .int .i64 ((b : Int) + (i : Int))] w (fun e w' => e = .returned (.agg #[.int .i64 (0 : Nat), .bool false, .bool true, .int .i64 (z : Nat)]) ∧ Fr (fun _ => False) w w') from HP.out w))
                clear HSK HNO HYES hk hpe hp
                rcases gA with gA | ⟨gA, gB⟩
                all_goals
                  go_upto_region 16 with (go_at_call 29; (with_reducible refine (HP.out _).mono ?_); rintro e w2 ⟨rfl, hF⟩; have HFF := Lib.hid hF; clear hF)
                  have HE2 := Lib.hid ((HE.out.fr HFF.out id).fr ((Fr.refl (fun _ => False) w2).alloc (.cells #[.int .i64 0, .bool false, .bool true, .int .i64 (z : Nat)] 51)) id)
                  have HT2 := Lib.hid (show EKP (w2.alloc (.cells #[.int .i64 0, .bool false, .bool true, .int .i64 (z : Nat)] 51)) w2.heap.size 0 false true z from heap_alloc_new w2 _)
                  have HF2 := Lib.hid ((HF.out.trans HFF.out).alloc (.cells #[.int .i64 0, .bool false, .bool true, .int .i64 (z : Nat)] 51))
                  have HSZ := Lib.hid (show W.heap.size < w2.heap.size from Nat.lt_of_lt_of_le (heap_lt HE.out) HFF.out.size)
                  clear HFF
                  generalize w2.alloc (.cells #[.int .i64 0, .bool false, .bool true, .int .i64 (z : Nat)] 51) = w3 at *
                  generalize w2.heap.size = T at *
                  obtain ⟨t0, t1, t2, t3, tf0, tf1, tf2, tf3⟩ := HT2.out.cells
                  obtain ⟨g0, g1, g2, g3, gf0, gf1, gf2, gf3⟩ := HE2.out.cells
                  go_wp2
                  exact bodyPost_ret (resEnds Try.f43 18 rfl (HE2.out.all 0 false true z) _ rfl) rfl ⟨rfl, HF2.out.four (Nat.le_refl _) _ _ _ _⟩
          case false.false.false.true =>
            cases hk : kd false (l.drop (b + i)) with
            | none =>
              have HV := Lib.hid (HNO.out hk)
              have hpe : partE l d false (b + i) = .ok (b + i) := by unfold partE; rw [hk]
              rw [hpe] at HP
              have HP := Lib.hid (fun w => (show Calls Try.prog 29 #[.string (x.extract i x.size), .bool false, .int .i64 ((deep : Int) + 1), .int .i64 ((b : Int) + (i : Int))] w (fun e w' => e = .returned (.agg #[.int .i64 (0 : Nat), .bool false, .bool false, .int .i64 (0 : Nat)]) ∧ Fr (fun _ => False) w w') from by
                refine (HP.out w).mono ?_
                rintro e w' ⟨rfl, h⟩
                exact ⟨by rw [show enN (b + i) (.ok (b + i)) = 0 from Nat.sub_self _]; rfl, h⟩))
              clear HSK HNO HYES hk hpe
              rcases gA with gA | ⟨gA, gB⟩
              all_goals
                go_upto_region 16 with (go_at_call 29; (with_reducible refine (HP.out _).mono ?_); rintro e w2 ⟨rfl, hF⟩; have HFF := Lib.hid hF; clear hF)
                have HE2 := Lib.hid ((HE.out.fr HFF.out id).fr ((Fr.refl (fun _ => False) w2).alloc (.cells #[.int .i64 0, .bool false, .bool false, .int .i64 0] 51)) id)
                have HT2 := Lib.hid (show EKP (w2.alloc (.cells #[.int .i64 0, .bool false, .bool false, .int .i64 0] 51)) w2.heap.size 0 false false 0 from heap_alloc_new w2 _)
                have HF2 := Lib.hid ((HF.out.trans HFF.out).alloc (.cells #[.int .i64 0, .bool false, .bool false, .int .i64 0] 51))
                have HSZ := Lib.hid (show W.heap.size < w2.heap.size from Nat.lt_of_lt_of_le (heap_lt HE.out) HFF.out.size)
                clear HFF
                generalize w2.alloc (.cells #[.int .i64 0, .bool false, .bool false, .int .i64 0] 51) = w3 at *
                generalize w2.heap.size = T at *
                obtain ⟨t0, t1, t2, t3, tf0, tf1, tf2, tf3⟩ := HT2.out.cells
                obtain ⟨g0, g1, g2, g3, gf0, gf1, gf2, gf3⟩ := HE2.out.cells
                go_wp2
                go_roundw
                case rel => exact ⟨o, i + 1, m, rfl, rfl, HE2.out.fr (Fr.one _ T 0 _) (fun e => by have := HSZ.out; omega), HF2.out.setCell (p := ⟨T, 0, none⟩) (.inr (Nat.le_of_lt HSZ.out)) _, by omega, by omega, HZ.out, hm, HV.out⟩
                case measure => simp [intOf]; omega
            | some k =>
              cases hp : partL l d false k (b + i) with
              | ok j =>
                have hle := partL_le _ _ _ _ _ _ hp
                have hpe : partE l d false (b + i) = .ok j := by unfold partE; rw [hk]; exact hp
                rw [hpe] at HP
                have hs := HYES.out k hk
                rw [hp] at hs
                obtain ⟨t, ht⟩ : ∃ t, j = b + i + t := ⟨j - (b + i), by omega⟩
                subst ht
                have HV := Lib.hid (show nestL (partL l d) cl false l m (b + (i + t)) o = r from by rw [← Nat.add_assoc]; exact hs)
                have HP := Lib.hid (fun w => (show Calls Try.prog 29 #[.string (x.extract i x.size), .bool false, .int .i64 ((deep : Int) + 1), .int .i64 ((b : Int) + (i : Int))] w (fun e w' => e = .returned (.agg #[.int .i64 (t : Nat), .bool false, .bool false, .int .i64 (0 : Nat)]) ∧ Fr (fun _ => False) w w') from by
                  refine (HP.out w).mono ?_
                  rintro e w' ⟨rfl, h⟩
                  exact ⟨by rw [show enN (b + i) (.ok (b + i + t)) = t from Nat.add_sub_cancel_left _ _]; rfl, h⟩))
                have gt : ((((t : Nat) : Int) == 0) : Bool) = false := by rw [beq_eq_false_iff_ne]; omega
                clear HSK HNO HYES hk hpe hp hs
                rcases gA with gA | ⟨gA, gB⟩
                all_goals
                  go_upto_region 16 with (go_at_call 29; (with_reducible refine (HP.out _).mono ?_); rintro e w2 ⟨rfl, hF⟩; have HFF := Lib.hid hF; clear hF)
                  have HE2 := Lib.hid ((HE.out.fr HFF.out id).fr ((Fr.refl (fun _ => False) w2).alloc (.cells #[.int .i64 (t : Nat), .bool false, .bool false, .int .i64 0] 51)) id)
                  have HT2 := Lib.hid (show EKP (w2.alloc (.cells #[.int .i64 (t : Nat), .bool false, .bool false, .int .i64 0] 51)) w2.heap.size t false false 0 from heap_alloc_new w2 _)
                  have HF2 := Lib.hid ((HF.out.trans HFF.out).alloc (.cells #[.int .i64 (t : Nat), .bool false, .bool false, .int .i64 0] 51))
                  have HSZ := Lib.hid (show W.heap.size < w2.heap.size from Nat.lt_of_lt_of_le (heap_lt HE.out) HFF.out.size)
                  clear HFF
                  generalize w2.alloc (.cells #[.int .i64 (t : Nat), .bool false, .bool false, .int .i64 0] 51) = w3 at *
                  generalize w2.heap.size = T at *
                  obtain ⟨t0, t1, t2, t3, tf0, tf1, tf2, tf3⟩ := HT2.out.cells
                  obtain ⟨g0, g1, g2, g3, gf0, gf1, gf2, gf3⟩ := HE2.out.cells
                  go_wp2
                  go_roundw
                  case rel => exact ⟨o, i + t, m, rfl, by go_num, HE2.out, HF2.out, by omega, by omega, HZ.out, by omega, HV.out⟩
                  case measure => simp [intOf]; omega
              | more =>
                have hpe : partE l d false (b + i) = .more := by unfold partE; rw [hk]; exact hp
                rw [hpe] at HP
                have hs := HYES.out k hk
                rw [hp] at hs
                subst hs
                have HP := Lib.hid (fun w => (show Calls Try.prog 29 #[.string (x.extract i x.size), .bool false, .int .i64 ((deep : Int) + 1), .int .i64 ((b : Int) + (i : Int))] w (fun e w' => e = .returned (.agg #[.int .i64 (0 : Nat), .bool true, .bool false, .int .i64 (0 : Nat)]) ∧ Fr (fun _ => False) w w') from HP.out w))
                clear HSK HNO HYES hk hpe hp
                rcases gA with gA | ⟨gA, gB⟩
                all_goals
                  go_upto_region 16 with (go_at_call 29; (with_reducible refine (HP.out _).mono ?_); rintro e w2 ⟨rfl, hF⟩; have HFF := Lib.hid hF; clear hF)
                  have HE2 := Lib.hid ((HE.out.fr HFF.out id).fr ((Fr.refl (fun _ => False) w2).alloc (.cells #[.int .i64 0, .bool true, .bool false, .int .i64 0] 51)) id)
                  have HT2 := Lib.hid (show EKP (w2.alloc (.cells #[.int .i64 0, .bool true, .bool false, .int .i64 0] 51)) w2.heap.size 0 true false 0 from heap_alloc_new w2 _)
                  have HF2 := Lib.hid ((HF.out.trans HFF.out).alloc (.cells #[.int .i64 0, .bool true, .bool false, .int .i64 0] 51))
                  have HSZ := Lib.hid (show W.heap.size < w2.heap.size from Nat.lt_of_lt_of_le (heap_lt HE.out) HFF.out.size)
                  clear HFF
                  generalize w2.alloc (.cells #[.int .i64 0, .bool true, .bool false, .int .i64 0] 51) = w3 at *
                  generalize w2.heap.size = T at *
                  obtain ⟨t0, t1, t2, t3, tf0, tf1, tf2, tf3⟩ := HT2.out.cells
                  obtain ⟨g0, g1, g2, g3, gf0, gf1, gf2, gf3⟩ := HE2.out.cells
                  go_wp2
                  exact bodyPost_ret (resEnds Try.f43 18 rfl (HE2.out.all 0 true false 0) _ rfl) rfl ⟨rfl, HF2.out.four (Nat.le_refl _) _ _ _ _⟩
              | deep z =>
                have hpe : partE l d false (b + i) = .deep z := by unfold partE; rw [hk]; exact hp
                rw [hpe] at HP
                have hs := HYES.out k hk
                rw [hp] at hs
                subst hs
                have HP := Lib.hid (fun w => (show Calls Try.prog 29 #[.string (x.extract i x.size), .bool false, .int .i64 ((deep : Int) + 1), .int .i64 ((b : Int) + (i : Int))] w (fun e w' => e = .returned (.agg #[.int .i64 (0 : Nat), .bool false, .bool true, .int .i64 (z : Nat)]) ∧ Fr (fun _ => False) w w') from HP.out w))
                clear HSK HNO HYES hk hpe hp
                rcases gA with gA | ⟨gA, gB⟩
                all_goals
                  go_upto_region 16 with (go_at_call 29; (with_reducible refine (HP.out _).mono ?_); rintro e w2 ⟨rfl, hF⟩; have HFF := Lib.hid hF; clear hF)
                  have HE2 := Lib.hid ((HE.out.fr HFF.out id).fr ((Fr.refl (fun _ => False) w2).alloc (.cells #[.int .i64 0, .bool false, .bool true, .int .i64 (z : Nat)] 51)) id)
                  have HT2 := Lib.hid (show EKP (w2.alloc (.cells #[.int .i64 0, .bool false, .bool true, .int .i64 (z : Nat)] 51)) w2.heap.size 0 false true z from heap_alloc_new w2 _)
                  have HF2 := Lib.hid ((HF.out.trans HFF.out).alloc (.cells #[.int .i64 0, .bool false, .bool true, .int .i64 (z : Nat)] 51))
                  have HSZ := Lib.hid (show W.heap.size < w2.heap.size from Nat.lt_of_lt_of_le (heap_lt HE.out) HFF.out.size)
                  clear HFF
                  generalize w2.alloc (.cells #[.int .i64 0, .bool false, .bool true, .int .i64 (z : Nat)] 51) = w3 at *
                  generalize w2.heap.size = T at *
                  obtain ⟨t0, t1, t2, t3, tf0, tf1, tf2, tf3⟩ := HT2.out.cells
                  obtain ⟨g0, g1, g2, g3, gf0, gf1, gf2, gf3⟩ := HE2.out.cells
                  go_wp2
                  exact bodyPost_ret (resEnds Try.f43 18 rfl (HE2.out.all 0 false true z) _ rfl) rfl ⟨rfl, HF2.out.four (Nat.le_refl _) _ _ _ _⟩
          case false.false.true.false =>
            cases hk : kd true (l.drop (b + i)) with
            | none =>
              have HV := Lib.hid (HNO.out hk)
              have hpe : partE l d true (b + i) = .ok (b + i) := by unfold partE; rw [hk]
              rw [hpe] at HP
              have HP := Lib.hid (fun w => (show Calls Try.prog 29 #[.string (x.extract i x.size), .bool true, .int .i64 ((deep : Int) + 1), .int .i64 ((b : Int) + (i : Int))] w (fun e w' => e = .returned (.agg #[.int .i64 (0 : Nat), .bool false, .bool false, .int .i64 (0 : Nat)]) ∧ Fr (fun _ => False) w w') from by
                refine (HP.out w).mono ?_
                rintro e w' ⟨rfl, h⟩
                exact ⟨by rw [show enN (b + i) (.ok (b + i)) = 0 from Nat.sub_self _]; rfl, h⟩))
              clear HSK HNO HYES hk hpe
              rcases gA with gA | ⟨gA, gB⟩
              all_goals
                go_upto_region 16 with (go_at_call 29; (with_reducible refine (HP.out _).mono ?_); rintro e w2 ⟨rfl, hF⟩; have HFF := Lib.hid hF; clear hF)
                have HE2 := Lib.hid ((HE.out.fr HFF.out id).fr ((Fr.refl (fun _ => False) w2).alloc (.cells #[.int .i64 0, .bool false, .bool false, .int .i64 0] 51)) id)
                have HT2 := Lib.hid (show EKP (w2.alloc (.cells #[.int .i64 0, .bool false, .bool false, .int .i64 0] 51)) w2.heap.size 0 false false 0 from heap_alloc_new w2 _)
                have HF2 := Lib.hid ((HF.out.trans HFF.out).alloc (.cells #[.int .i64 0, .bool false, .bool false, .int .i64 0] 51))
                have HSZ := Lib.hid (show W.heap.size < w2.heap.size from Nat.lt_of_lt_of_le (heap_lt HE.out) HFF.out.size)
                clear HFF
                generalize w2.alloc (.cells #[.int .i64 0, .bool false, .bool false, .int .i64 0] 51) = w3 at *
                generalize w2.heap.size = T at *
                obtain ⟨t0, t1, t2, t3, tf0, tf1, tf2, tf3⟩ := HT2.out.cells
                obtain ⟨g0, g1, g2, g3, gf0, gf1, gf2, gf3⟩ := HE2.out.cells
                go_wp2
                go_roundw
                case rel => exact ⟨o, i + 1, m, rfl, rfl, HE2.out.fr (Fr.one _ T 0 _) (fun e => by have := HSZ.out; omega), HF2.out.setCell (p := ⟨T, 0, none⟩) (.inr (Nat.le_of_lt HSZ.out)) _, by omega, by omega, HZ.out, hm, HV.out⟩
                case measure => simp [intOf]; omega
            | some k =>
              cases hp : partL l d true k (b + i) with
              | ok j =>
                have hle := partL_le _ _ _ _ _ _ hp
                have hpe : partE l d true (b + i) = .ok j := by unfold partE; rw [hk]; exact hp
                rw [hpe] at HP
                have hs := HYES.out k hk
                rw [hp] at hs
                obtain ⟨t, ht⟩ : ∃ t, j = b + i + t := ⟨j - (b + i), by omega⟩
                subst ht
                have HV := Lib.hid (show nestL (partL l d) cl true l m (b + (i + t)) o = r from by rw [← Nat.add_assoc]; exact hs)
                have HP := Lib.hid (fun w => (show Calls Try.prog 29 #[.string (x.extract i x.size), .bool true, .int .i64 ((deep : Int) + 1), .int .i64 ((b : Int) + (i : Int))] w (fun e w' => e = .returned (.agg #[.int .i64 (t : Nat), .bool false, .bool false, .int .i64 (0 : Nat)]) ∧ Fr (fun _ => False) w w') from by
                  refine (HP.out w).mono ?_
                  rintro e w' ⟨rfl, h⟩
                  exact ⟨by rw [show enN (b + i) (.ok (b + i + t)) = t from Nat.add_sub_cancel_left _ _]; rfl, h⟩))
                have gt : ((((t : Nat) : Int) == 0) : Bool) = false := by rw [beq_eq_false_iff_ne]; omega
                clear HSK HNO HYES hk hpe hp hs
                rcases gA with gA | ⟨gA, gB⟩
                all_goals
                  go_upto_region 16 with (go_at_call 29; (with_reducible refine (HP.out _).mono ?_); rintro e w2 ⟨rfl, hF⟩; have HFF := Lib.hid hF; clear hF)
                  have HE2 := Lib.hid ((HE.out.fr HFF.out id).fr ((Fr.refl (fun _ => False) w2).alloc (.cells #[.int .i64 (t : Nat), .bool false, .bool false, .int .i64 0] 51)) id)
                  have HT2 := Lib.hid (show EKP (w2.alloc (.cells #[.int .i64 (t : Nat), .bool false, .bool false, .int .i64 0] 51)) w2.heap.size t false false 0 from heap_alloc_new w2 _)
                  have HF2 := Lib.hid ((HF.out.trans HFF.out).alloc (.cells #[.int .i64 (t : Nat), .bool false, .bool false, .int .i64 0] 51))
                  have HSZ := Lib.hid (show W.heap.size < w2.heap.size from Nat.lt_of_lt_of_le (heap_lt HE.out) HFF.out.size)
                  clear HFF
                  generalize w2.alloc (.cells #[.int .i64 (t : Nat), .bool false, .bool false, .int .i64 0] 51) = w3 at *
                  generalize w2.heap.size = T at *
                  obtain ⟨t0, t1, t2, t3, tf0, tf1, tf2, tf3⟩ := HT2.out.cells
                  obtain ⟨g0, g1, g2, g3, gf0, gf1, gf2, gf3⟩ := HE2.out.cells
                  go_wp2
                  go_roundw
                  case rel => exact ⟨o, i + t, m, rfl, by go_num, HE2.out, HF2.out, by omega, by omega, HZ.out, by omega, HV.out⟩
                  case measure => simp [intOf]; omega
              | more =>
                have hpe : partE l d true (b + i) = .more := by unfold partE; rw [hk]; exact hp
                rw [hpe] at HP
                have hs := HYES.out k hk
                rw [hp] at hs
                subst hs
                have HP := Lib.hid (fun w => (show Calls Try.prog 29 #[.string (x.extract i x.size), .bool true, .int .i64 ((deep : Int) + 1), .int .i64 ((b : Int) + (i : Int))] w (fun e w' => e = .returned (.agg #[.int .i64 (0 : Nat), .bool true, .bool false, .int .i64 (0 : Nat)]) ∧ Fr (fun _ => False) w w') from HP.out w))
                clear HSK HNO HYES hk hpe hp
                rcases gA with gA | ⟨gA, gB⟩
                all_goals
                  go_upto_region 16 with (go_at_call 29; (with_reducible refine (HP.out _).mono ?_); rintro e w2 ⟨rfl, hF⟩; have HFF := Lib.hid hF; clear hF)
                  have HE2 := Lib.hid ((HE.out.fr HFF.out id).fr ((Fr.refl (fun _ => False) w2).alloc (.cells #[.int .i64 0, .bool true, .bool false, .int .i64 0] 51)) id)
                  have HT2 := Lib.hid (show EKP (w2.alloc (.cells #[.int .i64 0, .bool true, .bool false, .int .i64 0] 51)) w2.heap.size 0 true false 0 from heap_alloc_new w2 _)
                  have HF2 := Lib.hid ((HF.out.trans HFF.out).alloc (.cells #[.int .i64 0, .bool true, .bool false, .int .i64 0] 51))
                  have HSZ := Lib.hid (show W.heap.size < w2.heap.size from Nat.lt_of_lt_of_le (heap_lt HE.out) HFF.out.size)
                  clear HFF
                  generalize w2.alloc (.cells #[.int .i64 0, .bool true, .bool false, .int .i64 0] 51) = w3 at *
                  generalize w2.heap.size = T at *
                  obtain ⟨t0, t1, t2, t3, tf0, tf1, tf2, tf3⟩ := HT2.out.cells
                  obtain ⟨g0, g1, g2, g3, gf0, gf1, gf2, gf3⟩ := HE2.out.cells
                  go_wp2
                  exact bodyPost_ret (resEnds Try.f43 18 rfl (HE2.out.all 0 true false 0) _ rfl) rfl ⟨rfl, HF2.out.four (Nat.le_refl _) _ _ _ _⟩
              | deep z =>
                have hpe : partE l d true (b + i) = .deep z := by unfold partE; rw [hk]; exact hp
                rw [hpe] at HP
                have hs := HYES.out k hk
                rw [hp] at hs
                subst hs
                have HP := Lib.hid (fun w => (show Calls Try.prog 29 #[.string (x.extract i x.size), .bool true, .int .i64 ((deep : Int) + 1), .int .i64 ((b : Int) + (i : Int))] w (fun e w' => e = .returned (.agg #[.int .i64 (0 : Nat), .bool false, .bool true, .int .i64 (z : Nat)]) ∧ Fr (fun _ => False) w w') from HP.out w))
                clear HSK HNO HYES hk hpe hp
                rcases gA with gA | ⟨gA, gB⟩
                all_goals
                  go_upto_region 16 with (go_at_call 29; (with_reducible refine (HP.out _).mono ?_); rintro e w2 ⟨rfl, hF⟩; have HFF := Lib.hid hF; clear hF)
                  have HE2 := Lib.hid ((HE.out.fr HFF.out id).fr ((Fr.refl (fun _ => False) w2).alloc (.cells #[.int .i64 0, .bool false, .bool true, .int .i64 (z : Nat)] 51)) id)
                  have HT2 := Lib.hid (show EKP (w2.alloc (.cells #[.int .i64 0, .bool false, .bool true, .int .i64 (z : Nat)] 51)) w2.heap.size 0 false true z from heap_alloc_new w2 _)
                  have HF2 := Lib.hid ((HF.out.trans HFF.out).alloc (.cells #[.int .i64 0, .bool false, .bool true, .int .i64 (z : Nat)] 51))
                  have HSZ := Lib.hid (show W.heap.size < w2.heap.size from Nat.lt_of_lt_of_le (heap_lt HE.out) HFF.out.size)
                  clear HFF
                  generalize w2.alloc (.cells #[.int .i64 0, .bool false, .bool true, .int .i64 (z : Nat)] 51) = w3 at *
                  generalize w2.heap.size = T at *
                  obtain ⟨t0, t1, t2, t3, tf0, tf1, tf2, tf3⟩ := HT2.out.cells
                  obtain ⟨g0, g1, g2, g3, gf0, gf1, gf2, gf3⟩ := HE2.out.cells
                  go_wp2
                  exact bodyPost_ret (resEnds Try.f43 18 rfl (HE2.out.all 0 false true z) _ rfl) rfl ⟨rfl, HF2.out.four (Nat.le_refl _) _ _ _ _⟩
          case false.false.true.true =>
            cases hk : kd true (l.drop (b + i)) with
            | none =>
              have HV := Lib.hid (HNO.out hk)
              have hpe : partE l d true (b + i) = .ok (b + i) := by unfold partE; rw [hk]
              rw [hpe] at HP
              have HP := Lib.hid (fun w => (show Calls Try.prog 29 #[.string (x.extract i x.size), .bool true, .int .i64 ((deep : Int) + 1), .int .i64 ((b : Int) + (i : Int))] w (fun e w' => e = .returned (.agg #[.int .i64 (0 : Nat), .bool false, .bool false, .int .i64 (0 : Nat)]) ∧ Fr (fun _ => False) w w') from by
                refine (HP.out w).mono ?_
                rintro e w' ⟨rfl, h⟩
                exact ⟨by rw [show enN (b + i) (.ok (b + i)) = 0 from Nat.sub_self _]; rfl, h⟩))
              clear HSK HNO HYES hk hpe
              rcases gA with gA | ⟨gA, gB⟩
              all_goals
                go_upto_region 16 with (go_at_call 29; (with_reducible refine (HP.out _).mono ?_); rintro e w2 ⟨rfl, hF⟩; have HFF := Lib.hid hF; clear hF)
                have HE2 := Lib.hid ((HE.out.fr HFF.out id).fr ((Fr.refl (fun _ => False) w2).alloc (.cells #[.int .i64 0, .bool false, .bool false, .int .i64 0] 51)) id)
                have HT2 := Lib.hid (show EKP (w2.alloc (.cells #[.int .i64 0, .bool false, .bool false, .int .i64 0] 51)) w2.heap.size 0 false false 0 from heap_alloc_new w2 _)
                have HF2 := Lib.hid ((HF.out.trans HFF.out).alloc (.cells #[.int .i64 0, .bool false, .bool false, .int .i64 0] 51))
                have HSZ := Lib.hid (show W.heap.size < w2.heap.size from Nat.lt_of_lt_of_le (heap_lt HE.out) HFF.out.size)
                clear HFF
                generalize w2.alloc (.cells #[.int .i64 0, .bool false, .bool false, .int .i64 0] 51) = w3 at *
                generalize w2.heap.size = T at *
                obtain ⟨t0, t1, t2, t3, tf0, tf1, tf2, tf3⟩ := HT2.out.cells
                obtain ⟨g0, g1, g2, g3, gf0, gf1, gf2, gf3⟩ := HE2.out.cells
                go_wp2
                go_roundw
                case rel => exact ⟨o, i + 1, m, rfl, rfl, HE2.out.fr (Fr.one _ T 0 _) (fun e => by have := HSZ.out; omega), HF2.out.setCell (p := ⟨T, 0, none⟩) (.inr (Nat.le_of_lt HSZ.out)) _, by omega, by omega, HZ.out, hm, HV.out⟩
                case measure => simp [intOf]; omega
            | some k =>
              cases hp : partL l d true k (b + i) with
              | ok j =>
                have hle := partL_le _ _ _ _ _ _ hp
                have hpe : partE l d true (b + i) = .ok j := by unfold partE; rw [hk]; exact hp
                rw [hpe] at HP
                have hs := HYES.out k hk
                rw [hp] at hs
                obtain ⟨t, ht⟩ : ∃ t, j = b + i + t := ⟨j - (b + i), by omega⟩
                subst ht
                have HV := Lib.hid (show nestL (partL l d) cl true l m (b + (i + t)) o = r from by rw [← Nat.add_assoc]; exact hs)
                have HP := Lib.hid (fun w => (show Calls Try.prog 29 #[.string (x.extract i x.size), .bool true, .int .i64 ((deep : Int) + 1), .int .i64 ((b : Int) + (i : Int))] w (fun e w' => e = .returned (.agg #[.int .i64 (t : Nat), .bool false, .bool false, .int .i64 (0 : Nat)]) ∧ Fr (fun _ => False) w w') from by
                  refine (HP.out w).mono ?_
                  rintro e w' ⟨rfl, h⟩
                  exact ⟨by rw [show enN (b + i) (.ok (b + i + t)) = t from Nat.add_sub_cancel_left _ _]; rfl, h⟩))
                have gt : ((((t : Nat) : Int) == 0) : Bool) = false := by rw [beq_eq_false_iff_ne]; omega
                clear HSK HNO HYES hk hpe hp hs
                rcases gA with gA | ⟨gA, gB⟩
                all_goals
                  go_upto_region 16 with (go_at_call 29; (with_reducible refine (HP.out _).mono ?_); rintro e w2 ⟨rfl, hF⟩; have HFF := Lib.hid hF; clear hF)
                  have HE2 := Lib.hid ((HE.out.fr HFF.out id).fr ((Fr.refl (fun _ => False) w2).alloc (.cells #[.int .i64 (t : Nat), .bool false, .bool false, .int .i64 0] 51)) id)
                  have HT2 := Lib.hid (show EKP (w2.alloc (.cells #[.int .i64 (t : Nat), .bool false, .bool false, .int .i64 0] 51)) w2.heap.size t false false 0 from heap_alloc_new w2 _)
                  have HF2 := Lib.hid ((HF.out.trans HFF.out).alloc (.cells #[.int .i64 (t : Nat), .bool false, .bool false, .int .i64 0] 51))
                  have HSZ := Lib.hid (show W.heap.size < w2.heap.size from Nat.lt_of_lt_of_le (heap_lt HE.out) HFF.out.size)
                  clear HFF
                  generalize w2.alloc (.cells #[.int .i64 (t : Nat), .bool false, .bool false, .int .i64 0] 51) = w3 at *
                  generalize w2.heap.size = T at *
                  obtain ⟨t0, t1, t2, t3, tf0, tf1, tf2, tf3⟩ := HT2.out.cells
                  obtain ⟨g0, g1, g2, g3, gf0, gf1, gf2, gf3⟩ := HE2.out.cells
                  go_wp2
                  go_roundw
                  case rel => exact ⟨o, i + t, m, rfl, by go_num, HE2.out, HF2.out, by omega, by omega, HZ.out, by omega, HV.out⟩
                  case measure => simp [intOf]; omega
              | more =>
                have hpe : partE l d true (b + i) = .more := by unfold partE; rw [hk]; exact hp
                rw [hpe] at HP
                have hs := HYES.out k hk
                rw [hp] at hs
                subst hs
                have HP := Lib.hid (fun w => (show Calls Try.prog 29 #[.string (x.extract i x.size), .bool true, .int .i64 ((deep : Int) + 1), .int .i64 ((b : Int) + (i : Int))] w (fun e w' => e = .returned (.agg #[.int .i64 (0 : Nat), .bool true, .bool false, .int .i64 (0 : Nat)]) ∧ Fr (fun _ => False) w w') from HP.out w))
                clear HSK HNO HYES hk hpe hp
                rcases gA with gA | ⟨gA, gB⟩
                all_goals
                  go_upto_region 16 with (go_at_call 29; (with_reducible refine (HP.out _).mono ?_); rintro e w2 ⟨rfl, hF⟩; have HFF := Lib.hid hF; clear hF)
                  have HE2 := Lib.hid ((HE.out.fr HFF.out id).fr ((Fr.refl (fun _ => False) w2).alloc (.cells #[.int .i64 0, .bool true, .bool false, .int .i64 0] 51)) id)
                  have HT2 := Lib.hid (show EKP (w2.alloc (.cells #[.int .i64 0, .bool true, .bool false, .int .i64 0] 51)) w2.heap.size 0 true false 0 from heap_alloc_new w2 _)
                  have HF2 := Lib.hid ((HF.out.trans HFF.out).alloc (.cells #[.int .i64 0, .bool true, .bool false, .int .i64 0] 51))
                  have HSZ := Lib.hid (show W.heap.size < w2.heap.size from Nat.lt_of_lt_of_le (heap_lt HE.out) HFF.out.size)
                  clear HFF
                  generalize w2.alloc (.cells #[.int .i64 0, .bool true, .bool false, .int .i64 0] 51) = w3 at *
                  generalize w2.heap.size = T at *
                  obtain ⟨t0, t1, t2, t3, tf0, tf1, tf2, tf3⟩ := HT2.out.cells
                  obtain ⟨g0, g1, g2, g3, gf0, gf1, gf2, gf3⟩ := HE2.out.cells
                  go_wp2
                  exact bodyPost_ret (resEnds Try.f43 18 rfl (HE2.out.all 0 true false 0) _ rfl) rfl ⟨rfl, HF2.out.four (Nat.le_refl _) _ _ _ _⟩
              | deep z =>
                have hpe : partE l d true (b + i) = .deep z := by unfold partE; rw [hk]; exact hp
                rw [hpe] at HP
                have hs := HYES.out k hk
                rw [hp] at hs
                subst hs
                have HP := Lib.hid (fun w => (show Calls Try.prog 29 #[.string (x.extract i x.size), .bool true, .int .i64 ((deep : Int) + 1), .int .i64 ((b : Int) + (i : Int))] w (fun e w' => e = .returned (.agg #[.int .i64 (0 : Nat), .bool false, .bool true, .int .i64 (z : Nat)]) ∧ Fr (fun _ => False) w w') from HP.out w))
                clear HSK HNO HYES hk hpe hp
                rcases gA with gA | ⟨gA, gB⟩
                all_goals
                  go_upto_region 16 with (go_at_call 29; (with_reducible refine (HP.out _).mono ?_); rintro e w2 ⟨rfl, hF⟩; have HFF := Lib.hid hF; clear hF)
                  have HE2 := Lib.hid ((HE.out.fr HFF.out id).fr ((Fr.refl (fun _ => False) w2).alloc (.cells #[.int .i64 0, .bool false, .bool true, .int .i64 (z : Nat)] 51)) id)
                  have HT2 := Lib.hid (show EKP (w2.alloc (.cells #[.int .i64 0, .bool false, .bool true, .int .i64 (z : Nat)] 51)) w2.heap.size 0 false true z from heap_alloc_new w2 _)
                  have HF2 := Lib.hid ((HF.out.trans HFF.out).alloc (.cells #[.int .i64 0, .bool false, .bool true, .int .i64 (z : Nat)] 51))
                  have HSZ := Lib.hid (show W.heap.size < w2.heap.size from Nat.lt_of_lt_of_le (heap_lt HE.out) HFF.out.size)
                  clear HFF
                  generalize w2.alloc (.cells #[.int .i64 0, .bool false, .bool true, .int .i64 (z : Nat)] 51) = w3 at *
                  generalize w2.heap.size = T at *
                  obtain ⟨t0, t1, t2, t3, tf0, tf1, tf2, tf3⟩ := HT2.out.cells
                  obtain ⟨g0, g1, g2, g3, gf0, gf1, gf2, gf3⟩ := HE2.out.cells
                  go_wp2
                  exact bodyPost_ret (resEnds Try.f43 18 rfl (HE2.out.all 0 false true z) _ rfl) rfl ⟨rfl, HF2.out.four (Nat.le_refl _) _ _ _ _⟩
          case false.true.false.false =>
            have HV := Lib.hid (HNO.out (HSK.out rfl))
            clear HSK HNO HYES HP
            rcases gA with gA | ⟨gA, gB⟩
            all_goals
              go_wp2
              refine ⟨⟨o, i + 1, m, rfl, rfl, HE.out, HF.out, by omega, by omega, HZ.out, hm, HV.out⟩, ?_⟩
              simp only [intOf]; omega
          case false.true.false.true =>
            cases hk : kd false (l.drop (b + i)) with
            | none =>
              have HV := Lib.hid (HNO.out hk)
              have hpe : partE l d false (b + i) = .ok (b + i) := by unfold partE; rw [hk]
              rw [hpe] at HP
              have HP := Lib.hid (fun w => (show Calls Try.prog 29 #[.string (x.extract i x.size), .bool false, .int .i64 ((deep : Int) + 1), .int .i64 ((b : Int) + (i : Int))] w (fun e w' => e = .returned (.agg #[.int .i64 (0 : Nat), .bool false, .bool false, .int .i64 (0 : Nat)]) ∧ Fr (fun _ => False) w w') from by
                refine (HP.out w).mono ?_
                rintro e w' ⟨rfl, h⟩
                exact ⟨by rw [show enN (b + i) (.ok (b + i)) = 0 from Nat.sub_self _]; rfl, h⟩))
              clear HSK HNO HYES hk hpe
              rcases gA with gA | ⟨gA, gB⟩
              all_goals
                go_upto_region 16 with (go_at_call 29; (with_reducible refine (HP.out _).mono ?_); rintro e w2 ⟨rfl, hF⟩; have HFF := Lib.hid hF; clear hF)
                have HE2 := Lib.hid ((HE.out.fr HFF.out id).fr ((Fr.refl (fun _ => False) w2).alloc (.cells #[.int .i64 0, .bool false, .bool false, .int .i64 0] 51)) id)
                have HT2 := Lib.hid (show EKP (w2.alloc (.cells #[.int .i64 0, .bool false, .bool false, .int .i64 0] 51)) w2.heap.size 0 false false 0 from heap_alloc_new w2 _)
                have HF2 := Lib.hid ((HF.out.trans HFF.out).alloc (.cells #[.int .i64 0, .bool false, .bool false, .int .i64 0] 51))
                have HSZ := Lib.hid (show W.heap.size < w2.heap.size from Nat.lt_of_lt_of_le (heap_lt HE.out) HFF.out.size)
                clear HFF
                generalize w2.alloc (.cells #[.int .i64 0, .bool false, .bool false, .int .i64 0] 51) = w3 at *
                generalize w2.heap.size = T at *
                obtain ⟨t0, t1, t2, t3, tf0, tf1, tf2, tf3⟩ := HT2.out.cells
                obtain ⟨g0, g1, g2, g3, gf0, gf1, gf2, gf3⟩ := HE2.out.cells
                go_wp2
                go_roundw
                case rel => exact ⟨o, i + 1, m, rfl, rfl, HE2.out.fr (Fr.one _ T 0 _) (fun e => by have := HSZ.out; omega), HF2.out.setCell (p := ⟨T, 0, none⟩) (.inr (Nat.le_of_lt HSZ.out)) _, by omega, by omega, HZ.out, hm, HV.out⟩
                case measure => simp [intOf]; omega
            | some k =>
              cases hp : partL l d false k (b + i) with
              | ok j =>
                have hle := partL_le _ _ _ _ _ _ hp
                have hpe : partE l d false (b + i) = .ok j := by unfold partE; rw [hk]; exact hp
                rw [hpe] at HP
                have hs := HYES.out k hk
                rw [hp] at hs
                obtain ⟨t, ht⟩ : ∃ t, j = b + i + t := ⟨j - (b + i), by omega⟩
                subst ht
                have HV := Lib.hid (show nestL (partL l d) cl false l m (b + (i + t)) o = r from by rw [← Nat.add_assoc]; exact hs)
                have HP := Lib.hid (fun w => (show Calls Try.prog 29 #[.string (x.extract i x.size), .bool false, .int .i64 ((deep : Int) + 1), .int .i64 ((b : Int) + (i : Int))] w (fun e w' => e = .returned (.agg #[.int .i64 (t : Nat), .bool false, .bool false, .int .i64 (0 : Nat)]) ∧ Fr (fun _ => False) w w') from by
                  refine (HP.out w).mono ?_
                  rintro e w' ⟨rfl, h⟩
                  exact ⟨by rw [show enN (b + i) (.ok (b + i + t)) = t from Nat.add_sub_cancel_left _ _]; rfl, h⟩))
                have gt : ((((t : Nat) : Int) == 0) : Bool) = false := by rw [beq_eq_false_iff_ne]; omega
                clear HSK HNO HYES hk hpe hp hs
                rcases gA with gA | ⟨gA, gB⟩
                all_goals
                  go_upto_region 16 with (go_at_call 29; (with_reducible refine (HP.out _).mono ?_); rintro e w2 ⟨rfl, hF⟩; have HFF := Lib.hid hF; clear hF)
                  have HE2 := Lib.hid ((HE.out.fr HFF.out id).fr ((Fr.refl (fun _ => False) w2).alloc (.cells #[.int .i64 (t : Nat), .bool false, .bool false, .int .i64 0] 51)) id)
                  have HT2 := Lib.hid (show EKP (w2.alloc (.cells #[.int .i64 (t : Nat), .bool false, .bool false, .int .i64 0] 51)) w2.heap.size t false false 0 from heap_alloc_new w2 _)
                  have HF2 := Lib.hid ((HF.out.trans HFF.out).alloc (.cells #[.int .i64 (t : Nat), .bool false, .bool false, .int .i64 0] 51))
                  have HSZ := Lib.hid (show W.heap.size < w2.heap.size from Nat.lt_of_lt_of_le (heap_lt HE.out) HFF.out.size)
                  clear HFF
                  generalize w2.alloc (.cells #[.int .i64 (t : Nat), .bool false, .bool false, .int .i64 0] 51) = w3 at *
                  generalize w2.heap.size = T at *
                  obtain ⟨t0, t1, t2, t3, tf0, tf1, tf2, tf3⟩ := HT2.out.cells
                  obtain ⟨g0, g1, g2, g3, gf0, gf1, gf2, gf3⟩ := HE2.out.cells
                  go_wp2
                  go_roundw
                  case rel => exact ⟨o, i + t, m, rfl, by go_num, HE2.out, HF2.out, by omega, by omega, HZ.out, by omega, HV.out⟩
                  case measure => simp [intOf]; omega
              | more =>
                have hpe : partE l d false (b + i) = .more := by unfold partE; rw [hk]; exact hp
                rw [hpe] at HP
                have hs := HYES.out k hk
                rw [hp] at hs
                subst hs
                have HP := Lib.hid (fun w => (show Calls Try.prog 29 #[.string (x.extract i x.size), .bool false, .int .i64 ((deep : Int) + 1), .int .i64 ((b : Int) + (i : Int))] w (fun e w' => e = .returned (.agg #[.int .i64 (0 : Nat), .bool true, .bool false, .int .i64 (0 : Nat)]) ∧ Fr (fun _ => False) w w') from HP.out w))
                clear HSK HNO HYES hk hpe hp
                rcases gA with gA | ⟨gA, gB⟩
                all_goals
                  go_upto_region 16 with (go_at_call 29; (with_reducible refine (HP.out _).mono ?_); rintro e w2 ⟨rfl, hF⟩; have HFF := Lib.hid hF; clear hF)
                  have HE2 := Lib.hid ((HE.out.fr HFF.out id).fr ((Fr.refl (fun _ => False) w2).alloc (.cells #[.int .i64 0, .bool true, .bool false, .int .i64 0] 51)) id)
                  have HT2 := Lib.hid (show EKP (w2.alloc (.cells #[.int .i64 0, .bool true, .bool false, .int .i64 0] 51)) w2.heap.size 0 true false 0 from heap_alloc_new w2 _)
                  have HF2 := Lib.hid ((HF.out.trans HFF.out).alloc (.cells #[.int .i64 0, .bool true, .bool false, .int .i64 0] 51))
                  have HSZ := Lib.hid (show W.heap.size < w2.heap.size from Nat.lt_of_lt_of_le (heap_lt HE.out) HFF.out.size)
                  clear HFF
                  generalize w2.alloc (.cells #[.int .i64 0, .bool true, .bool false, .int .i64 0] 51) = w3 at *
                  generalize w2.heap.size = T at *
                  obtain ⟨t0, t1, t2, t3, tf0, tf1, tf2, tf3⟩ := HT2.out.cells
                  obtain ⟨g0, g1, g2, g3, gf0, gf1, gf2, gf3⟩ := HE2.out.cells
                  go_wp2
                  exact bodyPost_ret (resEnds Try.f43 18 rfl (HE2.out.all 0 true false 0) _ rfl) rfl ⟨rfl, HF2.out.four (Nat.le_refl _) _ _ _ _⟩
              | deep z =>
                have hpe : partE l d false (b + i) = .deep z := by unfold partE; rw [hk]; exact hp
                rw [hpe] at HP
                have hs := HYES.out k hk
                rw [hp] at hs
                subst hs
                have HP := Lib.hid (fun w => (show Calls Try.prog 29 #[.string (x.extract i x.size), .bool false, .int .i64 ((deep : Int) + 1), .int .i64 ((b : Int) + (i : Int))] w (fun e w' => e = .returned (.agg #[.int .i64 (0 : Nat), .bool false, .bool true, .int .i64 (z : Nat)]) ∧ Fr (fun _ => False) w w') from HP.out w))
                clear HSK HNO HYES hk hpe hp
                rcases gA with gA | ⟨gA, gB⟩
                all_goals
                  go_upto_region 16 with (go_at_call 29; (with_reducible refine (HP.out _).mono ?_); rintro e w2 ⟨rfl, hF⟩; have HFF := Lib.hid hF; clear hF)
                  have HE2 := Lib.hid ((HE.out.fr HFF.out id).fr ((Fr.refl (fun _ => False) w2).alloc (.cells #[.int .i64 0, .bool false, .bool true, .int .i64 (z : Nat)] 51)) id)
                  have HT2 := Lib.hid (show EKP (w2.alloc (.cells #[.int .i64 0, .bool false, .bool true, .int .i64 (z : Nat)] 51)) w2.heap.size 0 false true z from heap_alloc_new w2 _)
                  have HF2 := Lib.hid ((HF.out.trans HFF.out).alloc (.cells #[.int .i64 0, .bool false, .bool true, .int .i64 (z : Nat)] 51))
                  have HSZ := Lib.hid (show W.heap.size < w2.heap.size from Nat.lt_of_lt_of_le (heap_lt HE.out) HFF.out.size)
                  clear HFF
                  generalize w2.alloc (.cells #[.int .i64 0, .bool false, .bool true, .int .i64 (z : Nat)] 51) = w3 at *
                  generalize w2.heap.size = T at *
                  obtain ⟨t0, t1, t2, t3, tf0, tf1, tf2, tf3⟩ := HT2.out.cells
                  obtain ⟨g0, g1, g2, g3, gf0, gf1, gf2, gf3⟩ := HE2.out.cells
                  go_wp2
                  exact bodyPost_ret (resEnds Try.f43 18 rfl (HE2.out.all 0 false true z) _ rfl) rfl ⟨rfl, HF2.out.four (Nat.le_refl _) _ _ _ _⟩
          case false.true.true.false =>
            have HV := Lib.hid (HNO.out (HSK.out rfl))
            clear HSK HNO HYES HP
            rcases gA with gA | ⟨gA, gB⟩
            all_goals
              go_wp2
              refine ⟨⟨o, i + 1, m, rfl, rfl, HE.out, HF.out, by omega, by omega, HZ.out, hm, HV.out⟩, ?_⟩
              simp only [intOf]; omega
          case false.true.true.true =>
            cases hk : kd true (l.drop (b + i)) with
            | none =>
              have HV := Lib.hid (HNO.out hk)
              have hpe : partE l d true (b + i) = .ok (b + i) := by unfold partE; rw [hk]
              rw [hpe] at HP
              have HP := Lib.hid (fun w => (show Calls Try.prog 29 #[.string (x.extract i x.size), .bool true, .int .i64 ((deep : Int) + 1), .int .i64 ((b : Int) + (i : Int))] w (fun e w' => e = .returned (.agg #[.int .i64 (0 : Nat), .bool false, .bool false, .int .i64 (0 : Nat)]) ∧ Fr (fun _ => False) w w') from by
                refine (HP.out w).mono ?_
                rintro e w' ⟨rfl, h⟩
                exact ⟨by rw [show enN (b + i) (.ok (b + i)) = 0 from Nat.sub_self _]; rfl, h⟩))
              clear HSK HNO HYES hk hpe
              rcases gA with gA | ⟨gA, gB⟩
              all_goals
                go_upto_region 16 with (go_at_call 29; (with_reducible refine (HP.out _).mono ?_); rintro e w2 ⟨rfl, hF⟩; have HFF := Lib.hid hF; clear hF)
                have HE2 := Lib.hid ((HE.out.fr HFF.out id).fr ((Fr.refl (fun _ => False) w2).alloc (.cells #[.int .i64 0, .bool false, .bool false, .int .i64 0] 51)) id)
                have HT2 := Lib.hid (show EKP (w2.alloc (.cells #[.int .i64 0, .bool false, .bool false, .int .i64 0] 51)) w2.heap.size 0 false false 0 from heap_alloc_new w2 _)
                have HF2 := Lib.hid ((HF.out.trans HFF.out).alloc (.cells #[.int .i64 0, .bool false, .bool false, .int .i64 0] 51))
                have HSZ := Lib.hid (show W.heap.size < w2.heap.size from Nat.lt_of_lt_of_le (heap_lt HE.out) HFF.out.size)
                clear HFF
                generalize w2.alloc (.cells #[.int .i64 0, .bool false, .bool false, .int .i64 0] 51) = w3 at *
                generalize w2.heap.size = T at *
                obtain ⟨t0, t1, t2, t3, tf0, tf1, tf2, tf3⟩ := HT2.out.cells
                obtain ⟨g0, g1, g2, g3, gf0, gf1, gf2, gf3⟩ := HE2.out.cells
                go_wp2
                go_roundw
                case rel => exact ⟨o, i + 1, m, rfl, rfl, HE2.out.fr (Fr.one _ T 0 _) (fun e => by have := HSZ.out; omega), HF2.out.setCell (p := ⟨T, 0, none⟩) (.inr (Nat.le_of_lt HSZ.out)) _, by omega, by omega, HZ.out, hm, HV.out⟩
                case measure => simp [intOf]; omega
            | some k =>
              cases hp : partL l d true k (b + i) with
              | ok j =>
                have hle := partL_le _ _ _ _ _ _ hp
                have hpe : partE l d true (b + i) = .ok j := by unfold partE; rw [hk]; exact hp
                rw [hpe] at HP
                have hs := HYES.out k hk
                rw [hp] at hs
                obtain ⟨t, ht⟩ : ∃ t, j = b + i + t := ⟨j - (b + i), by omega⟩
                subst ht
                have HV := Lib.hid (show nestL (partL l d) cl true l m (b + (i + t)) o = r from by rw [← Nat.add_assoc]; exact hs)
                have HP := Lib.hid (fun w => (show Calls Try.prog 29 #[.string (x.extract i x.size), .bool true, .int .i64 ((deep : Int) + 1), .int .i64 ((b : Int) + (i : Int))] w (fun e w' => e = .returned (.agg #[.int .i64 (t : Nat), .bool false, .bool false, .int .i64 (0 : Nat)]) ∧ Fr (fun _ => False) w w') from by
                  refine (HP.out w).mono ?_
                  rintro e w' ⟨rfl, h⟩
                  exact ⟨by rw [show enN (b + i) (.ok (b + i + t)) = t from Nat.add_sub_cancel_left _ _]; rfl, h⟩))
                have gt : ((((t : Nat) : Int) == 0) : Bool) = false := by rw [beq_eq_false_iff_ne]; omega
                clear HSK HNO HYES hk hpe hp hs
                rcases gA with gA | ⟨gA, gB⟩
                all_goals
                  go_upto_region 16 with (go_at_call 29; (with_reducible refine (HP.out _).mono ?_); rintro e w2 ⟨rfl, hF⟩; have HFF := Lib.hid hF; clear hF)
                  have HE2 := Lib.hid ((HE.out.fr HFF.out id).fr ((Fr.refl (fun _ => False) w2).alloc (.cells #[.int .i64 (t : Nat), .bool false, .bool false, .int .i64 0] 51)) id)
                  have HT2 := Lib.hid (show EKP (w2.alloc (.cells #[.int .i64 (t : Nat), .bool false, .bool false, .int .i64 0] 51)) w2.heap.size t false false 0 from heap_alloc_new w2 _)
                  have HF2 := Lib.hid ((HF.out.trans HFF.out).alloc (.cells #[.int .i64 (t : Nat), .bool false, .bool false, .int .i64 0] 51))
                  have HSZ := Lib.hid (show W.heap.size < w2.heap.size from Nat.lt_of_lt_of_le (heap_lt HE.out) HFF.out.size)
                  clear HFF
                  generalize w2.alloc (.cells #[.int .i64 (t : Nat), .bool false, .bool false, .int .i64 0] 51) = w3 at *
                  generalize w2.heap.size = T at *
                  obtain ⟨t0, t1, t2, t3, tf0, tf1, tf2, tf3⟩ := HT2.out.cells
                  obtain ⟨g0, g1, g2, g3, gf0, gf1, gf2, gf3⟩ := HE2.out.cells
                  go_wp2
                  go_roundw
                  case rel => exact ⟨o, i + t, m, rfl, by go_num, HE2.out, HF2.out, by omega, by omega, HZ.out, by omega, HV.out⟩
                  case measure => simp [intOf]; omega
              | more =>
                have hpe : partE l d true (b + i) = .more := by unfold partE; rw [hk]; exact hp
                rw [hpe] at HP
                have hs := HYES.out k hk
                rw [hp] at hs
                subst hs
                have HP := Lib.hid (fun w => (show Calls Try.prog 29 #[.string (x.extract i x.size), .bool true, .int .i64 ((deep : Int) + 1), .int .i64 ((b : Int) + (i : Int))] w (fun e w' => e = .returned (.agg #[.int .i64 (0 : Nat), .bool true, .bool false, .int .i64 (0 : Nat)]) ∧ Fr (fun _ => False) w w') from HP.out w))
                clear HSK HNO HYES hk hpe hp
                rcases gA with gA | ⟨gA, gB⟩
                all_goals
                  go_upto_region 16 with (go_at_call 29; (with_reducible refine (HP.out _).mono ?_); rintro e w2 ⟨rfl, hF⟩; have HFF := Lib.hid hF; clear hF)
                  have HE2 := Lib.hid ((HE.out.fr HFF.out id).fr ((Fr.refl (fun _ => False) w2).alloc (.cells #[.int .i64 0, .bool true, .bool false, .int .i64 0] 51)) id)
                  have HT2 := Lib.hid (show EKP (w2.alloc (.cells #[.int .i64 0, .bool true, .bool false, .int .i64 0] 51)) w2.heap.size 0 true false 0 from heap_alloc_new w2 _)
                  have HF2 := Lib.hid ((HF.out.trans HFF.out).alloc (.cells #[.int .i64 0, .bool true, .bool false, .int .i64 0] 51))
                  have HSZ := Lib.hid (show W.heap.size < w2.heap.size from Nat.lt_of_lt_of_le (heap_lt HE.out) HFF.out.size)
                  clear HFF
                  generalize w2.alloc (.cells #[.int .i64 0, .bool true, .bool false, .int .i64 0] 51) = w3 at *
                  generalize w2.heap.size = T at *
                  obtain ⟨t0, t1, t2, t3, tf0, tf1, tf2, tf3⟩ := HT2.out.cells
                  obtain ⟨g0, g1, g2, g3, gf0, gf1, gf2, gf3⟩ := HE2.out.cells
                  go_wp2
                  exact bodyPost_ret (resEnds Try.f43 18 rfl (HE2.out.all 0 true false 0) _ rfl) rfl ⟨rfl, HF2.out.four (Nat.le_refl _) _ _ _ _⟩
              | deep z =>
                have hpe : partE l d true (b + i) = .deep z := by unfold partE; rw [hk]; exact hp
                rw [hpe] at HP
                have hs := HYES.out k hk
                rw [hp] at hs
                subst hs
                have HP := Lib.hid (fun w => (show Calls Try.prog 29 #[.string (x.extract i x.size), .bool true, .int .i64 ((deep : Int) + 1), .int .i64 ((b : Int) + (i : Int))] w (fun e w' => e = .returned (.agg #[.int .i64 (0 : Nat), .bool false, .bool true, .int .i64 (z : Nat)]) ∧ Fr (fun _ => False) w w') from HP.out w))
                clear HSK HNO HYES hk hpe hp
                rcases gA with gA | ⟨gA, gB⟩
                all_goals
                  go_upto_region 16 with (go_at_call 29; (with_reducible refine (HP.out _).mono ?_); rintro e w2 ⟨rfl, hF⟩; have HFF := Lib.hid hF; clear hF)
                  have HE2 := Lib.hid ((HE.out.fr HFF.out id).fr ((Fr.refl (fun _ => False) w2).alloc (.cells #[.int .i64 0, .bool false, .bool true, .int .i64 (z : Nat)] 51)) id)
                  have HT2 := Lib.hid (show EKP (w2.alloc (.cells #[.int .i64 0, .bool false, .bool true, .int .i64 (z : Nat)] 51)) w2.heap.size 0 false true z from heap_alloc_new w2 _)
                  have HF2 := Lib.hid ((HF.out.trans HFF.out).alloc (.cells #[.int .i64 0, .bool false, .bool true, .int .i64 (z : Nat)] 51))
                  have HSZ := Lib.hid (show W.heap.size < w2.heap.size from Nat.lt_of_lt_of_le (heap_lt HE.out) HFF.out.size)
                  clear HFF
                  generalize w2.alloc (.cells #[.int .i64 0, .bool false, .bool true, .int .i64 (z : Nat)] 51) = w3 at *
                  generalize w2.heap.size = T at *
                  obtain ⟨t0, t1, t2, t3, tf0, tf1, tf2, tf3⟩ := HT2.out.cells
                  obtain ⟨g0, g1, g2, g3, gf0, gf1, gf2, gf3⟩ := HE2.out.cells
                  go_wp2
                  exact bodyPost_ret (resEnds Try.f43 18 rfl (HE2.out.all 0 false true z) _ rfl) rfl ⟨rfl, HF2.out.four (Nat.le_refl _) _ _ _ _⟩
          case true.false.false.false =>
            cases hk : kd false (l.drop (b + i)) with
            | none =>
              have HV := Lib.hid (HNO.out hk)
              have hpe : partE l d false (b + i) = .ok (b + i) := by unfold partE; rw [hk]
              rw [hpe] at HP
              have HP := Lib.hid (fun w => (show Calls Try.prog 29 #[.string (x.extract i x.size), .bool false, .int .i64 ((deep : Int) + 1), .int .i64 ((b : Int) + (i : Int))] w (fun e w' => e = .returned (.agg #[.int .i64 (0 : Nat), .bool false, .bool false, .int .i64 (0 : Nat)]) ∧ Fr (fun _ => False) w w') from by
                refine (HP.out w).mono ?_
                rintro e w' ⟨rfl, h⟩
                exact ⟨by rw [show enN (b + i) (.ok (b + i)) = 0 from Nat.sub_self _]; rfl, h⟩))
              clear HSK HNO HYES hk hpe
              rcases gA with gA | ⟨gA, gB⟩
              all_goals
                go_upto_region 16 with (go_at_call 29; (with_reducible refine (HP.out _).mono ?_); rintro e w2 ⟨rfl, hF⟩; have HFF := Lib.hid hF; clear hF)
                have HE2 := Lib.hid ((HE.out.fr HFF.out id).fr ((Fr.refl (fun _ => False) w2).alloc (.cells #[.int .i64 0, .bool false, .bool false, .int .i64 0] 51)) id)
                have HT2 := Lib.hid (show EKP (w2.alloc (.cells #[.int .i64 0, .bool false, .bool false, .int .i64 0] 51)) w2.heap.size 0 false false 0 from heap_alloc_new w2 _)
                have HF2 := Lib.hid ((HF.out.trans HFF.out).alloc (.cells #[.int .i64 0, .bool false, .bool false, .int .i64 0] 51))
                have HSZ := Lib.hid (show W.heap.size < w2.heap.size from Nat.lt_of_lt_of_le (heap_lt HE.out) HFF.out.size)
                clear HFF
                generalize w2.alloc (.cells #[.int .i64 0, .bool false, .bool false, .int .i64 0] 51) = w3 at *
                generalize w2.heap.size = T at *
                obtain ⟨t0, t1, t2, t3, tf0, tf1, tf2, tf3⟩ := HT2.out.cells
                obtain ⟨g0, g1, g2, g3, gf0, gf1, gf2, gf3⟩ := HE2.out.cells
                go_wp2
                go_roundw
                case rel => exact ⟨o, i + 1, m, rfl, rfl, HE2.out.fr (Fr.one _ T 0 _) (fun e => by have := HSZ.out; omega), HF2.out.setCell (p := ⟨T, 0, none⟩) (.inr (Nat.le_of_lt HSZ.out)) _, by omega, by omega, HZ.out, hm, HV.out⟩
                case measure => simp [intOf]; omega
            | some k =>
              cases hp : partL l d false k (b + i) with
              | ok j =>
                have hle := partL_le _ _ _ _ _ _ hp
                have hpe : partE l d false (b + i) = .ok j := by unfold partE; rw [hk]; exact hp
                rw [hpe] at HP
                have hs := HYES.out k hk
                rw [hp] at hs
                obtain ⟨t, ht⟩ : ∃ t, j = b + i + t := ⟨j - (b + i), by omega⟩
                subst ht
                have HV := Lib.hid (show nestL (partL l d) cl false l m (b + (i + t)) o = r from by rw [← Nat.add_assoc]; exact hs)
                have HP := Lib.hid (fun w => (show Calls Try.prog 29 #[.string (x.extract i x.size), .bool false, .int .i64 ((deep : Int) + 1), .int .i64 ((b : Int) + (i : Int))] w (fun e w' => e = .returned (.agg #[.int .i64 (t : Nat), .bool false, .bool false, .int .i64 (0 : Nat)]) ∧ Fr (fun _ => False) w w') from by
                  refine (HP.out w).mono ?_
                  rintro e w' ⟨rfl, h⟩
                  exact ⟨by rw [show enN (b + i) (.ok (b + i + t)) = t from Nat.add_sub_cancel_left _ _]; rfl, h⟩))
                have gt : ((((t : Nat) : Int) == 0) : Bool) = false := by rw [beq_eq_false_iff_ne]; omega
                clear HSK HNO HYES hk hpe hp hs
                rcases gA with gA | ⟨gA, gB⟩
                all_goals
                  go_upto_region 16 with (go_at_call 29; (with_reducible refine (HP.out _).mono ?_); rintro e w2 ⟨rfl, hF⟩; have HFF := Lib.hid hF; clear hF)
                  have HE2 := Lib.hid ((HE.out.fr HFF.out id).fr ((Fr.refl (fun _ => False) w2).alloc (.cells #[.int .i64 (t : Nat), .bool false, .bool false, .int .i64 0] 51)) id)
                  have HT2 := Lib.hid (show EKP (w2.alloc (.cells #[.int .i64 (t : Nat), .bool false, .bool false, .int .i64 0] 51)) w2.heap.size t false false 0 from heap_alloc_new w2 _)
                  have HF2 := Lib.hid ((HF.out.trans HFF.out).alloc (.cells #[.int .i64 (t : Nat), .bool false, .bool false, .int .i64 0] 51))
                  have HSZ := Lib.hid (show W.heap.size < w2.heap.size from Nat.lt_of_lt_of_le (heap_lt HE.out) HFF.out.size)
                  clear HFF
                  generalize w2.alloc (.cells #[.int .i64 (t : Nat), .bool false, .bool false, .int .i64 0] 51) = w3 at *
                  generalize w2.heap.size = T at *
                  obtain ⟨t0, t1, t2, t3, tf0, tf1, tf2, tf3⟩ := HT2.out.cells
                  obtain ⟨g0, g1, g2, g3, gf0, gf1, gf2, gf3⟩ := HE2.out.cells
                  go_wp2
                  go_roundw
                  case rel => exact ⟨o, i + t, m, rfl, by go_num, HE2.out, HF2.out, by omega, by omega, HZ.out, by omega, HV.out⟩
                  case measure => simp [intOf]; omega
              | more =>
                have hpe : partE l d false (b + i) = .more := by unfold partE; rw [hk]; exact hp
                rw [hpe] at HP
                have hs := HYES.out k hk
                rw [hp] at hs
                subst hs
                have HP := Lib.hid (fun w => (show Calls Try.prog 29 #[.string (x.extract i x.size), .bool false, .int .i64 ((deep : Int) + 1), .int .i64 ((b : Int) + (i : Int))] w (fun e w' => e = .returned (.agg #[.int .i64 (0 : Nat), .bool true, .bool false, .int .i64 (0 : Nat)]) ∧ Fr (fun _ => False) w w') from HP.out w))
                clear HSK HNO HYES hk hpe hp
                rcases gA with gA | ⟨gA, gB⟩
                all_goals
                  go_upto_region 16 with (go_at_call 29; (with_reducible refine (HP.out _).mono ?_); rintro e w2 ⟨rfl, hF⟩; have HFF := Lib.hid hF; clear hF)
                  have HE2 := Lib.hid ((HE.out.fr HFF.out id).fr ((Fr.refl (fun _ => False) w2).alloc (.cells #[.int .i64 0, .bool true, .bool false, .int .i64 0] 51)) id)
                  have HT2 := Lib.hid (show EKP (w2.alloc (.cells #[.int .i64 0, .bool true, .bool false, .int .i64 0] 51)) w2.heap.size 0 true false 0 from heap_alloc_new w2 _)
                  have HF2 := Lib.hid ((HF.out.trans HFF.out).alloc (.cells #[.int .i64 0, .bool true, .bool false, .int .i64 0] 51))
                  have HSZ := Lib.hid (show W.heap.size < w2.heap.size from Nat.lt_of_lt_of_le (heap_lt HE.out) HFF.out.size)
                  clear HFF
                  generalize w2.alloc (.cells #[.int .i64 0, .bool true, .bool false, .int .i64 0] 51) = w3 at *
                  generalize w2.heap.size = T at *
                  obtain ⟨t0, t1, t2, t3, tf0, tf1, tf2, tf3⟩ := HT2.out.cells
                  obtain ⟨g0, g1, g2, g3, gf0, gf1, gf2, gf3⟩ := HE2.out.cells
                  go_wp2
                  exact bodyPost_ret (resEnds Try.f43 18 rfl (HE2.out.all 0 true false 0) _ rfl) rfl ⟨rfl, HF2.out.four (Nat.le_refl _) _ _ _ _⟩
              | deep z =>
                have hpe : partE l d false (b + i) = .deep z := by unfold partE; rw [hk]; exact hp
                rw [hpe] at HP
                have hs := HYES.out k hk
                rw [hp] at hs
                subst hs
                have HP := Lib.hid (fun w => (show Calls Try.prog 29 #[.string (x.extract i x.size), .bool false, .int .i64 ((deep : Int) + 1), .int .i64 ((b : Int) + (i : Int))] w (fun e w' => e = .returned (.agg #[.int .i64 (0 : Nat), .bool false, .bool true, .int .i64 (z : Nat)]) ∧ Fr (fun _ => False) w w') from HP.out w))
                clear HSK HNO HYES hk hpe hp
                rcases gA with gA | ⟨gA, gB⟩
                all_goals
                  go_upto_region 16 with (go_at_call 29; (with_reducible refine (HP.out _).mono ?_); rintro e w2 ⟨rfl, hF⟩; have HFF := Lib.hid hF; clear hF)
                  have HE2 := Lib.hid ((HE.out.fr HFF.out id).fr ((Fr.refl (fun _ => False) w2).alloc (.cells #[.int .i64 0, .bool false, .bool true, .int .i64 (z : Nat)] 51)) id)
                  have HT2 := Lib.hid (show EKP (w2.alloc (.cells #[.int .i64 0, .bool false, .bool true, .int .i64 (z : Nat)] 51)) w2.heap.size 0 false true z from heap_alloc_new w2 _)
                  have HF2 := Lib.hid ((HF.out.trans HFF.out).alloc (.cells #[.int .i64 0, .bool false, .bool true, .int .i64 (z : Nat)] 51))
                  have HSZ := Lib.hid (show W.heap.size < w2.heap.size from Nat.lt_of_lt_of_le (heap_lt HE.out) HFF.out.size)
                  clear HFF
                  generalize w2.alloc (.cells #[.int .i64 0, .bool false, .bool true, .int .i64 (z : Nat)] 51) = w3 at *
                  generalize w2.heap.size = T at *
                  obtain ⟨t0, t1, t2, t3, tf0, tf1, tf2, tf3⟩ := HT2.out.cells
                  obtain ⟨g0, g1, g2, g3, gf0, gf1, gf2, gf3⟩ := HE2.out.cells
                  go_wp2
                  exact bodyPost_ret (resEnds Try.f43 18 rfl (HE2.out.all 0 false true z) _ rfl) rfl ⟨rfl, HF2.out.four (Nat.le_refl _) _ _ _ _⟩
          case true.false.false.true =>
            cases hk : kd false (l.drop (b + i)) with
            | none =>
              have HV := Lib.hid (HNO.out hk)
              have hpe : partE l d false (b + i) = .ok (b + i) := by unfold partE; rw [hk]
              rw [hpe] at HP
              have HP := Lib.hid (fun w => (show Calls Try.prog 29 #[.string (x.extract i x.size), .bool false, .int .i64 ((deep : Int) + 1), .int .i64 ((b : Int) + (i : Int))] w (fun e w' => e = .returned (.agg #[.int .i64 (0 : Nat), .bool false, .bool false, .int .i64 (0 : Nat)]) ∧ Fr (fun _ => False) w w') from by
                refine (HP.out w).mono ?_
                rintro e w' ⟨rfl, h⟩
                exact ⟨by rw [show enN (b + i) (.ok (b + i)) = 0 from Nat.sub_self _]; rfl, h⟩))
              clear HSK HNO HYES hk hpe
              rcases gA with gA | ⟨gA, gB⟩
              all_goals
                go_upto_region 16 with (go_at_call 29; (with_reducible refine (HP.out _).mono ?_); rintro e w2 ⟨rfl, hF⟩; have HFF := Lib.hid hF; clear hF)
                have HE2 := Lib.hid ((HE.out.fr HFF.out id).fr ((Fr.refl (fun _ => False) w2).alloc (.cells #[.int .i64 0, .bool false, .bool false, .int .i64 0] 51)) id)
                have HT2 := Lib.hid (show EKP (w2.alloc (.cells #[.int .i64 0, .bool false, .bool false, .int .i64 0] 51)) w2.heap.size 0 false false 0 from heap_alloc_new w2 _)
                have HF2 := Lib.hid ((HF.out.trans HFF.out).alloc (.cells #[.int .i64 0, .bool false, .bool false, .int .i64 0] 51))
                have HSZ := Lib.hid (show W.heap.size < w2.heap.size from Nat.lt_of_lt_of_le (heap_lt HE.out) HFF.out.size)
                clear HFF
                generalize w2.alloc (.cells #[.int .i64 0, .bool false, .bool false, .int .i64 0] 51) = w3 at *
                generalize w2.heap.size = T at *
                obtain ⟨t0, t1, t2, t3, tf0, tf1, tf2, tf3⟩ := HT2.out.cells
                obtain ⟨g0, g1, g2, g3, gf0, gf1, gf2, gf3⟩ := HE2.out.cells
                go_wp2
                go_roundw
                case rel => exact ⟨o, i + 1, m, rfl, rfl, HE2.out.fr (Fr.one _ T 0 _) (fun e => by have := HSZ.out; omega), HF2.out.setCell (p := ⟨T, 0, none⟩) (.inr (Nat.le_of_lt HSZ.out)) _, by omega, by omega, HZ.out, hm, HV.out⟩
                case measure => simp [intOf]; omega
            | some k =>
              cases hp : partL l d false k (b + i) with
              | ok j =>
                have hle := partL_le _ _ _ _ _ _ hp
                have hpe : partE l d false (b + i) = .ok j := by unfold partE; rw [hk]; exact hp
                rw [hpe] at HP
                have hs := HYES.out k hk
                rw [hp] at hs
                obtain ⟨t, ht⟩ : ∃ t, j = b + i + t := ⟨j - (b + i), by omega⟩
                subst ht
                have HV := Lib.hid (show nestL (partL l d) cl false l m (b + (i + t)) o = r from by rw [← Nat.add_assoc]; exact hs)
                have HP := Lib.hid (fun w => (show Calls Try.prog 29 #[.string (x.extract i x.size), .bool false, .int .i64 ((deep : Int) + 1), .int .i64 ((b : Int) + (i : Int))] w (fun e w' => e = .returned (.agg #[.int .i64 (t : Nat), .bool false, .bool false, .int .i64 (0 : Nat)]) ∧ Fr (fun _ => False) w w') from by
                  refine (HP.out w).mono ?_
                  rintro e w' ⟨rfl, h⟩
                  exact ⟨by rw [show enN (b + i) (.ok (b + i + t)) = t from Nat.add_sub_cancel_left _ _]; rfl, h⟩))
                have gt : ((((t : Nat) : Int) == 0) : Bool) = false := by rw [beq_eq_false_iff_ne]; omega
                clear HSK HNO HYES hk hpe hp hs
                rcases gA with gA | ⟨gA, gB⟩
                all_goals
                  go_upto_region 16 with (go_at_call 29; (with_reducible refine (HP.out _).mono ?_); rintro e w2 ⟨rfl, hF⟩; have HFF := Lib.hid hF; clear hF)
                  have HE2 := Lib.hid ((HE.out.fr HFF.out id).fr ((Fr.refl (fun _ => False) w2).alloc (.cells #[.int .i64 (t : Nat), .bool false, .bool false, .int .i64 0] 51)) id)
                  have HT2 := Lib.hid (show EKP (w2.alloc (.cells #[.int .i64 (t : Nat), .bool false, .bool false, .int .i64 0] 51)) w2.heap.size t false false 0 from heap_alloc_new w2 _)
                  have HF2 := Lib.hid ((HF.out.trans HFF.out).alloc (.cells #[.int .i64 (t : Nat), .bool false, .bool false, .int .i64 0] 51))
                  have HSZ := Lib.hid (show W.heap.size < w2.heap.size from Nat.lt_of_lt_of_le (heap_lt HE.out) HFF.out.size)
                  clear HFF
                  generalize w2.alloc (.cells #[.int .i64 (t : Nat), .bool false, .bool false, .int .i64 0] 51) = w3 at *
                  generalize w2.heap.size = T at *
                  obtain ⟨t0, t1, t2, t3, tf0, tf1, tf2, tf3⟩ := HT2.out.cells
                  obtain ⟨g0, g1, g2, g3, gf0, gf1, gf2, gf3⟩ := HE2.out.cells
                  go_wp2
                  go_roundw
                  case rel => exact ⟨o, i + t, m, rfl, by go_num, HE2.out, HF2.out, by omega, by omega, HZ.out, by omega, HV.out⟩
                  case measure => simp [intOf]; omega
              | more =>
                have hpe : partE l d false (b + i) = .more := by unfold partE; rw [hk]; exact hp
                rw [hpe] at HP
                have hs := HYES.out k hk
                rw [hp] at hs
                subst hs
                have HP := Lib.hid (fun w => (show Calls Try.prog 29 #[.string (x.extract i x.size), .bool false, .int .i64 ((deep : Int) + 1), .int .i64 ((b : Int) + (i : Int))] w (fun e w' => e = .returned (.agg #[.int .i64 (0 : Nat), .bool true, .bool false, .int .i64 (0 : Nat)]) ∧ Fr (fun _ => False) w w') from HP.out w))
                clear HSK HNO HYES hk hpe hp
                rcases gA with gA | ⟨gA, gB⟩
                all_goals
                  go_upto_region 16 with (go_at_call 29; (with_reducible refine (HP.out _).mono ?_); rintro e w2 ⟨rfl, hF⟩; have HFF := Lib.hid hF; clear hF)
                  have HE2 := Lib.hid ((HE.out.fr HFF.out id).fr ((Fr.refl (fun _ => False) w2).alloc (.cells #[.int .i64 0, .bool true, .bool false, .int .i64 0] 51)) id)
                  have HT2 := Lib.hid (show EKP (w2.alloc (.cells #[.int .i64 0, .bool true, .bool false, .int .i64 0] 51)) w2.heap.size 0 true false 0 from heap_alloc_new w2 _)
                  have HF2 := Lib.hid ((HF.out.trans HFF.out).alloc (.cells #[.int .i64 0, .bool true, .bool false, .int .i64 0] 51))
                  have HSZ := Lib.hid (show W.heap.size < w2.heap.size from Nat.lt_of_lt_of_le (heap_lt HE.out) HFF.out.size)
                  clear HFF
                  generalize w2.alloc (.cells #[.int .i64 0, .bool true, .bool false, .int .i64 0] 51) = w3 at *
                  generalize w2.heap.size = T at *
                  obtain ⟨t0, t1, t2, t3, tf0, tf1, tf2, tf3⟩ := HT2.out.cells
                  obtain ⟨g0, g1, g2, g3, gf0, gf1, gf2, gf3⟩ := HE2.out.cells
                  go_wp2
                  exact bodyPost_ret (resEnds Try.f43 18 rfl (HE2.out.all 0 true false 0) _ rfl) rfl ⟨rfl, HF2.out.four (Nat.le_refl _) _ _ _ _⟩
              | deep z =>
                have hpe : partE l d false (b + i) = .deep z := by unfold partE; rw [hk]; exact hp
                rw [hpe] at HP
                have hs := HYES.out k hk
                rw [hp] at hs
                subst hs
                have HP := Lib.hid (fun w => (show Calls Try.prog 29 #[.string (x.extract i x.size), .bool false, .int .i64 ((deep : Int) + 1), .int .i64 ((b : Int) + (i : Int))] w (fun e w' => e = .returned (.agg #[.int .i64 (0 : Nat), .bool false, .bool true, .int .i64 (z : Nat)]) ∧ Fr (fun _ => False) w w') from HP.out w))
                clear HSK HNO HYES hk hpe hp
                rcases gA with gA | ⟨gA, gB⟩
                all_goals
                  go_upto_region 16 with (go_at_call 29; (with_reducible refine (HP.out _).mono ?_); rintro e w2 ⟨rfl, hF⟩; have HFF := Lib.hid hF; clear hF)
                  have HE2 := Lib.hid ((HE.out.fr HFF.out id).fr ((Fr.refl (fun _ => False) w2).alloc (.cells #[.int .i64 0, .bool false, .bool true, .int .i64 (z : Nat)] 51)) id)
                  have HT2 := Lib.hid (show EKP (w2.alloc (.cells #[.int .i64 0, .bool false, .bool true, .int .i64 (z : Nat)] 51)) w2.heap.size 0 false true z from heap_alloc_new w2 _)
                  have HF2 := Lib.hid ((HF.out.trans HFF.out).alloc (.cells #[.int .i64 0, .bool false, .bool true, .int .i64 (z : Nat)] 51))
                  have HSZ := Lib.hid (show W.heap.size < w2.heap.size from Nat.lt_of_lt_of_le (heap_lt HE.out) HFF.out.size)
                  clear HFF
                  generalize w2.alloc (.cells #[.int .i64 0, .bool false, .bool true, .int .i64 (z : Nat)] 51) = w3 at *
                  generalize w2.heap.size = T at *
                  obtain ⟨t0, t1, t2, t3, tf0, tf1, tf2, tf3⟩ := HT2.out.cells
                  obtain ⟨g0, g1, g2, g3, gf0, gf1, gf2, gf3⟩ := HE2.out.cells
                  go_wp2
                  exact bodyPost_ret (resEnds Try.f43 18 rfl (HE2.out.all 0 false true z) _ rfl) rfl ⟨rfl, HF2.out.four (Nat.le_refl _) _ _ _ _⟩
          case true.false.true.false =>
            have HV := Lib.hid (HNO.out (HSK.out rfl))
            clear HSK HNO HYES HP
            rcases gA with gA | ⟨gA, gB⟩
            all_goals
              go_wp2
              refine ⟨⟨o, i + 1, m, rfl, rfl, HE.out, HF.out, by omega, by omega, HZ.out, hm, HV.out⟩, ?_⟩
              simp only [intOf]; omega
          case true.false.true.true =>
            have HV := Lib.hid (HNO.out (HSK.out rfl))
            clear HSK HNO HYES HP
            rcases gA with gA | ⟨gA, gB⟩
            all_goals
              go_wp2
              refine ⟨⟨o, i + 1, m, rfl, rfl, HE.out, HF.out, by omega, by omega, HZ.out, hm, HV.out⟩, ?_⟩
              simp only [intOf]; omega
          case true.true.false.false =>
            have HV := Lib.hid (HNO.out (HSK.out rfl))
            clear HSK HNO HYES HP
            rcases gA with gA | ⟨gA, gB⟩
            all_goals
              go_wp2
              refine ⟨⟨o, i + 1, m, rfl, rfl, HE.out, HF.out, by omega, by omega, HZ.out, hm, HV.out⟩, ?_⟩
              simp only [intOf]; omega
          case true.true.false.true =>
            cases hk : kd false (l.drop (b + i)) with
            | none =>
              have HV := Lib.hid (HNO.out hk)
              have hpe : partE l d false (b + i) = .ok (b + i) := by unfold partE; rw [hk]
              rw [hpe] at HP
              have HP := Lib.hid (fun w => (show Calls Try.prog 29 #[.string (x.extract i x.size), .bool false, .int .i64 ((deep : Int) + 1), .int .i64 ((b : Int) + (i : Int))] w (fun e w' => e = .returned (.agg #[.int .i64 (0 : Nat), .bool false, .bool false, .int .i64 (0 : Nat)]) ∧ Fr (fun _ => False) w w') from by
                refine (HP.out w).mono ?_
                rintro e w' ⟨rfl, h⟩
                exact ⟨by rw [show enN (b + i) (.ok (b + i)) = 0 from Nat.sub_self _]; rfl, h⟩))
              clear HSK HNO HYES hk hpe
              rcases gA with gA | ⟨gA, gB⟩
              all_goals
                go_upto_region 16 with (go_at_call 29; (with_reducible refine (HP.out _).mono ?_); rintro e w2 ⟨rfl, hF⟩; have HFF := Lib.hid hF; clear hF)
                have HE2 := Lib.hid ((HE.out.fr HFF.out id).fr ((Fr.refl (fun _ => False) w2).alloc (.cells #[.int .i64 0, .bool false, .bool false, .int .i64 0] 51)) id)
                have HT2 := Lib.hid (show EKP (w2.alloc (.cells #[.int .i64 0, .bool false, .bool false, .int .i64 0] 51)) w2.heap.size 0 false false 0 from heap_alloc_new w2 _)
                have HF2 := Lib.hid ((HF.out.trans HFF.out).alloc (.cells #[.int .i64 0, .bool false, .bool false, .int .i64 0] 51))
                have HSZ := Lib.hid (show W.heap.size < w2.heap.size from Nat.lt_of_lt_of_le (heap_lt HE.out) HFF.out.size)
                clear HFF
                generalize w2.alloc (.cells #[.int .i64 0, .bool false, .bool false, .int .i64 0] 51) = w3 at *
                generalize w2.heap.size = T at *
                obtain ⟨t0, t1, t2, t3, tf0, tf1, tf2, tf3⟩ := HT2.out.cells
                obtain ⟨g0, g1, g2, g3, gf0, gf1, gf2, gf3⟩ := HE2.out.cells
                go_wp2
                go_roundw
                case rel => exact ⟨o, i + 1, m, rfl, rfl, HE2.out.fr (Fr.one _ T 0 _) (fun e => by have := HSZ.out; omega), HF2.out.setCell (p := ⟨T, 0, none⟩) (.inr (Nat.le_of_lt HSZ.out)) _, by omega, by omega, HZ.out, hm, HV.out⟩
                case measure => simp [intOf]; omega
            | some k =>
              cases hp : partL l d false k (b + i) with
              | ok j =>
                have hle := partL_le _ _ _ _ _ _ hp
                have hpe : partE l d false (b + i) = .ok j := by unfold partE; rw [hk]; exact hp
                rw [hpe] at HP
                have hs := HYES.out k hk
                rw [hp] at hs
                obtain ⟨t, ht⟩ : ∃ t, j = b + i + t := ⟨j - (b + i), by omega⟩
                subst ht
                have HV := Lib.hid (show nestL (partL l d) cl false l m (b + (i + t)) o = r from by rw [← Nat.add_assoc]; exact hs)
                have HP := Lib.hid (fun w => (show Calls Try.prog 29 #[.string (x.extract i x.size), .bool false, .int .i64 ((deep : Int) + 1), .int .i64 ((b : Int) + (i : Int))] w (fun e w' => e = .returned (.agg #[.int .i64 (t : Nat), .bool false, .bool false, .int .i64 (0 : Nat)]) ∧ Fr (fun _ => False) w w') from by
                  refine (HP.out w).mono ?_
                  rintro e w' ⟨rfl, h⟩
                  exact ⟨by rw [show enN (b + i) (.ok (b + i + t)) = t from Nat.add_sub_cancel_left _ _]; rfl, h⟩))
                have gt : ((((t : Nat) : Int) == 0) : Bool) = false := by rw [beq_eq_false_iff_ne]; omega
                clear HSK HNO HYES hk hpe hp hs
                rcases gA with gA | ⟨gA, gB⟩
                all_goals
                  go_upto_region 16 with (go_at_call 29; (with_reducible refine (HP.out _).mono ?_); rintro e w2 ⟨rfl, hF⟩; have HFF := Lib.hid hF; clear hF)
                  have HE2 := Lib.hid ((HE.out.fr HFF.out id).fr ((Fr.refl (fun _ => False) w2).alloc (.cells #[.int .i64 (t : Nat), .bool false, .bool false, .int .i64 0] 51)) id)
                  have HT2 := Lib.hid (show EKP (w2.alloc (.cells #[.int .i64 (t : Nat), .bool false, .bool false, .int .i64 0] 51)) w2.heap.size t false false 0 from heap_alloc_new w2 _)
                  have HF2 := Lib.hid ((HF.out.trans HFF.out).alloc (.cells #[.int .i64 (t : Nat), .bool false, .bool false, .int .i64 0] 51))
                  have HSZ := Lib.hid (show W.heap.size < w2.heap.size from Nat.lt_of_lt_of_le (heap_lt HE.out) HFF.out.size)
                  clear HFF
                  generalize w2.alloc (.cells #[.int .i64 (t : Nat), .bool false, .bool false, .int .i64 0] 51) = w3 at *
                  generalize w2.heap.size = T at *
                  obtain ⟨t0, t1, t2, t3, tf0, tf1, tf2, tf3⟩ := HT2.out.cells
                  obtain ⟨g0, g1, g2, g3, gf0, gf1, gf2, gf3⟩ := HE2.out.cells
                  go_wp2
                  go_roundw
                  case rel => exact ⟨o, i + t, m, rfl, by go_num, HE2.out, HF2.out, by omega, by omega, HZ.out, by omega, HV.out⟩
                  case measure => simp [intOf]; omega
              | more =>
                have hpe : partE l d false (b + i) = .more := by unfold partE; rw [hk]; exact hp
                rw [hpe] at HP
                have hs := HYES.out k hk
                rw [hp] at hs
                subst hs
                have HP := Lib.hid (fun w => (show Calls Try.prog 29 #[.string (x.extract i x.size), .bool false, .int .i64 ((deep : Int) + 1), .int .i64 ((b : Int) + (i : Int))] w (fun e w' => e = .returned (.agg #[.int .i64 (0 : Nat), .bool true, .bool false, .int .i64 (0 : Nat)]) ∧ Fr (fun _ => False) w w') from HP.out w))
                clear HSK HNO HYES hk hpe hp
                rcases gA with gA | ⟨gA, gB⟩
                all_goals
                  go_upto_region 16 with (go_at_call 29; (with_reducible refine (HP.out _).mono ?_); rintro e w2 ⟨rfl, hF⟩; have HFF := Lib.hid hF; clear hF)
                  have HE2 := Lib.hid ((HE.out.fr HFF.out id).fr ((Fr.refl (fun _ => False) w2).alloc (.cells #[.int .i64 0, .bool true, .bool false, .int .i64 0] 51)) id)
                  have HT2 := Lib.hid (show EKP (w2.alloc (.cells #[.int .i64 0, .bool true, .bool false, .int .i64 0] 51)) w2.heap.size 0 true false 0 from heap_alloc_new w2 _)
                  have HF2 := Lib.hid ((HF.out.trans HFF.out).alloc (.cells #[.int .i64 0, .bool true, .bool false, .int .i64 0] 51))
                  have HSZ := Lib.hid (show W.heap.size < w2.heap.size from Nat.lt_of_lt_of_le (heap_lt HE.out) HFF.out.size)
                  clear HFF
                  generalize w2.alloc (.cells #[.int .i64 0, .bool true, .bool false, .int .i64 0] 51) = w3 at *
                  generalize w2.heap.size = T at *
                  obtain ⟨t0, t1, t2, t3, tf0, tf1, tf2, tf3⟩ := HT2.out.cells
                  obtain ⟨g0, g1, g2, g3, gf0, gf1, gf2, gf3⟩ := HE2.out.cells
                  go_wp2
                  exact bodyPost_ret (resEnds Try.f43 18 rfl (HE2.out.all 0 true false 0) _ rfl) rfl ⟨rfl, HF2.out.four (Nat.le_refl _) _ _ _ _⟩
              | deep z =>
                have hpe : partE l d false (b + i) = .deep z := by unfold partE; rw [hk]; exact hp
                rw [hpe] at HP
                have hs := HYES.out k hk
                rw [hp] at hs
                subst hs
                have HP := Lib.hid (fun w => (show Calls Try.prog 29 #[.string (x.extract i x.size), .bool false, .int .i64 ((deep : Int) + 1), .int .i64 ((b : Int) + (i : Int))] w (fun e w' => e = .returned (.agg #[.int .i64 (0 : Nat), .bool false, .bool true, .int .i64 (z : Nat)]) ∧ Fr (fun _ => False) w w') from HP.out w))
                clear HSK HNO HYES hk hpe hp
                rcases gA with gA | ⟨gA, gB⟩
                all_goals
                  go_upto_region 16 with (go_at_call 29; (with_reducible refine (HP.out _).mono ?_); rintro e w2 ⟨rfl, hF⟩; have HFF := Lib.hid hF; clear hF)
                  have HE2 := Lib.hid ((HE.out.fr HFF.out id).fr ((Fr.refl (fun _ => False) w2).alloc (.cells #[.int .i64 0, .bool false, .bool true, .int .i64 (z : Nat)] 51)) id)
                  have HT2 := Lib.hid (show EKP (w2.alloc (.cells #[.int .i64 0, .bool false, .bool true, .int .i64 (z : Nat)] 51)) w2.heap.size 0 false true z from heap_alloc_new w2 _)
                  have HF2 := Lib.hid ((HF.out.trans HFF.out).alloc (.cells #[.int .i64 0, .bool false, .bool true, .int .i64 (z : Nat)] 51))
                  have HSZ := Lib.hid (show W.heap.size < w2.heap.size from Nat.lt_of_lt_of_le (heap_lt HE.out) HFF.out.size)
                  clear HFF
                  generalize w2.alloc (.cells #[.int .i64 0, .bool false, .bool true, .int .i64 (z : Nat)] 51) = w3 at *
                  generalize w2.heap.size = T at *
                  obtain ⟨t0, t1, t2, t3, tf0, tf1, tf2, tf3⟩ := HT2.out.cells
                  obtain ⟨g0, g1, g2, g3, gf0, gf1, gf2, gf3⟩ := HE2.out.cells
                  go_wp2
                  exact bodyPost_ret (resEnds Try.f43 18 rfl (HE2.out.all 0 false true z) _ rfl) rfl ⟨rfl, HF2.out.four (Nat.le_refl _) _ _ _ _⟩
          case true.true.true.false =>
            have HV := Lib.hid (HNO.out (HSK.out rfl))
            clear HSK HNO HYES HP
            rcases gA with gA | ⟨gA, gB⟩
            all_goals
              go_wp2
              refine ⟨⟨o, i + 1, m, rfl, rfl, HE.out, HF.out, by omega, by omega, HZ.out, hm, HV.out⟩, ?_⟩
              simp only [intOf]; omega
          case true.true.true.true =>
            have HV := Lib.hid (HNO.out (HSK.out rfl))
            clear HSK HNO HYES HP
            rcases gA with gA | ⟨gA, gB⟩
            all_goals
              go_wp2
              refine ⟨⟨o, i + 1, m, rfl, rfl, HE.out, HF.out, by omega, by omega, HZ.out, hm, HV.out⟩, ?_⟩
              simp only [intOf]; omega
    · obtain rfl : i = x.size := by omega
      rw [nest_end _ _ _ _ _ _ _ (by have := HBL.out; omega)] at hr
      subst hr
      clear HD
      go_wp2
      exact bodyPost_ret (resEnds Try.f43 18 rfl (HE.out.all 0 true false 0) _ rfl) rfl ⟨rfl, HF.out.four (Nat.le_refl _) _ _ _ _⟩
end Go.Proofs.Ytoahgblgchmclaa
