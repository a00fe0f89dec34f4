/- Contract of the document's Match; the law GlobMatches: the walk. -/
import Derived.Test.YtacohhmhggljhaaJF
import Derived.Deep.CutRange
import Derived.Deep.DeepCutAuto
namespace Go.Proofs.Ytacohhmhggljhaa
open Go.RowKit
set_option linter.unusedVariables false
set_option linter.unusedSimpArgs false
theorem beg_one (s : ByteArray) (c : UInt8) : (s.size = 0 ∧ beg s.data.toList [c] = false) ∨ ∃ h : 0 < s.size, beg s.data.toList [c] = (s[0] == c) := by
  by_cases h : 0 < s.size
  · refine .inr ⟨h, ?_⟩
    have := drop_eq s 0 h
    rw [List.drop_zero] at this
    rw [this]
    show (c == s[0] && true) = _
    rw [Bool.and_true, Bool.eq_iff_iff, beq_iff_eq, beq_iff_eq]; exact ⟨fun e => e.symm, fun e => e.symm⟩
  · exact .inl ⟨by omega, beg_short _ _ (by rw [size_len]; show s.size < 1; omega)⟩
theorem beg_two (s : ByteArray) (c d : UInt8) : (s.size ≤ 1 ∧ beg s.data.toList [c, d] = false) ∨ ∃ (h0 : 0 < s.size) (h : 1 < s.size), beg s.data.toList [c, d] = (s[0] == c && s[1] == d) := by
  by_cases h : 1 < s.size
  · refine .inr ⟨by omega, h, ?_⟩
    have e1 := drop_eq s 0 (by omega)
    have e2 := drop_eq s (0 + 1) h
    rw [List.drop_zero] at e1
    rw [e1, e2]
    show (c == s[0] && (d == s[1] && true)) = _
    rw [Bool.and_true, Bool.eq_iff_iff, Bool.and_eq_true, Bool.and_eq_true, beq_iff_eq, beq_iff_eq, beq_iff_eq, beq_iff_eq]
    exact ⟨fun e => ⟨e.1.symm, e.2.symm⟩, fun e => ⟨e.1.symm, e.2.symm⟩⟩
  · exact .inl ⟨by omega, beg_short _ _ (by rw [size_len]; show s.size < 2; omega)⟩
theorem u8b (c d : UInt8) (b : Bool) (h : (c == d) = b) : (((c.toNat : Int) == (d.toNat : Int)) : Bool) = b := by
  cases b
  · exact u8_false c d (by simpa using h)
  · exact u8_true c d (by simpa using h)
/-- is there a dot that must be asked for? as the walk asks. -/
theorem dot_ask (s : ByteArray) : (s.size = 0 ∧ beg s.data.toList [46] = false) ∨ ∃ h : 0 < s.size, (((s[0].toNat : Int) == 46) : Bool) = beg s.data.toList [46] := by
  rcases beg_one s 46 with h | ⟨h, e⟩
  · exact .inl h
  · exact .inr ⟨h, u8b _ 46 _ e.symm⟩
theorem bsl_ask (s : ByteArray) : (s.size ≤ 1 ∧ beg s.data.toList [92, 46] = false) ∨ ∃ (h0 : 0 < s.size) (h : 1 < s.size) (b c : Bool), (((s[0].toNat : Int) == 92) : Bool) = b ∧ (((s[1].toNat : Int) == 46) : Bool) = c ∧ beg s.data.toList [92, 46] = (b && c) := by
  rcases beg_two s 92 46 with h | ⟨h0, h, e⟩
  · exact .inl h
  · exact .inr ⟨h0, h, _, _, u8b _ 92 _ rfl, u8b _ 46 _ rfl, e⟩
theorem yield_loadAgg {P : Program} {w : World} {o : Oper} {a : Act} {ty : TypeId} {x : Operand} (ho : o.op = .load ty x) {g off : Nat} {cs : Array Value} (hx : a.eval x = .pointer (some ⟨g, off, none⟩))
    (hc : ∀ j, j < cs.size → w.cell? ⟨g, off + j, none⟩ = cs[j]?) (ht : AggOf P ty cs.size) : (execOp a.eval o).run P w = .ok (.value (.agg cs)) w := by
  have hv := load_agg (P := P) hc ht
  simp [execOp, ho, hx, Instr.loadAt, Instr.sureAddr, hv, asAddr, Result.andThen]
theorem below_cell' {B : Nat} {W W' : World} (h : Below B W W') {g k : Nat} {v : Value} (hg : g < B) (hc : W.cell? ⟨g, k, none⟩ = some v) : W'.cell? ⟨g, k, none⟩ = some v := (h.cell (p := ⟨g, k, none⟩) hg).trans hc
theorem cell_block {W : World} {g k : Nat} {v : Value} (hc : W.cell? ⟨g, k, none⟩ = some v) : g < W.heap.size := by
  unfold World.cell? at hc
  cases ho : W.heap[g]? with
  | none => simp [ho] at hc
  | some o => exact (Array.getElem?_eq_some_iff.1 ho).1
theorem cell_other {W : World} {g b k o : Nat} {v : Value} (h : g ≠ b) : (W.setCell ⟨b, k, none⟩ v).cell? ⟨g, o, none⟩ = W.cell? ⟨g, o, none⟩ := by
  unfold World.cell?
  have := (grownBy_setAt W b k v)
  have e : (W.setCell ⟨b, k, none⟩ v).heap[g]? = W.heap[g]? := Below.heap_setCell _ _ _ g h
  rw [e]
theorem take_map (D : List DP) (i : Nat) (h : i < D.length) : (D.take (i + 1)).map DP.prt = (D.take i).map DP.prt ++ [D[i].prt] := by
  rw [List.take_succ_eq_append_getElem h, List.map_append]; rfl
set_option maxHeartbeats 40000000 in
set_option maxRecDepth 100000 in
theorem rmatch_any (p s : ByteArray) (dot : Bool) (hp : p.size ≤ 4294967296) (hs : s.size ≤ 4294967296) (w : World) :
    Calls Try.prog 11 #[.string p, .string s, .bool dot] w fun e w' => e = .returned (.bool (matchB p.data.toList s.data.toList dot)) ∧ Below w.heap.size w w' := by
  have HS := Lib.hid (dot_ask s)
  have HP := Lib.hid (dot_ask p)
  have HQ := Lib.hid (bsl_ask p)
  by_cases hd : dotNo p.data.toList s.data.toList dot = true
  · have HR := Lib.hid (show matchB p.data.toList s.data.toList dot = false by unfold matchB; rw [if_pos hd])
    unfold dotNo at hd
    simp only [Bool.and_eq_true, Bool.not_eq_true'] at hd
    obtain ⟨⟨⟨rfl, h1⟩, h2⟩, h3⟩ := hd
    have HS := HS.out
    have HP := HP.out
    have HQ := HQ.out
    rw [h1] at HS
    rw [h2] at HP
    rw [h3] at HQ
    clear h1 h2 h3
    rcases HS with ⟨_, h⟩ | ⟨hs0, g0⟩
    · cases h
    rcases HP with ⟨hp0, _⟩ | ⟨hp0, g1⟩
    · clear HQ
      go_enter Try.func11, Try.ntmps11
      go_wp2
      go_ret
      exact ⟨ret_bool HR.out.symm, Below.refl _ _⟩
    · rcases HQ with ⟨hp1, _⟩ | ⟨_, hp1, b, c, g2, g3, g4⟩
      · go_enter Try.func11, Try.ntmps11
        go_wp2
        go_ret
        exact ⟨ret_bool HR.out.symm, Below.refl _ _⟩
      · cases b
        · clear g4
          go_enter Try.func11, Try.ntmps11
          go_wp2
          go_ret
          exact ⟨ret_bool HR.out.symm, Below.refl _ _⟩
        · cases c
          · clear g4
            go_enter Try.func11, Try.ntmps11
            go_wp2
            go_ret
            exact ⟨ret_bool HR.out.symm, Below.refl _ _⟩
          · cases g4
  have hd : dotNo p.data.toList s.data.toList dot = false := by simpa using hd
  have HR := Lib.hid (show matchB p.data.toList s.data.toList dot = M (parts (toks p.data.toList)) s.data.toList by unfold matchB; rw [hd]; rfl)
  have HD := Lib.hid hd
  clear hd
  obtain ⟨i4, hi, hz0, hz1, hz2⟩ := info_parts Try.info4
  go_enter Try.func11, Try.ntmps11
  go_upto_region 1 with fail
  go_cut [23] from 13 to 23 (fun d wx => d = .bool (dot && beg s.data.toList [46]) ∧ wx = w)
  case first =>
    have HS := HS.out
    cases dot
    · clear HS
      go_wp2
      go_meet
      exact ⟨rfl, rfl⟩
    · rcases HS with ⟨h0, h1⟩ | ⟨h0, h1⟩
      · have h1 := Lib.hid h1
        go_wp2
        go_meet
        exact ⟨by rw [h1.out]; rfl, rfl⟩
      · go_wp2
        go_meet
        exact ⟨by simp, rfl⟩
  obtain ⟨rfl, rfl⟩ := hcut
  go_upto_if 23 with fail
  go_cut [] from 7 to 48 (fun wx => wx = wc)
  case first =>
    have HD := HD.out
    unfold dotNo at HD
    generalize (dot && beg s.data.toList [46]) = b1 at *
    cases b1
    · clear HD HS HP HQ HR
      go_wp2
      go_meet
      exact rfl
    · have HP := HP.out
      have HQ := HQ.out
      rcases HP with ⟨h0, h1⟩ | ⟨h0, h1⟩
      · rw [h1] at HD
        rcases HQ with ⟨_, h2⟩ | ⟨h3, _⟩
        · rw [h2] at HD; cases HD
        · omega
      · cases hb2 : beg p.data.toList [46]
        · rw [hb2] at HD h1
          rcases HQ with ⟨_, h2⟩ | ⟨_, h3, b, c, h4, h5, h6⟩
          · rw [h2] at HD; cases HD
          · rw [h6] at HD
            cases b
            · cases HD
            · cases c
              · cases HD
              · clear HD h6 hb2 HS HR
                go_wp2
                go_meet
                exact rfl
        · rw [hb2] at h1
          clear HD HQ hb2 HS HR
          go_wp2
          go_meet
          exact rfl
  have hwc := hcut
  subst hwc
  clear HS HP HQ HD
  go_wp2_with (first
    | (refine wpList_make_row _ rfl _ _ 45 rfl 4 i4 (.bool false) Try.underlying45 hi hz0 hz1 rfl .i64 .i64 (s.size + 1) rfl rfl (by rw [hz2]; omega) (by omega) ?_; have hmc := (Blk.new w1 4 (madeCells #[.bool false] (s.size + 1))).cell 0; have hmf := (Blk.new w1 4 (madeCells #[.bool false] (s.size + 1))).frozen 0; rw [made_get _ _ _ (by omega)] at hmc)
    | (go_at_call 23; refine (rparts_at p hp _).mono ?_; rintro e w1 ⟨pn, cap, D, rfl, ha, hb1, hm, hok, hlen, _⟩; have HA := Lib.hid ha; have HM := Lib.hid hm; have HOK := Lib.hid hok; clear ha hm hok))
  have HB0 := Lib.hid (show BR (w1.alloc (.cells ((madeCells #[.bool false] (s.size + 1)).setIfInBounds 0 (.bool true)) 4)) w1.heap.size (s.size + 1) (fun k => M (((D.take 0).map DP.prt)) (s.data.toList.take k)) (s.size + 1) from by
    have := BR.first w1 s.data.toList
    rw [size_len] at this
    obtain ⟨cs, h1, h2⟩ := this
    have e : cs = (madeCells #[.bool false] (s.size + 1)).setIfInBounds 0 (.bool true) := by
      have h3 := (show _ = _ from h1).symm.trans (show _ = _ from (Blk.new w1 4 (madeCells #[.bool false] (s.size + 1))).set 0 (.bool true))
      simpa using h3
    exact ⟨_, Blk.new _ _ _, by rw [← e]; exact h2.1, by rw [← e]; exact h2.2⟩)
  have HBW := Lib.hid (show Below w1.heap.size w1 (w1.alloc (.cells ((madeCells #[.bool false] (s.size + 1)).setIfInBounds 0 (.bool true)) 4)) from (Below.refl _ _).alloc (Nat.le_refl _) _)
  have HB1 := Lib.hid hb1
  have hb1z := hb1.size
  clear hb1 hmc hmf
  go_loopw [9, 10, 11, 12] (fun cv iv nv kv wo => ∃ (i g : Nat), iv = .int .i64 i ∧ i ≤ D.length ∧ cv = .slice (some ⟨g, 0, none⟩) (s.size + 1) (s.size + 1) ∧ BR wo g (s.size + 1) (fun k => M ((D.take i).map DP.prt) (s.data.toList.take k)) (s.size + 1) ∧ w1.heap.size ≤ g ∧ Below w1.heap.size w1 wo) (fun _ iv _ _ _ => D.length - (intOf iv).toNat)
  case atStart => exact ⟨0, w1.heap.size, rfl, Nat.zero_le _, rfl, HB0.out, Nat.le_refl _, HBW.out⟩
  case round =>
    clear HB0 HBW
    obtain ⟨i, g, rfl, hi', rfl, hcan, hg, hbw⟩ := hrel
    obtain ⟨wo, rfl⟩ : ∃ wo : World, wo = wr := ⟨_, rfl⟩
    by_cases hlt : i < D.length
    · have HCAN := Lib.hid hcan
      have HBWr := Lib.hid hbw
      have hwz := hbw.size
      have hglt := hcan.lt
      clear hcan hbw
      go_wp2_with (refine wpList_make_row _ rfl _ _ 45 rfl 4 i4 (.bool false) Try.underlying45 hi hz0 hz1 rfl .i64 .i64 (s.size + 1) rfl rfl (by rw [hz2]; omega) (by omega) ?_)
      go_loopw [12] (fun kv wr => ∃ k : Nat, kv = .int .i64 k ∧ k ≤ s.size + 1 ∧ BR wr wo.heap.size (s.size + 1) (fun k => M ((D.take (i + 1)).map DP.prt) (s.data.toList.take k)) k ∧ BR wr g (s.size + 1) (fun k => M ((D.take i).map DP.prt) (s.data.toList.take k)) (s.size + 1) ∧ Below w1.heap.size w1 wr) (fun kv _ => s.size + 1 - (intOf kv).toNat)
      case atStart => exact ⟨0, rfl, Nat.zero_le _, BR.made _ _ _, HCAN.out.later ((Below.refl _ _).alloc (Nat.le_refl _) _), HBWr.out.alloc hwz _⟩
      case round =>
        clear HCAN HBWr
        obtain ⟨k, rfl, hk, hnext, hcan, hbw⟩ := hrel
        have HN := Lib.hid hnext
        have HC := Lib.hid hcan
        have HW := Lib.hid hbw
        have hwz2 := hbw.size
        by_cases hks : k ≤ s.size
        · obtain ⟨gp, hpn, hcells⟩ := HA.out i hlt
          subst hpn
          have hgp : gp < w1.heap.size := cell_block (v := .int .u8 (D[i]).k) ((hcells 0 (by omega)).trans rfl)
          have hcells2 : ∀ j, j < 259 → wr.cell? ⟨gp, i * 259 + j, none⟩ = (D[i]).cells[j]? := fun j hj => (hbw.cell (p := ⟨gp, i * 259 + j, none⟩) hgp).trans (hcells j hj)
          have hdok := HOK.out D[i] (List.getElem_mem hlt)
          have hmany := dp_many hdok
          have HTM := Lib.hid (take_map D i hlt)
          have hc0 : wr.cell? ⟨gp, i * 259, none⟩ = some (.int .u8 (D[i]).k) := (hcells2 0 (by omega)).trans rfl
          obtain ⟨ov, hov⟩ := hnext.any k (by omega)
          have hof := hnext.frozen k
          have hck := hcan.cell k (by omega)
          have HCELL := Lib.hid hcells2
          clear hcells hcells2 hnext hcan hbw
          have hgh : g ≠ wo.heap.size := by omega
          have hgph : gp ≠ wo.heap.size := by omega
          generalize hdd : D[i] = d at *
          by_cases h42 : d.k = 42
          · have hx : d.prt.many = true := by rw [hmany, h42]; rfl
            have g42 : (((d.k : Int) == 42) : Bool) = true := by rw [h42]; rfl
            clear hmany HCELL hdok h42
            cases k with
            | zero =>
              have HF := Lib.hid (show M ((D.take i).map DP.prt) (s.data.toList.take 0) = M ((D.take (i + 1)).map DP.prt) (s.data.toList.take 0) by rw [HTM.out, can_star0 hx])
              clear hx
              have HF2 := Lib.hid (fun (b : Bool) (e : b = M ((D.take i).map DP.prt) (s.data.toList.take 0)) => HN.out.put (by omega) (b := b) (e.trans HF.out))
              try dsimp only at hck
              generalize hbb : M ((D.take i).map DP.prt) (s.data.toList.take 0) = b at hck
              have HBB := Lib.hid hbb.symm
              clear hbb HF
              cases b
              · go_wp2
                go_roundw
                case rel => exact ⟨1, by go_num, by omega, HF2.out _ HBB.out, HC.out.other hgh, HW.out.setCell (p := ⟨wo.heap.size, 0, none⟩) hwz _⟩
                case measure => simp [intOf]
              · go_wp2
                go_roundw
                case rel => exact ⟨1, by go_num, by omega, HF2.out _ HBB.out, HC.out.other hgh, HW.out.setCell (p := ⟨wo.heap.size, 0, none⟩) hwz _⟩
                case measure => simp [intOf]
            | succ k =>
              have hck1 := HN.out.cell k (by omega)
              have HF := Lib.hid (show (M ((D.take i).map DP.prt) (s.data.toList.take (k + 1)) || M ((D.take (i + 1)).map DP.prt) (s.data.toList.take k)) = M ((D.take (i + 1)).map DP.prt) (s.data.toList.take (k + 1)) by rw [HTM.out, can_star hx _ _ k (by rw [size_len]; omega)])
              clear hx
              have HF2 := Lib.hid (fun (b : Bool) (e : b = (M ((D.take i).map DP.prt) (s.data.toList.take (k + 1)) || M ((D.take (i + 1)).map DP.prt) (s.data.toList.take k))) => HN.out.put (by omega) (b := b) (e.trans HF.out))
              try dsimp only at hck hck1
              generalize hbb : M ((D.take i).map DP.prt) (s.data.toList.take (k + 1)) = b at hck
              generalize hbc : M ((D.take (i + 1)).map DP.prt) (s.data.toList.take k) = c at hck1
              have HBB := Lib.hid (show (b || c) = (M ((D.take i).map DP.prt) (s.data.toList.take (k + 1)) || M ((D.take (i + 1)).map DP.prt) (s.data.toList.take k)) by rw [hbb, hbc])
              clear hbb hbc HF
              cases b <;> cases c
              all_goals
                go_wp2
                go_roundw
                case rel => exact ⟨k + 1 + 1, by go_num, by omega, HF2.out _ HBB.out, HC.out.other hgh, HW.out.setCell (p := ⟨wo.heap.size, k + 1, none⟩) hwz _⟩
                case measure => simp [intOf]; omega
          · have hx : d.prt.many = false := by rw [hmany]; simp [h42]
            have g42 : (((d.k : Int) == 42) : Bool) = false := by rw [beq_eq_false_iff_ne]; omega
            have HONE := Lib.hid (fun c w => rone_any d hdok h42 c w)
            have hcsz : d.cells.size = 259 := pC_size _ _ _ _
            have HAG := Lib.hid (show AggOf Try.prog 48 d.cells.size from aggR _ _ _ _)
            have HSZ := Lib.hid hcsz
            clear hmany hdok h42 hcsz
            cases k with
            | zero =>
              have HF := Lib.hid (show false = M ((D.take (i + 1)).map DP.prt) (s.data.toList.take 0) by rw [HTM.out, can_one0 hx])
              have HF2 := Lib.hid (BR.put (W := wr.drew) HN.out (by omega) (b := false) HF.out)
              clear hx hck HF
              go_upto_region 17 with fail
              refine wp_region_noPanic ?_
              refine wp_region_any (by kernel_rfl) (any_of_T (S := (fun _ _ => True)) _ _ _ _ ?_)
              change anyT _ _ _ _ _ _ _ _ wr.drew
              have aS : True := trivial
              have hov2 : wr.drew.cell? ⟨wo.heap.size, 0, none⟩ = some ov := hov
              have hof2 : wr.drew.frozen? ⟨wo.heap.size, 0, none⟩ = false := hof
              refine anyT_take (i := 0) (v := .slice (some ⟨wo.heap.size, 0, none⟩) (s.size + 1) (s.size + 1)) (fun _ => True) rfl (by kernel_rfl) (by kernel_rfl) (by kernel_rfl) (fun _ _ _ h => h) (fun _ _ _ _ hS => hS) (fun _ _ => Iff.rfl) (Clos.start _) (Or.inl ⟨by kernel_rfl, ?ay0⟩) aS (fun ac0 aS0 => ?ar0)
              case ay0 => (intro W hSw; clear hSw; go_simp)
              try simp only [Act.put, List.setIfInBounds_toArray, List.set_cons_zero, List.set_cons_succ]
              refine anyT_take (i := 1) (v := .int .i64 0) (fun _ => True) rfl (by kernel_rfl) (by kernel_rfl) (by kernel_rfl) (fun _ _ _ h => h) (fun _ _ _ _ hS => hS) (fun _ _ => Iff.rfl) ac0 (Or.inl ⟨by kernel_rfl, ?ay1⟩) aS0 (fun ac1 aS1 => ?ar1)
              case ay1 => (intro W hSw; clear hSw; go_simp)
              try simp only [Act.put, List.setIfInBounds_toArray, List.set_cons_zero, List.set_cons_succ]
              refine anyT_take (i := 2) (v := .int .i64 0) (fun _ => True) rfl (by kernel_rfl) (by kernel_rfl) (by kernel_rfl) (fun _ _ _ h => h) (fun _ _ _ _ hS => hS) (fun _ _ => Iff.rfl) ac1 (Or.inl ⟨by kernel_rfl, ?ay2⟩) aS1 (fun ac2 aS2 => ?ar2)
              case ay2 => (intro W hSw; clear hSw; go_simp)
              try simp only [Act.put, List.setIfInBounds_toArray, List.set_cons_zero, List.set_cons_succ]
              refine anyT_take (i := 3) (v := .bool false) (fun _ => True) rfl (by kernel_rfl) (by kernel_rfl) (by kernel_rfl) (fun _ _ _ h => h) (fun _ _ _ _ hS => hS) (fun _ _ => Iff.rfl) ac2 (Or.inl ⟨by kernel_rfl, ?ay3⟩) aS2 (fun ac3 aS3 => ?ar3)
              case ay3 => (intro W hSw; clear hSw; go_simp)
              try simp only [Act.put, List.setIfInBounds_toArray, List.set_cons_zero, List.set_cons_succ]
              refine anyT_take (i := 4) (v := .bool false) (fun _ => True) rfl (by kernel_rfl) (by kernel_rfl) (by kernel_rfl) (fun _ _ _ h => h) (fun _ _ _ _ hS => hS) (fun _ _ => Iff.rfl) ac3 (Or.inl ⟨by kernel_rfl, ?ay4⟩) aS3 (fun ac4 aS4 => ?ar4)
              case ay4 => (intro W hSw; clear hSw; go_simp)
              try simp only [Act.put, List.setIfInBounds_toArray, List.set_cons_zero, List.set_cons_succ]
              refine anyT_take (i := 5) (v := undef) (fun _ => True) rfl (by kernel_rfl) (by kernel_rfl) (by kernel_rfl) (fun _ _ _ h => h) (fun _ _ _ _ hS => hS) (fun _ _ => Iff.rfl) ac4 (Or.inr ⟨by kernel_rfl, rfl⟩) aS4 (fun ac5 aS5 => ?ar5)
              try simp only [Act.put, List.setIfInBounds_toArray, List.set_cons_zero, List.set_cons_succ]
              refine anyT_take (i := 6) (v := undef) (fun _ => True) rfl (by kernel_rfl) (by kernel_rfl) (by kernel_rfl) (fun _ _ _ h => h) (fun _ _ _ _ hS => hS) (fun _ _ => Iff.rfl) ac5 (Or.inr ⟨by kernel_rfl, rfl⟩) aS5 (fun ac6 aS6 => ?ar6)
              try simp only [Act.put, List.setIfInBounds_toArray, List.set_cons_zero, List.set_cons_succ]
              refine anyT_take (i := 7) (v := undef) (fun _ => True) rfl (by kernel_rfl) (by kernel_rfl) (by kernel_rfl) (fun _ _ _ h => h) (fun _ _ _ _ hS => hS) (fun _ _ => Iff.rfl) ac6 (Or.inr ⟨by kernel_rfl, rfl⟩) aS6 (fun ac7 aS7 => ?ar7)
              try simp only [Act.put, List.setIfInBounds_toArray, List.set_cons_zero, List.set_cons_succ]
              refine anyT_take (i := 8) (v := undef) (fun _ => True) rfl (by kernel_rfl) (by kernel_rfl) (by kernel_rfl) (fun _ _ _ h => h) (fun _ _ _ _ hS => hS) (fun _ _ => Iff.rfl) ac7 (Or.inr ⟨by kernel_rfl, rfl⟩) aS7 (fun ac8 aS8 => ?ar8)
              try simp only [Act.put, List.setIfInBounds_toArray, List.set_cons_zero, List.set_cons_succ]
              refine anyT_take (i := 9) (v := undef) (fun _ => True) rfl (by kernel_rfl) (by kernel_rfl) (by kernel_rfl) (fun _ _ _ h => h) (fun _ _ _ _ hS => hS) (fun _ _ => Iff.rfl) ac8 (Or.inr ⟨by kernel_rfl, rfl⟩) aS8 (fun ac9 aS9 => ?ar9)
              try simp only [Act.put, List.setIfInBounds_toArray, List.set_cons_zero, List.set_cons_succ]
              refine anyT_take (i := 10) (v := .bool false) (fun _ => True) rfl (by kernel_rfl) (by kernel_rfl) (by kernel_rfl) (fun _ _ _ h => h) (fun _ _ _ _ hS => hS) (fun _ _ => Iff.rfl) ac9 (Or.inl ⟨by kernel_rfl, ?ay10⟩) aS9 (fun ac10 aS10 => ?ar10)
              case ay10 => (intro W hSw; clear hSw; go_simp)
              try simp only [Act.put, List.setIfInBounds_toArray, List.set_cons_zero, List.set_cons_succ]
              refine anyT_take (i := 11) (v := .bool false) (fun _ => True) rfl (by kernel_rfl) (by kernel_rfl) (by kernel_rfl) (fun _ _ _ h => h) (fun _ _ _ _ hS => hS) (fun _ _ => Iff.rfl) ac10 (Or.inl ⟨by kernel_rfl, ?ay11⟩) aS10 (fun ac11 aS11 => ?ar11)
              case ay11 => (intro W hSw; clear hSw; go_simp)
              try simp only [Act.put, List.setIfInBounds_toArray, List.set_cons_zero, List.set_cons_succ]
              refine anyT_take (i := 12) (v := undef) (fun _ => True) rfl (by kernel_rfl) (by kernel_rfl) (by kernel_rfl) (fun _ _ _ h => h) (fun _ _ _ _ hS => hS) (fun _ _ => Iff.rfl) ac11 (Or.inr ⟨by kernel_rfl, rfl⟩) aS11 (fun ac12 aS12 => ?ar12)
              try simp only [Act.put, List.setIfInBounds_toArray, List.set_cons_zero, List.set_cons_succ]
              refine anyT_take (i := 13) (v := undef) (fun _ => True) rfl (by kernel_rfl) (by kernel_rfl) (by kernel_rfl) (fun _ _ _ h => h) (fun _ _ _ _ hS => hS) (fun _ _ => Iff.rfl) ac12 (Or.inr ⟨by kernel_rfl, rfl⟩) aS12 (fun ac13 aS13 => ?ar13)
              try simp only [Act.put, List.setIfInBounds_toArray, List.set_cons_zero, List.set_cons_succ]
              refine anyT_take (i := 14) (v := undef) (fun _ => True) rfl (by kernel_rfl) (by kernel_rfl) (by kernel_rfl) (fun _ _ _ h => h) (fun _ _ _ _ hS => hS) (fun _ _ => Iff.rfl) ac13 (Or.inr ⟨by kernel_rfl, rfl⟩) aS13 (fun ac14 aS14 => ?ar14)
              try simp only [Act.put, List.setIfInBounds_toArray, List.set_cons_zero, List.set_cons_succ]
              refine anyT_take (i := 15) (v := undef) (fun _ => True) rfl (by kernel_rfl) (by kernel_rfl) (by kernel_rfl) (fun _ _ _ h => h) (fun _ _ _ _ hS => hS) (fun _ _ => Iff.rfl) ac14 (Or.inr ⟨by kernel_rfl, rfl⟩) aS14 (fun ac15 aS15 => ?ar15)
              try simp only [Act.put, List.setIfInBounds_toArray, List.set_cons_zero, List.set_cons_succ]
              refine anyT_take (i := 16) (v := undef) (fun _ => True) rfl (by kernel_rfl) (by kernel_rfl) (by kernel_rfl) (fun _ _ _ h => h) (fun _ _ _ _ hS => hS) (fun _ _ => Iff.rfl) ac15 (Or.inr ⟨by kernel_rfl, rfl⟩) aS15 (fun ac16 aS16 => ?ar16)
              try simp only [Act.put, List.setIfInBounds_toArray, List.set_cons_zero, List.set_cons_succ]
              refine anyT_take (i := 17) (v := undef) (fun _ => True) rfl (by kernel_rfl) (by kernel_rfl) (by kernel_rfl) (fun _ _ _ h => h) (fun _ _ _ _ hS => hS) (fun _ _ => Iff.rfl) ac16 (Or.inr ⟨by kernel_rfl, rfl⟩) aS16 (fun ac17 aS17 => ?ar17)
              try simp only [Act.put, List.setIfInBounds_toArray, List.set_cons_zero, List.set_cons_succ]
              refine anyT_take (i := 18) (v := undef) (fun _ => True) rfl (by kernel_rfl) (by kernel_rfl) (by kernel_rfl) (fun _ _ _ h => h) (fun _ _ _ _ hS => hS) (fun _ _ => Iff.rfl) ac17 (Or.inr ⟨by kernel_rfl, rfl⟩) aS17 (fun ac18 aS18 => ?ar18)
              try simp only [Act.put, List.setIfInBounds_toArray, List.set_cons_zero, List.set_cons_succ]
              refine anyT_take (i := 19) (v := undef) (fun _ => True) rfl (by kernel_rfl) (by kernel_rfl) (by kernel_rfl) (fun _ _ _ h => h) (fun _ _ _ _ hS => hS) (fun _ _ => Iff.rfl) ac18 (Or.inr ⟨by kernel_rfl, rfl⟩) aS18 (fun ac19 aS19 => ?ar19)
              try simp only [Act.put, List.setIfInBounds_toArray, List.set_cons_zero, List.set_cons_succ]
              refine anyT_step (k := 20) (by kernel_rfl) rfl (fun K hK => ?as20)
              case as20 =>
                have HK := Lib.hid hK
                clear hK
                rw [if_neg (Bool.eq_false_iff.1 (by kernel_rfl))]
                refine HK.out _ _ aS19 ?_
                clear HK
                try simp only [Act.put, List.setIfInBounds_toArray, List.set_cons_zero, List.set_cons_succ]
                refine anyT_step (k := 21) (by kernel_rfl) rfl (fun K hK => ?as21)
                case as21 =>
                  have HK := Lib.hid hK
                  clear hK
                  go_simp
                  refine HK.out _ _ (aS19) ?_
                  clear HK
                  try simp only [Act.put, List.setIfInBounds_toArray, List.set_cons_zero, List.set_cons_succ]
                  refine anyT_step (k := 22) (by kernel_rfl) rfl (fun K hK => ?as22)
                  case as22 =>
                    have HK := Lib.hid hK
                    clear hK
                    go_simp
                    refine HK.out _ _ (aS19) ?_
                    clear HK
                    try simp only [Act.put, List.setIfInBounds_toArray, List.set_cons_zero, List.set_cons_succ]
                    refine anyT_step (k := 23) (by kernel_rfl) rfl (fun K hK => ?as23)
                    case as23 =>
                      have HK := Lib.hid hK
                      clear hK
                      go_simp
                      refine HK.out _ _ (trivial) ?_
                      clear HK
                      refine anyT_done (by kernel_rfl) ?_
                      refine NoPanic.normal ?_
                      try simp only [Act.put, List.setIfInBounds_toArray, List.set_cons_zero, List.set_cons_succ]
                      go_wp2
                      go_roundw
                      case rel => exact ⟨1, by go_num, by omega, HF2.out, BR.other (W := wr.drew) HC.out hgh, (HW.out.trans ((drew_below wr).mono hwz2)).setCell (p := ⟨wo.heap.size, 0, none⟩) hwz _⟩
                      case measure => simp [intOf]
            | succ k =>
              have hck1 := HC.out.cell k (by omega)
              have hkl : k < s.size := by omega
              have HF := Lib.hid (show (M ((D.take i).map DP.prt) (s.data.toList.take k) && d.prt.set s[k]) = M ((D.take (i + 1)).map DP.prt) (s.data.toList.take (k + 1)) by rw [HTM.out, can_one hx _ _ k (by rw [size_len]; omega)]; rfl)
              clear hx hck
              have HF2 := Lib.hid (fun (W' : World) (hW : BR W' wo.heap.size (s.size + 1) (fun k => M ((D.take (i + 1)).map DP.prt) (s.data.toList.take k)) (k + 1)) (b : Bool) (e : b = (M ((D.take i).map DP.prt) (s.data.toList.take k) && d.prt.set s[k])) => hW.put (by omega) (b := b) (e.trans HF.out))
              try dsimp only at hck1
              generalize hbb : M ((D.take i).map DP.prt) (s.data.toList.take k) = b at hck1
              cases b
              · have HF3 := Lib.hid (HF2.out wr.drew HN.out false (by rw [hbb]; rfl))
                clear hbb HF HF2
                go_upto_region 17 with fail
                refine wp_region_noPanic ?_
                refine wp_region_any (by kernel_rfl) (any_of_T (S := (fun _ W => W.cell? ⟨g, k, none⟩ = some (.bool false) ∧ ∀ j, j < 259 → W.cell? ⟨gp, i * 259 + j, none⟩ = d.cells[j]?)) _ _ _ _ ?_)
                change anyT _ _ _ _ _ _ _ _ wr.drew
                have bS : wr.drew.cell? ⟨g, k, none⟩ = some (.bool false) ∧ ∀ j, j < 259 → wr.drew.cell? ⟨gp, i * 259 + j, none⟩ = d.cells[j]? := ⟨hck1, HCELL.out⟩
                have hov2 : wr.drew.cell? ⟨wo.heap.size, k + 1, none⟩ = some ov := hov
                have hof2 : wr.drew.frozen? ⟨wo.heap.size, k + 1, none⟩ = false := hof
                refine anyT_take (i := 0) (v := .slice (some ⟨wo.heap.size, 0, none⟩) (s.size + 1) (s.size + 1)) (fun W => W.cell? ⟨g, k, none⟩ = some (.bool false) ∧ ∀ j, j < 259 → W.cell? ⟨gp, i * 259 + j, none⟩ = d.cells[j]?) rfl (by kernel_rfl) (by kernel_rfl) (by kernel_rfl) (fun _ _ _ h => h) (fun _ _ _ _ hS => hS) (fun _ _ => Iff.rfl) (Clos.start _) (Or.inl ⟨by kernel_rfl, ?by0⟩) bS (fun bc0 bS0 => ?br0)
                case by0 => (intro W hSw; clear hSw; go_simp)
                try simp only [Act.put, List.setIfInBounds_toArray, List.set_cons_zero, List.set_cons_succ]
                refine anyT_take (i := 1) (v := .int .i64 ((k : Int) + 1)) (fun W => W.cell? ⟨g, k, none⟩ = some (.bool false) ∧ ∀ j, j < 259 → W.cell? ⟨gp, i * 259 + j, none⟩ = d.cells[j]?) rfl (by kernel_rfl) (by kernel_rfl) (by kernel_rfl) (fun _ _ _ h => h) (fun _ _ _ _ hS => hS) (fun _ _ => Iff.rfl) bc0 (Or.inl ⟨by kernel_rfl, ?by1⟩) bS0 (fun bc1 bS1 => ?br1)
                case by1 => (intro W hSw; clear hSw; go_simp)
                try simp only [Act.put, List.setIfInBounds_toArray, List.set_cons_zero, List.set_cons_succ]
                refine anyT_take (i := 2) (v := .int .i64 ((k : Int) + 1)) (fun W => W.cell? ⟨g, k, none⟩ = some (.bool false) ∧ ∀ j, j < 259 → W.cell? ⟨gp, i * 259 + j, none⟩ = d.cells[j]?) rfl (by kernel_rfl) (by kernel_rfl) (by kernel_rfl) (fun _ _ _ h => h) (fun _ _ _ _ hS => hS) (fun _ _ => Iff.rfl) bc1 (Or.inl ⟨by kernel_rfl, ?by2⟩) bS1 (fun bc2 bS2 => ?br2)
                case by2 => (intro W hSw; clear hSw; go_simp)
                try simp only [Act.put, List.setIfInBounds_toArray, List.set_cons_zero, List.set_cons_succ]
                refine anyT_take (i := 3) (v := .bool true) (fun W => W.cell? ⟨g, k, none⟩ = some (.bool false) ∧ ∀ j, j < 259 → W.cell? ⟨gp, i * 259 + j, none⟩ = d.cells[j]?) rfl (by kernel_rfl) (by kernel_rfl) (by kernel_rfl) (fun _ _ _ h => h) (fun _ _ _ _ hS => hS) (fun _ _ => Iff.rfl) bc2 (Or.inl ⟨by kernel_rfl, ?by3⟩) bS2 (fun bc3 bS3 => ?br3)
                case by3 => (intro W hSw; clear hSw; go_simp)
                try simp only [Act.put, List.setIfInBounds_toArray, List.set_cons_zero, List.set_cons_succ]
                refine anyT_take (i := 4) (v := .bool true) (fun W => W.cell? ⟨g, k, none⟩ = some (.bool false) ∧ ∀ j, j < 259 → W.cell? ⟨gp, i * 259 + j, none⟩ = d.cells[j]?) rfl (by kernel_rfl) (by kernel_rfl) (by kernel_rfl) (fun _ _ _ h => h) (fun _ _ _ _ hS => hS) (fun _ _ => Iff.rfl) bc3 (Or.inl ⟨by kernel_rfl, ?by4⟩) bS3 (fun bc4 bS4 => ?br4)
                case by4 => (intro W hSw; clear hSw; go_simp)
                try simp only [Act.put, List.setIfInBounds_toArray, List.set_cons_zero, List.set_cons_succ]
                refine anyT_take (i := 5) (v := .slice (some ⟨g, 0, none⟩) (s.size + 1) (s.size + 1)) (fun W => W.cell? ⟨g, k, none⟩ = some (.bool false) ∧ ∀ j, j < 259 → W.cell? ⟨gp, i * 259 + j, none⟩ = d.cells[j]?) rfl (by kernel_rfl) (by kernel_rfl) (by kernel_rfl) (fun _ _ _ h => h) (fun _ _ _ _ hS => hS) (fun _ _ => Iff.rfl) bc4 (Or.inl ⟨by kernel_rfl, ?by5⟩) bS4 (fun bc5 bS5 => ?br5)
                case by5 => (intro W hSw; clear hSw; go_simp)
                try simp only [Act.put, List.setIfInBounds_toArray, List.set_cons_zero, List.set_cons_succ]
                refine anyT_take (i := 6) (v := .int .i64 ((k : Int) + 1)) (fun W => W.cell? ⟨g, k, none⟩ = some (.bool false) ∧ ∀ j, j < 259 → W.cell? ⟨gp, i * 259 + j, none⟩ = d.cells[j]?) rfl (by kernel_rfl) (by kernel_rfl) (by kernel_rfl) (fun _ _ _ h => h) (fun _ _ _ _ hS => hS) (fun _ _ => Iff.rfl) bc5 (Or.inl ⟨by kernel_rfl, ?by6⟩) bS5 (fun bc6 bS6 => ?br6)
                case by6 => (intro W hSw; clear hSw; go_simp)
                try simp only [Act.put, List.setIfInBounds_toArray, List.set_cons_zero, List.set_cons_succ]
                refine anyT_take (i := 7) (v := .int .i64 k) (fun W => W.cell? ⟨g, k, none⟩ = some (.bool false) ∧ ∀ j, j < 259 → W.cell? ⟨gp, i * 259 + j, none⟩ = d.cells[j]?) rfl (by kernel_rfl) (by kernel_rfl) (by kernel_rfl) (fun _ _ _ h => h) (fun _ _ _ _ hS => hS) (fun _ _ => Iff.rfl) bc6 (Or.inl ⟨by kernel_rfl, ?by7⟩) bS6 (fun bc7 bS7 => ?br7)
                case by7 => (intro W hSw; clear hSw; go_simp; exact IntWalk.i64_in _ (by omega))
                try simp only [Act.put, List.setIfInBounds_toArray, List.set_cons_zero, List.set_cons_succ]
                refine anyT_take (i := 8) (v := .pointer (some ⟨g, k, none⟩)) (fun W => W.cell? ⟨g, k, none⟩ = some (.bool false) ∧ ∀ j, j < 259 → W.cell? ⟨gp, i * 259 + j, none⟩ = d.cells[j]?) rfl (by kernel_rfl) (by kernel_rfl) (by kernel_rfl) (fun _ _ _ h => h) (fun _ _ _ _ hS => hS) (fun _ _ => Iff.rfl) bc7 (Or.inl ⟨by kernel_rfl, ?by8⟩) bS7 (fun bc8 bS8 => ?br8)
                case by8 => (intro W hSw; clear hSw; have hkk : (k : Int) < (s.size : Int) + 1 := (by omega); go_simp)
                try simp only [Act.put, List.setIfInBounds_toArray, List.set_cons_zero, List.set_cons_succ]
                refine anyT_take (i := 9) (v := .bool false) (fun W => W.cell? ⟨g, k, none⟩ = some (.bool false) ∧ ∀ j, j < 259 → W.cell? ⟨gp, i * 259 + j, none⟩ = d.cells[j]?) rfl (by kernel_rfl) (by kernel_rfl) (by kernel_rfl) (fun _ _ _ h => h) (fun _ _ _ _ hS => hS) (fun _ _ => Iff.rfl) bc8 (Or.inl ⟨by kernel_rfl, ?by9⟩) bS8 (fun bc9 bS9 => ?br9)
                case by9 => (intro W hSw; have hs1 := hSw.1; clear hSw; go_simp)
                try simp only [Act.put, List.setIfInBounds_toArray, List.set_cons_zero, List.set_cons_succ]
                refine anyT_take (i := 10) (v := .bool false) (fun W => W.cell? ⟨g, k, none⟩ = some (.bool false) ∧ ∀ j, j < 259 → W.cell? ⟨gp, i * 259 + j, none⟩ = d.cells[j]?) rfl (by kernel_rfl) (by kernel_rfl) (by kernel_rfl) (fun _ _ _ h => h) (fun _ _ _ _ hS => hS) (fun _ _ => Iff.rfl) bc9 (Or.inl ⟨by kernel_rfl, ?by10⟩) bS9 (fun bc10 bS10 => ?br10)
                case by10 => (intro W hSw; clear hSw; go_simp)
                try simp only [Act.put, List.setIfInBounds_toArray, List.set_cons_zero, List.set_cons_succ]
                refine anyT_take (i := 11) (v := .bool false) (fun W => W.cell? ⟨g, k, none⟩ = some (.bool false) ∧ ∀ j, j < 259 → W.cell? ⟨gp, i * 259 + j, none⟩ = d.cells[j]?) rfl (by kernel_rfl) (by kernel_rfl) (by kernel_rfl) (fun _ _ _ h => h) (fun _ _ _ _ hS => hS) (fun _ _ => Iff.rfl) bc10 (Or.inl ⟨by kernel_rfl, ?by11⟩) bS10 (fun bc11 bS11 => ?br11)
                case by11 => (intro W hSw; clear hSw; go_simp)
                try simp only [Act.put, List.setIfInBounds_toArray, List.set_cons_zero, List.set_cons_succ]
                refine anyT_take (i := 12) (v := undef) (fun W => W.cell? ⟨g, k, none⟩ = some (.bool false) ∧ ∀ j, j < 259 → W.cell? ⟨gp, i * 259 + j, none⟩ = d.cells[j]?) rfl (by kernel_rfl) (by kernel_rfl) (by kernel_rfl) (fun _ _ _ h => h) (fun _ _ _ _ hS => hS) (fun _ _ => Iff.rfl) bc11 (Or.inr ⟨by kernel_rfl, rfl⟩) bS11 (fun bc12 bS12 => ?br12)
                try simp only [Act.put, List.setIfInBounds_toArray, List.set_cons_zero, List.set_cons_succ]
                refine anyT_take (i := 13) (v := undef) (fun W => W.cell? ⟨g, k, none⟩ = some (.bool false) ∧ ∀ j, j < 259 → W.cell? ⟨gp, i * 259 + j, none⟩ = d.cells[j]?) rfl (by kernel_rfl) (by kernel_rfl) (by kernel_rfl) (fun _ _ _ h => h) (fun _ _ _ _ hS => hS) (fun _ _ => Iff.rfl) bc12 (Or.inr ⟨by kernel_rfl, rfl⟩) bS12 (fun bc13 bS13 => ?br13)
                try simp only [Act.put, List.setIfInBounds_toArray, List.set_cons_zero, List.set_cons_succ]
                refine anyT_take (i := 14) (v := undef) (fun W => W.cell? ⟨g, k, none⟩ = some (.bool false) ∧ ∀ j, j < 259 → W.cell? ⟨gp, i * 259 + j, none⟩ = d.cells[j]?) rfl (by kernel_rfl) (by kernel_rfl) (by kernel_rfl) (fun _ _ _ h => h) (fun _ _ _ _ hS => hS) (fun _ _ => Iff.rfl) bc13 (Or.inr ⟨by kernel_rfl, rfl⟩) bS13 (fun bc14 bS14 => ?br14)
                try simp only [Act.put, List.setIfInBounds_toArray, List.set_cons_zero, List.set_cons_succ]
                refine anyT_take (i := 15) (v := undef) (fun W => W.cell? ⟨g, k, none⟩ = some (.bool false) ∧ ∀ j, j < 259 → W.cell? ⟨gp, i * 259 + j, none⟩ = d.cells[j]?) rfl (by kernel_rfl) (by kernel_rfl) (by kernel_rfl) (fun _ _ _ h => h) (fun _ _ _ _ hS => hS) (fun _ _ => Iff.rfl) bc14 (Or.inr ⟨by kernel_rfl, rfl⟩) bS14 (fun bc15 bS15 => ?br15)
                try simp only [Act.put, List.setIfInBounds_toArray, List.set_cons_zero, List.set_cons_succ]
                refine anyT_take (i := 16) (v := undef) (fun W => W.cell? ⟨g, k, none⟩ = some (.bool false) ∧ ∀ j, j < 259 → W.cell? ⟨gp, i * 259 + j, none⟩ = d.cells[j]?) rfl (by kernel_rfl) (by kernel_rfl) (by kernel_rfl) (fun _ _ _ h => h) (fun _ _ _ _ hS => hS) (fun _ _ => Iff.rfl) bc15 (Or.inr ⟨by kernel_rfl, rfl⟩) bS15 (fun bc16 bS16 => ?br16)
                try simp only [Act.put, List.setIfInBounds_toArray, List.set_cons_zero, List.set_cons_succ]
                refine anyT_take (i := 17) (v := undef) (fun W => W.cell? ⟨g, k, none⟩ = some (.bool false) ∧ ∀ j, j < 259 → W.cell? ⟨gp, i * 259 + j, none⟩ = d.cells[j]?) rfl (by kernel_rfl) (by kernel_rfl) (by kernel_rfl) (fun _ _ _ h => h) (fun _ _ _ _ hS => hS) (fun _ _ => Iff.rfl) bc16 (Or.inr ⟨by kernel_rfl, rfl⟩) bS16 (fun bc17 bS17 => ?br17)
                try simp only [Act.put, List.setIfInBounds_toArray, List.set_cons_zero, List.set_cons_succ]
                refine anyT_take (i := 18) (v := undef) (fun W => W.cell? ⟨g, k, none⟩ = some (.bool false) ∧ ∀ j, j < 259 → W.cell? ⟨gp, i * 259 + j, none⟩ = d.cells[j]?) rfl (by kernel_rfl) (by kernel_rfl) (by kernel_rfl) (fun _ _ _ h => h) (fun _ _ _ _ hS => hS) (fun _ _ => Iff.rfl) bc17 (Or.inr ⟨by kernel_rfl, rfl⟩) bS17 (fun bc18 bS18 => ?br18)
                try simp only [Act.put, List.setIfInBounds_toArray, List.set_cons_zero, List.set_cons_succ]
                refine anyT_take (i := 19) (v := undef) (fun W => W.cell? ⟨g, k, none⟩ = some (.bool false) ∧ ∀ j, j < 259 → W.cell? ⟨gp, i * 259 + j, none⟩ = d.cells[j]?) rfl (by kernel_rfl) (by kernel_rfl) (by kernel_rfl) (fun _ _ _ h => h) (fun _ _ _ _ hS => hS) (fun _ _ => Iff.rfl) bc18 (Or.inr ⟨by kernel_rfl, rfl⟩) bS18 (fun bc19 bS19 => ?br19)
                try simp only [Act.put, List.setIfInBounds_toArray, List.set_cons_zero, List.set_cons_succ]
                refine anyT_step (k := 20) (by kernel_rfl) rfl (fun K hK => ?bs20)
                case bs20 =>
                  have HK := Lib.hid hK
                  clear hK
                  rw [if_neg (Bool.eq_false_iff.1 (by kernel_rfl))]
                  refine HK.out _ _ bS19 ?_
                  clear HK
                  try simp only [Act.put, List.setIfInBounds_toArray, List.set_cons_zero, List.set_cons_succ]
                  refine anyT_step (k := 21) (by kernel_rfl) rfl (fun K hK => ?bs21)
                  case bs21 =>
                    have HK := Lib.hid hK
                    clear hK
                    go_simp
                    refine HK.out _ _ (bS19) ?_
                    clear HK
                    try simp only [Act.put, List.setIfInBounds_toArray, List.set_cons_zero, List.set_cons_succ]
                    refine anyT_step (k := 22) (by kernel_rfl) rfl (fun K hK => ?bs22)
                    case bs22 =>
                      have HK := Lib.hid hK
                      clear hK
                      go_simp
                      refine HK.out _ _ (bS19) ?_
                      clear HK
                      try simp only [Act.put, List.setIfInBounds_toArray, List.set_cons_zero, List.set_cons_succ]
                      refine anyT_step (k := 23) (by kernel_rfl) rfl (fun K hK => ?bs23)
                      case bs23 =>
                        have HK := Lib.hid hK
                        clear hK
                        go_simp
                        refine HK.out _ _ (⟨(cell_other hgh).trans bS19.1, fun q hq => (cell_other hgph).trans (bS19.2 q hq)⟩) ?_
                        clear HK
                        refine anyT_done (by kernel_rfl) ?_
                        refine NoPanic.normal ?_
                        try simp only [Act.put, List.setIfInBounds_toArray, List.set_cons_zero, List.set_cons_succ]
                        go_wp2
                        go_roundw
                        case rel => exact ⟨k + 1 + 1, by go_num, by omega, HF3.out, BR.other (W := wr.drew) HC.out hgh, (HW.out.trans ((drew_below wr).mono hwz2)).setCell (p := ⟨wo.heap.size, k + 1, none⟩) hwz _⟩
                        case measure => simp [intOf]; omega
              · have HF3 := Lib.hid (fun (W' : World) (hW : BR W' wo.heap.size (s.size + 1) (fun k => M ((D.take (i + 1)).map DP.prt) (s.data.toList.take k)) (k + 1)) => HF2.out W' hW (d.prt.set s[k]) (by rw [hbb]; rfl))
                clear hbb HF HF2
                go_upto_region 17 with fail
                refine wp_region_noPanic ?_
                refine wp_region_any (by kernel_rfl) (any_of_T (S := (fun _ W => W.cell? ⟨g, k, none⟩ = some (.bool true) ∧ ∀ j, j < 259 → W.cell? ⟨gp, i * 259 + j, none⟩ = d.cells[j]?)) _ _ _ _ ?_)
                change anyT _ _ _ _ _ _ _ _ wr.drew
                have cS : wr.drew.cell? ⟨g, k, none⟩ = some (.bool true) ∧ ∀ j, j < 259 → wr.drew.cell? ⟨gp, i * 259 + j, none⟩ = d.cells[j]? := ⟨hck1, HCELL.out⟩
                have hov2 : wr.drew.cell? ⟨wo.heap.size, k + 1, none⟩ = some ov := hov
                have hof2 : wr.drew.frozen? ⟨wo.heap.size, k + 1, none⟩ = false := hof
                refine anyT_take (i := 0) (v := .slice (some ⟨wo.heap.size, 0, none⟩) (s.size + 1) (s.size + 1)) (fun W => W.cell? ⟨g, k, none⟩ = some (.bool true) ∧ ∀ j, j < 259 → W.cell? ⟨gp, i * 259 + j, none⟩ = d.cells[j]?) rfl (by kernel_rfl) (by kernel_rfl) (by kernel_rfl) (fun _ _ _ h => h) (fun _ _ _ _ hS => hS) (fun _ _ => Iff.rfl) (Clos.start _) (Or.inl ⟨by kernel_rfl, ?cy0⟩) cS (fun cc0 cS0 => ?cr0)
                case cy0 => (intro W hSw; clear hSw; go_simp)
                try simp only [Act.put, List.setIfInBounds_toArray, List.set_cons_zero, List.set_cons_succ]
                refine anyT_take (i := 1) (v := .int .i64 ((k : Int) + 1)) (fun W => W.cell? ⟨g, k, none⟩ = some (.bool true) ∧ ∀ j, j < 259 → W.cell? ⟨gp, i * 259 + j, none⟩ = d.cells[j]?) rfl (by kernel_rfl) (by kernel_rfl) (by kernel_rfl) (fun _ _ _ h => h) (fun _ _ _ _ hS => hS) (fun _ _ => Iff.rfl) cc0 (Or.inl ⟨by kernel_rfl, ?cy1⟩) cS0 (fun cc1 cS1 => ?cr1)
                case cy1 => (intro W hSw; clear hSw; go_simp)
                try simp only [Act.put, List.setIfInBounds_toArray, List.set_cons_zero, List.set_cons_succ]
                refine anyT_take (i := 2) (v := .int .i64 ((k : Int) + 1)) (fun W => W.cell? ⟨g, k, none⟩ = some (.bool true) ∧ ∀ j, j < 259 → W.cell? ⟨gp, i * 259 + j, none⟩ = d.cells[j]?) rfl (by kernel_rfl) (by kernel_rfl) (by kernel_rfl) (fun _ _ _ h => h) (fun _ _ _ _ hS => hS) (fun _ _ => Iff.rfl) cc1 (Or.inl ⟨by kernel_rfl, ?cy2⟩) cS1 (fun cc2 cS2 => ?cr2)
                case cy2 => (intro W hSw; clear hSw; go_simp)
                try simp only [Act.put, List.setIfInBounds_toArray, List.set_cons_zero, List.set_cons_succ]
                refine anyT_take (i := 3) (v := .bool true) (fun W => W.cell? ⟨g, k, none⟩ = some (.bool true) ∧ ∀ j, j < 259 → W.cell? ⟨gp, i * 259 + j, none⟩ = d.cells[j]?) rfl (by kernel_rfl) (by kernel_rfl) (by kernel_rfl) (fun _ _ _ h => h) (fun _ _ _ _ hS => hS) (fun _ _ => Iff.rfl) cc2 (Or.inl ⟨by kernel_rfl, ?cy3⟩) cS2 (fun cc3 cS3 => ?cr3)
                case cy3 => (intro W hSw; clear hSw; go_simp)
                try simp only [Act.put, List.setIfInBounds_toArray, List.set_cons_zero, List.set_cons_succ]
                refine anyT_take (i := 4) (v := .bool true) (fun W => W.cell? ⟨g, k, none⟩ = some (.bool true) ∧ ∀ j, j < 259 → W.cell? ⟨gp, i * 259 + j, none⟩ = d.cells[j]?) rfl (by kernel_rfl) (by kernel_rfl) (by kernel_rfl) (fun _ _ _ h => h) (fun _ _ _ _ hS => hS) (fun _ _ => Iff.rfl) cc3 (Or.inl ⟨by kernel_rfl, ?cy4⟩) cS3 (fun cc4 cS4 => ?cr4)
                case cy4 => (intro W hSw; clear hSw; go_simp)
                try simp only [Act.put, List.setIfInBounds_toArray, List.set_cons_zero, List.set_cons_succ]
                refine anyT_take (i := 5) (v := .slice (some ⟨g, 0, none⟩) (s.size + 1) (s.size + 1)) (fun W => W.cell? ⟨g, k, none⟩ = some (.bool true) ∧ ∀ j, j < 259 → W.cell? ⟨gp, i * 259 + j, none⟩ = d.cells[j]?) rfl (by kernel_rfl) (by kernel_rfl) (by kernel_rfl) (fun _ _ _ h => h) (fun _ _ _ _ hS => hS) (fun _ _ => Iff.rfl) cc4 (Or.inl ⟨by kernel_rfl, ?cy5⟩) cS4 (fun cc5 cS5 => ?cr5)
                case cy5 => (intro W hSw; clear hSw; go_simp)
                try simp only [Act.put, List.setIfInBounds_toArray, List.set_cons_zero, List.set_cons_succ]
                refine anyT_take (i := 6) (v := .int .i64 ((k : Int) + 1)) (fun W => W.cell? ⟨g, k, none⟩ = some (.bool true) ∧ ∀ j, j < 259 → W.cell? ⟨gp, i * 259 + j, none⟩ = d.cells[j]?) rfl (by kernel_rfl) (by kernel_rfl) (by kernel_rfl) (fun _ _ _ h => h) (fun _ _ _ _ hS => hS) (fun _ _ => Iff.rfl) cc5 (Or.inl ⟨by kernel_rfl, ?cy6⟩) cS5 (fun cc6 cS6 => ?cr6)
                case cy6 => (intro W hSw; clear hSw; go_simp)
                try simp only [Act.put, List.setIfInBounds_toArray, List.set_cons_zero, List.set_cons_succ]
                refine anyT_take (i := 7) (v := .int .i64 k) (fun W => W.cell? ⟨g, k, none⟩ = some (.bool true) ∧ ∀ j, j < 259 → W.cell? ⟨gp, i * 259 + j, none⟩ = d.cells[j]?) rfl (by kernel_rfl) (by kernel_rfl) (by kernel_rfl) (fun _ _ _ h => h) (fun _ _ _ _ hS => hS) (fun _ _ => Iff.rfl) cc6 (Or.inl ⟨by kernel_rfl, ?cy7⟩) cS6 (fun cc7 cS7 => ?cr7)
                case cy7 => (intro W hSw; clear hSw; go_simp; exact IntWalk.i64_in _ (by omega))
                try simp only [Act.put, List.setIfInBounds_toArray, List.set_cons_zero, List.set_cons_succ]
                refine anyT_take (i := 8) (v := .pointer (some ⟨g, k, none⟩)) (fun W => W.cell? ⟨g, k, none⟩ = some (.bool true) ∧ ∀ j, j < 259 → W.cell? ⟨gp, i * 259 + j, none⟩ = d.cells[j]?) rfl (by kernel_rfl) (by kernel_rfl) (by kernel_rfl) (fun _ _ _ h => h) (fun _ _ _ _ hS => hS) (fun _ _ => Iff.rfl) cc7 (Or.inl ⟨by kernel_rfl, ?cy8⟩) cS7 (fun cc8 cS8 => ?cr8)
                case cy8 => (intro W hSw; clear hSw; have hkk : (k : Int) < (s.size : Int) + 1 := (by omega); go_simp)
                try simp only [Act.put, List.setIfInBounds_toArray, List.set_cons_zero, List.set_cons_succ]
                refine anyT_take (i := 9) (v := .bool true) (fun W => W.cell? ⟨g, k, none⟩ = some (.bool true) ∧ ∀ j, j < 259 → W.cell? ⟨gp, i * 259 + j, none⟩ = d.cells[j]?) rfl (by kernel_rfl) (by kernel_rfl) (by kernel_rfl) (fun _ _ _ h => h) (fun _ _ _ _ hS => hS) (fun _ _ => Iff.rfl) cc8 (Or.inl ⟨by kernel_rfl, ?cy9⟩) cS8 (fun cc9 cS9 => ?cr9)
                case cy9 => (intro W hSw; have hs1 := hSw.1; clear hSw; go_simp)
                try simp only [Act.put, List.setIfInBounds_toArray, List.set_cons_zero, List.set_cons_succ]
                refine anyT_take (i := 10) (v := .bool true) (fun W => W.cell? ⟨g, k, none⟩ = some (.bool true) ∧ ∀ j, j < 259 → W.cell? ⟨gp, i * 259 + j, none⟩ = d.cells[j]?) rfl (by kernel_rfl) (by kernel_rfl) (by kernel_rfl) (fun _ _ _ h => h) (fun _ _ _ _ hS => hS) (fun _ _ => Iff.rfl) cc9 (Or.inl ⟨by kernel_rfl, ?cy10⟩) cS9 (fun cc10 cS10 => ?cr10)
                case cy10 => (intro W hSw; clear hSw; go_simp)
                try simp only [Act.put, List.setIfInBounds_toArray, List.set_cons_zero, List.set_cons_succ]
                refine anyT_take (i := 11) (v := .bool true) (fun W => W.cell? ⟨g, k, none⟩ = some (.bool true) ∧ ∀ j, j < 259 → W.cell? ⟨gp, i * 259 + j, none⟩ = d.cells[j]?) rfl (by kernel_rfl) (by kernel_rfl) (by kernel_rfl) (fun _ _ _ h => h) (fun _ _ _ _ hS => hS) (fun _ _ => Iff.rfl) cc10 (Or.inl ⟨by kernel_rfl, ?cy11⟩) cS10 (fun cc11 cS11 => ?cr11)
                case cy11 => (intro W hSw; clear hSw; go_simp)
                try simp only [Act.put, List.setIfInBounds_toArray, List.set_cons_zero, List.set_cons_succ]
                refine anyT_take (i := 12) (v := .slice (some ⟨gp, 0, none⟩) D.length cap) (fun W => W.cell? ⟨g, k, none⟩ = some (.bool true) ∧ ∀ j, j < 259 → W.cell? ⟨gp, i * 259 + j, none⟩ = d.cells[j]?) rfl (by kernel_rfl) (by kernel_rfl) (by kernel_rfl) (fun _ _ _ h => h) (fun _ _ _ _ hS => hS) (fun _ _ => Iff.rfl) cc11 (Or.inl ⟨by kernel_rfl, ?cy12⟩) cS11 (fun cc12 cS12 => ?cr12)
                case cy12 => (intro W hSw; clear hSw; go_simp)
                try simp only [Act.put, List.setIfInBounds_toArray, List.set_cons_zero, List.set_cons_succ]
                refine anyT_take (i := 13) (v := .int .i64 i) (fun W => W.cell? ⟨g, k, none⟩ = some (.bool true) ∧ ∀ j, j < 259 → W.cell? ⟨gp, i * 259 + j, none⟩ = d.cells[j]?) rfl (by kernel_rfl) (by kernel_rfl) (by kernel_rfl) (fun _ _ _ h => h) (fun _ _ _ _ hS => hS) (fun _ _ => Iff.rfl) cc12 (Or.inl ⟨by kernel_rfl, ?cy13⟩) cS12 (fun cc13 cS13 => ?cr13)
                case cy13 => (intro W hSw; clear hSw; go_simp)
                try simp only [Act.put, List.setIfInBounds_toArray, List.set_cons_zero, List.set_cons_succ]
                refine anyT_take (i := 14) (v := .pointer (some ⟨gp, i * 259, none⟩)) (fun W => W.cell? ⟨g, k, none⟩ = some (.bool true) ∧ ∀ j, j < 259 → W.cell? ⟨gp, i * 259 + j, none⟩ = d.cells[j]?) rfl (by kernel_rfl) (by kernel_rfl) (by kernel_rfl) (fun _ _ _ h => h) (fun _ _ _ _ hS => hS) (fun _ _ => Iff.rfl) cc13 (Or.inl ⟨by kernel_rfl, ?cy14⟩) cS13 (fun cc14 cS14 => ?cr14)
                case cy14 => (intro W hSw; clear hSw; go_simp)
                try simp only [Act.put, List.setIfInBounds_toArray, List.set_cons_zero, List.set_cons_succ]
                refine anyT_take (i := 15) (v := .agg d.cells) (fun W => W.cell? ⟨g, k, none⟩ = some (.bool true) ∧ ∀ j, j < 259 → W.cell? ⟨gp, i * 259 + j, none⟩ = d.cells[j]?) rfl (by kernel_rfl) (by kernel_rfl) (by kernel_rfl) (fun _ _ _ h => h) (fun _ _ _ _ hS => hS) (fun _ _ => Iff.rfl) cc14 (Or.inl ⟨by kernel_rfl, ?cy15⟩) cS14 (fun cc15 cS15 => ?cr15)
                case cy15 => (intro W hSw; exact yield_loadAgg (P := Try.prog) (ty := 48) (x := .tmp 111) (g := gp) (off := i * 259) (cs := d.cells) (by kernel_rfl) (by kernel_rfl) (fun q hq => hSw.2 q (by rw [HSZ.out] at hq; exact hq)) HAG.out)
                try simp only [Act.put, List.setIfInBounds_toArray, List.set_cons_zero, List.set_cons_succ]
                refine anyT_take (i := 16) (v := .string s) (fun W => W.cell? ⟨g, k, none⟩ = some (.bool true) ∧ ∀ j, j < 259 → W.cell? ⟨gp, i * 259 + j, none⟩ = d.cells[j]?) rfl (by kernel_rfl) (by kernel_rfl) (by kernel_rfl) (fun _ _ _ h => h) (fun _ _ _ _ hS => hS) (fun _ _ => Iff.rfl) cc15 (Or.inl ⟨by kernel_rfl, ?cy16⟩) cS15 (fun cc16 cS16 => ?cr16)
                case cy16 => (intro W hSw; clear hSw; go_simp)
                try simp only [Act.put, List.setIfInBounds_toArray, List.set_cons_zero, List.set_cons_succ]
                refine anyT_take (i := 17) (v := .int .i64 ((k : Int) + 1)) (fun W => W.cell? ⟨g, k, none⟩ = some (.bool true) ∧ ∀ j, j < 259 → W.cell? ⟨gp, i * 259 + j, none⟩ = d.cells[j]?) rfl (by kernel_rfl) (by kernel_rfl) (by kernel_rfl) (fun _ _ _ h => h) (fun _ _ _ _ hS => hS) (fun _ _ => Iff.rfl) cc16 (Or.inl ⟨by kernel_rfl, ?cy17⟩) cS16 (fun cc17 cS17 => ?cr17)
                case cy17 => (intro W hSw; clear hSw; go_simp)
                try simp only [Act.put, List.setIfInBounds_toArray, List.set_cons_zero, List.set_cons_succ]
                refine anyT_take (i := 18) (v := .int .i64 k) (fun W => W.cell? ⟨g, k, none⟩ = some (.bool true) ∧ ∀ j, j < 259 → W.cell? ⟨gp, i * 259 + j, none⟩ = d.cells[j]?) rfl (by kernel_rfl) (by kernel_rfl) (by kernel_rfl) (fun _ _ _ h => h) (fun _ _ _ _ hS => hS) (fun _ _ => Iff.rfl) cc17 (Or.inl ⟨by kernel_rfl, ?cy18⟩) cS17 (fun cc18 cS18 => ?cr18)
                case cy18 => (intro W hSw; clear hSw; go_simp; exact IntWalk.i64_in _ (by omega))
                try simp only [Act.put, List.setIfInBounds_toArray, List.set_cons_zero, List.set_cons_succ]
                refine anyT_take (i := 19) (v := .int .u8 s[k].toNat) (fun W => W.cell? ⟨g, k, none⟩ = some (.bool true) ∧ ∀ j, j < 259 → W.cell? ⟨gp, i * 259 + j, none⟩ = d.cells[j]?) rfl (by kernel_rfl) (by kernel_rfl) (by kernel_rfl) (fun _ _ _ h => h) (fun _ _ _ _ hS => hS) (fun _ _ => Iff.rfl) cc18 (Or.inl ⟨by kernel_rfl, ?cy19⟩) cS18 (fun cc19 cS19 => ?cr19)
                case cy19 => (intro W hSw; clear hSw; go_simp)
                try simp only [Act.put, List.setIfInBounds_toArray, List.set_cons_zero, List.set_cons_succ]
                refine anyT_step (k := 20) (by kernel_rfl) rfl (fun K hK => ?cs20)
                case cs20 =>
                  have HK := Lib.hid hK
                  clear hK
                  have hSS := cS19
                  rw [if_pos (by kernel_rfl)]
                  go_simp
                  refine (HONE.out s[k] _).mono ?_
                  rintro e w7 ⟨rfl, h7⟩
                  refine HK.out _ _ ⟨below_cell' h7 (cell_block hSS.1) hSS.1, fun q hq => (h7.cell (p := ⟨gp, i * 259 + q, none⟩) (Nat.lt_of_lt_of_le hgp hwz2)).trans (hSS.2 q hq)⟩ ?_
                  clear HK hSS
                  have H7 := Lib.hid h7
                  have hov3 := below_cell' h7 (cell_block hov2) hov2
                  have hof3 : w7.frozen? ⟨wo.heap.size, k + 1, none⟩ = false := (h7.frozen (p := ⟨wo.heap.size, k + 1, none⟩) (cell_block hov2)).trans hof2
                  clear h7 hov2 hof2
                  try simp only [Act.put, List.setIfInBounds_toArray, List.set_cons_zero, List.set_cons_succ]
                  refine anyT_step (k := 21) (by kernel_rfl) rfl (fun K hK => ?cs21)
                  case cs21 =>
                    have HK := Lib.hid hK
                    clear hK
                    go_simp
                    refine HK.out _ _ (⟨below_cell' H7.out (cell_block cS19.1) cS19.1, fun q hq => (H7.out.cell (p := ⟨gp, i * 259 + q, none⟩) (Nat.lt_of_lt_of_le hgp hwz2)).trans (cS19.2 q hq)⟩) ?_
                    clear HK
                    try simp only [Act.put, List.setIfInBounds_toArray, List.set_cons_zero, List.set_cons_succ]
                    refine anyT_step (k := 22) (by kernel_rfl) rfl (fun K hK => ?cs22)
                    case cs22 =>
                      have HK := Lib.hid hK
                      clear hK
                      go_simp
                      refine HK.out _ _ (⟨below_cell' H7.out (cell_block cS19.1) cS19.1, fun q hq => (H7.out.cell (p := ⟨gp, i * 259 + q, none⟩) (Nat.lt_of_lt_of_le hgp hwz2)).trans (cS19.2 q hq)⟩) ?_
                      clear HK
                      try simp only [Act.put, List.setIfInBounds_toArray, List.set_cons_zero, List.set_cons_succ]
                      refine anyT_step (k := 23) (by kernel_rfl) rfl (fun K hK => ?cs23)
                      case cs23 =>
                        have HK := Lib.hid hK
                        clear hK
                        go_simp
                        refine HK.out _ _ (⟨(cell_other hgh).trans (below_cell' H7.out (cell_block cS19.1) cS19.1), fun q hq => (cell_other hgph).trans ((H7.out.cell (p := ⟨gp, i * 259 + q, none⟩) (Nat.lt_of_lt_of_le hgp hwz2)).trans (cS19.2 q hq))⟩) ?_
                        clear HK
                        refine anyT_done (by kernel_rfl) ?_
                        refine NoPanic.normal ?_
                        try simp only [Act.put, List.setIfInBounds_toArray, List.set_cons_zero, List.set_cons_succ]
                        go_wp2
                        go_roundw
                        case rel => exact ⟨k + 1 + 1, by go_num, by omega, HF3.out w7 (BR.later (W := wr.drew) HN.out H7.out), (BR.later (W := wr.drew) HC.out H7.out).other hgh, ((HW.out.trans ((drew_below wr).mono hwz2)).trans (H7.out.mono hwz2)).setCell (p := ⟨wo.heap.size, k + 1, none⟩) hwz _⟩
                        case measure => simp [intOf]; omega
        · obtain rfl : k = s.size + 1 := by omega
          clear hnext hcan hbw
          go_wp2
          go_roundw
          case rel => exact ⟨i + 1, wo.heap.size, by go_num, by omega, rfl, HN.out, by omega, HW.out⟩
          case measure => simp [intOf]; omega
    · obtain rfl : i = D.length := by omega
      have hcl := hcan.cell s.size (by omega)
      have HH := Lib.hid (show M ((D.take D.length).map DP.prt) (s.data.toList.take s.size) = matchB p.data.toList s.data.toList dot by
        rw [HR.out, ← HM.out, List.take_length, ← size_len, List.take_length])
      try dsimp only at hcl
      rw [HH.out] at hcl
      have HBe := Lib.hid (HB1.out.trans (hbw.mono hb1z))
      clear hcan hbw HH HR
      obtain ⟨mb, hmb⟩ : ∃ mb, matchB p.data.toList s.data.toList dot = mb := ⟨_, rfl⟩
      rw [hmb] at hcl
      have HMB := Lib.hid hmb
      clear hmb
      go_wp2
      go_ret
      exact ⟨ret_bool HMB.out.symm, HBe.out⟩
theorem matches_any (p s : ByteArray) (dot : Bool) (W : World) (hp : p.size ≤ maxLen) (hs : s.size ≤ maxLen) :
    Calls Try.prog 3 #[.string p, .string s, .bool dot] W fun e w' => e = .returned (.bool true) ∧ Below W.heap.size W w' := by
  unfold maxLen at hp hs
  have HS := Lib.hid shown_any
  by_cases h1 : 400 < p.size
  · go_enter Try.func3, Try.ntmps3
    go_wp2_with (go_at_call 9; (with_reducible refine (HS.out _).mono ?_); rintro e w1 ⟨rfl, b1⟩)
    go_ret
    exact ⟨rfl, b1⟩
  · by_cases h2 : 400 < s.size
    · go_enter Try.func3, Try.ntmps3
      go_wp2_with (go_at_call 9; (with_reducible refine (HS.out _).mono ?_); rintro e w1 ⟨rfl, b1⟩)
      go_ret
      exact ⟨rfl, b1⟩
    · have C1 := Lib.hid (fun w => match_any p s dot (by omega) (by omega) w)
      have C2 := Lib.hid (fun w => rmatch_any p s dot (by omega) (by omega) w)
      generalize matchB p.data.toList s.data.toList dot = mb at *
      go_enter Try.func3, Try.ntmps3
      go_wp2_with (first
        | (go_at_call 9; (with_reducible refine (HS.out _).mono ?_); rintro e w1 ⟨rfl, b1⟩)
        | (go_at_call 10; (with_reducible refine (C1.out _).mono ?_); rintro e w2 ⟨rfl, b2⟩)
        | (go_at_call 11; (with_reducible refine (C2.out _).mono ?_); rintro e w3 ⟨rfl, b3⟩))
      go_ret
      exact ⟨ret_bool (by simp), nxt b1 (nxt b2 b3)⟩
end Go.Proofs.Ytacohhmhggljhaa
