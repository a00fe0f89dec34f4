/- Commands in a row: the law's walk. -/
import Derived.Test.YtoahgblgchmclaaQE
import Derived.Test.YtoahgblgchmclaaQP
import Derived.Test.YtoahgblgchmclaaAT0
namespace Go.Proofs.Ytoahgblgchmclaa
open Go.RowKit
set_option linter.unusedVariables false
set_option linter.unusedSimpArgs false
theorem st_app (a b : Bs) : st a ++ st b = st (a ++ b) := by
  rw [← st_of (st a ++ st b), ByteArray.data_append, Array.toList_append, st_data, st_data]
theorem cell_byte_new (w : World) (x : Value) (t : TypeId) : ∀ j u, [x][j]? = some u → (w.alloc (.cells #[x] t)).cell? ((⟨w.heap.size, 0, none⟩ : Addr).add j) = some u := by
  intro j u hj
  match j, hj with
  | 0, hj => simp at hj; subst hj; simp [Addr.add]
theorem conv_new (c : UInt8) (w : World) : (convert 45 9 (.slice (some ⟨w.heap.size, 0, none⟩) 1 1)).run Try.prog (w.alloc (.cells #[.int .u8 (c.toNat : Int)] 5)) = .ok (.string ⟨#[c]⟩) (w.alloc (.cells #[.int .u8 (c.toNat : Int)] 5)) :=
  run_convert_bytes_back (P := Try.prog) _ 45 9 5 ⟨w.heap.size, 0, none⟩ 1 [c] Try.underlying45 Try.underlying5 Try.underlying9 (fun j hj => by
      obtain rfl : j = 0 := by simp at hj; exact hj
      exact cell_byte_new w _ _ 0 _ rfl)
theorem u8_fits (r : Nat) (h : r < 10) : IntKind.u8.wrap (48 + (r : Int)) = 48 + (r : Int) := by
  match r, h with
  | 0, _ => decide
  | 1, _ => decide
  | 2, _ => decide
  | 3, _ => decide
  | 4, _ => decide
  | 5, _ => decide
  | 6, _ => decide
  | 7, _ => decide
  | 8, _ => decide
  | 9, _ => decide
theorem mask31 (m : Int) : ∃ k : Nat, k ≤ 31 ∧ bits .and .i64 m 31 = (k : Int) := by
  have ho : ∀ z : Int, (BitVec.ofInt 64 z).toNat = (z % 18446744073709551616).toNat := fun z => by rw [BitVec.toNat_ofInt]; rfl
  have h : (m % 18446744073709551616).toNat &&& 31 ≤ 31 := Nat.and_le_right
  refine ⟨(m % 18446744073709551616).toNat &&& 31, h, ?_⟩
  show IntKind.i64.wrap ((BitVec.ofInt 64 m &&& BitVec.ofInt 64 (31 : Int)).toNat : Int) = _
  rw [BitVec.toNat_and, ho, ho, show ((31 : Int) % 18446744073709551616).toNat = 31 from rfl]
  rw [IntKind.wrap_i64]; omega
def digB (i : Nat) : UInt8 := UInt8.ofNat (48 + i % 10)
theorem digB_nat (i : Nat) : (digB i).toNat = 48 + i % 10 := by
  unfold digB
  rw [UInt8.toNat_ofNat']
  omega
theorem tmod10 (i : Nat) : ((i : Int).tmod 10) = ((i % 10 : Nat) : Int) := by
  exact (Int.ofNat_tmod i 10).symm
theorem pipeTl_snoc : ∀ (k i : Nat), pipeTl i (k + 1) = pipeTl i k ++ ((if 0 < i + k then [32, 124, 10] else []) ++ [99, digB (i + k), 32, 120]) := by
  intro k
  induction k with
  | zero => intro i; simp [pipeTl, digB]
  | succ k ih =>
    intro i
    rw [pipeTl, ih (i + 1), pipeTl, show i + 1 + k = i + (k + 1) by omega]
    simp only [List.append_assoc]
theorem pipeT_snoc (i : Nat) (b : Bool) : pipeT (i + 1) b = pipeT i b ++ ((if 0 < i then [32, 124, 10] else []) ++ [99, digB i, 32, 120]) := by
  unfold pipeT
  rw [pipeTl_snoc, Nat.zero_add, List.append_assoc]
theorem pipeTl_len : ∀ (k i : Nat), (pipeTl i k).length ≤ 7 * k := by
  intro k
  induction k with
  | zero => intro i; exact Nat.le_refl _
  | succ k ih =>
    intro i
    have := ih (i + 1)
    rw [pipeTl]
    split <;> simp only [List.length_append, List.length_cons, List.length_nil] <;> omega
theorem pipeT_len (k : Nat) (b : Bool) : (pipeT k b).length ≤ 2 + 7 * k := by
  have := pipeTl_len k 0
  unfold pipeT
  split <;> simp only [List.length_append, List.length_cons, List.length_nil] <;> omega
theorem digB_at (i g : Nat) (W : World) (h : W.cell? ⟨g, 0, none⟩ = some (.int .u8 (48 + ((i % 10 : Nat) : Int)))) : (convert 45 9 (.slice (some ⟨g, 0, none⟩) 1 1)).run Try.prog W = .ok (.string (st [digB i])) W :=
  run_convert_bytes_back (P := Try.prog) W 45 9 5 ⟨g, 0, none⟩ 1 [digB i] Try.underlying45 Try.underlying5 Try.underlying9 (fun j hj => by
      obtain rfl : j = 0 := by simp at hj; exact hj
      show W.cell? (Addr.add ⟨g, 0, none⟩ 0) = some (.int .u8 ((digB i).toNat : Int))
      rw [digB_nat]
      simp only [Addr.add]
      exact h)
theorem digB_conv (i : Nat) (w : World) : (convert 45 9 (.slice (some ⟨w.heap.size, 0, none⟩) 1 1)).run Try.prog (w.alloc (.cells #[.int .u8 (48 + ((i % 10 : Nat) : Int))] 5)) = .ok (.string (st [digB i])) (w.alloc (.cells #[.int .u8 (48 + ((i % 10 : Nat) : Int))] 5)) := by
  have := conv_new (digB i) w
  rw [digB_nat] at this
  exact this
theorem text_first (x : ByteArray) (i : Nat) (b : Bool) (h : x = st (pipeT i b)) (h0 : ¬ 0 < i) : x ++ (⟨#[99]⟩ : ByteArray) ++ st [digB i] ++ ⟨#[32, 120]⟩ = st (pipeT (i + 1) b) := by
  rw [h, pipeT_snoc, if_neg h0, show (⟨#[99]⟩ : ByteArray) = st [99] from rfl, show (⟨#[32, 120]⟩ : ByteArray) = st [32, 120] from rfl, st_app, st_app, st_app]
  simp
theorem text_next (x : ByteArray) (i : Nat) (b : Bool) (h : x = st (pipeT i b)) (h0 : 0 < i) : x ++ (⟨#[32, 124, 10]⟩ : ByteArray) ++ (⟨#[99]⟩ : ByteArray) ++ st [digB i] ++ ⟨#[32, 120]⟩ = st (pipeT (i + 1) b) := by
  rw [h, pipeT_snoc, if_pos h0, show (⟨#[32, 124, 10]⟩ : ByteArray) = st [32, 124, 10] from rfl, show (⟨#[99]⟩ : ByteArray) = st [99] from rfl, show (⟨#[32, 120]⟩ : ByteArray) = st [32, 120] from rfl, st_app, st_app, st_app, st_app]
  simp
theorem idsT_get (n i : Nat) (h : i < n) : (idsT n)[i]? = some (i : Int) := by
  unfold idsT
  rw [List.getElem?_map, List.getElem?_range h]; rfl
theorem Strs.cell {W : World} {K : Nat → Prop} {g n cap : Nat} {l : List Bs} (h : Strs W K (.slice (some ⟨g, 0, none⟩) n cap) l) (i : Nat) (x : Bs) (hx : l[i]? = some x) : W.cell? ⟨g, i, none⟩ = some (.string (st x)) := by
  have hi := (List.getElem?_eq_some_iff.1 hx).1
  have e := h.1
  obtain ⟨ao, c, e2, _⟩ := ownz_form e
  cases e2
  rw [e.cellAt i (by omega)]
  rw [List.getElem?_map, hx]
  rfl
theorem Nds.al {W W' : World} {K : Nat → Prop} {v : Value} {ns : List Nd} (h : Nds W K v ns) (f : Fr (fun _ => False) W W') : Nds W' K v ns := h.keep f (fun _ _ => id) (fun _ _ => id)
/-- what okP says. -/
theorem okP_all {n : Nat} {b : Bool} (h : okP n b = true) : ∃ ns, parseA (pipeT n b) = (ns, 0, 0) ∧ ns.length = n + (if 1 < n then 1 else 0) + (if b then 1 else 0) ∧
    (∀ i, i < n → (ns.getD i (nd 0 [])).kind = 1 ∧ (ns.getD i (nd 0 [])).words.length = 2 ∧ (ns.getD i (nd 0 [])).words[0]? = some [99, digB i]) ∧
    (1 < n → (ns.getD n (nd 0 [])).kind = 3 ∧ (ns.getD n (nd 0 [])).kids = idsT n) ∧ (((ns.getD (ns.length - 1) (nd 0 [])).kind == 2) = b) := by
  unfold okP at h
  obtain ⟨ns, p, e, hA⟩ : ∃ ns p e, parseA (pipeT n b) = (ns, p, e) := ⟨_, _, _, rfl⟩
  rw [hA] at h ⊢
  dsimp only at h
  simp only [Bool.and_eq_true, Bool.or_eq_true, decide_eq_true_eq] at h
  obtain ⟨rfl, rfl, hl, hc, hp, hn⟩ := h
  refine ⟨ns, rfl, hl, ?_, ?_, ?_⟩
  · intro i hi
    have := List.all_eq_true.1 hc i (List.mem_range.2 hi)
    unfold okC at this
    simp only [Bool.and_eq_true, decide_eq_true_eq] at this
    refine ⟨this.1, this.2.1, ?_⟩
    have h1 := this.2.1
    have h2 := this.2.2
    generalize (ns.getD i (nd 0 [])).words = ws at *
    cases ws with
    | nil => simp at h1
    | cons w r => simp at h2; simp [h2, digB]
  · intro h1
    rcases hp with hp | hp
    · omega
    · exact hp
  · have e : ∀ x : Int, (x == 2) = decide (x = 2) := fun x => rfl
    rw [e]
    exact eq_of_beq hn
set_option maxRecDepth 100000 in
set_option maxHeartbeats 32000000 in
theorem pipes_any (m : Int) (q : Bool) (W : World) (hm : (Lit.int .i64 m).wf) :
    Calls Try.prog 6 #[.int .i64 m, .bool q] W fun e w' => e = .returned (.bool true) ∧ Below W.heap.size W w' := by
  have HS := Lib.hid pshown_any
  obtain ⟨n0, hn0, hmask⟩ := mask31 m
  obtain ⟨ns, hA, hlen, hcm, hpp, hnn⟩ := okP_all (pipe_ok q (n0 + 1) (by omega) (by omega))
  have hdl := pipeT_len (n0 + 1) q
  have HL := Lib.hid (fun i => pipeT_len i q)
  have HC := Lib.hid (fun (x : ByteArray) (hx : x = st (pipeT (n0 + 1) q)) (w : World) => parse_ok x (by rw [hx, st_size]; unfold maxLen; omega) ns (by rw [hx, st_data]; exact hA) (by omega) w)
  have HCM := Lib.hid hcm
  have HPP := Lib.hid hpp
  have HNN := Lib.hid hnn
  have HLEN := Lib.hid hlen
  have hL36 : ns.length ≤ 36 := by rw [hlen]; split <;> split <;> omega
  clear hA hdl hcm hpp hnn hlen
  go_enter Try.func6, Try.ntmps6
  go_upto_if 17 with (go_at_call 8; (with_reducible refine (HS.out _).mono ?_); rintro e w1 ⟨rfl, hF1⟩; have HF1 := Lib.hid hF1; clear hF1)
  go_cut [6] from 17 to 17 (fun d wx => d = .string (st (pipeT 0 q)) ∧ wx = w1)
  case first =>
    cases q
    all_goals (
      go_wp2
      go_meet
      exact ⟨rfl, rfl⟩)
  obtain ⟨rfl, rfl⟩ := hcut
  go_upto_region 7 with fail
  obtain ⟨n, hn⟩ : ∃ n, n0 + 1 = n := ⟨_, rfl⟩
  have hnI : (1 : Int) + (n0 : Int) = (n : Int) := by omega
  rw [hn] at HC HCM HPP HLEN
  rw [hnI]
  have hn1 : 0 < n := by omega
  have hn32 : n ≤ 32 := by omega
  clear hnI hmask hn hn0
  go_loopw [6, 7] (fun sv iv wr => ∃ (i : Nat) (x : ByteArray), iv = .int .i64 i ∧ sv = .string x ∧ x = st (pipeT i q) ∧ i ≤ n ∧ Fr (fun _ => False) wc wr) (fun _ iv _ => n - (intOf iv).toNat)
  case atStart => exact ⟨0, _, rfl, rfl, rfl, Nat.zero_le _, Fr.refl _ _⟩
  case round =>
    obtain ⟨i, x, rfl, rfl, hx, hi, hF⟩ := hrel
    have hxs : x.size ≤ 500 := by rw [hx, st_size]; have := HL.out i; omega
    have HX := Lib.hid hx
    have HF := Lib.hid hF
    clear hx hF
    by_cases hlt : i < n
    · have e10 := tmod10 i
      have hr10 : i % 10 < 10 := Nat.mod_lt _ (by decide)
      have hcv := digB_conv i
      have HT1 := Lib.hid (text_first x i q HX.out)
      have HT2 := Lib.hid (text_next x i q HX.out)
      have hds : (st [digB i]).size = 1 := st_size _
      generalize st [digB i] = y at *
      generalize i % 10 = r at *
      by_cases h0 : 0 < i
      · go_wp2
        go_roundw
        case rel => exact ⟨i + 1, _, by go_num, rfl, HT2.out h0, hlt, HF.out.alloc _⟩
        case measure => simp [intOf]; omega
      · go_wp2
        go_roundw
        case rel => exact ⟨i + 1, _, by go_num, rfl, HT1.out h0, hlt, HF.out.alloc _⟩
        case measure => simp [intOf]; omega
    · have hin : n = i := by omega
      clear hi hlt
      subst hin
      have HC2 := Lib.hid (HC.out x HX.out)
      clear HC
      obtain ⟨b1, hb1⟩ : ∃ b1 : Bool, decide ((1 : Int) < (n : Int)) = b1 := ⟨_, rfl⟩
      obtain ⟨e1, he1, he2⟩ : ∃ e1 : Nat, (if 1 < n then 1 else 0) = e1 ∧ e1 = (if b1 then 1 else 0) := by
        refine ⟨_, rfl, ?_⟩
        rw [← hb1]
        by_cases h : 1 < n
        · rw [if_pos h, if_pos (decide_eq_true (by omega))]
        · rw [if_neg h, if_neg (by rw [decide_eq_false (by omega)]; decide)]
      have he1b : e1 ≤ 1 := by rw [he2]; split <;> omega
      have hlen := HLEN.out
      rw [he1] at hlen
      have HB1 := Lib.hid hb1
      have HE2 := Lib.hid he2
      have HLE := Lib.hid hlen
      clear hb1 he1 he2 hlen
      go_upto_if 45 with (go_at_call 9; (with_reducible refine (HC2.out _).mono ?_); rintro e w2 ⟨g, cap, K, rfl, hr, hcap, _, _, hF2⟩; have HN := Lib.hid hr; have HF2 := Lib.hid ((HF1.out.trans HF.out).trans hF2); clear hF2 hr)
      rw [HB1.out]
      go_cut [11] from 46 to 47 (fun d wx => d = .int .i64 ((n + e1 : Nat) : Int) ∧ wx = w2)
      case first =>
        cases b1
        all_goals (
          go_wp2
          go_meet
          exact ⟨congrArg (Value.int .i64) (by rw [HE2.out]; simp), rfl⟩)
      obtain ⟨rfl, hw⟩ := hcut
      have hw2 := hw.symm
      clear hw
      subst hw2
      go_upto_if 48 with fail
      go_cut [11] from 49 to 50 (fun d wx => d = .int .i64 (ns.length : Nat) ∧ wx = w2)
      case first =>
        cases q
        all_goals (
          go_wp2
          go_meet
          exact ⟨congrArg (Value.int .i64) (by rw [HLE.out]; simp; try omega), rfl⟩)
      obtain ⟨rfl, hw⟩ := hcut
      have hw2 := hw.symm
      clear hw
      subst hw2
      go_upto_region 21 with fail
      go_loopw [12] (fun iv wr => ∃ i : Nat, iv = .int .i64 i ∧ i ≤ n ∧ Fr (fun _ => False) w2 wr) (fun iv _ => n - (intOf iv).toNat)
      case atStart => exact ⟨0, rfl, Nat.zero_le _, Fr.refl _ _⟩
      case round =>
        obtain ⟨i, rfl, hi, hF⟩ := hrel
        have HF3 := Lib.hid hF
        have HNr := Lib.hid (HN.out.al hF)
        clear hF
        by_cases hlt : i < n
        · have hil : i < ns.length := by have := HLE.out; omega
          obtain ⟨hk1, hk2, hk3⟩ := HCM.out i hlt
          obtain ⟨sv, wv, rv, pv, kv, hNd, r1, r2, r3, r4, r5, hcell⟩ := Nds.cell HNr.out rfl i _ (get_getD hil)
          obtain ⟨wo, wc2, rfl, _, hwc, hwo⟩ := ownz_form r2.1
          obtain ⟨gw, rfl⟩ := hwo (by omega)
          have hs2 := Strs.cell r2 0 _ hk3
          have q0 : wr.cell? ⟨g, i * 8, none⟩ = some (.int .i64 1) := by have := hcell 0 _ rfl; rw [hk1] at this; exact this
          have q4 := hcell 4 _ rfl
          rw [hk2] at q4
          clear hcell hNd r1 r2 r3 r4 r5 hk1 hk2 hk3 hwc
          have e10 := tmod10 i
          have hr10 : i % 10 < 10 := Nat.mod_lt _ (by decide)
          have HCV := Lib.hid (digB_at i)
          have hcat : (⟨#[99]⟩ : ByteArray) ++ st [digB i] = st [99, digB i] := by rw [show (⟨#[99]⟩ : ByteArray) = st [99] from rfl, st_app]; rfl
          have hds : (st [digB i]).size = 1 := st_size _
          have HKD := Lib.hid (show b1 = true → ∃ kk gk kc, wr.cell? ⟨g, n * 8 + 7, none⟩ = some kk ∧ kk = .slice (some ⟨gk, 0, none⟩) n kc ∧ wr.cell? ⟨gk, i, none⟩ = some (.int .i64 i) from by
            intro hb
            have h1n : 1 < n := by have := HB1.out; rw [hb] at this; have := of_decide_eq_true this; omega
            obtain ⟨hp1, hp2⟩ := HPP.out h1n
            have hnl : n < ns.length := by have := HLE.out; have h3 := HE2.out; rw [hb, if_pos rfl] at h3; omega
            obtain ⟨_, _, _, _, kv, _, _, _, _, _, r5, hcell⟩ := Nds.cell HNr.out rfl n _ (get_getD hnl)
            have q7 := hcell 7 _ rfl
            rw [hp2] at r5
            obtain ⟨ko, kc, rfl, _, _, hko⟩ := ownz_form r5.1
            have hidl : (idsT n).length = n := by simp [idsT]
            obtain ⟨gk, rfl⟩ := hko (by rw [hidl]; omega)
            have e := r5.1
            have hc : wr.cell? ⟨gk, i, none⟩ = some (.int .i64 i) := by
              rw [e.cellAt i (by rw [hidl]; omega), List.getElem?_map, idsT_get n i hlt]
              rfl
            rw [hidl] at q7
            exact ⟨_, gk, kc, q7, rfl, hc⟩)
          generalize st [digB i] = y at *
          generalize st [99, digB i] = z at *
          generalize i % 10 = r at *
          have hw64 : IntKind.i64.wrap (48 + (r : Int)) = 48 + (r : Int) := by rw [IntKind.wrap_i64]; omega
          have hw8 : IntKind.u8.wrap (48 + (r : Int)) = 48 + (r : Int) := u8_fits r hr10
          go_upto_region 23 with fail
          refine wp_region_noPanic ?_
          refine wp_region_any (by kernel_rfl) (any_of_T (S := fun _ W' => W'.cell? ⟨g, i * 8, none⟩ = some (.int .i64 1) ∧ W'.cell? ⟨g, i * 8 + 4, none⟩ = some (.slice (some ⟨gw, 0, none⟩) 2 wc2) ∧ W'.cell? ⟨gw, 0, none⟩ = some (.string z)) _ _ _ _ ?_)
          change anyT _ _ _ _ _ _ _ _ wr.drew
          have aS : wr.drew.cell? ⟨g, i * 8, none⟩ = some (.int .i64 1) ∧ wr.drew.cell? ⟨g, i * 8 + 4, none⟩ = some (.slice (some ⟨gw, 0, none⟩) 2 wc2) ∧ wr.drew.cell? ⟨gw, 0, none⟩ = some (.string z) := ⟨q0, q4, hs2⟩
          refine anyT_take (i := 0) (v := .slice (some ⟨g, 0, none⟩) ns.length cap) (fun W' => W'.cell? ⟨g, i * 8, none⟩ = some (.int .i64 1) ∧ W'.cell? ⟨g, i * 8 + 4, none⟩ = some (.slice (some ⟨gw, 0, none⟩) 2 wc2) ∧ W'.cell? ⟨gw, 0, none⟩ = some (.string z)) rfl (by kernel_rfl) (by kernel_rfl) (by kernel_rfl) (fun _ _ _ h => h) (fun _ _ _ _ hS => hS) (fun _ _ => Iff.rfl) (Clos.start _) (Or.inl ⟨by kernel_rfl, ?ay0⟩) aS (fun ac0 aS0 => ?ar0)
          case ay0 => (intro W' hSw; obtain ⟨hs0, hs1, hs2⟩ := hSw; go_simp; try (first | rfl | decide | decide +kernel | omega))
          try simp only [Act.put, List.setIfInBounds_toArray, List.set_cons_zero, List.set_cons_succ]
          refine anyT_take (i := 1) (v := .int .i64 i) (fun W' => W'.cell? ⟨g, i * 8, none⟩ = some (.int .i64 1) ∧ W'.cell? ⟨g, i * 8 + 4, none⟩ = some (.slice (some ⟨gw, 0, none⟩) 2 wc2) ∧ W'.cell? ⟨gw, 0, none⟩ = some (.string z)) rfl (by kernel_rfl) (by kernel_rfl) (by kernel_rfl) (fun _ _ _ h => h) (fun _ _ _ _ hS => hS) (fun _ _ => Iff.rfl) ac0 (Or.inl ⟨by kernel_rfl, ?ay1⟩) aS0 (fun ac1 aS1 => ?ar1)
          case ay1 => (intro W' hSw; obtain ⟨hs0, hs1, hs2⟩ := hSw; go_simp; try (first | rfl | decide | decide +kernel | omega))
          try simp only [Act.put, List.setIfInBounds_toArray, List.set_cons_zero, List.set_cons_succ]
          refine anyT_take (i := 2) (v := .pointer (some ⟨g, i * 8, none⟩)) (fun W' => W'.cell? ⟨g, i * 8, none⟩ = some (.int .i64 1) ∧ W'.cell? ⟨g, i * 8 + 4, none⟩ = some (.slice (some ⟨gw, 0, none⟩) 2 wc2) ∧ W'.cell? ⟨gw, 0, none⟩ = some (.string z)) rfl (by kernel_rfl) (by kernel_rfl) (by kernel_rfl) (fun _ _ _ h => h) (fun _ _ _ _ hS => hS) (fun _ _ => Iff.rfl) ac1 (Or.inl ⟨by kernel_rfl, ?ay2⟩) aS1 (fun ac2 aS2 => ?ar2)
          case ay2 => (intro W' hSw; obtain ⟨hs0, hs1, hs2⟩ := hSw; go_simp; try (first | rfl | decide | decide +kernel | omega))
          try simp only [Act.put, List.setIfInBounds_toArray, List.set_cons_zero, List.set_cons_succ]
          refine anyT_take (i := 3) (v := .pointer (some ⟨g, i * 8, none⟩)) (fun W' => W'.cell? ⟨g, i * 8, none⟩ = some (.int .i64 1) ∧ W'.cell? ⟨g, i * 8 + 4, none⟩ = some (.slice (some ⟨gw, 0, none⟩) 2 wc2) ∧ W'.cell? ⟨gw, 0, none⟩ = some (.string z)) rfl (by kernel_rfl) (by kernel_rfl) (by kernel_rfl) (fun _ _ _ h => h) (fun _ _ _ _ hS => hS) (fun _ _ => Iff.rfl) ac2 (Or.inl ⟨by kernel_rfl, ?ay3⟩) aS2 (fun ac3 aS3 => ?ar3)
          case ay3 => (intro W' hSw; obtain ⟨hs0, hs1, hs2⟩ := hSw; go_simp; try (first | rfl | decide | decide +kernel | omega))
          try simp only [Act.put, List.setIfInBounds_toArray, List.set_cons_zero, List.set_cons_succ]
          refine anyT_take (i := 4) (v := .int .i64 1) (fun W' => W'.cell? ⟨g, i * 8, none⟩ = some (.int .i64 1) ∧ W'.cell? ⟨g, i * 8 + 4, none⟩ = some (.slice (some ⟨gw, 0, none⟩) 2 wc2) ∧ W'.cell? ⟨gw, 0, none⟩ = some (.string z)) rfl (by kernel_rfl) (by kernel_rfl) (by kernel_rfl) (fun _ _ _ h => h) (fun _ _ _ _ hS => hS) (fun _ _ => Iff.rfl) ac3 (Or.inl ⟨by kernel_rfl, ?ay4⟩) aS3 (fun ac4 aS4 => ?ar4)
          case ay4 => (intro W' hSw; obtain ⟨hs0, hs1, hs2⟩ := hSw; go_simp; try (first | rfl | decide | decide +kernel | omega))
          try simp only [Act.put, List.setIfInBounds_toArray, List.set_cons_zero, List.set_cons_succ]
          refine anyT_take (i := 5) (v := .bool false) (fun W' => W'.cell? ⟨g, i * 8, none⟩ = some (.int .i64 1) ∧ W'.cell? ⟨g, i * 8 + 4, none⟩ = some (.slice (some ⟨gw, 0, none⟩) 2 wc2) ∧ W'.cell? ⟨gw, 0, none⟩ = some (.string z)) rfl (by kernel_rfl) (by kernel_rfl) (by kernel_rfl) (fun _ _ _ h => h) (fun _ _ _ _ hS => hS) (fun _ _ => Iff.rfl) ac4 (Or.inl ⟨by kernel_rfl, ?ay5⟩) aS4 (fun ac5 aS5 => ?ar5)
          case ay5 => (intro W' hSw; obtain ⟨hs0, hs1, hs2⟩ := hSw; go_simp; try (first | rfl | decide | decide +kernel | omega))
          try simp only [Act.put, List.setIfInBounds_toArray, List.set_cons_zero, List.set_cons_succ]
          refine anyT_take (i := 6) (v := .bool false) (fun W' => W'.cell? ⟨g, i * 8, none⟩ = some (.int .i64 1) ∧ W'.cell? ⟨g, i * 8 + 4, none⟩ = some (.slice (some ⟨gw, 0, none⟩) 2 wc2) ∧ W'.cell? ⟨gw, 0, none⟩ = some (.string z)) rfl (by kernel_rfl) (by kernel_rfl) (by kernel_rfl) (fun _ _ _ h => h) (fun _ _ _ _ hS => hS) (fun _ _ => Iff.rfl) ac5 (Or.inl ⟨by kernel_rfl, ?ay6⟩) aS5 (fun ac6 aS6 => ?ar6)
          case ay6 => (intro W' hSw; obtain ⟨hs0, hs1, hs2⟩ := hSw; go_simp; try (first | rfl | decide | decide +kernel | omega))
          try simp only [Act.put, List.setIfInBounds_toArray, List.set_cons_zero, List.set_cons_succ]
          refine anyT_take (i := 7) (v := .slice (some ⟨g, 0, none⟩) ns.length cap) (fun W' => W'.cell? ⟨g, i * 8, none⟩ = some (.int .i64 1) ∧ W'.cell? ⟨g, i * 8 + 4, none⟩ = some (.slice (some ⟨gw, 0, none⟩) 2 wc2) ∧ W'.cell? ⟨gw, 0, none⟩ = some (.string z)) rfl (by kernel_rfl) (by kernel_rfl) (by kernel_rfl) (fun _ _ _ h => h) (fun _ _ _ _ hS => hS) (fun _ _ => Iff.rfl) ac6 (Or.inl ⟨by kernel_rfl, ?ay7⟩) aS6 (fun ac7 aS7 => ?ar7)
          case ay7 => (intro W' hSw; obtain ⟨hs0, hs1, hs2⟩ := hSw; go_simp; try (first | rfl | decide | decide +kernel | omega))
          try simp only [Act.put, List.setIfInBounds_toArray, List.set_cons_zero, List.set_cons_succ]
          refine anyT_take (i := 8) (v := .int .i64 i) (fun W' => W'.cell? ⟨g, i * 8, none⟩ = some (.int .i64 1) ∧ W'.cell? ⟨g, i * 8 + 4, none⟩ = some (.slice (some ⟨gw, 0, none⟩) 2 wc2) ∧ W'.cell? ⟨gw, 0, none⟩ = some (.string z)) rfl (by kernel_rfl) (by kernel_rfl) (by kernel_rfl) (fun _ _ _ h => h) (fun _ _ _ _ hS => hS) (fun _ _ => Iff.rfl) ac7 (Or.inl ⟨by kernel_rfl, ?ay8⟩) aS7 (fun ac8 aS8 => ?ar8)
          case ay8 => (intro W' hSw; obtain ⟨hs0, hs1, hs2⟩ := hSw; go_simp; try (first | rfl | decide | decide +kernel | omega))
          try simp only [Act.put, List.setIfInBounds_toArray, List.set_cons_zero, List.set_cons_succ]
          refine anyT_take (i := 9) (v := .pointer (some ⟨g, i * 8, none⟩)) (fun W' => W'.cell? ⟨g, i * 8, none⟩ = some (.int .i64 1) ∧ W'.cell? ⟨g, i * 8 + 4, none⟩ = some (.slice (some ⟨gw, 0, none⟩) 2 wc2) ∧ W'.cell? ⟨gw, 0, none⟩ = some (.string z)) rfl (by kernel_rfl) (by kernel_rfl) (by kernel_rfl) (fun _ _ _ h => h) (fun _ _ _ _ hS => hS) (fun _ _ => Iff.rfl) ac8 (Or.inl ⟨by kernel_rfl, ?ay9⟩) aS8 (fun ac9 aS9 => ?ar9)
          case ay9 => (intro W' hSw; obtain ⟨hs0, hs1, hs2⟩ := hSw; go_simp; try (first | rfl | decide | decide +kernel | omega))
          try simp only [Act.put, List.setIfInBounds_toArray, List.set_cons_zero, List.set_cons_succ]
          refine anyT_take (i := 10) (v := .pointer (some ⟨g, i * 8 + 4, none⟩)) (fun W' => W'.cell? ⟨g, i * 8, none⟩ = some (.int .i64 1) ∧ W'.cell? ⟨g, i * 8 + 4, none⟩ = some (.slice (some ⟨gw, 0, none⟩) 2 wc2) ∧ W'.cell? ⟨gw, 0, none⟩ = some (.string z)) rfl (by kernel_rfl) (by kernel_rfl) (by kernel_rfl) (fun _ _ _ h => h) (fun _ _ _ _ hS => hS) (fun _ _ => Iff.rfl) ac9 (Or.inl ⟨by kernel_rfl, ?ay10⟩) aS9 (fun ac10 aS10 => ?ar10)
          case ay10 => (intro W' hSw; obtain ⟨hs0, hs1, hs2⟩ := hSw; go_simp; try (first | rfl | decide | decide +kernel | omega))
          try simp only [Act.put, List.setIfInBounds_toArray, List.set_cons_zero, List.set_cons_succ]
          refine anyT_take (i := 11) (v := .slice (some ⟨gw, 0, none⟩) 2 wc2) (fun W' => W'.cell? ⟨g, i * 8, none⟩ = some (.int .i64 1) ∧ W'.cell? ⟨g, i * 8 + 4, none⟩ = some (.slice (some ⟨gw, 0, none⟩) 2 wc2) ∧ W'.cell? ⟨gw, 0, none⟩ = some (.string z)) rfl (by kernel_rfl) (by kernel_rfl) (by kernel_rfl) (fun _ _ _ h => h) (fun _ _ _ _ hS => hS) (fun _ _ => Iff.rfl) ac10 (Or.inl ⟨by kernel_rfl, ?ay11⟩) aS10 (fun ac11 aS11 => ?ar11)
          case ay11 => (intro W' hSw; obtain ⟨hs0, hs1, hs2⟩ := hSw; go_simp; try (first | rfl | decide | decide +kernel | omega))
          try simp only [Act.put, List.setIfInBounds_toArray, List.set_cons_zero, List.set_cons_succ]
          refine anyT_take (i := 12) (v := .int .i64 2) (fun W' => W'.cell? ⟨g, i * 8, none⟩ = some (.int .i64 1) ∧ W'.cell? ⟨g, i * 8 + 4, none⟩ = some (.slice (some ⟨gw, 0, none⟩) 2 wc2) ∧ W'.cell? ⟨gw, 0, none⟩ = some (.string z)) rfl (by kernel_rfl) (by kernel_rfl) (by kernel_rfl) (fun _ _ _ h => h) (fun _ _ _ _ hS => hS) (fun _ _ => Iff.rfl) ac11 (Or.inl ⟨by kernel_rfl, ?ay12⟩) aS11 (fun ac12 aS12 => ?ar12)
          case ay12 => (intro W' hSw; obtain ⟨hs0, hs1, hs2⟩ := hSw; go_simp; try (first | rfl | decide | decide +kernel | omega))
          try simp only [Act.put, List.setIfInBounds_toArray, List.set_cons_zero, List.set_cons_succ]
          refine anyT_take (i := 13) (v := .bool false) (fun W' => W'.cell? ⟨g, i * 8, none⟩ = some (.int .i64 1) ∧ W'.cell? ⟨g, i * 8 + 4, none⟩ = some (.slice (some ⟨gw, 0, none⟩) 2 wc2) ∧ W'.cell? ⟨gw, 0, none⟩ = some (.string z)) rfl (by kernel_rfl) (by kernel_rfl) (by kernel_rfl) (fun _ _ _ h => h) (fun _ _ _ _ hS => hS) (fun _ _ => Iff.rfl) ac12 (Or.inl ⟨by kernel_rfl, ?ay13⟩) aS12 (fun ac13 aS13 => ?ar13)
          case ay13 => (intro W' hSw; obtain ⟨hs0, hs1, hs2⟩ := hSw; go_simp; try (first | rfl | decide | decide +kernel | omega))
          try simp only [Act.put, List.setIfInBounds_toArray, List.set_cons_zero, List.set_cons_succ]
          refine anyT_take (i := 14) (v := .bool false) (fun W' => W'.cell? ⟨g, i * 8, none⟩ = some (.int .i64 1) ∧ W'.cell? ⟨g, i * 8 + 4, none⟩ = some (.slice (some ⟨gw, 0, none⟩) 2 wc2) ∧ W'.cell? ⟨gw, 0, none⟩ = some (.string z)) rfl (by kernel_rfl) (by kernel_rfl) (by kernel_rfl) (fun _ _ _ h => h) (fun _ _ _ _ hS => hS) (fun _ _ => Iff.rfl) ac13 (Or.inl ⟨by kernel_rfl, ?ay14⟩) aS13 (fun ac14 aS14 => ?ar14)
          case ay14 => (intro W' hSw; obtain ⟨hs0, hs1, hs2⟩ := hSw; go_simp; try (first | rfl | decide | decide +kernel | omega))
          try simp only [Act.put, List.setIfInBounds_toArray, List.set_cons_zero, List.set_cons_succ]
          refine anyT_take (i := 15) (v := .bool false) (fun W' => W'.cell? ⟨g, i * 8, none⟩ = some (.int .i64 1) ∧ W'.cell? ⟨g, i * 8 + 4, none⟩ = some (.slice (some ⟨gw, 0, none⟩) 2 wc2) ∧ W'.cell? ⟨gw, 0, none⟩ = some (.string z)) rfl (by kernel_rfl) (by kernel_rfl) (by kernel_rfl) (fun _ _ _ h => h) (fun _ _ _ _ hS => hS) (fun _ _ => Iff.rfl) ac14 (Or.inl ⟨by kernel_rfl, ?ay15⟩) aS14 (fun ac15 aS15 => ?ar15)
          case ay15 => (intro W' hSw; obtain ⟨hs0, hs1, hs2⟩ := hSw; go_simp; try (first | rfl | decide | decide +kernel | omega))
          try simp only [Act.put, List.setIfInBounds_toArray, List.set_cons_zero, List.set_cons_succ]
          refine anyT_take (i := 16) (v := .slice (some ⟨g, 0, none⟩) ns.length cap) (fun W' => W'.cell? ⟨g, i * 8, none⟩ = some (.int .i64 1) ∧ W'.cell? ⟨g, i * 8 + 4, none⟩ = some (.slice (some ⟨gw, 0, none⟩) 2 wc2) ∧ W'.cell? ⟨gw, 0, none⟩ = some (.string z)) rfl (by kernel_rfl) (by kernel_rfl) (by kernel_rfl) (fun _ _ _ h => h) (fun _ _ _ _ hS => hS) (fun _ _ => Iff.rfl) ac15 (Or.inl ⟨by kernel_rfl, ?ay16⟩) aS15 (fun ac16 aS16 => ?ar16)
          case ay16 => (intro W' hSw; obtain ⟨hs0, hs1, hs2⟩ := hSw; go_simp; try (first | rfl | decide | decide +kernel | omega))
          try simp only [Act.put, List.setIfInBounds_toArray, List.set_cons_zero, List.set_cons_succ]
          refine anyT_take (i := 17) (v := .int .i64 i) (fun W' => W'.cell? ⟨g, i * 8, none⟩ = some (.int .i64 1) ∧ W'.cell? ⟨g, i * 8 + 4, none⟩ = some (.slice (some ⟨gw, 0, none⟩) 2 wc2) ∧ W'.cell? ⟨gw, 0, none⟩ = some (.string z)) rfl (by kernel_rfl) (by kernel_rfl) (by kernel_rfl) (fun _ _ _ h => h) (fun _ _ _ _ hS => hS) (fun _ _ => Iff.rfl) ac16 (Or.inl ⟨by kernel_rfl, ?ay17⟩) aS16 (fun ac17 aS17 => ?ar17)
          case ay17 => (intro W' hSw; obtain ⟨hs0, hs1, hs2⟩ := hSw; go_simp; try (first | rfl | decide | decide +kernel | omega))
          try simp only [Act.put, List.setIfInBounds_toArray, List.set_cons_zero, List.set_cons_succ]
          refine anyT_take (i := 18) (v := .pointer (some ⟨g, i * 8, none⟩)) (fun W' => W'.cell? ⟨g, i * 8, none⟩ = some (.int .i64 1) ∧ W'.cell? ⟨g, i * 8 + 4, none⟩ = some (.slice (some ⟨gw, 0, none⟩) 2 wc2) ∧ W'.cell? ⟨gw, 0, none⟩ = some (.string z)) rfl (by kernel_rfl) (by kernel_rfl) (by kernel_rfl) (fun _ _ _ h => h) (fun _ _ _ _ hS => hS) (fun _ _ => Iff.rfl) ac17 (Or.inl ⟨by kernel_rfl, ?ay18⟩) aS17 (fun ac18 aS18 => ?ar18)
          case ay18 => (intro W' hSw; obtain ⟨hs0, hs1, hs2⟩ := hSw; go_simp; try (first | rfl | decide | decide +kernel | omega))
          try simp only [Act.put, List.setIfInBounds_toArray, List.set_cons_zero, List.set_cons_succ]
          refine anyT_take (i := 19) (v := .pointer (some ⟨g, i * 8 + 4, none⟩)) (fun W' => W'.cell? ⟨g, i * 8, none⟩ = some (.int .i64 1) ∧ W'.cell? ⟨g, i * 8 + 4, none⟩ = some (.slice (some ⟨gw, 0, none⟩) 2 wc2) ∧ W'.cell? ⟨gw, 0, none⟩ = some (.string z)) rfl (by kernel_rfl) (by kernel_rfl) (by kernel_rfl) (fun _ _ _ h => h) (fun _ _ _ _ hS => hS) (fun _ _ => Iff.rfl) ac18 (Or.inl ⟨by kernel_rfl, ?ay19⟩) aS18 (fun ac19 aS19 => ?ar19)
          case ay19 => (intro W' hSw; obtain ⟨hs0, hs1, hs2⟩ := hSw; go_simp; try (first | rfl | decide | decide +kernel | omega))
          try simp only [Act.put, List.setIfInBounds_toArray, List.set_cons_zero, List.set_cons_succ]
          refine anyT_take (i := 20) (v := .slice (some ⟨gw, 0, none⟩) 2 wc2) (fun W' => W'.cell? ⟨g, i * 8, none⟩ = some (.int .i64 1) ∧ W'.cell? ⟨g, i * 8 + 4, none⟩ = some (.slice (some ⟨gw, 0, none⟩) 2 wc2) ∧ W'.cell? ⟨gw, 0, none⟩ = some (.string z)) rfl (by kernel_rfl) (by kernel_rfl) (by kernel_rfl) (fun _ _ _ h => h) (fun _ _ _ _ hS => hS) (fun _ _ => Iff.rfl) ac19 (Or.inl ⟨by kernel_rfl, ?ay20⟩) aS19 (fun ac20 aS20 => ?ar20)
          case ay20 => (intro W' hSw; obtain ⟨hs0, hs1, hs2⟩ := hSw; go_simp; try (first | rfl | decide | decide +kernel | omega))
          try simp only [Act.put, List.setIfInBounds_toArray, List.set_cons_zero, List.set_cons_succ]
          refine anyT_take (i := 21) (v := .pointer (some ⟨gw, 0, none⟩)) (fun W' => W'.cell? ⟨g, i * 8, none⟩ = some (.int .i64 1) ∧ W'.cell? ⟨g, i * 8 + 4, none⟩ = some (.slice (some ⟨gw, 0, none⟩) 2 wc2) ∧ W'.cell? ⟨gw, 0, none⟩ = some (.string z)) rfl (by kernel_rfl) (by kernel_rfl) (by kernel_rfl) (fun _ _ _ h => h) (fun _ _ _ _ hS => hS) (fun _ _ => Iff.rfl) ac20 (Or.inl ⟨by kernel_rfl, ?ay21⟩) aS20 (fun ac21 aS21 => ?ar21)
          case ay21 => (intro W' hSw; obtain ⟨hs0, hs1, hs2⟩ := hSw; go_simp; try (first | rfl | decide | decide +kernel | omega))
          try simp only [Act.put, List.setIfInBounds_toArray, List.set_cons_zero, List.set_cons_succ]
          refine anyT_take (i := 22) (v := .string z) (fun W' => W'.cell? ⟨g, i * 8, none⟩ = some (.int .i64 1) ∧ W'.cell? ⟨g, i * 8 + 4, none⟩ = some (.slice (some ⟨gw, 0, none⟩) 2 wc2) ∧ W'.cell? ⟨gw, 0, none⟩ = some (.string z)) rfl (by kernel_rfl) (by kernel_rfl) (by kernel_rfl) (fun _ _ _ h => h) (fun _ _ _ _ hS => hS) (fun _ _ => Iff.rfl) ac21 (Or.inl ⟨by kernel_rfl, ?ay22⟩) aS21 (fun ac22 aS22 => ?ar22)
          case ay22 => (intro W' hSw; obtain ⟨hs0, hs1, hs2⟩ := hSw; go_simp; try (first | rfl | decide | decide +kernel | omega))
          try simp only [Act.put, List.setIfInBounds_toArray, List.set_cons_zero, List.set_cons_succ]
          refine anyT_take (i := 23) (v := .int .i64 i) (fun W' => W'.cell? ⟨g, i * 8, none⟩ = some (.int .i64 1) ∧ W'.cell? ⟨g, i * 8 + 4, none⟩ = some (.slice (some ⟨gw, 0, none⟩) 2 wc2) ∧ W'.cell? ⟨gw, 0, none⟩ = some (.string z)) rfl (by kernel_rfl) (by kernel_rfl) (by kernel_rfl) (fun _ _ _ h => h) (fun _ _ _ _ hS => hS) (fun _ _ => Iff.rfl) ac22 (Or.inl ⟨by kernel_rfl, ?ay23⟩) aS22 (fun ac23 aS23 => ?ar23)
          case ay23 => (intro W' hSw; obtain ⟨hs0, hs1, hs2⟩ := hSw; go_simp; try (first | rfl | decide | decide +kernel | omega))
          try simp only [Act.put, List.setIfInBounds_toArray, List.set_cons_zero, List.set_cons_succ]
          refine anyT_take (i := 24) (v := .int .i64 r) (fun W' => W'.cell? ⟨g, i * 8, none⟩ = some (.int .i64 1) ∧ W'.cell? ⟨g, i * 8 + 4, none⟩ = some (.slice (some ⟨gw, 0, none⟩) 2 wc2) ∧ W'.cell? ⟨gw, 0, none⟩ = some (.string z)) rfl (by kernel_rfl) (by kernel_rfl) (by kernel_rfl) (fun _ _ _ h => h) (fun _ _ _ _ hS => hS) (fun _ _ => Iff.rfl) ac23 (Or.inl ⟨by kernel_rfl, ?ay24⟩) aS23 (fun ac24 aS24 => ?ar24)
          case ay24 => (intro W' hSw; obtain ⟨hs0, hs1, hs2⟩ := hSw; go_simp; try (first | rfl | decide | decide +kernel | omega))
          try simp only [Act.put, List.setIfInBounds_toArray, List.set_cons_zero, List.set_cons_succ]
          refine anyT_take (i := 25) (v := .int .i64 (48 + r)) (fun W' => W'.cell? ⟨g, i * 8, none⟩ = some (.int .i64 1) ∧ W'.cell? ⟨g, i * 8 + 4, none⟩ = some (.slice (some ⟨gw, 0, none⟩) 2 wc2) ∧ W'.cell? ⟨gw, 0, none⟩ = some (.string z)) rfl (by kernel_rfl) (by kernel_rfl) (by kernel_rfl) (fun _ _ _ h => h) (fun _ _ _ _ hS => hS) (fun _ _ => Iff.rfl) ac24 (Or.inl ⟨by kernel_rfl, ?ay25⟩) aS24 (fun ac25 aS25 => ?ar25)
          case ay25 => (intro W' hSw; obtain ⟨hs0, hs1, hs2⟩ := hSw; go_simp; try (first | rfl | decide | decide +kernel | omega))
          try simp only [Act.put, List.setIfInBounds_toArray, List.set_cons_zero, List.set_cons_succ]
          refine anyT_take (i := 26) (v := .int .u8 (48 + r)) (fun W' => W'.cell? ⟨g, i * 8, none⟩ = some (.int .i64 1) ∧ W'.cell? ⟨g, i * 8 + 4, none⟩ = some (.slice (some ⟨gw, 0, none⟩) 2 wc2) ∧ W'.cell? ⟨gw, 0, none⟩ = some (.string z)) rfl (by kernel_rfl) (by kernel_rfl) (by kernel_rfl) (fun _ _ _ h => h) (fun _ _ _ _ hS => hS) (fun _ _ => Iff.rfl) ac25 (Or.inl ⟨by kernel_rfl, ?ay26⟩) aS25 (fun ac26 aS26 => ?ar26)
          case ay26 => (intro W' hSw; obtain ⟨hs0, hs1, hs2⟩ := hSw; go_simp; try (first | rfl | decide | decide +kernel | omega))
          try simp only [Act.put, List.setIfInBounds_toArray, List.set_cons_zero, List.set_cons_succ]
          have HS26 := Lib.hid aS26
          refine anyT_step (k := 27) (by kernel_rfl) rfl (fun K hK => ?as27)
          case as27 =>
            have HK := Lib.hid hK
            clear hK
            go_simp
            have hFa : Fr (fun _ => False) wr (wr.alloc (.cells #[.int .u8 (48 + (r : Int))] 5)).drew := ((Fr.refl _ wr).alloc _).drew
            have hcn : (wr.alloc (.cells #[.int .u8 (48 + (r : Int))] 5)).drew.cell? ⟨wr.heap.size, 0, none⟩ = some (.int .u8 (48 + (r : Int))) := by show (wr.alloc _).cell? _ = _; rw [Lib.cell_of_heap (heap_alloc_new wr _)]; rfl
            generalize (wr.alloc (.cells #[.int .u8 (48 + (r : Int))] 5)).drew = w5 at *
            generalize wr.heap.size = gb at *
            have hS5 : w5.cell? ⟨g, i * 8, none⟩ = some (.int .i64 1) ∧ w5.cell? ⟨g, i * 8 + 4, none⟩ = some (.slice (some ⟨gw, 0, none⟩) 2 wc2) ∧ w5.cell? ⟨gw, 0, none⟩ = some (.string z) := ⟨hFa.cell q0 id, hFa.cell q4 id, hFa.cell hs2 id⟩
            have HF5 := Lib.hid (HF3.out.trans hFa)
            have hcv := HCV.out gb w5 hcn
            have HFA := Lib.hid hFa
            have HS5 := Lib.hid hS5
            clear hFa hcn hS5
            refine HK.out _ _ HS5.out ?_
            clear HK
            try simp only [Act.put, List.setIfInBounds_toArray, List.set_cons_zero, List.set_cons_succ]
            refine anyT_step (k := 28) (by kernel_rfl) rfl (fun K hK => ?as28)
            case as28 =>
              have HK := Lib.hid hK
              clear hK
              go_simp
              refine HK.out _ _ HS5.out ?_
              clear HK
              try simp only [Act.put, List.setIfInBounds_toArray, List.set_cons_zero, List.set_cons_succ]
              refine anyT_step (k := 29) (by kernel_rfl) rfl (fun K hK => ?as29)
              case as29 =>
                have HK := Lib.hid hK
                clear hK
                go_simp
                refine HK.out _ _ HS5.out ?_
                clear HK
                try simp only [Act.put, List.setIfInBounds_toArray, List.set_cons_zero, List.set_cons_succ]
                refine anyT_step (k := 30) (by kernel_rfl) rfl (fun K hK => ?as30)
                case as30 =>
                  have HK := Lib.hid hK
                  clear hK
                  go_simp
                  refine HK.out _ _ HS5.out ?_
                  clear HK
                  try simp only [Act.put, List.setIfInBounds_toArray, List.set_cons_zero, List.set_cons_succ]
                  refine anyT_step (k := 31) (by kernel_rfl) rfl (fun K hK => ?as31)
                  case as31 =>
                    have HK := Lib.hid hK
                    clear hK
                    go_simp
                    refine HK.out _ _ HS5.out ?_
                    clear HK
                    try simp only [Act.put, List.setIfInBounds_toArray, List.set_cons_zero, List.set_cons_succ]
                    refine anyT_done (by kernel_rfl) ?_
                    refine NoPanic.normal ?_
                    have hb1 := HB1.out
                    cases b1 with
                    | false =>
                      clear HKD
                      go_wp2
                      go_roundw
                      case rel => exact ⟨i + 1, by go_num, hlt, HF5.out⟩
                      case measure => simp [intOf]; omega
                    | true =>
                      obtain ⟨kk, gk, kc, hc1, rfl, hc2⟩ := HKD.out rfl
                      have hd1 := HFA.out.cell hc1 id
                      have hd2 := HFA.out.cell hc2 id
                      have hnl : n < ns.length := by have := HLE.out; have h3 := HE2.out; rw [if_pos rfl] at h3; omega
                      obtain ⟨hs5a, hs5b, hs5c⟩ := HS5.out
                      clear HKD hc1 hc2 q0 q4 hs2
                      go_wp2
                      go_roundw
                      case rel => exact ⟨i + 1, by go_num, hlt, HF5.out⟩
                      case measure => simp [intOf]; omega
        · have hin : n = i := by omega
          clear hi hlt
          subst hin
          have hlen := HLE.out
          obtain ⟨L, hL⟩ : ∃ L, ns.length = L + 1 := ⟨ns.length - 1, by omega⟩
          obtain ⟨_, _, _, _, _, _, _, _, _, _, _, hcell⟩ := Nds.cell HNr.out rfl L _ (get_getD (by omega))
          have qL : wr.cell? ⟨g, L * 8, none⟩ = some (.int .i64 (ns.getD L (nd 0 [])).kind) := hcell 0 _ rfl
          have hnn := HNN.out
          rw [hL, Nat.add_sub_cancel] at hnn
          have HQN := Lib.hid (show b1 = true → n < ns.length ∧ wr.cell? ⟨g, n * 8, none⟩ = some (.int .i64 3) from by
            intro hb
            have h1n : 1 < n := by have := HB1.out; rw [hb] at this; have := of_decide_eq_true this; omega
            have hnl : n < ns.length := by have h3 := HE2.out; rw [hb, if_pos rfl] at h3; omega
            obtain ⟨_, _, _, _, _, _, _, _, _, _, _, hcl⟩ := Nds.cell HNr.out rfl n _ (get_getD hnl)
            have := hcl 0 _ rfl
            rw [(HPP.out h1n).1] at this
            exact ⟨hnl, this⟩)
          generalize (ns.getD L (nd 0 [])).kind = k2 at *
          have hLm : L ≤ 100 := by omega
          have hLe := Lib.hid hL
          rw [hL]
          have hb1 := HB1.out
          clear hlen hL hcell
          cases b1 with
          | false =>
            have hn0 : n = 1 := by have := of_decide_eq_false hb1; omega
            subst hn0
            clear HQN
            go_wp2
            go_ret
            exact ⟨ret_bool (by simp [hnn]), (HF2.out.trans HF3.out).bel (fun _ h => h.elim) (Nat.le_refl _)⟩
          | true =>
            obtain ⟨hnl, hqn⟩ := HQN.out rfl
            rw [hLe.out] at hnl
            have hgt := of_decide_eq_true hb1
            have gn : (((n : Int) == 1) : Bool) = false := by rw [beq_eq_false_iff_ne]; omega
            go_wp2
            go_ret
            exact ⟨ret_bool (by simp [hnn]), (HF2.out.trans HF3.out).bel (fun _ h => h.elim) (Nat.le_refl _)⟩
end Go.Proofs.Ytoahgblgchmclaa
