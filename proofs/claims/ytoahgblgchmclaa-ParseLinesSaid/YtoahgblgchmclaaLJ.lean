/- Contracts: token. -/
import Derived.Test.YtoahgblgchmclaaLI
namespace Go.Proofs.Ytoahgblgchmclaa
open Go.RowKit
set_option linter.unusedVariables false
set_option linter.unusedSimpArgs false
/-- a token's block. -/
def TKP (W : World) (T : Nat) (a : Int) (b : Bs) (c : Nat) : Prop :=
  W.heap[T]? = some (.cells #[.int .i64 a, .string (st b), .int .i64 c] 40 (0, 0))
section
variable {W W' : World} {T : Nat} {a : Int} {b : Bs} {c : Nat}
theorem TKP.cells (h : TKP W T a b c) : W.cell? ⟨T, 0, none⟩ = some (.int .i64 a) ∧ W.cell? ⟨T, 1, none⟩ = some (.string (st b)) ∧ W.cell? ⟨T, 2, none⟩ = some (.int .i64 c) ∧ W.frozen? ⟨T, 0, none⟩ = false ∧ W.frozen? ⟨T, 1, none⟩ = false ∧ W.frozen? ⟨T, 2, none⟩ = false := by
  unfold TKP at h
  refine ⟨?_, ?_, ?_, Lib.frozen_of_heap h 0, Lib.frozen_of_heap h 1, Lib.frozen_of_heap h 2⟩ <;> rw [Lib.cell_of_heap h] <;> rfl
theorem TKP.fr {S : Nat → Prop} (h : TKP W T a b c) (f : Fr S W W') (hs : ¬ S T) : TKP W' T a b c := (f.block T (heap_lt h) hs).trans h
theorem TKP.setKind (h : TKP W T a b c) (a' : Int) : TKP (W.setCell ⟨T, 0, none⟩ (.int .i64 a')) T a' b c := heap_set h 0 _
theorem TKP.setText (h : TKP W T a b c) (b' : Bs) : TKP (W.setCell ⟨T, 1, none⟩ (.string (st b'))) T a b' c := heap_set h 1 _
theorem TKP.all (h : TKP W T a b c) (a' : Int) (b' : Bs) (c' : Nat) : TKP (((W.setCell ⟨T, 0, none⟩ (.int .i64 a')).setCell ⟨T, 1, none⟩ (.string (st b'))).setCell ⟨T, 2, none⟩ (.int .i64 c')) T a' b' c' :=
  heap_set (heap_set (heap_set h 0 _) 1 _) 2 _
theorem TKP.drewN (h : TKP W T a b c) (n : Nat) : TKP (W.drewN n) T a b c := h
end
theorem RM.other {W : World} {p q o : Nat} {s : ByteArray} {k : Nat} {v : Value} (h : RM W p s k) (hne : p ≠ q) : RM (W.setCell ⟨q, o, none⟩ v) p s k :=
  h.fr (Fr.one W q o v) hne
theorem TKP.other {W : World} {T q o : Nat} {a : Int} {b : Bs} {c : Nat} {v : Value} (h : TKP W T a b c) (hne : T ≠ q) : TKP (W.setCell ⟨q, o, none⟩ v) T a b c :=
  h.fr (Fr.one W q o v) hne
/-- changes in the reader's block and from a block on. -/
def Up (p B : Nat) (k : Nat) : Prop := k = p ∨ B ≤ k
theorem Fr.up {p B : Nat} {a b : World} (h : Fr (· = p) a b) (hne : ¬ B = p) : Fr (Up p B) a b := h.mono fun k _ e => .inl e
theorem Fr.down {p : Nat} {a b : World} (h : Fr (Up p a.heap.size) a b) : Fr (· = p) a b :=
  h.mono fun k hk e => by rcases e with e | e; exact e; omega
/-- an answer of a token and an error. -/
theorem resTok {W : World} {G : Nat} (fn : Func) (sb : Nat) (hfn : fn.results = #[.cell 2 40, .tmp sb]) {x : Int} {y : Bs} {z : Nat} {b : Value} (h : TKP W G x y z)
    (tmps : Array Value) (h1 : tmps.getD 2 undef = .pointer (some ⟨G, 0, none⟩)) (h2 : tmps.getD sb undef = b) :
    (results fn tmps).run Try.prog W = .ok (.tuple #[.agg #[.int .i64 x, .string (st y), .int .i64 z], b]) W := by
  obtain ⟨t0, t1, t2, _⟩ := h.cells
  have hl : (loadCells ⟨G, 0, none⟩ 3).run Try.prog W = .ok #[.int .i64 x, .string (st y), .int .i64 z] W := by
    have := run_loadCells_list (P := Try.prog) W ⟨G, 0, none⟩ [.int .i64 x, .string (st y), .int .i64 z] (fun j v hv => by
      rw [Addr.add_lit, Nat.zero_add]
      match j, hv with
      | 0, hv => simp at hv; subst hv; exact t0
      | 1, hv => simp at hv; subst hv; exact t1
      | 2, hv => simp at hv; subst hv; exact t2)
    exact this
  have h3 : ∀ w, (isAgg 40).run Try.prog w = .ok true w := fun w => by kernel_rfl
  have h4 : ∀ w, (sizeOf 40).run Try.prog w = .ok 3 w := fun w => by kernel_rfl
  have hv : (loadVar 40 ⟨G, 0, none⟩).run Try.prog W = .ok (.agg #[.int .i64 x, .string (st y), .int .i64 z]) W := by
    simp [loadVar, h3, h4, hl]
  simp only [Array.getD_eq_getD_getElem?] at h1 h2
  simp [results, hfn, h1, h2, hv, asAddr]
def tokPost (W : World) (p : Nat) (s : ByteArray) (k : Nat) (r : R) (e : Ending) (w' : World) : Prop :=
  ∃ t : Tk, e = .returned (.tuple #[.agg #[.int .i64 t.kind, .string (st t.text), .int .i64 t.at_], .int .i64 (erR r)]) ∧ RM w' p s (plR s r) ∧ Fr (· = p) W w' ∧ ∀ j, r = .ok j → t = tkV s.data.toList k j
theorem mid_extract (s : ByteArray) (k j : Nat) : s.extract k j = st (mid s.data.toList k j) := by
  rw [← st_of (s.extract k j), extract_mid]; rfl
theorem mid_one (s : ByteArray) (k j : Nat) (hk : k < s.size) (hj : j = k + 1) : mid s.data.toList k j = [s[k]] := by
  subst hj
  unfold mid
  rw [at_byte hk]
  simp
theorem dig_mid (s : ByteArray) (k j : Nat) (hk : k < s.size) (hkj : k < j) (hj : j ≤ s.size) : dig1 (mid s.data.toList k j) = (decide (j = k + 1) && isDig (s.data.toList.getD k 0)) := by
  rw [getD_at hk]
  by_cases h : j = k + 1
  · rw [mid_one s k j hk h, decide_eq_true h, Bool.true_and]; rfl
  · rw [decide_eq_false h, Bool.false_and]
    have hl : (mid s.data.toList k j).length = j - k := by
      unfold mid
      rw [List.length_take, List.length_drop, size_len]; omega
    match hm : mid s.data.toList k j with
    | [] => rfl
    | [c] => rw [hm] at hl; simp at hl; omega
    | c :: d :: r => rfl
theorem pre_head (c : UInt8) (l : Bs) : pre [c] l = decide (l.head? = some c) := by
  cases l with
  | nil => rfl
  | cons d r => rw [pre_one]; simp
theorem sign_nodig {c : UInt8} (h : signB c = true) : isDig c = false := by
  revert h
  unfold signB isDig
  intro h
  simp only [Bool.or_eq_true, decide_eq_true_eq] at h
  rcases h with ((((((rfl | rfl) | rfl) | rfl) | rfl) | rfl) | rfl) | rfl <;> rfl
theorem sg_nodig (s : ByteArray) (k j : Nat) (hk : k < s.size) (h0 : 0 < sg (s.data.toList.drop k)) (hj : j = k + sg (s.data.toList.drop k)) : dig1 (mid s.data.toList k j) = false := by
  have hle := sg_len (s.data.toList.drop k)
  rw [List.length_drop, size_len] at hle
  rw [dig_mid s k j hk (by omega) (by omega), getD_at hk]
  by_cases h1 : j = k + 1
  · have h2 : signB s[k] = true := by
      rw [at_byte hk] at h0 hj
      cases hs : signB s[k] with
      | true => rfl
      | false =>
        exfalso
        have : sg (s[k] :: s.data.toList.drop (k + 1)) = 1 := by omega
        cases hr : s.data.toList.drop (k + 1) with
        | nil => rw [hr, sg_one, hs] at this; simp at this
        | cons d r =>
          rw [hr, sg_two, hs] at this
          split at this <;> simp at this
    rw [sign_nodig h2, Bool.and_false]
  · rw [decide_eq_false h1, Bool.false_and]
set_option maxHeartbeats 8000000 in
theorem token_sign (W : World) (p : Nat) (s : ByteArray) (k : Nat) (hk : k < s.size) (hs : s.size ≤ maxLen) (h0 : 0 < sg (s.data.toList.drop k)) (h : RM W p s k) :
    Calls Try.prog 21 #[.pointer (some ⟨p, 0, none⟩)] W (tokPost W p s k (.ok (k + sg (s.data.toList.drop k)))) := by
  have hs' := hs
  unfold maxLen at hs'
  obtain ⟨c0, c1, f1⟩ := h.cells
  have hp := heap_lt h
  have HT := Lib.hid (rest_any · p s k (by omega) hs)
  have HSG := Lib.hid (fun w => (show Calls Try.prog 33 #[.string (st (s.data.toList.drop k))] w fun e w' => e = .returned (.int .i64 (sg (s.data.toList.drop k))) ∧ w' = w from by
    have := signSize_any (st (s.data.toList.drop k)) (by rw [st_size, List.length_drop, size_len]; omega) (by rw [st_size, List.length_drop, size_len]; exact Nat.le_trans (Nat.sub_le _ _) hs) w
    rw [st_data] at this
    exact this))
  have hZ1 : TKP ((W.alloc (.cells #[.int .i64 0, .string ⟨#[]⟩, .int .i64 0] 40)).alloc (.cells #[.int .i64 2, .string ⟨#[]⟩, .int .i64 k] 40)) W.heap.size 0 [] 0 :=
    ((Fr.refl (fun _ => False) _).alloc _).block W.heap.size (by simp) id |>.trans (heap_alloc_new W _)
  have hT1 : TKP ((W.alloc (.cells #[.int .i64 0, .string ⟨#[]⟩, .int .i64 0] 40)).alloc (.cells #[.int .i64 2, .string ⟨#[]⟩, .int .i64 k] 40)) (W.heap.size + 1) 2 [] k := by
    have := heap_alloc_new (W.alloc (.cells #[.int .i64 0, .string ⟨#[]⟩, .int .i64 0] 40)) (.cells #[.int .i64 2, .string ⟨#[]⟩, .int .i64 k] 40)
    rwa [show (W.alloc (.cells #[.int .i64 0, .string ⟨#[]⟩, .int .i64 0] 40)).heap.size = W.heap.size + 1 by simp] at this
  have hG0 : Fr (fun _ => False) W ((W.alloc (.cells #[.int .i64 0, .string ⟨#[]⟩, .int .i64 0] 40)).alloc (.cells #[.int .i64 2, .string ⟨#[]⟩, .int .i64 k] 40)) := ((Fr.refl _ W).alloc _).alloc _
  have hG1 := hG0.mono (S' := Up p W.heap.size) (fun _ _ e => e.elim)
  have hR1 : RM ((W.alloc (.cells #[.int .i64 0, .string ⟨#[]⟩, .int .i64 0] 40)).alloc (.cells #[.int .i64 2, .string ⟨#[]⟩, .int .i64 k] 40)) p s k := h.fr hG0 id
  have HPT := Lib.hid (show ¬ W.heap.size + 1 = p by omega)
  have HPG := Lib.hid (show ¬ W.heap.size = p by omega)
  have hPT2 : p ≠ W.heap.size + 1 := by omega
  have hPG2 : p ≠ W.heap.size := by omega
  have HR1 := Lib.hid hR1
  have HT1 := Lib.hid hT1
  have HZ1 := Lib.hid hZ1
  have HG1 := Lib.hid hG1
  clear h hR1 hT1 hZ1 hG1 hG0
  have hle := sg_len (s.data.toList.drop k)
  rw [List.length_drop, size_len] at hle
  obtain ⟨g, hg⟩ : ∃ g, sg (s.data.toList.drop k) = g := ⟨_, rfl⟩
  have HV := Lib.hid (show (⟨2, mid s.data.toList k (k + g), k⟩ : Tk) = tkV s.data.toList k (k + g) from by rw [← hg, tkV, if_pos h0])
  have HD := Lib.hid (fun w => (show Calls Try.prog 36 #[.string (st (mid s.data.toList k (k + g)))] w fun e w' => e = .returned (.bool false) ∧ w' = w from by
    have := isDigit_any (st (mid s.data.toList k (k + g))) (Nat.le_trans (by rw [← mid_extract]; simp; omega) hs) w
    rw [st_data, sg_nodig s k (k + g) hk h0 (by rw [hg])] at this
    exact this))
  rw [hg] at HSG h0 hle ⊢
  clear hg
  go_enter Try.func21, Try.ntmps21
  go_upto_region 2 with fail
  obtain ⟨c0, c1, f1⟩ := HR1.out.cells
  obtain ⟨t0, t1, t2, tf0, tf1, tf2⟩ := HT1.out.cells
  obtain ⟨z0, z1, z2, zf0, zf1, zf2⟩ := HZ1.out.cells
  generalize (W.alloc (.cells #[.int .i64 0, .string ⟨#[]⟩, .int .i64 0] 40)).alloc (.cells #[.int .i64 2, .string ⟨#[]⟩, .int .i64 k] 40) = w1 at *
  go_upto_region 9 with (first | (go_at_call 34; (with_reducible refine (HT.out _ HR1.out).mono ?_); rintro e w2 ⟨rfl, hR, hF⟩; obtain ⟨c0, c1, f1⟩ := hR.cells; have hT := HT1.out.fr hF HPT.out; obtain ⟨t0, t1, t2, tf0, tf1, tf2⟩ := hT.cells; have hZ := HZ1.out.fr hF HPG.out; obtain ⟨z0, z1, z2, zf0, zf1, zf2⟩ := hZ.cells; have HR2 := Lib.hid hR; have HG2 := Lib.hid (HG1.out.trans (hF.up HPG.out)); have HT2 := Lib.hid hT; have HZ2 := Lib.hid hZ; clear hR hF hT hZ) | (go_at_call 33; (with_reducible refine (HSG.out _).mono ?_); rintro e w2 ⟨rfl, rfl⟩))
  have HR3 := Lib.hid (show RM (w2.setCell ⟨p, 1, none⟩ (.int .i64 ((k : Int) + (g : Int)))) p s (k + g) from HR2.out.add g)
  have HT3 := Lib.hid (HT2.out.other (v := .int .i64 ((k : Int) + (g : Int))) (o := 1) HPT.out)
  have HZ3 := Lib.hid (HZ2.out.other (v := .int .i64 ((k : Int) + (g : Int))) (o := 1) HPG.out)
  have HG3 := Lib.hid (HG2.out.setCell (p := ⟨p, 1, none⟩) (.inl (.inl rfl)) (.int .i64 ((k : Int) + (g : Int))))
  clear c0 c1 f1 t0 t1 t2 tf0 tf1 tf2 z0 z1 z2 zf0 zf1 zf2
  generalize w2.setCell ⟨p, 1, none⟩ (.int .i64 ((k : Int) + (g : Int))) = w3 at *
  obtain ⟨c0, c1, f1⟩ := HR3.out.cells
  obtain ⟨t0, t1, t2, tf0, tf1, tf2⟩ := HT3.out.cells
  have hsl1 : (k : Int) ≤ ((k + g : Nat) : Int) := by omega
  have hsl2 : ((k + g : Nat) : Int) ≤ (s.size : Int) := by omega
  go_region
  rw [mid_extract]
  have HR4 := Lib.hid (show RM ((w3.setCell ⟨W.heap.size + 1, 1, none⟩ (.string (st (mid s.data.toList k (k + g))))).drew) p s (k + g) from HR3.out.other hPT2)
  have HT4 := Lib.hid (show TKP ((w3.setCell ⟨W.heap.size + 1, 1, none⟩ (.string (st (mid s.data.toList k (k + g))))).drew) (W.heap.size + 1) 2 (mid s.data.toList k (k + g)) k from HT3.out.setText _)
  have HZ4 := Lib.hid (show TKP ((w3.setCell ⟨W.heap.size + 1, 1, none⟩ (.string (st (mid s.data.toList k (k + g))))).drew) W.heap.size 0 [] 0 from HZ3.out.other (by omega))
  have HG4 := Lib.hid (show Fr (Up p W.heap.size) W ((w3.setCell ⟨W.heap.size + 1, 1, none⟩ (.string (st (mid s.data.toList k (k + g))))).drew) from (HG3.out.setCell (p := ⟨W.heap.size + 1, 1, none⟩) (.inl (.inr (by simp))) _).drew)
  generalize (w3.setCell ⟨W.heap.size + 1, 1, none⟩ (.string (st (mid s.data.toList k (k + g))))).drew = w4 at *
  clear c0 c1 f1 t0 t1 t2 tf0 tf1 tf2
  obtain ⟨c0, c1, f1⟩ := HR4.out.cells
  obtain ⟨t0, t1, t2, tf0, tf1, tf2⟩ := HT4.out.cells
  obtain ⟨z0, z1, z2, zf0, zf1, zf2⟩ := HZ4.out.cells
  go_wp2_with (go_at_call 36; (with_reducible refine (HD.out _).mono ?_); rintro e w4 ⟨rfl, rfl⟩)
  exact bodyPost_ret (resTok Try.f21 3 rfl (HZ4.out.all 2 (mid s.data.toList k (k + g)) k) _ rfl rfl) rfl ⟨⟨2, mid s.data.toList k (k + g), k⟩, rfl, ((HR4.out.other hPG2).other hPG2).other hPG2, (((HG4.out.setCell (p := ⟨W.heap.size, 0, none⟩) (.inl (.inr (Nat.le_refl _))) _).setCell (p := ⟨W.heap.size, 1, none⟩) (.inl (.inr (Nat.le_refl _))) _).setCell (p := ⟨W.heap.size, 2, none⟩) (.inl (.inr (Nat.le_refl _))) _).down, fun j hj => by injection hj with hj; subst hj; exact HV.out⟩
set_option maxHeartbeats 8000000 in
theorem token_word (W : World) (p : Nat) (s : ByteArray) (k : Nat) (hk : k < s.size) (hs : s.size ≤ maxLen) (h0 : ¬ 0 < sg (s.data.toList.drop k)) (hbeg : Beg s.data.toList k) (h : RM W p s k) :
    Calls Try.prog 21 #[.pointer (some ⟨p, 0, none⟩)] W (tokPost W p s k (wordL s.data.toList s.data.toList.length k)) := by
  have hs' := hs
  unfold maxLen at hs'
  obtain ⟨c0, c1, f1⟩ := h.cells
  have hp := heap_lt h
  have HT := Lib.hid (rest_any · p s k (by omega) hs)
  have HSG := Lib.hid (fun w => (show Calls Try.prog 33 #[.string (st (s.data.toList.drop k))] w fun e w' => e = .returned (.int .i64 (sg (s.data.toList.drop k))) ∧ w' = w from by
    have := signSize_any (st (s.data.toList.drop k)) (by rw [st_size, List.length_drop, size_len]; omega) (by rw [st_size, List.length_drop, size_len]; exact Nat.le_trans (Nat.sub_le _ _) hs) w
    rw [st_data] at this
    exact this))
  have hZ1 : TKP ((W.alloc (.cells #[.int .i64 0, .string ⟨#[]⟩, .int .i64 0] 40)).alloc (.cells #[.int .i64 2, .string ⟨#[]⟩, .int .i64 k] 40)) W.heap.size 0 [] 0 :=
    ((Fr.refl (fun _ => False) _).alloc _).block W.heap.size (by simp) id |>.trans (heap_alloc_new W _)
  have hT1 : TKP ((W.alloc (.cells #[.int .i64 0, .string ⟨#[]⟩, .int .i64 0] 40)).alloc (.cells #[.int .i64 2, .string ⟨#[]⟩, .int .i64 k] 40)) (W.heap.size + 1) 2 [] k := by
    have := heap_alloc_new (W.alloc (.cells #[.int .i64 0, .string ⟨#[]⟩, .int .i64 0] 40)) (.cells #[.int .i64 2, .string ⟨#[]⟩, .int .i64 k] 40)
    rwa [show (W.alloc (.cells #[.int .i64 0, .string ⟨#[]⟩, .int .i64 0] 40)).heap.size = W.heap.size + 1 by simp] at this
  have hG0 : Fr (fun _ => False) W ((W.alloc (.cells #[.int .i64 0, .string ⟨#[]⟩, .int .i64 0] 40)).alloc (.cells #[.int .i64 2, .string ⟨#[]⟩, .int .i64 k] 40)) := ((Fr.refl _ W).alloc _).alloc _
  have hG1 := hG0.mono (S' := Up p W.heap.size) (fun _ _ e => e.elim)
  have hR1 : RM ((W.alloc (.cells #[.int .i64 0, .string ⟨#[]⟩, .int .i64 0] 40)).alloc (.cells #[.int .i64 2, .string ⟨#[]⟩, .int .i64 k] 40)) p s k := h.fr hG0 id
  have HPT := Lib.hid (show ¬ W.heap.size + 1 = p by omega)
  have HPG := Lib.hid (show ¬ W.heap.size = p by omega)
  have hPT2 : p ≠ W.heap.size + 1 := by omega
  have hPG2 : p ≠ W.heap.size := by omega
  have HR1 := Lib.hid hR1
  have HT1 := Lib.hid hT1
  have HZ1 := Lib.hid hZ1
  have HG1 := Lib.hid hG1
  clear h hR1 hT1 hZ1 hG1 hG0
  have hsz : sg (s.data.toList.drop k) = 0 := by omega
  have hlt := fun j (hj : wordL s.data.toList s.data.toList.length k = .ok j) => tkR_lt (l := s.data.toList) (i := k) (j := j) (by rw [size_len]; exact hk) hbeg (by rw [tkR, if_neg h0]; exact hj)
  have HVV := Lib.hid (fun j => (show tkV s.data.toList k j = ⟨wkind s.data.toList k j, mid s.data.toList k j, k⟩ by rw [tkV, if_neg h0]))
  have HW := Lib.hid (fun w (h : RM w p s k) => word_any w p s k s.data.toList.length (by omega) (by rw [size_len]; omega) hs h)
  rw [hsz] at HSG
  clear hsz h0 hbeg
  generalize wordL s.data.toList s.data.toList.length k = r at *
  cases r with
  | ok j =>
    obtain ⟨hkj, hjs⟩ := hlt j rfl
    rw [size_len] at hjs
    have hdm := dig_mid s k j hk hkj hjs
    have HD := Lib.hid (fun w => (show Calls Try.prog 36 #[.string (st (mid s.data.toList k j))] w fun e w' => e = .returned (.bool (dig1 (mid s.data.toList k j))) ∧ w' = w from by
      have := isDigit_any (st (mid s.data.toList k j)) (Nat.le_trans (by rw [← mid_extract]; simp; omega) hs) w
      rw [st_data] at this
      exact this))
    have HVW := Lib.hid (fun (b1 b2 : Bool) (h1 : pre [60] (s.data.toList.drop j) = b1) (h2 : pre [62] (s.data.toList.drop j) = b2) (kd : Int) (hkd : (if dig1 (mid s.data.toList k j) && (b1 || b2) then 3 else 1) = kd) => (show (⟨kd, mid s.data.toList k j, k⟩ : Tk) = tkV s.data.toList k j from by
      rw [HVV.out, ← hkd, hdm, ← h1, ← h2, pre_head, pre_head]
      unfold wkind
      congr 1
      by_cases e1 : j = k + 1 <;> by_cases e2 : isDig (s.data.toList.getD k 0) = true <;> by_cases e3 : (s.data.toList.drop j).head? = some 60 <;> by_cases e4 : (s.data.toList.drop j).head? = some 62 <;> simp [e1, e2, e3, e4]))
    have N1 := Lib.hid (fun (b : Bool) (hb : pre [60] (s.data.toList.drop j) = b) w (h : RM w p s j) => (show Calls Try.prog 31 #[.pointer (some ⟨p, 0, none⟩), .string ⟨#[60]⟩] w fun e w' => e = .returned (.bool b) ∧ RM w' p s j ∧ Fr (· = p) w w' from by
      have := finds_any w p s j [60] hjs hs h
      rw [hb] at this
      exact this))
    have N2 := Lib.hid (fun (b : Bool) (hb : pre [62] (s.data.toList.drop j) = b) w (h : RM w p s j) => (show Calls Try.prog 31 #[.pointer (some ⟨p, 0, none⟩), .string ⟨#[62]⟩] w fun e w' => e = .returned (.bool b) ∧ RM w' p s j ∧ Fr (· = p) w w' from by
      have := finds_any w p s j [62] hjs hs h
      rw [hb] at this
      exact this))
    clear hdm hlt HVV
    cases hdg : dig1 (mid s.data.toList k j) <;> cases hb1 : pre [60] (s.data.toList.drop j) <;> cases hb2 : pre [62] (s.data.toList.drop j)
    case ok.false.false.false =>
      rw [hdg] at HD HVW
      have HV := Lib.hid (HVW.out false false hb1 hb2 1 rfl)
      have N1 := Lib.hid (N1.out false hb1)
      have N2 := Lib.hid (N2.out false hb2)
      clear hdg hb1 hb2 HVW
      go_enter Try.func21, Try.ntmps21
      go_upto_region 2 with fail
      obtain ⟨c0, c1, f1⟩ := HR1.out.cells
      obtain ⟨t0, t1, t2, tf0, tf1, tf2⟩ := HT1.out.cells
      obtain ⟨z0, z1, z2, zf0, zf1, zf2⟩ := HZ1.out.cells
      generalize (W.alloc (.cells #[.int .i64 0, .string ⟨#[]⟩, .int .i64 0] 40)).alloc (.cells #[.int .i64 2, .string ⟨#[]⟩, .int .i64 k] 40) = w1 at *
      go_upto_region 9 with (first | (go_at_call 34; (with_reducible refine (HT.out _ HR1.out).mono ?_); rintro e w2 ⟨rfl, hR, hF⟩; obtain ⟨c0, c1, f1⟩ := hR.cells; have hT := HT1.out.fr hF HPT.out; obtain ⟨t0, t1, t2, tf0, tf1, tf2⟩ := hT.cells; have hZ := HZ1.out.fr hF HPG.out; obtain ⟨z0, z1, z2, zf0, zf1, zf2⟩ := hZ.cells; have HR2 := Lib.hid hR; have HG2 := Lib.hid (HG1.out.trans (hF.up HPG.out)); have HT2 := Lib.hid hT; have HZ2 := Lib.hid hZ; clear hR hF hT hZ) | (go_at_call 33; (with_reducible refine (HSG.out _).mono ?_); rintro e w2 ⟨rfl, rfl⟩) | (go_at_call 35; (with_reducible refine (HW.out _ HR2.out).mono ?_); rintro e wa ⟨rfl, hR, hF⟩; obtain ⟨c0, c1, f1⟩ := hR.cells; have hT := HT2.out.fr hF HPT.out; obtain ⟨t0, t1, t2, tf0, tf1, tf2⟩ := hT.cells; have hZ := HZ2.out.fr hF HPG.out; obtain ⟨z0, z1, z2, zf0, zf1, zf2⟩ := hZ.cells; have HRa := Lib.hid (show RM wa p s j from hR); have HGa := Lib.hid (HG2.out.trans (hF.up HPG.out)); have HTa := Lib.hid hT; have HZa := Lib.hid hZ; clear hR hF hT hZ))
      have HR3 := Lib.hid (show RM (wa.setCell ⟨W.heap.size + 1, 0, none⟩ (.int .i64 1)) p s j from HRa.out.other hPT2)
      have HT3 := Lib.hid (HTa.out.setKind 1)
      have HZ3 := Lib.hid (HZa.out.other (q := W.heap.size + 1) (v := .int .i64 1) (o := 0) (by omega))
      have HG3 := Lib.hid (HGa.out.setCell (p := ⟨W.heap.size + 1, 0, none⟩) (.inl (.inr (by simp))) (.int .i64 1))
      clear c0 c1 f1 t0 t1 t2 tf0 tf1 tf2 z0 z1 z2 zf0 zf1 zf2
      generalize wa.setCell ⟨W.heap.size + 1, 0, none⟩ (.int .i64 1) = w3 at *
      obtain ⟨c0, c1, f1⟩ := HR3.out.cells
      obtain ⟨t0, t1, t2, tf0, tf1, tf2⟩ := HT3.out.cells
      have hsl1 : (k : Int) ≤ ((j : Nat) : Int) := by omega
      have hsl2 : ((j : Nat) : Int) ≤ (s.size : Int) := by omega
      go_region
      rw [mid_extract]
      have HR4 := Lib.hid (show RM ((w3.setCell ⟨W.heap.size + 1, 1, none⟩ (.string (st (mid s.data.toList k (j))))).drew) p s (j) from HR3.out.other hPT2)
      have HT4 := Lib.hid (show TKP ((w3.setCell ⟨W.heap.size + 1, 1, none⟩ (.string (st (mid s.data.toList k (j))))).drew) (W.heap.size + 1) 1 (mid s.data.toList k (j)) k from HT3.out.setText _)
      have HZ4 := Lib.hid (show TKP ((w3.setCell ⟨W.heap.size + 1, 1, none⟩ (.string (st (mid s.data.toList k (j))))).drew) W.heap.size 0 [] 0 from HZ3.out.other (by omega))
      have HG4 := Lib.hid (show Fr (Up p W.heap.size) W ((w3.setCell ⟨W.heap.size + 1, 1, none⟩ (.string (st (mid s.data.toList k (j))))).drew) from (HG3.out.setCell (p := ⟨W.heap.size + 1, 1, none⟩) (.inl (.inr (by simp))) _).drew)
      generalize (w3.setCell ⟨W.heap.size + 1, 1, none⟩ (.string (st (mid s.data.toList k (j))))).drew = w4 at *
      clear c0 c1 f1 t0 t1 t2 tf0 tf1 tf2
      obtain ⟨c0, c1, f1⟩ := HR4.out.cells
      obtain ⟨t0, t1, t2, tf0, tf1, tf2⟩ := HT4.out.cells
      obtain ⟨z0, z1, z2, zf0, zf1, zf2⟩ := HZ4.out.cells
      go_wp2_with (first | (go_at_call 36; (with_reducible refine (HD.out _).mono ?_); rintro e w4 ⟨rfl, rfl⟩))
      exact bodyPost_ret (resTok Try.f21 3 rfl (HZ4.out.all 1 (mid s.data.toList k (j)) k) _ rfl rfl) rfl ⟨⟨1, mid s.data.toList k (j), k⟩, rfl, ((HR4.out.other hPG2).other hPG2).other hPG2, (((HG4.out.setCell (p := ⟨W.heap.size, 0, none⟩) (.inl (.inr (Nat.le_refl _))) _).setCell (p := ⟨W.heap.size, 1, none⟩) (.inl (.inr (Nat.le_refl _))) _).setCell (p := ⟨W.heap.size, 2, none⟩) (.inl (.inr (Nat.le_refl _))) _).down, fun j hj => by injection hj with hj; subst hj; exact HV.out⟩
    case ok.false.false.true =>
      rw [hdg] at HD HVW
      have HV := Lib.hid (HVW.out false true hb1 hb2 1 rfl)
      have N1 := Lib.hid (N1.out false hb1)
      have N2 := Lib.hid (N2.out true hb2)
      clear hdg hb1 hb2 HVW
      go_enter Try.func21, Try.ntmps21
      go_upto_region 2 with fail
      obtain ⟨c0, c1, f1⟩ := HR1.out.cells
      obtain ⟨t0, t1, t2, tf0, tf1, tf2⟩ := HT1.out.cells
      obtain ⟨z0, z1, z2, zf0, zf1, zf2⟩ := HZ1.out.cells
      generalize (W.alloc (.cells #[.int .i64 0, .string ⟨#[]⟩, .int .i64 0] 40)).alloc (.cells #[.int .i64 2, .string ⟨#[]⟩, .int .i64 k] 40) = w1 at *
      go_upto_region 9 with (first | (go_at_call 34; (with_reducible refine (HT.out _ HR1.out).mono ?_); rintro e w2 ⟨rfl, hR, hF⟩; obtain ⟨c0, c1, f1⟩ := hR.cells; have hT := HT1.out.fr hF HPT.out; obtain ⟨t0, t1, t2, tf0, tf1, tf2⟩ := hT.cells; have hZ := HZ1.out.fr hF HPG.out; obtain ⟨z0, z1, z2, zf0, zf1, zf2⟩ := hZ.cells; have HR2 := Lib.hid hR; have HG2 := Lib.hid (HG1.out.trans (hF.up HPG.out)); have HT2 := Lib.hid hT; have HZ2 := Lib.hid hZ; clear hR hF hT hZ) | (go_at_call 33; (with_reducible refine (HSG.out _).mono ?_); rintro e w2 ⟨rfl, rfl⟩) | (go_at_call 35; (with_reducible refine (HW.out _ HR2.out).mono ?_); rintro e wa ⟨rfl, hR, hF⟩; obtain ⟨c0, c1, f1⟩ := hR.cells; have hT := HT2.out.fr hF HPT.out; obtain ⟨t0, t1, t2, tf0, tf1, tf2⟩ := hT.cells; have hZ := HZ2.out.fr hF HPG.out; obtain ⟨z0, z1, z2, zf0, zf1, zf2⟩ := hZ.cells; have HRa := Lib.hid (show RM wa p s j from hR); have HGa := Lib.hid (HG2.out.trans (hF.up HPG.out)); have HTa := Lib.hid hT; have HZa := Lib.hid hZ; clear hR hF hT hZ))
      have HR3 := Lib.hid (show RM (wa.setCell ⟨W.heap.size + 1, 0, none⟩ (.int .i64 1)) p s j from HRa.out.other hPT2)
      have HT3 := Lib.hid (HTa.out.setKind 1)
      have HZ3 := Lib.hid (HZa.out.other (q := W.heap.size + 1) (v := .int .i64 1) (o := 0) (by omega))
      have HG3 := Lib.hid (HGa.out.setCell (p := ⟨W.heap.size + 1, 0, none⟩) (.inl (.inr (by simp))) (.int .i64 1))
      clear c0 c1 f1 t0 t1 t2 tf0 tf1 tf2 z0 z1 z2 zf0 zf1 zf2
      generalize wa.setCell ⟨W.heap.size + 1, 0, none⟩ (.int .i64 1) = w3 at *
      obtain ⟨c0, c1, f1⟩ := HR3.out.cells
      obtain ⟨t0, t1, t2, tf0, tf1, tf2⟩ := HT3.out.cells
      have hsl1 : (k : Int) ≤ ((j : Nat) : Int) := by omega
      have hsl2 : ((j : Nat) : Int) ≤ (s.size : Int) := by omega
      go_region
      rw [mid_extract]
      have HR4 := Lib.hid (show RM ((w3.setCell ⟨W.heap.size + 1, 1, none⟩ (.string (st (mid s.data.toList k (j))))).drew) p s (j) from HR3.out.other hPT2)
      have HT4 := Lib.hid (show TKP ((w3.setCell ⟨W.heap.size + 1, 1, none⟩ (.string (st (mid s.data.toList k (j))))).drew) (W.heap.size + 1) 1 (mid s.data.toList k (j)) k from HT3.out.setText _)
      have HZ4 := Lib.hid (show TKP ((w3.setCell ⟨W.heap.size + 1, 1, none⟩ (.string (st (mid s.data.toList k (j))))).drew) W.heap.size 0 [] 0 from HZ3.out.other (by omega))
      have HG4 := Lib.hid (show Fr (Up p W.heap.size) W ((w3.setCell ⟨W.heap.size + 1, 1, none⟩ (.string (st (mid s.data.toList k (j))))).drew) from (HG3.out.setCell (p := ⟨W.heap.size + 1, 1, none⟩) (.inl (.inr (by simp))) _).drew)
      generalize (w3.setCell ⟨W.heap.size + 1, 1, none⟩ (.string (st (mid s.data.toList k (j))))).drew = w4 at *
      clear c0 c1 f1 t0 t1 t2 tf0 tf1 tf2
      obtain ⟨c0, c1, f1⟩ := HR4.out.cells
      obtain ⟨t0, t1, t2, tf0, tf1, tf2⟩ := HT4.out.cells
      obtain ⟨z0, z1, z2, zf0, zf1, zf2⟩ := HZ4.out.cells
      go_wp2_with (first | (go_at_call 36; (with_reducible refine (HD.out _).mono ?_); rintro e w4 ⟨rfl, rfl⟩))
      exact bodyPost_ret (resTok Try.f21 3 rfl (HZ4.out.all 1 (mid s.data.toList k (j)) k) _ rfl rfl) rfl ⟨⟨1, mid s.data.toList k (j), k⟩, rfl, ((HR4.out.other hPG2).other hPG2).other hPG2, (((HG4.out.setCell (p := ⟨W.heap.size, 0, none⟩) (.inl (.inr (Nat.le_refl _))) _).setCell (p := ⟨W.heap.size, 1, none⟩) (.inl (.inr (Nat.le_refl _))) _).setCell (p := ⟨W.heap.size, 2, none⟩) (.inl (.inr (Nat.le_refl _))) _).down, fun j hj => by injection hj with hj; subst hj; exact HV.out⟩
    case ok.false.true.false =>
      rw [hdg] at HD HVW
      have HV := Lib.hid (HVW.out true false hb1 hb2 1 rfl)
      have N1 := Lib.hid (N1.out true hb1)
      have N2 := Lib.hid (N2.out false hb2)
      clear hdg hb1 hb2 HVW
      go_enter Try.func21, Try.ntmps21
      go_upto_region 2 with fail
      obtain ⟨c0, c1, f1⟩ := HR1.out.cells
      obtain ⟨t0, t1, t2, tf0, tf1, tf2⟩ := HT1.out.cells
      obtain ⟨z0, z1, z2, zf0, zf1, zf2⟩ := HZ1.out.cells
      generalize (W.alloc (.cells #[.int .i64 0, .string ⟨#[]⟩, .int .i64 0] 40)).alloc (.cells #[.int .i64 2, .string ⟨#[]⟩, .int .i64 k] 40) = w1 at *
      go_upto_region 9 with (first | (go_at_call 34; (with_reducible refine (HT.out _ HR1.out).mono ?_); rintro e w2 ⟨rfl, hR, hF⟩; obtain ⟨c0, c1, f1⟩ := hR.cells; have hT := HT1.out.fr hF HPT.out; obtain ⟨t0, t1, t2, tf0, tf1, tf2⟩ := hT.cells; have hZ := HZ1.out.fr hF HPG.out; obtain ⟨z0, z1, z2, zf0, zf1, zf2⟩ := hZ.cells; have HR2 := Lib.hid hR; have HG2 := Lib.hid (HG1.out.trans (hF.up HPG.out)); have HT2 := Lib.hid hT; have HZ2 := Lib.hid hZ; clear hR hF hT hZ) | (go_at_call 33; (with_reducible refine (HSG.out _).mono ?_); rintro e w2 ⟨rfl, rfl⟩) | (go_at_call 35; (with_reducible refine (HW.out _ HR2.out).mono ?_); rintro e wa ⟨rfl, hR, hF⟩; obtain ⟨c0, c1, f1⟩ := hR.cells; have hT := HT2.out.fr hF HPT.out; obtain ⟨t0, t1, t2, tf0, tf1, tf2⟩ := hT.cells; have hZ := HZ2.out.fr hF HPG.out; obtain ⟨z0, z1, z2, zf0, zf1, zf2⟩ := hZ.cells; have HRa := Lib.hid (show RM wa p s j from hR); have HGa := Lib.hid (HG2.out.trans (hF.up HPG.out)); have HTa := Lib.hid hT; have HZa := Lib.hid hZ; clear hR hF hT hZ))
      have HR3 := Lib.hid (show RM (wa.setCell ⟨W.heap.size + 1, 0, none⟩ (.int .i64 1)) p s j from HRa.out.other hPT2)
      have HT3 := Lib.hid (HTa.out.setKind 1)
      have HZ3 := Lib.hid (HZa.out.other (q := W.heap.size + 1) (v := .int .i64 1) (o := 0) (by omega))
      have HG3 := Lib.hid (HGa.out.setCell (p := ⟨W.heap.size + 1, 0, none⟩) (.inl (.inr (by simp))) (.int .i64 1))
      clear c0 c1 f1 t0 t1 t2 tf0 tf1 tf2 z0 z1 z2 zf0 zf1 zf2
      generalize wa.setCell ⟨W.heap.size + 1, 0, none⟩ (.int .i64 1) = w3 at *
      obtain ⟨c0, c1, f1⟩ := HR3.out.cells
      obtain ⟨t0, t1, t2, tf0, tf1, tf2⟩ := HT3.out.cells
      have hsl1 : (k : Int) ≤ ((j : Nat) : Int) := by omega
      have hsl2 : ((j : Nat) : Int) ≤ (s.size : Int) := by omega
      go_region
      rw [mid_extract]
      have HR4 := Lib.hid (show RM ((w3.setCell ⟨W.heap.size + 1, 1, none⟩ (.string (st (mid s.data.toList k (j))))).drew) p s (j) from HR3.out.other hPT2)
      have HT4 := Lib.hid (show TKP ((w3.setCell ⟨W.heap.size + 1, 1, none⟩ (.string (st (mid s.data.toList k (j))))).drew) (W.heap.size + 1) 1 (mid s.data.toList k (j)) k from HT3.out.setText _)
      have HZ4 := Lib.hid (show TKP ((w3.setCell ⟨W.heap.size + 1, 1, none⟩ (.string (st (mid s.data.toList k (j))))).drew) W.heap.size 0 [] 0 from HZ3.out.other (by omega))
      have HG4 := Lib.hid (show Fr (Up p W.heap.size) W ((w3.setCell ⟨W.heap.size + 1, 1, none⟩ (.string (st (mid s.data.toList k (j))))).drew) from (HG3.out.setCell (p := ⟨W.heap.size + 1, 1, none⟩) (.inl (.inr (by simp))) _).drew)
      generalize (w3.setCell ⟨W.heap.size + 1, 1, none⟩ (.string (st (mid s.data.toList k (j))))).drew = w4 at *
      clear c0 c1 f1 t0 t1 t2 tf0 tf1 tf2
      obtain ⟨c0, c1, f1⟩ := HR4.out.cells
      obtain ⟨t0, t1, t2, tf0, tf1, tf2⟩ := HT4.out.cells
      obtain ⟨z0, z1, z2, zf0, zf1, zf2⟩ := HZ4.out.cells
      go_wp2_with (first | (go_at_call 36; (with_reducible refine (HD.out _).mono ?_); rintro e w4 ⟨rfl, rfl⟩))
      exact bodyPost_ret (resTok Try.f21 3 rfl (HZ4.out.all 1 (mid s.data.toList k (j)) k) _ rfl rfl) rfl ⟨⟨1, mid s.data.toList k (j), k⟩, rfl, ((HR4.out.other hPG2).other hPG2).other hPG2, (((HG4.out.setCell (p := ⟨W.heap.size, 0, none⟩) (.inl (.inr (Nat.le_refl _))) _).setCell (p := ⟨W.heap.size, 1, none⟩) (.inl (.inr (Nat.le_refl _))) _).setCell (p := ⟨W.heap.size, 2, none⟩) (.inl (.inr (Nat.le_refl _))) _).down, fun j hj => by injection hj with hj; subst hj; exact HV.out⟩
    case ok.false.true.true =>
      rw [hdg] at HD HVW
      have HV := Lib.hid (HVW.out true true hb1 hb2 1 rfl)
      have N1 := Lib.hid (N1.out true hb1)
      have N2 := Lib.hid (N2.out true hb2)
      clear hdg hb1 hb2 HVW
      go_enter Try.func21, Try.ntmps21
      go_upto_region 2 with fail
      obtain ⟨c0, c1, f1⟩ := HR1.out.cells
      obtain ⟨t0, t1, t2, tf0, tf1, tf2⟩ := HT1.out.cells
      obtain ⟨z0, z1, z2, zf0, zf1, zf2⟩ := HZ1.out.cells
      generalize (W.alloc (.cells #[.int .i64 0, .string ⟨#[]⟩, .int .i64 0] 40)).alloc (.cells #[.int .i64 2, .string ⟨#[]⟩, .int .i64 k] 40) = w1 at *
      go_upto_region 9 with (first | (go_at_call 34; (with_reducible refine (HT.out _ HR1.out).mono ?_); rintro e w2 ⟨rfl, hR, hF⟩; obtain ⟨c0, c1, f1⟩ := hR.cells; have hT := HT1.out.fr hF HPT.out; obtain ⟨t0, t1, t2, tf0, tf1, tf2⟩ := hT.cells; have hZ := HZ1.out.fr hF HPG.out; obtain ⟨z0, z1, z2, zf0, zf1, zf2⟩ := hZ.cells; have HR2 := Lib.hid hR; have HG2 := Lib.hid (HG1.out.trans (hF.up HPG.out)); have HT2 := Lib.hid hT; have HZ2 := Lib.hid hZ; clear hR hF hT hZ) | (go_at_call 33; (with_reducible refine (HSG.out _).mono ?_); rintro e w2 ⟨rfl, rfl⟩) | (go_at_call 35; (with_reducible refine (HW.out _ HR2.out).mono ?_); rintro e wa ⟨rfl, hR, hF⟩; obtain ⟨c0, c1, f1⟩ := hR.cells; have hT := HT2.out.fr hF HPT.out; obtain ⟨t0, t1, t2, tf0, tf1, tf2⟩ := hT.cells; have hZ := HZ2.out.fr hF HPG.out; obtain ⟨z0, z1, z2, zf0, zf1, zf2⟩ := hZ.cells; have HRa := Lib.hid (show RM wa p s j from hR); have HGa := Lib.hid (HG2.out.trans (hF.up HPG.out)); have HTa := Lib.hid hT; have HZa := Lib.hid hZ; clear hR hF hT hZ))
      have HR3 := Lib.hid (show RM (wa.setCell ⟨W.heap.size + 1, 0, none⟩ (.int .i64 1)) p s j from HRa.out.other hPT2)
      have HT3 := Lib.hid (HTa.out.setKind 1)
      have HZ3 := Lib.hid (HZa.out.other (q := W.heap.size + 1) (v := .int .i64 1) (o := 0) (by omega))
      have HG3 := Lib.hid (HGa.out.setCell (p := ⟨W.heap.size + 1, 0, none⟩) (.inl (.inr (by simp))) (.int .i64 1))
      clear c0 c1 f1 t0 t1 t2 tf0 tf1 tf2 z0 z1 z2 zf0 zf1 zf2
      generalize wa.setCell ⟨W.heap.size + 1, 0, none⟩ (.int .i64 1) = w3 at *
      obtain ⟨c0, c1, f1⟩ := HR3.out.cells
      obtain ⟨t0, t1, t2, tf0, tf1, tf2⟩ := HT3.out.cells
      have hsl1 : (k : Int) ≤ ((j : Nat) : Int) := by omega
      have hsl2 : ((j : Nat) : Int) ≤ (s.size : Int) := by omega
      go_region
      rw [mid_extract]
      have HR4 := Lib.hid (show RM ((w3.setCell ⟨W.heap.size + 1, 1, none⟩ (.string (st (mid s.data.toList k (j))))).drew) p s (j) from HR3.out.other hPT2)
      have HT4 := Lib.hid (show TKP ((w3.setCell ⟨W.heap.size + 1, 1, none⟩ (.string (st (mid s.data.toList k (j))))).drew) (W.heap.size + 1) 1 (mid s.data.toList k (j)) k from HT3.out.setText _)
      have HZ4 := Lib.hid (show TKP ((w3.setCell ⟨W.heap.size + 1, 1, none⟩ (.string (st (mid s.data.toList k (j))))).drew) W.heap.size 0 [] 0 from HZ3.out.other (by omega))
      have HG4 := Lib.hid (show Fr (Up p W.heap.size) W ((w3.setCell ⟨W.heap.size + 1, 1, none⟩ (.string (st (mid s.data.toList k (j))))).drew) from (HG3.out.setCell (p := ⟨W.heap.size + 1, 1, none⟩) (.inl (.inr (by simp))) _).drew)
      generalize (w3.setCell ⟨W.heap.size + 1, 1, none⟩ (.string (st (mid s.data.toList k (j))))).drew = w4 at *
      clear c0 c1 f1 t0 t1 t2 tf0 tf1 tf2
      obtain ⟨c0, c1, f1⟩ := HR4.out.cells
      obtain ⟨t0, t1, t2, tf0, tf1, tf2⟩ := HT4.out.cells
      obtain ⟨z0, z1, z2, zf0, zf1, zf2⟩ := HZ4.out.cells
      go_wp2_with (first | (go_at_call 36; (with_reducible refine (HD.out _).mono ?_); rintro e w4 ⟨rfl, rfl⟩))
      exact bodyPost_ret (resTok Try.f21 3 rfl (HZ4.out.all 1 (mid s.data.toList k (j)) k) _ rfl rfl) rfl ⟨⟨1, mid s.data.toList k (j), k⟩, rfl, ((HR4.out.other hPG2).other hPG2).other hPG2, (((HG4.out.setCell (p := ⟨W.heap.size, 0, none⟩) (.inl (.inr (Nat.le_refl _))) _).setCell (p := ⟨W.heap.size, 1, none⟩) (.inl (.inr (Nat.le_refl _))) _).setCell (p := ⟨W.heap.size, 2, none⟩) (.inl (.inr (Nat.le_refl _))) _).down, fun j hj => by injection hj with hj; subst hj; exact HV.out⟩
    case ok.true.false.false =>
      rw [hdg] at HD HVW
      have HV := Lib.hid (HVW.out false false hb1 hb2 1 rfl)
      have N1 := Lib.hid (N1.out false hb1)
      have N2 := Lib.hid (N2.out false hb2)
      clear hdg hb1 hb2 HVW
      go_enter Try.func21, Try.ntmps21
      go_upto_region 2 with fail
      obtain ⟨c0, c1, f1⟩ := HR1.out.cells
      obtain ⟨t0, t1, t2, tf0, tf1, tf2⟩ := HT1.out.cells
      obtain ⟨z0, z1, z2, zf0, zf1, zf2⟩ := HZ1.out.cells
      generalize (W.alloc (.cells #[.int .i64 0, .string ⟨#[]⟩, .int .i64 0] 40)).alloc (.cells #[.int .i64 2, .string ⟨#[]⟩, .int .i64 k] 40) = w1 at *
      go_upto_region 9 with (first | (go_at_call 34; (with_reducible refine (HT.out _ HR1.out).mono ?_); rintro e w2 ⟨rfl, hR, hF⟩; obtain ⟨c0, c1, f1⟩ := hR.cells; have hT := HT1.out.fr hF HPT.out; obtain ⟨t0, t1, t2, tf0, tf1, tf2⟩ := hT.cells; have hZ := HZ1.out.fr hF HPG.out; obtain ⟨z0, z1, z2, zf0, zf1, zf2⟩ := hZ.cells; have HR2 := Lib.hid hR; have HG2 := Lib.hid (HG1.out.trans (hF.up HPG.out)); have HT2 := Lib.hid hT; have HZ2 := Lib.hid hZ; clear hR hF hT hZ) | (go_at_call 33; (with_reducible refine (HSG.out _).mono ?_); rintro e w2 ⟨rfl, rfl⟩) | (go_at_call 35; (with_reducible refine (HW.out _ HR2.out).mono ?_); rintro e wa ⟨rfl, hR, hF⟩; obtain ⟨c0, c1, f1⟩ := hR.cells; have hT := HT2.out.fr hF HPT.out; obtain ⟨t0, t1, t2, tf0, tf1, tf2⟩ := hT.cells; have hZ := HZ2.out.fr hF HPG.out; obtain ⟨z0, z1, z2, zf0, zf1, zf2⟩ := hZ.cells; have HRa := Lib.hid (show RM wa p s j from hR); have HGa := Lib.hid (HG2.out.trans (hF.up HPG.out)); have HTa := Lib.hid hT; have HZa := Lib.hid hZ; clear hR hF hT hZ))
      have HR3 := Lib.hid (show RM (wa.setCell ⟨W.heap.size + 1, 0, none⟩ (.int .i64 1)) p s j from HRa.out.other hPT2)
      have HT3 := Lib.hid (HTa.out.setKind 1)
      have HZ3 := Lib.hid (HZa.out.other (q := W.heap.size + 1) (v := .int .i64 1) (o := 0) (by omega))
      have HG3 := Lib.hid (HGa.out.setCell (p := ⟨W.heap.size + 1, 0, none⟩) (.inl (.inr (by simp))) (.int .i64 1))
      clear c0 c1 f1 t0 t1 t2 tf0 tf1 tf2 z0 z1 z2 zf0 zf1 zf2
      generalize wa.setCell ⟨W.heap.size + 1, 0, none⟩ (.int .i64 1) = w3 at *
      obtain ⟨c0, c1, f1⟩ := HR3.out.cells
      obtain ⟨t0, t1, t2, tf0, tf1, tf2⟩ := HT3.out.cells
      have hsl1 : (k : Int) ≤ ((j : Nat) : Int) := by omega
      have hsl2 : ((j : Nat) : Int) ≤ (s.size : Int) := by omega
      go_region
      rw [mid_extract]
      have HR4 := Lib.hid (show RM ((w3.setCell ⟨W.heap.size + 1, 1, none⟩ (.string (st (mid s.data.toList k (j))))).drew) p s (j) from HR3.out.other hPT2)
      have HT4 := Lib.hid (show TKP ((w3.setCell ⟨W.heap.size + 1, 1, none⟩ (.string (st (mid s.data.toList k (j))))).drew) (W.heap.size + 1) 1 (mid s.data.toList k (j)) k from HT3.out.setText _)
      have HZ4 := Lib.hid (show TKP ((w3.setCell ⟨W.heap.size + 1, 1, none⟩ (.string (st (mid s.data.toList k (j))))).drew) W.heap.size 0 [] 0 from HZ3.out.other (by omega))
      have HG4 := Lib.hid (show Fr (Up p W.heap.size) W ((w3.setCell ⟨W.heap.size + 1, 1, none⟩ (.string (st (mid s.data.toList k (j))))).drew) from (HG3.out.setCell (p := ⟨W.heap.size + 1, 1, none⟩) (.inl (.inr (by simp))) _).drew)
      generalize (w3.setCell ⟨W.heap.size + 1, 1, none⟩ (.string (st (mid s.data.toList k (j))))).drew = w4 at *
      clear c0 c1 f1 t0 t1 t2 tf0 tf1 tf2
      obtain ⟨c0, c1, f1⟩ := HR4.out.cells
      obtain ⟨t0, t1, t2, tf0, tf1, tf2⟩ := HT4.out.cells
      obtain ⟨z0, z1, z2, zf0, zf1, zf2⟩ := HZ4.out.cells
      go_wp2_with (first | (go_at_call 36; (with_reducible refine (HD.out _).mono ?_); rintro e w4 ⟨rfl, rfl⟩) | (go_at_call 31; (with_reducible refine (N1.out _ HR4.out).mono ?_); rintro e w5 ⟨rfl, hR, hF⟩; obtain ⟨c0, c1, f1⟩ := hR.cells; have hT := HT4.out.fr hF HPT.out; obtain ⟨t0, t1, t2, tf0, tf1, tf2⟩ := hT.cells; have hZ := HZ4.out.fr hF HPG.out; obtain ⟨z0, z1, z2, zf0, zf1, zf2⟩ := hZ.cells; have HR5 := Lib.hid hR; have HG5 := Lib.hid (HG4.out.trans (hF.up HPG.out)); have HT5 := Lib.hid hT; have HZ5 := Lib.hid hZ; clear hR hF hT hZ) | (go_at_call 31; (with_reducible refine (N2.out _ HR5.out).mono ?_); rintro e w6 ⟨rfl, hR, hF⟩; obtain ⟨c0, c1, f1⟩ := hR.cells; have hT := HT5.out.fr hF HPT.out; obtain ⟨t0, t1, t2, tf0, tf1, tf2⟩ := hT.cells; have hZ := HZ5.out.fr hF HPG.out; obtain ⟨z0, z1, z2, zf0, zf1, zf2⟩ := hZ.cells; have HR6 := Lib.hid hR; have HG6 := Lib.hid (HG5.out.trans (hF.up HPG.out)); have HT6 := Lib.hid hT; have HZ6 := Lib.hid hZ; clear hR hF hT hZ))
      exact bodyPost_ret (resTok Try.f21 3 rfl (HZ6.out.all 1 (mid s.data.toList k (j)) k) _ rfl rfl) rfl ⟨⟨1, mid s.data.toList k (j), k⟩, rfl, ((HR6.out.other hPG2).other hPG2).other hPG2, (((HG6.out.setCell (p := ⟨W.heap.size, 0, none⟩) (.inl (.inr (Nat.le_refl _))) _).setCell (p := ⟨W.heap.size, 1, none⟩) (.inl (.inr (Nat.le_refl _))) _).setCell (p := ⟨W.heap.size, 2, none⟩) (.inl (.inr (Nat.le_refl _))) _).down, fun j hj => by injection hj with hj; subst hj; exact HV.out⟩
    case ok.true.false.true =>
      rw [hdg] at HD HVW
      have HV := Lib.hid (HVW.out false true hb1 hb2 3 rfl)
      have N1 := Lib.hid (N1.out false hb1)
      have N2 := Lib.hid (N2.out true hb2)
      clear hdg hb1 hb2 HVW
      go_enter Try.func21, Try.ntmps21
      go_upto_region 2 with fail
      obtain ⟨c0, c1, f1⟩ := HR1.out.cells
      obtain ⟨t0, t1, t2, tf0, tf1, tf2⟩ := HT1.out.cells
      obtain ⟨z0, z1, z2, zf0, zf1, zf2⟩ := HZ1.out.cells
      generalize (W.alloc (.cells #[.int .i64 0, .string ⟨#[]⟩, .int .i64 0] 40)).alloc (.cells #[.int .i64 2, .string ⟨#[]⟩, .int .i64 k] 40) = w1 at *
      go_upto_region 9 with (first | (go_at_call 34; (with_reducible refine (HT.out _ HR1.out).mono ?_); rintro e w2 ⟨rfl, hR, hF⟩; obtain ⟨c0, c1, f1⟩ := hR.cells; have hT := HT1.out.fr hF HPT.out; obtain ⟨t0, t1, t2, tf0, tf1, tf2⟩ := hT.cells; have hZ := HZ1.out.fr hF HPG.out; obtain ⟨z0, z1, z2, zf0, zf1, zf2⟩ := hZ.cells; have HR2 := Lib.hid hR; have HG2 := Lib.hid (HG1.out.trans (hF.up HPG.out)); have HT2 := Lib.hid hT; have HZ2 := Lib.hid hZ; clear hR hF hT hZ) | (go_at_call 33; (with_reducible refine (HSG.out _).mono ?_); rintro e w2 ⟨rfl, rfl⟩) | (go_at_call 35; (with_reducible refine (HW.out _ HR2.out).mono ?_); rintro e wa ⟨rfl, hR, hF⟩; obtain ⟨c0, c1, f1⟩ := hR.cells; have hT := HT2.out.fr hF HPT.out; obtain ⟨t0, t1, t2, tf0, tf1, tf2⟩ := hT.cells; have hZ := HZ2.out.fr hF HPG.out; obtain ⟨z0, z1, z2, zf0, zf1, zf2⟩ := hZ.cells; have HRa := Lib.hid (show RM wa p s j from hR); have HGa := Lib.hid (HG2.out.trans (hF.up HPG.out)); have HTa := Lib.hid hT; have HZa := Lib.hid hZ; clear hR hF hT hZ))
      have HR3 := Lib.hid (show RM (wa.setCell ⟨W.heap.size + 1, 0, none⟩ (.int .i64 1)) p s j from HRa.out.other hPT2)
      have HT3 := Lib.hid (HTa.out.setKind 1)
      have HZ3 := Lib.hid (HZa.out.other (q := W.heap.size + 1) (v := .int .i64 1) (o := 0) (by omega))
      have HG3 := Lib.hid (HGa.out.setCell (p := ⟨W.heap.size + 1, 0, none⟩) (.inl (.inr (by simp))) (.int .i64 1))
      clear c0 c1 f1 t0 t1 t2 tf0 tf1 tf2 z0 z1 z2 zf0 zf1 zf2
      generalize wa.setCell ⟨W.heap.size + 1, 0, none⟩ (.int .i64 1) = w3 at *
      obtain ⟨c0, c1, f1⟩ := HR3.out.cells
      obtain ⟨t0, t1, t2, tf0, tf1, tf2⟩ := HT3.out.cells
      have hsl1 : (k : Int) ≤ ((j : Nat) : Int) := by omega
      have hsl2 : ((j : Nat) : Int) ≤ (s.size : Int) := by omega
      go_region
      rw [mid_extract]
      have HR4 := Lib.hid (show RM ((w3.setCell ⟨W.heap.size + 1, 1, none⟩ (.string (st (mid s.data.toList k (j))))).drew) p s (j) from HR3.out.other hPT2)
      have HT4 := Lib.hid (show TKP ((w3.setCell ⟨W.heap.size + 1, 1, none⟩ (.string (st (mid s.data.toList k (j))))).drew) (W.heap.size + 1) 1 (mid s.data.toList k (j)) k from HT3.out.setText _)
      have HZ4 := Lib.hid (show TKP ((w3.setCell ⟨W.heap.size + 1, 1, none⟩ (.string (st (mid s.data.toList k (j))))).drew) W.heap.size 0 [] 0 from HZ3.out.other (by omega))
      have HG4 := Lib.hid (show Fr (Up p W.heap.size) W ((w3.setCell ⟨W.heap.size + 1, 1, none⟩ (.string (st (mid s.data.toList k (j))))).drew) from (HG3.out.setCell (p := ⟨W.heap.size + 1, 1, none⟩) (.inl (.inr (by simp))) _).drew)
      generalize (w3.setCell ⟨W.heap.size + 1, 1, none⟩ (.string (st (mid s.data.toList k (j))))).drew = w4 at *
      clear c0 c1 f1 t0 t1 t2 tf0 tf1 tf2
      obtain ⟨c0, c1, f1⟩ := HR4.out.cells
      obtain ⟨t0, t1, t2, tf0, tf1, tf2⟩ := HT4.out.cells
      obtain ⟨z0, z1, z2, zf0, zf1, zf2⟩ := HZ4.out.cells
      go_wp2_with (first | (go_at_call 36; (with_reducible refine (HD.out _).mono ?_); rintro e w4 ⟨rfl, rfl⟩) | (go_at_call 31; (with_reducible refine (N1.out _ HR4.out).mono ?_); rintro e w5 ⟨rfl, hR, hF⟩; obtain ⟨c0, c1, f1⟩ := hR.cells; have hT := HT4.out.fr hF HPT.out; obtain ⟨t0, t1, t2, tf0, tf1, tf2⟩ := hT.cells; have hZ := HZ4.out.fr hF HPG.out; obtain ⟨z0, z1, z2, zf0, zf1, zf2⟩ := hZ.cells; have HR5 := Lib.hid hR; have HG5 := Lib.hid (HG4.out.trans (hF.up HPG.out)); have HT5 := Lib.hid hT; have HZ5 := Lib.hid hZ; clear hR hF hT hZ) | (go_at_call 31; (with_reducible refine (N2.out _ HR5.out).mono ?_); rintro e w6 ⟨rfl, hR, hF⟩; obtain ⟨c0, c1, f1⟩ := hR.cells; have hT := HT5.out.fr hF HPT.out; obtain ⟨t0, t1, t2, tf0, tf1, tf2⟩ := hT.cells; have hZ := HZ5.out.fr hF HPG.out; obtain ⟨z0, z1, z2, zf0, zf1, zf2⟩ := hZ.cells; have HR6 := Lib.hid hR; have HG6 := Lib.hid (HG5.out.trans (hF.up HPG.out)); have HT6 := Lib.hid hT; have HZ6 := Lib.hid hZ; clear hR hF hT hZ))
      exact bodyPost_ret (resTok Try.f21 3 rfl ((HZ6.out.other (q := W.heap.size + 1) (v := .int .i64 3) (o := 0) (by omega)).all 3 (mid s.data.toList k j) k) _ rfl rfl) rfl ⟨⟨3, mid s.data.toList k j, k⟩, rfl, (((HR6.out.other hPT2).other hPG2).other hPG2).other hPG2, ((((HG6.out.setCell (p := ⟨W.heap.size + 1, 0, none⟩) (.inl (.inr (by simp))) (.int .i64 3)).setCell (p := ⟨W.heap.size, 0, none⟩) (.inl (.inr (Nat.le_refl _))) _).setCell (p := ⟨W.heap.size, 1, none⟩) (.inl (.inr (Nat.le_refl _))) _).setCell (p := ⟨W.heap.size, 2, none⟩) (.inl (.inr (Nat.le_refl _))) _).down, fun j hj => by injection hj with hj; subst hj; exact HV.out⟩
    case ok.true.true.false =>
      rw [hdg] at HD HVW
      have HV := Lib.hid (HVW.out true false hb1 hb2 3 rfl)
      have N1 := Lib.hid (N1.out true hb1)
      have N2 := Lib.hid (N2.out false hb2)
      clear hdg hb1 hb2 HVW
      go_enter Try.func21, Try.ntmps21
      go_upto_region 2 with fail
      obtain ⟨c0, c1, f1⟩ := HR1.out.cells
      obtain ⟨t0, t1, t2, tf0, tf1, tf2⟩ := HT1.out.cells
      obtain ⟨z0, z1, z2, zf0, zf1, zf2⟩ := HZ1.out.cells
      generalize (W.alloc (.cells #[.int .i64 0, .string ⟨#[]⟩, .int .i64 0] 40)).alloc (.cells #[.int .i64 2, .string ⟨#[]⟩, .int .i64 k] 40) = w1 at *
      go_upto_region 9 with (first | (go_at_call 34; (with_reducible refine (HT.out _ HR1.out).mono ?_); rintro e w2 ⟨rfl, hR, hF⟩; obtain ⟨c0, c1, f1⟩ := hR.cells; have hT := HT1.out.fr hF HPT.out; obtain ⟨t0, t1, t2, tf0, tf1, tf2⟩ := hT.cells; have hZ := HZ1.out.fr hF HPG.out; obtain ⟨z0, z1, z2, zf0, zf1, zf2⟩ := hZ.cells; have HR2 := Lib.hid hR; have HG2 := Lib.hid (HG1.out.trans (hF.up HPG.out)); have HT2 := Lib.hid hT; have HZ2 := Lib.hid hZ; clear hR hF hT hZ) | (go_at_call 33; (with_reducible refine (HSG.out _).mono ?_); rintro e w2 ⟨rfl, rfl⟩) | (go_at_call 35; (with_reducible refine (HW.out _ HR2.out).mono ?_); rintro e wa ⟨rfl, hR, hF⟩; obtain ⟨c0, c1, f1⟩ := hR.cells; have hT := HT2.out.fr hF HPT.out; obtain ⟨t0, t1, t2, tf0, tf1, tf2⟩ := hT.cells; have hZ := HZ2.out.fr hF HPG.out; obtain ⟨z0, z1, z2, zf0, zf1, zf2⟩ := hZ.cells; have HRa := Lib.hid (show RM wa p s j from hR); have HGa := Lib.hid (HG2.out.trans (hF.up HPG.out)); have HTa := Lib.hid hT; have HZa := Lib.hid hZ; clear hR hF hT hZ))
      have HR3 := Lib.hid (show RM (wa.setCell ⟨W.heap.size + 1, 0, none⟩ (.int .i64 1)) p s j from HRa.out.other hPT2)
      have HT3 := Lib.hid (HTa.out.setKind 1)
      have HZ3 := Lib.hid (HZa.out.other (q := W.heap.size + 1) (v := .int .i64 1) (o := 0) (by omega))
      have HG3 := Lib.hid (HGa.out.setCell (p := ⟨W.heap.size + 1, 0, none⟩) (.inl (.inr (by simp))) (.int .i64 1))
      clear c0 c1 f1 t0 t1 t2 tf0 tf1 tf2 z0 z1 z2 zf0 zf1 zf2
      generalize wa.setCell ⟨W.heap.size + 1, 0, none⟩ (.int .i64 1) = w3 at *
      obtain ⟨c0, c1, f1⟩ := HR3.out.cells
      obtain ⟨t0, t1, t2, tf0, tf1, tf2⟩ := HT3.out.cells
      have hsl1 : (k : Int) ≤ ((j : Nat) : Int) := by omega
      have hsl2 : ((j : Nat) : Int) ≤ (s.size : Int) := by omega
      go_region
      rw [mid_extract]
      have HR4 := Lib.hid (show RM ((w3.setCell ⟨W.heap.size + 1, 1, none⟩ (.string (st (mid s.data.toList k (j))))).drew) p s (j) from HR3.out.other hPT2)
      have HT4 := Lib.hid (show TKP ((w3.setCell ⟨W.heap.size + 1, 1, none⟩ (.string (st (mid s.data.toList k (j))))).drew) (W.heap.size + 1) 1 (mid s.data.toList k (j)) k from HT3.out.setText _)
      have HZ4 := Lib.hid (show TKP ((w3.setCell ⟨W.heap.size + 1, 1, none⟩ (.string (st (mid s.data.toList k (j))))).drew) W.heap.size 0 [] 0 from HZ3.out.other (by omega))
      have HG4 := Lib.hid (show Fr (Up p W.heap.size) W ((w3.setCell ⟨W.heap.size + 1, 1, none⟩ (.string (st (mid s.data.toList k (j))))).drew) from (HG3.out.setCell (p := ⟨W.heap.size + 1, 1, none⟩) (.inl (.inr (by simp))) _).drew)
      generalize (w3.setCell ⟨W.heap.size + 1, 1, none⟩ (.string (st (mid s.data.toList k (j))))).drew = w4 at *
      clear c0 c1 f1 t0 t1 t2 tf0 tf1 tf2
      obtain ⟨c0, c1, f1⟩ := HR4.out.cells
      obtain ⟨t0, t1, t2, tf0, tf1, tf2⟩ := HT4.out.cells
      obtain ⟨z0, z1, z2, zf0, zf1, zf2⟩ := HZ4.out.cells
      go_wp2_with (first | (go_at_call 36; (with_reducible refine (HD.out _).mono ?_); rintro e w4 ⟨rfl, rfl⟩) | (go_at_call 31; (with_reducible refine (N1.out _ HR4.out).mono ?_); rintro e w5 ⟨rfl, hR, hF⟩; obtain ⟨c0, c1, f1⟩ := hR.cells; have hT := HT4.out.fr hF HPT.out; obtain ⟨t0, t1, t2, tf0, tf1, tf2⟩ := hT.cells; have hZ := HZ4.out.fr hF HPG.out; obtain ⟨z0, z1, z2, zf0, zf1, zf2⟩ := hZ.cells; have HR5 := Lib.hid hR; have HG5 := Lib.hid (HG4.out.trans (hF.up HPG.out)); have HT5 := Lib.hid hT; have HZ5 := Lib.hid hZ; clear hR hF hT hZ))
      exact bodyPost_ret (resTok Try.f21 3 rfl ((HZ5.out.other (q := W.heap.size + 1) (v := .int .i64 3) (o := 0) (by omega)).all 3 (mid s.data.toList k j) k) _ rfl rfl) rfl ⟨⟨3, mid s.data.toList k j, k⟩, rfl, (((HR5.out.other hPT2).other hPG2).other hPG2).other hPG2, ((((HG5.out.setCell (p := ⟨W.heap.size + 1, 0, none⟩) (.inl (.inr (by simp))) (.int .i64 3)).setCell (p := ⟨W.heap.size, 0, none⟩) (.inl (.inr (Nat.le_refl _))) _).setCell (p := ⟨W.heap.size, 1, none⟩) (.inl (.inr (Nat.le_refl _))) _).setCell (p := ⟨W.heap.size, 2, none⟩) (.inl (.inr (Nat.le_refl _))) _).down, fun j hj => by injection hj with hj; subst hj; exact HV.out⟩
    case ok.true.true.true =>
      rw [hdg] at HD HVW
      have HV := Lib.hid (HVW.out true true hb1 hb2 3 rfl)
      have N1 := Lib.hid (N1.out true hb1)
      have N2 := Lib.hid (N2.out true hb2)
      clear hdg hb1 hb2 HVW
      go_enter Try.func21, Try.ntmps21
      go_upto_region 2 with fail
      obtain ⟨c0, c1, f1⟩ := HR1.out.cells
      obtain ⟨t0, t1, t2, tf0, tf1, tf2⟩ := HT1.out.cells
      obtain ⟨z0, z1, z2, zf0, zf1, zf2⟩ := HZ1.out.cells
      generalize (W.alloc (.cells #[.int .i64 0, .string ⟨#[]⟩, .int .i64 0] 40)).alloc (.cells #[.int .i64 2, .string ⟨#[]⟩, .int .i64 k] 40) = w1 at *
      go_upto_region 9 with (first | (go_at_call 34; (with_reducible refine (HT.out _ HR1.out).mono ?_); rintro e w2 ⟨rfl, hR, hF⟩; obtain ⟨c0, c1, f1⟩ := hR.cells; have hT := HT1.out.fr hF HPT.out; obtain ⟨t0, t1, t2, tf0, tf1, tf2⟩ := hT.cells; have hZ := HZ1.out.fr hF HPG.out; obtain ⟨z0, z1, z2, zf0, zf1, zf2⟩ := hZ.cells; have HR2 := Lib.hid hR; have HG2 := Lib.hid (HG1.out.trans (hF.up HPG.out)); have HT2 := Lib.hid hT; have HZ2 := Lib.hid hZ; clear hR hF hT hZ) | (go_at_call 33; (with_reducible refine (HSG.out _).mono ?_); rintro e w2 ⟨rfl, rfl⟩) | (go_at_call 35; (with_reducible refine (HW.out _ HR2.out).mono ?_); rintro e wa ⟨rfl, hR, hF⟩; obtain ⟨c0, c1, f1⟩ := hR.cells; have hT := HT2.out.fr hF HPT.out; obtain ⟨t0, t1, t2, tf0, tf1, tf2⟩ := hT.cells; have hZ := HZ2.out.fr hF HPG.out; obtain ⟨z0, z1, z2, zf0, zf1, zf2⟩ := hZ.cells; have HRa := Lib.hid (show RM wa p s j from hR); have HGa := Lib.hid (HG2.out.trans (hF.up HPG.out)); have HTa := Lib.hid hT; have HZa := Lib.hid hZ; clear hR hF hT hZ))
      have HR3 := Lib.hid (show RM (wa.setCell ⟨W.heap.size + 1, 0, none⟩ (.int .i64 1)) p s j from HRa.out.other hPT2)
      have HT3 := Lib.hid (HTa.out.setKind 1)
      have HZ3 := Lib.hid (HZa.out.other (q := W.heap.size + 1) (v := .int .i64 1) (o := 0) (by omega))
      have HG3 := Lib.hid (HGa.out.setCell (p := ⟨W.heap.size + 1, 0, none⟩) (.inl (.inr (by simp))) (.int .i64 1))
      clear c0 c1 f1 t0 t1 t2 tf0 tf1 tf2 z0 z1 z2 zf0 zf1 zf2
      generalize wa.setCell ⟨W.heap.size + 1, 0, none⟩ (.int .i64 1) = w3 at *
      obtain ⟨c0, c1, f1⟩ := HR3.out.cells
      obtain ⟨t0, t1, t2, tf0, tf1, tf2⟩ := HT3.out.cells
      have hsl1 : (k : Int) ≤ ((j : Nat) : Int) := by omega
      have hsl2 : ((j : Nat) : Int) ≤ (s.size : Int) := by omega
      go_region
      rw [mid_extract]
      have HR4 := Lib.hid (show RM ((w3.setCell ⟨W.heap.size + 1, 1, none⟩ (.string (st (mid s.data.toList k (j))))).drew) p s (j) from HR3.out.other hPT2)
      have HT4 := Lib.hid (show TKP ((w3.setCell ⟨W.heap.size + 1, 1, none⟩ (.string (st (mid s.data.toList k (j))))).drew) (W.heap.size + 1) 1 (mid s.data.toList k (j)) k from HT3.out.setText _)
      have HZ4 := Lib.hid (show TKP ((w3.setCell ⟨W.heap.size + 1, 1, none⟩ (.string (st (mid s.data.toList k (j))))).drew) W.heap.size 0 [] 0 from HZ3.out.other (by omega))
      have HG4 := Lib.hid (show Fr (Up p W.heap.size) W ((w3.setCell ⟨W.heap.size + 1, 1, none⟩ (.string (st (mid s.data.toList k (j))))).drew) from (HG3.out.setCell (p := ⟨W.heap.size + 1, 1, none⟩) (.inl (.inr (by simp))) _).drew)
      generalize (w3.setCell ⟨W.heap.size + 1, 1, none⟩ (.string (st (mid s.data.toList k (j))))).drew = w4 at *
      clear c0 c1 f1 t0 t1 t2 tf0 tf1 tf2
      obtain ⟨c0, c1, f1⟩ := HR4.out.cells
      obtain ⟨t0, t1, t2, tf0, tf1, tf2⟩ := HT4.out.cells
      obtain ⟨z0, z1, z2, zf0, zf1, zf2⟩ := HZ4.out.cells
      go_wp2_with (first | (go_at_call 36; (with_reducible refine (HD.out _).mono ?_); rintro e w4 ⟨rfl, rfl⟩) | (go_at_call 31; (with_reducible refine (N1.out _ HR4.out).mono ?_); rintro e w5 ⟨rfl, hR, hF⟩; obtain ⟨c0, c1, f1⟩ := hR.cells; have hT := HT4.out.fr hF HPT.out; obtain ⟨t0, t1, t2, tf0, tf1, tf2⟩ := hT.cells; have hZ := HZ4.out.fr hF HPG.out; obtain ⟨z0, z1, z2, zf0, zf1, zf2⟩ := hZ.cells; have HR5 := Lib.hid hR; have HG5 := Lib.hid (HG4.out.trans (hF.up HPG.out)); have HT5 := Lib.hid hT; have HZ5 := Lib.hid hZ; clear hR hF hT hZ))
      exact bodyPost_ret (resTok Try.f21 3 rfl ((HZ5.out.other (q := W.heap.size + 1) (v := .int .i64 3) (o := 0) (by omega)).all 3 (mid s.data.toList k j) k) _ rfl rfl) rfl ⟨⟨3, mid s.data.toList k j, k⟩, rfl, (((HR5.out.other hPT2).other hPG2).other hPG2).other hPG2, ((((HG5.out.setCell (p := ⟨W.heap.size + 1, 0, none⟩) (.inl (.inr (by simp))) (.int .i64 3)).setCell (p := ⟨W.heap.size, 0, none⟩) (.inl (.inr (Nat.le_refl _))) _).setCell (p := ⟨W.heap.size, 1, none⟩) (.inl (.inr (Nat.le_refl _))) _).setCell (p := ⟨W.heap.size, 2, none⟩) (.inl (.inr (Nat.le_refl _))) _).down, fun j hj => by injection hj with hj; subst hj; exact HV.out⟩
  | more =>
    clear hlt HVV
    go_enter Try.func21, Try.ntmps21
    go_upto_region 2 with fail
    obtain ⟨c0, c1, f1⟩ := HR1.out.cells
    obtain ⟨t0, t1, t2, tf0, tf1, tf2⟩ := HT1.out.cells
    obtain ⟨z0, z1, z2, zf0, zf1, zf2⟩ := HZ1.out.cells
    generalize (W.alloc (.cells #[.int .i64 0, .string ⟨#[]⟩, .int .i64 0] 40)).alloc (.cells #[.int .i64 2, .string ⟨#[]⟩, .int .i64 k] 40) = w1 at *
    go_wp2_with (first | (go_at_call 34; (with_reducible refine (HT.out _ HR1.out).mono ?_); rintro e w2 ⟨rfl, hR, hF⟩; obtain ⟨c0, c1, f1⟩ := hR.cells; have hT := HT1.out.fr hF HPT.out; obtain ⟨t0, t1, t2, tf0, tf1, tf2⟩ := hT.cells; have hZ := HZ1.out.fr hF HPG.out; obtain ⟨z0, z1, z2, zf0, zf1, zf2⟩ := hZ.cells; have HR2 := Lib.hid hR; have HG2 := Lib.hid (HG1.out.trans (hF.up HPG.out)); have HT2 := Lib.hid hT; have HZ2 := Lib.hid hZ; clear hR hF hT hZ) | (go_at_call 33; (with_reducible refine (HSG.out _).mono ?_); rintro e w2 ⟨rfl, rfl⟩) | (go_at_call 35; (with_reducible refine (HW.out _ HR2.out).mono ?_); rintro e wa ⟨rfl, hR, hF⟩; obtain ⟨c0, c1, f1⟩ := hR.cells; have hT := HT2.out.fr hF HPT.out; obtain ⟨t0, t1, t2, tf0, tf1, tf2⟩ := hT.cells; have hZ := HZ2.out.fr hF HPG.out; obtain ⟨z0, z1, z2, zf0, zf1, zf2⟩ := hZ.cells; have HRa := Lib.hid (hR); have HGa := Lib.hid (HG2.out.trans (hF.up HPG.out)); have HTa := Lib.hid hT; have HZa := Lib.hid hZ; clear hR hF hT hZ))
    exact bodyPost_ret (resTok Try.f21 3 rfl (HZa.out.all 0 [] 0) _ rfl rfl) rfl ⟨⟨0, [], 0⟩, rfl, ((HRa.out.other hPG2).other hPG2).other hPG2, (((HGa.out.setCell (p := ⟨W.heap.size, 0, none⟩) (.inl (.inr (Nat.le_refl _))) _).setCell (p := ⟨W.heap.size, 1, none⟩) (.inl (.inr (Nat.le_refl _))) _).setCell (p := ⟨W.heap.size, 2, none⟩) (.inl (.inr (Nat.le_refl _))) _).down, fun j hj => by cases hj⟩
  | deep z =>
    clear hlt HVV
    go_enter Try.func21, Try.ntmps21
    go_upto_region 2 with fail
    obtain ⟨c0, c1, f1⟩ := HR1.out.cells
    obtain ⟨t0, t1, t2, tf0, tf1, tf2⟩ := HT1.out.cells
    obtain ⟨z0, z1, z2, zf0, zf1, zf2⟩ := HZ1.out.cells
    generalize (W.alloc (.cells #[.int .i64 0, .string ⟨#[]⟩, .int .i64 0] 40)).alloc (.cells #[.int .i64 2, .string ⟨#[]⟩, .int .i64 k] 40) = w1 at *
    go_wp2_with (first | (go_at_call 34; (with_reducible refine (HT.out _ HR1.out).mono ?_); rintro e w2 ⟨rfl, hR, hF⟩; obtain ⟨c0, c1, f1⟩ := hR.cells; have hT := HT1.out.fr hF HPT.out; obtain ⟨t0, t1, t2, tf0, tf1, tf2⟩ := hT.cells; have hZ := HZ1.out.fr hF HPG.out; obtain ⟨z0, z1, z2, zf0, zf1, zf2⟩ := hZ.cells; have HR2 := Lib.hid hR; have HG2 := Lib.hid (HG1.out.trans (hF.up HPG.out)); have HT2 := Lib.hid hT; have HZ2 := Lib.hid hZ; clear hR hF hT hZ) | (go_at_call 33; (with_reducible refine (HSG.out _).mono ?_); rintro e w2 ⟨rfl, rfl⟩) | (go_at_call 35; (with_reducible refine (HW.out _ HR2.out).mono ?_); rintro e wa ⟨rfl, hR, hF⟩; obtain ⟨c0, c1, f1⟩ := hR.cells; have hT := HT2.out.fr hF HPT.out; obtain ⟨t0, t1, t2, tf0, tf1, tf2⟩ := hT.cells; have hZ := HZ2.out.fr hF HPG.out; obtain ⟨z0, z1, z2, zf0, zf1, zf2⟩ := hZ.cells; have HRa := Lib.hid (hR); have HGa := Lib.hid (HG2.out.trans (hF.up HPG.out)); have HTa := Lib.hid hT; have HZa := Lib.hid hZ; clear hR hF hT hZ))
    exact bodyPost_ret (resTok Try.f21 3 rfl (HZa.out.all 0 [] 0) _ rfl rfl) rfl ⟨⟨0, [], 0⟩, rfl, ((HRa.out.other hPG2).other hPG2).other hPG2, (((HGa.out.setCell (p := ⟨W.heap.size, 0, none⟩) (.inl (.inr (Nat.le_refl _))) _).setCell (p := ⟨W.heap.size, 1, none⟩) (.inl (.inr (Nat.le_refl _))) _).setCell (p := ⟨W.heap.size, 2, none⟩) (.inl (.inr (Nat.le_refl _))) _).down, fun j hj => by cases hj⟩
theorem token_any (W : World) (p : Nat) (s : ByteArray) (k : Nat) (hk : k < s.size) (hs : s.size ≤ maxLen) (hbeg : Beg s.data.toList k) (h : RM W p s k) :
    Calls Try.prog 21 #[.pointer (some ⟨p, 0, none⟩)] W (tokPost W p s k (tkR s.data.toList k)) := by
  unfold tkR
  by_cases h0 : 0 < sg (s.data.toList.drop k)
  · rw [if_pos h0]; exact token_sign W p s k hk hs h0 h
  · rw [if_neg h0]; exact token_word W p s k hk hs h0 hbeg h
end Go.Proofs.Ytoahgblgchmclaa
