import Derived.StillTailTactics
import Derived.Test.YtlpececggkdhmaaGreatM25
open Go.Lib (hid)
open List renaming getElem?_toArray → jD, getElem?_cons_succ → jE, getElem?_cons_zero → jF
set_option linter.unusedVariables false
set_option linter.unusedSimpArgs false
namespace Go.Proofs.YtlpececggkdhmaaGreat.Pa
open Go.RowKit Go.Shelf
attribute [local go_sem] Oper.semAt_some
theorem Tryz.infoString : (Tryz.prog.info? 9).map (fun i => (i.zero, i.size, i.bytes)) = some (some (.string ByteArray.empty), 1, 16) := by kernel_rfl
def splitV (l : List UInt8) (v : Value) : Value := .tuple #[.agg #[.bool (splAbs l), v, .bool (splDir l)], .int .i64 (splE l)]
def SplitPost (l : List UInt8) (w : World) (e : Ending) (w' : World) : Prop :=
 ∃ v, e = .returned (splitV l v) ∧ w'.ownsRow w.heap.size 9 1 v (splN l).length ((splN l).map strV) ∧ Below w.heap.size w w'
theorem len_spl (l : List UInt8) : (spl l).length ≤ l.length + 1 := by
 induction l with
 | nil => exact Nat.le_refl _
 | cons c r ih =>
  by_cases h : c = 47
  ·subst h; rw [spl_sep]; simp; omega
  ·rw [spl_cons c r h]
   cases hr : spl r with
   | nil => simp [glue]
   | cons p ps => rw [hr] at ih; simp [glue] at ih ⊢; omega
theorem len_nam (l : List UInt8) : (nam l).length ≤ l.length + 1 := Nat.le_trans (List.length_filter_le _ _) (len_spl l)
def spI (w : World) (pre : List (List UInt8)) (W : World) : Prop :=
 ((∃ v, Boxed W (w.heap.size + 1 + 1) 54 v ∧ W.ownsRow w.heap.size 9 1 v pre.length (pre.map strV) ∧ True) ∧ (Blk W w.heap.size 95 #[.bool false, .slice none 0 0, .bool false] ∧ Blk W (w.heap.size + 1) 38 #[.int .i64 0]) ∧ pre.any longN = false) ∧ Below w.heap.size w W
def spX (w : World) (c : Code) (pre : List (List UInt8)) (W : World) : Prop :=
 (c = .ret ∧ (Blk W w.heap.size 95 #[.bool false, .slice none 0 0, .bool false] ∧ Blk W (w.heap.size + 1) 38 #[.int .i64 10]) ∧ pre.any longN = true) ∧ Below w.heap.size w W
theorem spI_own (w : World) (B : Nat) (hB : w.heap.size ≤ B) : OwnFrom B (spI w) :=
 OwnFrom.and (Own.from (Own.and2 (holdsRow_own w.heap.size (w.heap.size + 1 + 1) 54 9 1 (fun pre : List (List UInt8) => pre.length) (fun pre => pre.map strV) (fun _ _ => True)) (Own.and2 (Own.and2 (blk_own _ _ (fun _ => _)) (blk_own _ _ (fun _ => _))) (own_pure _))) _) (ownFrom_below (Nat.le_refl _) hB)
theorem spX_own (w : World) (B : Nat) (hB : w.heap.size ≤ B) (c : Code) : OwnFrom B (spX w c) :=
 OwnFrom.and (Own.from (Own.and2 (own_pure (fun _ => c = .ret)) (Own.and2 (Own.and2 (blk_own _ _ (fun _ => _)) (blk_own _ _ (fun _ => _))) (own_pure (fun pre : List (List UInt8) => pre.any longN = true)))) _) (ownFrom_below (Nat.le_refl _) hB)
theorem row_slice {W : World} {base : Nat} {e : TypeId} {size : Nat} {v : Value} {n : Nat} {xs : List Value} (h : W.ownsRow base e size v n xs) : ∃ a cap, v = .slice a n cap := by
 rcases h.2 with ⟨h1, h2⟩ | ⟨g, cap, _, h1, _⟩
 ·exact ⟨none, 0, by rw [h1, h2]⟩
 ·exact ⟨_, _, h1⟩
theorem Blk.not_row {W : World} {base : Nat} {e : TypeId} {size : Nat} {v : Value} {n : Nat} {xs : List Value} {B : Nat} {t : TypeId} {cs : Array Value} (hB : Blk W B t cs) (hte : t ≠ e) (h : W.ownsRow base e size v n xs) : some B ≠ v.ownBlock := by
 rcases h.2 with ⟨rfl, _⟩ | ⟨g, cap, cur, rfl, _, hgb, _⟩
 ·simp [Value.ownBlock]
 ·intro e'
  obtain rfl : B = g := by simpa [Value.ownBlock] using e'
  have := (show W.heap[B]? = _ from hB).symm.trans hgb
  simp at this
  exact hte this.2
theorem abs_at (s : ByteArray) (h : 0 < s.size) : (((s[0].toNat : Int) == 47) : Bool) = absP s.data.toList := by
 have e : s.data.toList = s[0] :: s.data.toList.drop 1 := by have := drop_eq s 0 h; rwa [List.drop_zero] at this
 unfold absP
 rw [e, List.head?_cons]
 by_cases hc : s[0] = 47
 ·refine (u8_true _ 47 hc).trans ?_; rw [hc]; rfl
 ·refine (u8_false _ 47 hc).trans ?_; rw [beq_eq_false_iff_ne.2 (fun x => hc (Option.some.inj x))]
theorem split_results (W : World) (B : Nat) (a b c e : Value) (h : Blk W B 95 #[a, b, c]) (g : Blk W (B + 1) 38 #[e]) (tmps : Array Value)
 (h2 : tmps.getD 2 undef = .pointer (some ⟨B, 0, none⟩)) (h3 : tmps.getD 3 undef = .pointer (some ⟨B + 1, 0, none⟩)) :
 (results Tryz.f53 tmps).run Tryz.prog W = .ok (.tuple #[.agg #[a, b, c], e]) W := by
 have c0 := h.cell 0
 have c1 := h.cell 1
 have c2 := h.cell 2
 have c3 := g.cell 0
 simp only [jD, jF, jE] at c0 c1 c2 c3
 simp only [Array.getD_eq_getD_getElem?] at h2 h3
 simp only [results, Tryz.f53]
 simp [go_sem, h2, h3, c0, c1, c2, c3]
theorem any_nam (l : List UInt8) : (nam l).any longN = anyLong l := by
 unfold nam anyLong
 induction spl l with
 | nil => rfl
 | cons p ps ih =>
  rw [List.filter_cons, List.any_cons]
  by_cases hk : keepN p = true
  ·rw [if_pos hk, List.any_cons, ih]
  ·rw [if_neg hk, ih]
   have : longN p = false := by
    unfold keepN at hk
    by_cases h1 : p = []
    ·subst h1; rfl
    ·by_cases h2 : p = [46]
     ·subst h2; rfl
     ·exact absurd (by simp [h1, h2]) hk
   rw [this, Bool.false_or]
theorem any_pre {l : List UInt8} {pre : List (List UInt8)} (h : pre <+: nam l) (hp : pre.any longN = true) : anyLong l = true := by
 obtain ⟨t, ht⟩ := h
 rw [← any_nam, ← ht, List.any_append, hp, Bool.true_or]
theorem splE_long {l : List UInt8} (h0 : l ≠ []) (hs : l.length ≤ 128) (h : anyLong l = true) : splE l = 10 := by
 unfold splE; rw [if_neg h0, if_neg (by omega), if_pos h]
theorem splE_bad {l : List UInt8} (h0 : l ≠ []) (hs : l.length ≤ 128) (h : anyLong l = false) (hb : anyBad l = true) : splE l = 1 := by
 unfold splE; rw [if_neg h0, if_neg (by omega), h, hb]; rfl
theorem splE_ok {l : List UInt8} (h0 : l ≠ []) (hs : l.length ≤ 128) (h : anyLong l = false) (hb : anyBad l = false) : splE l = 0 := by
 unfold splE; rw [if_neg h0, if_neg (by omega), h, hb]; rfl
theorem splitV_err {l : List UInt8} {k : Nat} (h : splE l = k) (hk : k ≠ 0) : splitV l (.slice none 0 0) = .tuple #[.agg #[.bool false, .slice none 0 0, .bool false], .int .i64 k] ∧ splN l = [] := by
 unfold splitV splAbs splDir splN
 rw [h, if_neg hk, if_neg hk, if_neg hk]
 exact ⟨rfl, rfl⟩
theorem splitV_ok {l : List UInt8} (h : splE l = 0) (v : Value) : splitV l v = .tuple #[.agg #[.bool (absP l), v, .bool (dirP l)], .int .i64 0] ∧ splN l = nam l := by
 unfold splitV splAbs splDir splN
 rw [h]; exact ⟨rfl, rfl⟩
set_option maxRecDepth 100000 in
set_option maxHeartbeats 2000000 in
theorem split_in (s : ByteArray) (h0 : s.data.toList ≠ []) (hs : s.size ≤ 128) (w : World) :
 CallsIn Fence.wide 6 Tryz.prog 53 #[.string s] w (SplitPost s.data.toList w) := by
 have he := isEmpty_no h0
 have hpos : 0 < s.size := by
  rcases Nat.eq_zero_or_pos s.size with h | h
  ·exact absurd (List.length_eq_zero_iff.1 (by rw [size_len]; exact h)) h0
  ·exact h
 obtain ⟨i0, hi, hz0, hz1, hz2⟩ := info_parts Tryz.infoString
 refine callsIn_of_wp_marks Tryz.func53 rfl trivial ?_ rfl
 simp only [Tryz.ntmps53, List.size_toArray, List.length_cons, List.length_nil, Nat.reduceAdd, Nat.reduceSub, Array.replicate_succ, Array.replicate_zero, List.push_toArray, List.append_toArray, List.nil_append, List.cons_append]
 gi_wp2_with (refine ⟨trivial, ?_⟩; gi_at_call 102; refine (names_in _ _ _).mono ?_; rintro e w' ⟨rfl, rfl⟩)
 have bR := ((Blk.new w 95 #[.bool false, .slice none 0 0, .bool false]).alloc (Obj.cells #[Value.int IntKind.i64 0] 38)).alloc (Obj.cells #[Value.slice none 0 0] 54)
 have bE := (Blk.new (w.alloc (.cells #[.bool false, .slice none 0 0, .bool false] 95)) 38 #[.int .i64 0]).alloc (Obj.cells #[Value.slice none 0 0] 54)
 have bO := Boxed.new ((w.alloc (.cells #[.bool false, .slice none 0 0, .bool false] 95)).alloc (.cells #[.int .i64 0] 38)) 54 (.slice none 0 0)
 have bN := Boxed.new (((w.alloc (.cells #[.bool false, .slice none 0 0, .bool false] 95)).alloc (.cells #[.int .i64 0] 38)).alloc (.cells #[.slice none 0 0] 54)) 9 (.string s)
 simp only [World.size_alloc] at bE bO bN
 have hB0 : Below w.heap.size w ((((w.alloc (.cells #[.bool false, .slice none 0 0, .bool false] 95)).alloc (.cells #[.int .i64 0] 38)).alloc (.cells #[.slice none 0 0] 54)).alloc (.cells #[.string s] 9)) :=
  ((((Below.refl _ w).alloc (Nat.le_refl _) _).alloc (by simp) _).alloc (by simp; omega) _).alloc (by simp; omega) _
 refine wpIn_rangeFunc_ownG rfl (by decide) (gf := 129) (lb := #[.pointer (some ⟨w.heap.size + 1 + 1 + 1, 0, none⟩)]) rfl trivial (enters_of Tryz.func129 (by kernel_rfl) rfl)
  (it_stops 5 (by decide) (w.heap.size + 1 + 1 + 1) w.heap.size s (by unfold maxLen; omega) _ (by simp) bN.cell) belowK_t (belowK_b (by simp; omega)) (Below.refl _ _) (fun _ => rfl)
  (spI w) (spX w) (spI_own w _ (by simp; omega)) (spX_own w _ (by simp; omega))
  ⟨⟨⟨_, bO.alloc _, World.ownsRow_nil _ _ _ _, trivial⟩, ⟨bR.alloc _, bE.alloc _⟩, rfl⟩, hB0⟩
  (fun x => { tmps := #[.string s, undef, .pointer (some ⟨w.heap.size, 0, none⟩), .pointer (some ⟨w.heap.size + 1, 0, none⟩), .pointer (some ⟨w.heap.size + 1 + 1, 0, none⟩), .string ⟨x.toArray⟩, .string s, .bool false,
    undef, .string s, .int .i64 (s.size : Int), .bool (decide ((128 : Int) < (s.size : Int))), undef,
    .string s, .func (.func 129) #[] #[.pointer (some ⟨w.heap.size + 1 + 1 + 1, 0, none⟩)], .string ⟨x.toArray⟩,
    undef, undef, undef, undef, undef, undef, undef, undef, undef, undef, undef, undef, undef, undef, undef,
    undef, undef, undef], defers := [] }) ?assign ?body ?done ?stop
 case assign =>
  intro l x W K hK
  gi_wp2
  exact hK
 case body =>
  rintro l pre x W ⟨⟨⟨v, hv, hrow, _⟩, ⟨hR, hE⟩, hp⟩, hB⟩ hlt
  have hpl := len_nam s.data.toList
  rw [size_len] at hpl
  have hsz := hB.size
  by_cases hx : 14 < x.length
  ·have hr0 := hR.cell 0
   have hr1 := hR.cell 1
   have hr2 := hR.cell 2
   have hf0 := hR.frozen 0
   have hf1 := hR.frozen 1
   have hf2 := hR.frozen 2
   have he0 := hE.cell 0
   have hef := hE.frozen 0
   gi_wp2
   obtain ⟨h1, h2, h3, h4⟩ := st4_all hR hE (Nat.le_refl _) (.bool false) (.slice none 0 0) (.bool false) (.int .i64 10)
   exact ⟨h3.from _, ⟨rfl, ⟨h1, h2⟩, by rw [List.any_append]; simp [longN, hx]⟩, hB.trans h4⟩
  ·have hc := hv.cell
   gi_wp2_with (gi_at_builtin; refine wpListIn_append_own _ rfl _ _ 54 rfl w.heap.size 9 i0 (.string ByteArray.empty) 1 16 Tryz.underlying54 hi hz0 hz1 hz2 rfl (by decide) _ _ _ rfl (hrow.alloc _) ⟨W.heap.size, 0, none⟩ 1 1 [.string ⟨x.toArray⟩] rfl rfl (cell_one_new _ _ _) (by simp [Value.oneCell']) (by unfold maxLen; omega) (by omega) (by have := hB.size; simp; omega) ?_; intro v' w1 hown' hgrow _; obtain ⟨g', cap', rfl⟩ := ownsRow_succ hown'; obtain ⟨hv1, hv2, hr2, hk2, hb2⟩ := hv.appended (by decide) hrow hB.size (by omega) hown' hgrow; have hc1 := hv1.cell; have hf1 := hv1.frozen)
   have hR2 : Blk (w1.setCell ⟨w.heap.size + 1 + 1, 0, none⟩ (.slice (some ⟨g', 0, none⟩) (pre.length + 1) cap')) w.heap.size 95 #[.bool false, .slice none 0 0, .bool false] :=
    ((hR.alloc _).kept hgrow (hR.not_row (by decide) hrow)).other _ _ _ (by omega)
   have hE2 : Blk (w1.setCell ⟨w.heap.size + 1 + 1, 0, none⟩ (.slice (some ⟨g', 0, none⟩) (pre.length + 1) cap')) (w.heap.size + 1) 38 #[.int .i64 0] :=
    ((hE.alloc _).kept hgrow (hE.not_row (by decide) hrow)).other _ _ _ (by omega)
   exact ⟨hk2.from _, hb2, ⟨⟨_, hv2, by simpa [strV] using hr2, trivial⟩, ⟨hR2, hE2⟩, by rw [List.any_append, hp]; simp [longN]; omega⟩, hB.trans hb2⟩
 case done =>
  rintro D ys W hD rfl ⟨⟨⟨v, hv, hrow, _⟩, ⟨hR, hE⟩, hp⟩, hB⟩ hK
  rw [any_nam] at hp
  have hl0 : s.data.toList.length ≤ 128 := by rw [size_len]; exact hs
  have hc := hv.cell
  have hm : s.size ≤ maxLen := by unfold maxLen; omega
  have hr0 := hR.cell 0
  have hr1 := hR.cell 1
  have hr2 := hR.cell 2
  have hf0 := hR.frozen 0
  have hf1 := hR.frozen 1
  have hf2 := hR.frozen 2
  have he0 := hE.cell 0
  have hef := hE.frozen 0
  cases hbad : anyBad s.data.toList
  ·have Hb := hid hbad
   have Hr := hid (splitV_ok (splE_ok h0 hl0 hp hbad) v)
   clear hbad
   obtain ⟨va, vc, hva⟩ := row_slice hrow
   subst hva
   gi_wp2_with (refine ⟨trivial, ?_⟩; gi_at_call 77; refine (callsIn_wide.2 (bad_any s hm _)).mono ?_; rintro e w' ⟨rfl, rfl⟩; rw [Hb.out])
   refine wpIn_wide.2 ?_
   refine wp_region_still_tail 7 (by kernel_rfl) (by kernel_rfl) ?_
   change wpStill _ _ W.drew (fun a' => wpList _ _ _ _ a' W.drew) _ _
   have hB2 : Below w.heap.size w W.drew := hB.drew
   have hrow2 : W.drew.ownsRow w.heap.size 9 1 _ (nam s.data.toList).length ((nam s.data.toList).map strV) := hrow
   have hR2 : Blk W.drew w.heap.size 95 #[.bool false, .slice none 0 0, .bool false] := hR
   have hE2 : Blk W.drew (w.heap.size + 1) 38 #[.int .i64 0] := hE
   have hv2 : Boxed W.drew (w.heap.size + 1 + 1) 54 _ := hv
   have hK2 : W.drew.heap[D]? = some (.deferred (some [])) := hK
   clear hB hrow hR hE hv hK hc hr0 hr1 hr2 hf0 hf1 hf2 he0 hef
   generalize W.drew = W2 at *
   have hc := hv2.cell
   have hr0 := hR2.cell 0
   have hr1 := hR2.cell 1
   have hr2 := hR2.cell 2
   have hf0 := hR2.frozen 0
   have hf1 := hR2.frozen 1
   have hf2 := hR2.frozen 2
   have he0 := hE2.cell 0
   have hef := hE2.frozen 0
   simp only [List.take_succ_cons, List.take_zero, List.drop_succ_cons, List.drop_zero]
   repeat still_step
   still_call ((ends_any s (by omega) _).mono fun e w' h => ⟨h.1, h.2.symm⟩)
   repeat still_step
   refine wpStill_nil ?_
   go_wp2
   gi_wp2
   obtain ⟨h1, h2, h3, h4⟩ := st4_all hR2 hE2 (Nat.le_refl _) (.bool ((s[0].toNat : Int) == 47)) (.slice va (nam s.data.toList).length vc) (.bool (dirP s.data.toList)) (.int .i64 0)
   have hK' := h3.same D _ hK2 rfl
   have g1 := h1.putObj (.deferred none) hK' rfl
   have g2 := h2.putObj (.deferred none) hK' rfl
   have hrow3 := ownsRow_putObj (st4_row hR2 hE2 (.bool ((s[0].toNat : Int) == 47)) (.slice va (nam s.data.toList).length vc) (.bool (dirP s.data.toList)) (.int .i64 0) (by decide) (by decide) hrow2) (.deferred none) hK' rfl
   refine ⟨by simp, .inl ⟨_, _, rfl, run_takeDeferred hK', ?_⟩⟩
   refine ⟨_, split_results _ _ _ _ _ _ g1 g2 _ rfl rfl, .slice va (nam s.data.toList).length vc, ?_, ?_, (hB2.trans h4).trans (belowK_b (w := w) (Nat.le_refl _) _ D _ _ (by simp at hD; omega) hK' rfl rfl)⟩
   ·rw [Hr.out.1, ← abs_at s hpos]
   ·rw [Hr.out.2]; exact hrow3
  ·have Hb := hid hbad
   obtain ⟨e1, e2⟩ := splitV_err (splE_bad h0 hl0 hp hbad) (by decide)
   have He1 := hid e1
   have He2 := hid e2
   clear hbad e1 e2
   gi_wp2_with (refine ⟨trivial, ?_⟩; gi_at_call 77; refine (callsIn_wide.2 (bad_any s hm _)).mono ?_; rintro e w' ⟨rfl, rfl⟩; rw [Hb.out])
   obtain ⟨h1, h2, h3, h4⟩ := st4_all hR hE (Nat.le_refl _) (.bool false) (.slice none 0 0) (.bool false) (.int .i64 1)
   have hK' := h3.same D _ hK rfl
   have g1 := h1.putObj (.deferred none) hK' rfl
   have g2 := h2.putObj (.deferred none) hK' rfl
   refine ⟨by simp, .inl ⟨_, _, rfl, run_takeDeferred hK', ?_⟩⟩
   refine ⟨splitV s.data.toList (.slice none 0 0), ?_, .slice none 0 0, rfl, ?_, (hB.trans h4).trans (belowK_b (w := w) (Nat.le_refl _) _ D _ _ (by simp at hD; omega) hK' rfl rfl)⟩
   ·rw [He1.out]; exact split_results _ _ _ _ _ _ g1 g2 _ rfl rfl
   ·rw [He2.out]; exact World.ownsRow_nil _ _ _ _
 case stop =>
  rintro D c pre W hD hpre ⟨⟨rfl, ⟨hR, hE⟩, hp⟩, hB⟩ hK
  have hl0 : s.data.toList.length ≤ 128 := by rw [size_len]; exact hs
  obtain ⟨e1, e2⟩ := splitV_err (splE_long h0 hl0 (any_pre hpre hp)) (by decide)
  gi_wp2
  have g1 := hR.putObj (.deferred none) hK rfl
  have g2 := hE.putObj (.deferred none) hK rfl
  refine ⟨by simp, .inl ⟨_, _, rfl, run_takeDeferred hK, ?_⟩⟩
  refine ⟨_, split_results _ _ _ _ _ _ g1 g2 _ rfl rfl, .slice none 0 0, ?_, ?_, hB.trans (belowK_b (w := w) (Nat.le_refl _) _ D _ _ (by simp at hD; omega) hK rfl rfl)⟩
  ·rw [e1]; rfl
  ·rw [e2]; exact World.ownsRow_nil _ _ _ _
theorem split_small (w : World) (k : Int) (l : List UInt8) (tmps : Array Value) (h2 : tmps.getD 2 undef = .pointer (some ⟨w.heap.size, 0, none⟩)) (h3 : tmps.getD 3 undef = .pointer (some ⟨w.heap.size + 1, 0, none⟩))
 (n : Nat) (hk : k = n) (he : splitV l (.slice none 0 0) = .tuple #[.agg #[.bool false, .slice none 0 0, .bool false], .int .i64 n] ∧ splN l = []) :
 bodyPost Tryz.prog Tryz.f53 (SplitPost l w) Exit.ret { tmps := tmps, defers := [] } ((w.alloc (.cells #[.bool false, .slice none 0 0, .bool false] 95)).alloc (.cells #[.int .i64 k] 38)) := by
 subst hk
 have bR := (Blk.new w 95 #[.bool false, .slice none 0 0, .bool false]).alloc (Obj.cells #[Value.int IntKind.i64 n] 38)
 have bE := Blk.new (w.alloc (.cells #[.bool false, .slice none 0 0, .bool false] 95)) 38 #[.int .i64 n]
 rw [World.size_alloc] at bE
 refine bodyPost_ret (split_results _ _ _ _ _ _ bR bE _ h2 h3) rfl ⟨.slice none 0 0, by rw [he.1], ?_, ?_⟩
 ·rw [he.2]; exact World.ownsRow_nil _ _ _ _
 ·exact ((Below.refl _ w).alloc (Nat.le_refl _) _).alloc (by simp) _
theorem split_any (s : ByteArray) (hs : s.size ≤ maxLen) (w : World) : Calls Tryz.prog 53 #[.string s] w (SplitPost s.data.toList w) := by
 unfold maxLen at hs
 by_cases h0 : s.data.toList = []
 ·have he := isEmpty_of h0
  have He := hid (splitV_err (show splE s.data.toList = 3 by unfold splE; rw [if_pos h0]) (by decide))
  clear h0
  go_enter Tryz.func53, Tryz.ntmps53
  go_wp2
  exact split_small w 3 _ _ rfl rfl 3 rfl He.out
 by_cases h128 : 128 < s.size
 ·have he := isEmpty_no h0
  have He := hid (splitV_err (show splE s.data.toList = 10 by unfold splE; rw [if_neg h0, if_pos (by rw [size_len]; exact h128)]) (by decide))
  clear h0
  go_enter Tryz.func53, Tryz.ntmps53
  go_wp2
  exact split_small w 10 _ _ rfl rfl 10 rfl He.out
 ·exact callsIn_wide.1 (split_in s h0 (by omega) w)
end Go.Proofs.YtlpececggkdhmaaGreat.Pa
