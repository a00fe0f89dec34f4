/- Contracts: All. -/
import Derived.Test.YtoahgblgchmclaaLJ
import Derived.Laws.AppendOwn
import Derived.Laws.AppendOwnNone
namespace Go.Proofs.Ytoahgblgchmclaa
open Go.RowKit
set_option linter.unusedVariables false
set_option linter.unusedSimpArgs false
theorem info_tok : ∃ i, Try.prog.info? 40 = some i ∧ i.zero = some (.agg #[.int .i64 0, .string .empty, .int .i64 0]) ∧ i.size = 3 ∧ i.bytes = 32 := by
  obtain ⟨i, hi⟩ : ∃ i, Try.prog.info? 40 = some i := by
    cases h : Try.prog.info? 40 with
    | none => have : (Try.prog.info? 40).isSome = true := by kernel_rfl
              rw [h] at this; cases this
    | some i => exact ⟨i, rfl⟩
  have h2 : (Try.prog.info? 40).map (fun i => (i.zero, i.size, i.bytes)) = some (some (.agg #[.int .i64 0, .string .empty, .int .i64 0]), 3, 32) := by kernel_rfl
  rw [hi] at h2
  simp only [Option.map_some, Option.some.injEq, Prod.mk.injEq] at h2
  exact ⟨i, hi, h2.1, h2.2.1, h2.2.2⟩
def tkC1 (t : Tk) : List Value := [.int .i64 t.kind, .string (st t.text), .int .i64 t.at_]
def tkC (ts : List Tk) : List Value := ts.flatMap tkC1
theorem tkC_app (a b : List Tk) : tkC (a ++ b) = tkC a ++ tkC b := by simp [tkC]
theorem tok_new (w : World) (x y z : Value) : ∀ j u, [x, y, z][j]? = some u → (w.alloc (.cells #[x, y, z] 40)).cell? ((⟨w.heap.size, 0, none⟩ : Addr).add j) = some u := by
  intro j u hj
  rw [Addr.add_lit, Nat.zero_add, cell_of_row _ w.heap.size j _ _ (0, 0) (heap_alloc_new w _)]
  match j, hj with
  | 0, hj => exact hj
  | 1, hj => exact hj
  | 2, hj => exact hj
/-- a row of tokens, from a block on. -/
def Row (W : World) (B : Nat) (v : Value) (ts : List Tk) : Prop := W.ownsRow B 40 3 v ts.length (tkC ts)
theorem Row.more {W : World} {B : Nat} {v : Value} {ts : List Tk} {t : Tk} (h : W.ownsRow B 40 3 v (ts.length + 1) (tkC ts ++ [.int .i64 t.kind, .string (st t.text), .int .i64 t.at_])) : Row W B v (ts ++ [t]) := by
  unfold Row
  rw [tkC_app, List.length_append]
  exact h
theorem row_blk {W : World} {B : Nat} {v : Value} {ts : List Tk} (h : Row W B v ts) {k : Nat} (hk : v.ownBlock = some k) : B ≤ k ∧ k < W.heap.size := by
  rcases h.2 with ⟨rfl, _⟩ | ⟨g, cap, cur, rfl, hb, hg, _⟩
  · simp [Value.ownBlock] at hk
  · simp [Value.ownBlock] at hk
    subst hk
    exact ⟨hb, heap_lt hg⟩
theorem Row.fr {S : Nat → Prop} {W W' : World} {B : Nat} {v : Value} {ts : List Tk} (h : Row W B v ts) (f : Fr S W W') (hs : ∀ k, B ≤ k → ¬ S k) : Row W' B v ts := by
  refine ⟨h.1, ?_⟩
  rcases h.2 with hn | ⟨g, cap, cur, rfl, hb, hg, rest⟩
  · exact .inl hn
  · exact .inr ⟨g, cap, cur, rfl, hb, (f.block g (heap_lt hg) (hs g hb)).trans hg, rest⟩
theorem Row.slice {W : World} {B : Nat} {v : Value} {ts : List Tk} (h : Row W B v ts) : ∃ ao cap, v = .slice ao ts.length cap ∧ ts.length ≤ cap := by
  rcases h.2 with ⟨rfl, h0⟩ | ⟨g, cap, cur, rfl, _, _, hc, _⟩
  · exact ⟨_, _, by rw [h0], by omega⟩
  · exact ⟨_, _, rfl, hc⟩
theorem Row.none (W : World) (B : Nat) : Row W B (.slice none 0 0) [] := World.ownsRow_nil W B 40 3
theorem Row.weak {W : World} {B B' : Nat} {v : Value} {ts : List Tk} (h : Row W B v ts) (hb : B' ≤ B) : Row W B' v ts := by
  refine ⟨h.1, ?_⟩
  rcases h.2 with hn | ⟨g, cap, cur, rfl, hb2, rest⟩
  · exact .inl hn
  · exact .inr ⟨g, cap, cur, rfl, Nat.le_trans hb hb2, rest⟩
def aT : Ans → List Tk
  | .ok ts => ts
  | .err _ _ => []
def aK : Ans → Nat
  | .ok _ => 0
  | .err k _ => k
def aE : Ans → Int
  | .ok _ => 0
  | .err _ e => e
def allPost (W : World) (A : Ans) (e : Ending) (w' : World) : Prop :=
  ∃ v, e = .returned (.tuple #[v, .int .i64 (aK A), .int .i64 (aE A)]) ∧ Row w' W.heap.size v (aT A) ∧ Fr (fun _ => False) W w'
/-- how a row grows: the world behind it. -/
theorem row_grown {W w w5 : World} {v : Value} {p : Nat} (F : Fr (fun _ => False) W w) (hp : W.heap.size ≤ p) (hB : ∀ k, v.ownBlock = some k → p ≤ k) (g : w.grownBy w5 v.ownBlock) : Fr (fun _ => False) W w5 :=
  ⟨g.os.trans F.os, g.tape.trans F.tape, g.output.trans F.output, Nat.le_trans F.size g.size, fun i hi _ => (g.block i (Nat.lt_of_lt_of_le hi F.size) (fun e => by have := hB i e.symm; omega)).trans (F.block i hi id)⟩
theorem grown_fr {w w5 : World} {row : Option Nat} (g : w.grownBy w5 row) : Fr (fun k => row = some k) w w5 :=
  ⟨g.os, g.tape, g.output, g.size, fun i hi hn => g.block i hi (fun e => hn e.symm)⟩
def alRel (W : World) (s : ByteArray) (A : Ans) (lv : Value) (wr : World) : Prop :=
  ∃ (j : Nat) (ts : List Tk), RM wr W.heap.size s j ∧ Fr (fun _ => False) W wr ∧ Row wr (W.heap.size + 1) lv ts ∧ j ≤ s.size ∧ To s.data.toList j ts A ∧ (j < s.size → Beg s.data.toList j) ∧ ts.length ≤ 400
theorem fr_fresh {W w w' : World} {p : Nat} (F : Fr (fun _ => False) W w) (h : Fr (· = p) w w') (hp : W.heap.size ≤ p) : Fr (fun _ => False) W w' :=
  ⟨h.os.trans F.os, h.tape.trans F.tape, h.output.trans F.output, Nat.le_trans F.size h.size, fun i hi _ => (h.block i (Nat.lt_of_lt_of_le hi F.size) (by omega)).trans (F.block i hi id)⟩
set_option maxHeartbeats 8000000 in
theorem pAll_loop (s : ByteArray) (hs : s.size ≤ 4096) (W : World) :
    Calls Try.prog 14 #[.string s] W (allPost W (allL s.data.toList s.data.toList.length 0 [])) := by
  have hs' : s.size ≤ maxLen := by unfold maxLen; omega
  obtain ⟨i0, hi, hz0, hz1, hz2⟩ := info_tok
  obtain ⟨A, hA⟩ : ∃ A, allL s.data.toList s.data.toList.length 0 [] = A := ⟨_, rfl⟩
  rw [hA]
  have HT0 := Lib.hid (show To s.data.toList 0 [] A from ⟨_, by omega, hA⟩)
  clear hA
  have HR0 := Lib.hid (RM.new W s)
  have HF0 := Lib.hid ((Fr.refl (fun _ => False) W).alloc (.cells #[.string s, .int .i64 0] 54))
  have HSK := Lib.hid (fun w k hk (h : RM w W.heap.size s k) => skip_any w W.heap.size s k hk hs' h)
  go_enter Try.func14, Try.ntmps14
  go_wp2_with (go_at_call 19; (with_reducible refine (HSK.out _ 0 (Nat.zero_le _) HR0.out).mono ?_); rintro e w1 ⟨rfl, j, hR, hF, _, hj, ht, hb⟩; have HR1 := Lib.hid hR; have HF1 := Lib.hid (fr_fresh HF0.out hF (Nat.le_refl _)); have HT1 := Lib.hid (ht _ _ HT0.out); have HB1 := Lib.hid hb; clear hR hF ht hb)
  go_loopw [6, 7, 8] (fun lv _ _ wr => alRel W s A lv wr) (fun _ _ _ wr => s.size - atOf wr W.heap.size)
  case atStart => exact ⟨j, [], HR1.out, HF1.out, Row.none _ _, hj, HT1.out, HB1.out, Nat.zero_le _⟩
  case round =>
    obtain ⟨j, ts, hR, hF, hrow, hj, hto, hbeg, hlen⟩ := hrel
    clear HT0 HR0 HF0 HR1 HF1 HT1 HB1
    have HSZ0 := Lib.hid (heap_lt hR)
    have HM := Lib.hid hR.atOf
    have HF := Lib.hid hF
    have HROW := Lib.hid hrow
    by_cases hjs : j < s.size
    · have HE := Lib.hid (ended_no wr _ s j hjs hs' hR)
      have hb := hbeg hjs
      have hll : j < s.data.toList.length := by rw [size_len]; exact hjs
      by_cases h400 : ts.length = 400
      · have HV := Lib.hid (hto.many hll hb h400)
        obtain ⟨ao, cap, rfl, hcap⟩ := hrow.slice
        clear hR hF hrow hto hbeg hb hll
        go_wp2_with (go_at_call 20; (with_reducible refine HE.out.mono ?_); rintro e w2 ⟨rfl, hR, hF⟩; obtain ⟨c0, c1, f1⟩ := hR.cells; have HR2 := Lib.hid hR; have HF2 := Lib.hid (fr_fresh HF.out hF (Nat.le_refl _)); clear hR hF)
        go_quiet (fail)
        go_wp2
        go_ret3
        rw [HV.out]
        exact ⟨_, rfl, Row.none _ _, HF2.out.drewN _⟩
      · have hst := hto.step hll hb h400
        have hlt := fun m => tkR_lt (l := s.data.toList) (i := j) (j := m) hll hb
        have HTK := Lib.hid (fun w (h : RM w W.heap.size s j) => token_any w _ s j hjs hs' hb h)
        obtain ⟨ao, cap, rfl, hcap⟩ := hrow.slice
        clear hR hF hrow hto hbeg hb
        generalize tkR s.data.toList j = r at *
        cases r with
        | ok j2 =>
          obtain ⟨hl1, hl2⟩ := hlt j2 rfl
          rw [size_len] at hl2
          have HST := Lib.hid (show To s.data.toList j2 (ts ++ [tkV s.data.toList j j2]) A from hst)
          clear hst hlt hll
          go_upto_region 13 with (first | (go_at_call 20; (with_reducible refine HE.out.mono ?_); rintro e w2 ⟨rfl, hR, hF⟩; have HR2 := Lib.hid hR; have HF2 := Lib.hid (fr_fresh HF.out hF (Nat.le_refl _)); have HROW2 := Lib.hid (HROW.out.fr hF (fun k hk e => by omega)); clear hR hF) | (go_at_call 21; (with_reducible refine (HTK.out _ HR2.out).mono ?_); rintro e w3 ⟨t, rfl, hR, hF, htv⟩; have HTV := Lib.hid (htv j2 rfl); have HR3 := Lib.hid (show RM w3 W.heap.size s j2 from hR); have HF3 := Lib.hid (fr_fresh HF2.out hF (Nat.le_refl _)); have HROW3 := Lib.hid (HROW2.out.fr hF (fun k hk e => by omega)); clear hR hF htv))
          have HSZ3 := Lib.hid (heap_lt HR3.out)
          have HT4 := Lib.hid (show TKP (w3.alloc (.cells #[.int .i64 t.kind, .string (st t.text), .int .i64 t.at_] 40)) w3.heap.size t.kind t.text t.at_ from heap_alloc_new w3 _)
          have HR4 := Lib.hid (HR3.out.fr ((Fr.refl (fun _ => False) w3).alloc (.cells #[.int .i64 t.kind, .string (st t.text), .int .i64 t.at_] 40)) id)
          have HF4 := Lib.hid (HF3.out.alloc (.cells #[.int .i64 t.kind, .string (st t.text), .int .i64 t.at_] 40))
          have HROW4 := Lib.hid (HROW3.out.fr ((Fr.refl (fun _ => False) w3).alloc (.cells #[.int .i64 t.kind, .string (st t.text), .int .i64 t.at_] 40)) (fun _ _ => id))
          generalize w3.alloc (.cells #[.int .i64 t.kind, .string (st t.text), .int .i64 t.at_] 40) = w4 at *
          generalize w3.heap.size = T at *
          obtain ⟨t0, t1, t2, tf0, tf1, tf2⟩ := HT4.out.cells
          have HSZ := Lib.hid (heap_lt HR4.out)
          have HR5 := Lib.hid (HR4.out.fr ((Fr.refl (fun _ => False) w4).alloc (.cells #[.int .i64 t.kind, .string (st t.text), .int .i64 t.at_] 40)) id)
          have HF5 := Lib.hid (HF4.out.alloc (.cells #[.int .i64 t.kind, .string (st t.text), .int .i64 t.at_] 40))
          have HROW5 := Lib.hid (HROW4.out.fr ((Fr.refl (fun _ => False) w4).alloc (.cells #[.int .i64 t.kind, .string (st t.text), .int .i64 t.at_] 40)) (fun _ _ => id))
          clear HR2 HF2 HROW2 HR3 HF3 HROW3 HR4 HF4 HT4
          go_wp2_with (first | (at_builtin; refine wpList_append_own _ rfl _ _ 36 rfl (W.heap.size + 1) 40 i0 (.agg #[.int .i64 0, .string .empty, .int .i64 0]) 3 32 Try.underlying36 hi hz0 hz1 hz2 rfl (by decide) _ _ _ rfl HROW5.out ⟨_, 0, none⟩ 1 1 [.int .i64 t.kind, .string (st t.text), .int .i64 t.at_] rfl rfl (tok_new _ _ _ _) (by intro u hu; simp at hu; rcases hu with rfl | rfl | rfl <;> rfl) (by unfold maxLen; omega) (by omega) (by have := HSZ.out; simp; omega) ?_; intro v' w6 hown' hgrow _; have HROW6 := Lib.hid (Row.more hown'); have HR6 := Lib.hid (HR5.out.fr (grown_fr hgrow) (fun e => by have := (row_blk HROW5.out e).1; omega)); have HF6 := Lib.hid (row_grown HF5.out (Nat.le_succ _) (fun k hk => (row_blk HROW5.out hk).1) hgrow); obtain ⟨ao6, cap6, rfl, hcap6⟩ := HROW6.out.slice; clear hown' hgrow) | (go_at_call 19; (with_reducible refine (HSK.out _ _ (by omega) HR6.out).mono ?_); rintro e w7 ⟨rfl, m, hR, hF, hm1, hm2, hto, hbb⟩; have HR7 := Lib.hid hR; have HF7 := Lib.hid (fr_fresh HF6.out hF (Nat.le_refl _)); have HROW7 := Lib.hid (HROW6.out.fr hF (fun k hk e => by omega)); have HTO7 := Lib.hid (hto _ _ HST.out); have HB7 := Lib.hid hbb; clear hR hF hto hbb))
          refine ⟨⟨m, ts ++ [tkV s.data.toList j j2], HR7.out, HF7.out, by have h7 := HROW7.out; rw [List.length_append] at h7; rw [← HTV.out]; exact h7, hm2, HTO7.out, HB7.out, by rw [List.length_append]; simp; omega⟩, ?_⟩
          rw [HR7.out.atOf, HM.out]; omega
        | more =>
          have HST := Lib.hid (show A = .err s.data.toList.length 23 from hst)
          rw [size_len] at HST
          clear hst hlt hll
          go_wp2_with (first | (go_at_call 20; (with_reducible refine HE.out.mono ?_); rintro e w2 ⟨rfl, hR, hF⟩; have HR2 := Lib.hid hR; have HF2 := Lib.hid (fr_fresh HF.out hF (Nat.le_refl _)); clear hR hF) | (go_at_call 21; (with_reducible refine (HTK.out _ HR2.out).mono ?_); rintro e w3 ⟨t, rfl, hR, hF, htv⟩; have hR3 : RM (w3.alloc (.cells #[.int .i64 t.kind, .string (st t.text), .int .i64 t.at_] 40)) W.heap.size s s.size := RM.fr (S := fun _ => False) hR ((Fr.refl _ w3).alloc _) id; obtain ⟨c0, c1, f1⟩ := hR3.cells; have HF3 := Lib.hid (fr_fresh HF2.out hF (Nat.le_refl _)); clear hR hF htv hR3))
          go_quiet (fail)
          go_wp2
          go_ret3
          rw [HST.out]
          exact ⟨_, rfl, Row.none _ _, (HF3.out.alloc _).drewN _⟩
        | deep z =>
          have HST := Lib.hid (show A = .err z 17 from hst)
          clear hst hlt hll
          go_wp2_with (first | (go_at_call 20; (with_reducible refine HE.out.mono ?_); rintro e w2 ⟨rfl, hR, hF⟩; have HR2 := Lib.hid hR; have HF2 := Lib.hid (fr_fresh HF.out hF (Nat.le_refl _)); clear hR hF) | (go_at_call 21; (with_reducible refine (HTK.out _ HR2.out).mono ?_); rintro e w3 ⟨t, rfl, hR, hF, htv⟩; have hR3 : RM (w3.alloc (.cells #[.int .i64 t.kind, .string (st t.text), .int .i64 t.at_] 40)) W.heap.size s z := RM.fr (S := fun _ => False) hR ((Fr.refl _ w3).alloc _) id; obtain ⟨c0, c1, f1⟩ := hR3.cells; have HF3 := Lib.hid (fr_fresh HF2.out hF (Nat.le_refl _)); clear hR hF htv hR3))
          go_quiet (fail)
          go_wp2
          go_ret3
          rw [HST.out]
          exact ⟨_, rfl, Row.none _ _, (HF3.out.alloc _).drewN _⟩
    · obtain rfl : j = s.size := by omega
      have HE := Lib.hid (ended_yes wr _ s hs' hR)
      have HV := Lib.hid (hto.ended (by rw [size_len]; omega))
      rw [size_len] at HV
      obtain ⟨ao, cap, rfl, hcap⟩ := hrow.slice
      clear hR hF hrow hto hbeg
      go_upto_region 14 with (go_at_call 20; (with_reducible refine HE.out.mono ?_); rintro e w2 ⟨rfl, hR, hF⟩; have HR2 := Lib.hid hR; have HF2 := Lib.hid (fr_fresh HF.out hF (Nat.le_refl _)); have HROW2 := Lib.hid (HROW.out.fr hF (fun k hk e => by omega)); clear hR hF)
      obtain ⟨c0, c1, f1⟩ := HR2.out.cells
      have HSZ := Lib.hid (heap_lt HR2.out)
      have HF5 := Lib.hid (HF2.out.alloc (.cells #[.int .i64 4, .string ⟨#[]⟩, .int .i64 s.size] 40))
      have HROW5 := Lib.hid (HROW2.out.fr ((Fr.refl (fun _ => False) w2).alloc (.cells #[.int .i64 4, .string ⟨#[]⟩, .int .i64 s.size] 40)) (fun _ _ => id))
      go_wp2_with (at_builtin; refine wpList_append_own _ rfl _ _ 36 rfl (W.heap.size + 1) 40 i0 (.agg #[.int .i64 0, .string .empty, .int .i64 0]) 3 32 Try.underlying36 hi hz0 hz1 hz2 rfl (by decide) _ _ _ rfl HROW5.out ⟨_, 0, none⟩ 1 1 [.int .i64 4, .string ⟨#[]⟩, .int .i64 s.size] rfl rfl (tok_new _ _ _ _) (by intro u hu; simp at hu; rcases hu with rfl | rfl | rfl <;> rfl) (by unfold maxLen; omega) (by omega) (by have := HSZ.out; simp; omega) ?_; intro v' w6 hown' hgrow _; have HROW6 := Lib.hid (Row.more (t := ⟨4, [], s.size⟩) hown'); have HF6 := Lib.hid (row_grown HF5.out (Nat.le_succ _) (fun k hk => (row_blk HROW5.out hk).1) hgrow); clear hown' hgrow)
      go_ret3
      rw [HV.out]
      exact ⟨v', rfl, HROW6.out.weak (by omega), HF6.out⟩
theorem pAll_any (s : ByteArray) (hs : s.size ≤ maxLen) (W : World) :
    Calls Try.prog 14 #[.string s] W (allPost W (allA s.data.toList)) := by
  unfold allA
  by_cases h : 4096 < s.size
  · rw [if_pos (by rw [size_len]; exact h)]
    unfold maxLen at hs
    go_enter Try.func14, Try.ntmps14
    go_wp2
    go_ret3
    exact ⟨_, rfl, Row.none _ _, Fr.refl _ _⟩
  · rw [if_neg (by rw [size_len]; exact h)]
    exact pAll_loop s (by omega) W
end Go.Proofs.Ytoahgblgchmclaa
