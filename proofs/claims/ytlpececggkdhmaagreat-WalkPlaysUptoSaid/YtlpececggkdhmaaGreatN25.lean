import Derived.Test.YtlpececggkdhmaaGreatM7
import Derived.WalkKit
import Derived.BigQuiet
import Derived.Test.YtlpececggkdhmaaGreatM18
import Derived.Deep.CutBlock
import Derived.Test.YtlpececggkdhmaaGreatRows
import Derived.Test.YtlpececggkdhmaaGreatM24
import Derived.Deep.Slices
import Derived.DataReads
import Derived.Deep.Fields
import Derived.ChangeSame
import Derived.Test.YtlpececggkdhmaaGreatM11
import Derived.Test.YtlpececggkdhmaaGreatN1
import Derived.Test.YtlpececggkdhmaaGreatN6
import Derived.Test.YtlpececggkdhmaaGreatN20
import Derived.Test.YtlpececggkdhmaaGreatN24
open Go.Lib (hid)
set_option linter.unusedVariables false
set_option linter.unusedSimpArgs false
namespace Go.Proofs.YtlpececggkdhmaaGreat
section
open Go.RowKit Ino
def Dr (w w' : World) : Prop := ∃ n, w' = w.drewN n
theorem Dr.refl (w : World) : Dr w w := ⟨0, rfl⟩
theorem Dr.below {w w' : World} (h : Dr w w') : Below w.heap.size w w' := by
 obtain ⟨n, rfl⟩ := h
 exact ⟨rfl, rfl, rfl, Nat.le_refl _, fun _ _ => rfl⟩
def Rd (w : World) (v : Value) (l : List (Bs)) : Prop :=
 ∃ p cap, v = .slice p l.length cap ∧ l.length ≤ cap ∧ cap ≤ maxLen ∧ ∀ j x, l[j]? = some x → ∃ g, p = some ⟨g, 0, none⟩ ∧ w.cell? ⟨g, j, none⟩ = some (strC x)
theorem Rd.of_row {w : World} {base : Nat} {v : Value} {l : List (Bs)} (h : w.ownsRow base 9 1 v l.length (l.map strC)) : Rd w v l := by
 rcases h.2 with ⟨hv, h0⟩ | ⟨g, cap, cur, hv, hb, hg, hn, hc, hs, ht⟩
 ·have := List.length_eq_zero_iff.1 h0
  subst this
  exact ⟨none, 0, hv, Nat.le_refl _, Nat.zero_le _, fun j x hx => by simp at hx⟩
 ·refine ⟨_, cap, hv, hn, hc, fun j x hx => ⟨g, rfl, ?_⟩⟩
  subst hv
  have hj := (List.getElem?_eq_some_iff.1 hx).1
  rw [h.cellAt j (by omega), List.getElem?_map, hx]; rfl
theorem Rd.below {w w' : World} {v : Value} {l : List (Bs)} (h : Rd w v l) (hb : Below w.heap.size w w') : Rd w' v l := by
 obtain ⟨p, cap, hv, h1, h2, h3⟩ := h
 refine ⟨p, cap, hv, h1, h2, fun j x hx => ?_⟩
 obtain ⟨g, hp, hc⟩ := h3 j x hx
 exact ⟨g, hp, (hb.cell (p := ⟨g, j, none⟩) (cell_lt hc)).trans hc⟩
def sameRel (a b : List (Bs)) (w : World) (i : Value) (wr : World) : Prop := ∃ k : Nat, k ≤ a.length ∧ i = .int .i64 k ∧ Dr w wr ∧ a.take k = b.take k
theorem same_step {a b : List (Bs)} {k : Nat} {x : Bs} (hx : a[k]? = some x) (hy : b[k]? = some x) (h : a.take k = b.take k) : a.take (k + 1) = b.take (k + 1) := by
 rw [List.take_add_one, List.take_add_one, h, hx, hy]
theorem same_stop {a b : List (Bs)} {k : Nat} {x y : Bs} (hx : a[k]? = some x) (hy : b[k]? = some y) (h : x ≠ y) : decide (a = b) = false :=
 decide_eq_false (fun e => by subst e; rw [hx] at hy; exact h (Option.some.inj hy))
theorem same_end {a b : List (Bs)} {k : Nat} (h1 : a.length = k) (h2 : b.length = k) (h : a.take k = b.take k) : decide (a = b) = true := by
 rw [List.take_of_length_le (by omega), List.take_of_length_le (by omega)] at h
 exact decide_eq_true h
set_option maxHeartbeats 1000000 in
theorem same_any (v u : Value) (a b : List (Bs)) (w : World) (hv : Rd w v a) (hu : Rd w u b) :
 Calls Tryz.prog 27 #[v, u] w fun e w' => e = .returned (.bool (decide (a = b))) ∧ Dr w w' := by
 obtain ⟨p, cap, rfl, h1, h2, hc⟩ := hv
 obtain ⟨p', cap', rfl, h1', h2', hc'⟩ := hu
 have HC := hid hc
 have HC' := hid hc'
 obtain ⟨n, hn⟩ : ∃ n, a.length = n := ⟨_, rfl⟩
 obtain ⟨m, hm⟩ : ∃ m, b.length = m := ⟨_, rfl⟩
 have hmax : n ≤ maxLen := by omega
 unfold maxLen at hmax
 rw [hn, hm]
 clear h1 h2 h1' h2' hc hc'
 by_cases hl : n = m
 ·subst hl
  have Hn := hid hn
  have Hm := hid hm
  clear hn hm
  go_enter Tryz.func27, Tryz.ntmps27
  go_wp2
  go_loopw [5] (fun i wr => sameRel a b w i wr) (fun i _ => n - (intOf i).toNat)
  case atStart => exact ⟨0, Nat.zero_le _, rfl, Dr.refl _, rfl⟩
  case round =>
   obtain ⟨k, hk, rfl, ⟨nw, rfl⟩, ht⟩ := hrel
   rw [Hn.out] at hk
   have Ht := hid ht
   clear ht
   by_cases hlt : k < n
   ·obtain ⟨x, hx⟩ : ∃ x, a[k]? = some x := ⟨_, List.getElem?_eq_getElem (by rw [Hn.out]; exact hlt)⟩
    obtain ⟨y, hy⟩ : ∃ y, b[k]? = some y := ⟨_, List.getElem?_eq_getElem (by rw [Hm.out]; exact hlt)⟩
    obtain ⟨g, rfl, ca⟩ := HC.out k x hx
    obtain ⟨g', rfl, cb⟩ := HC'.out k y hy
    unfold strC at ca cb
    by_cases hxy : x = y
    ·subst hxy
     have Hs := hid (same_step hx hy Ht.out)
     clear hx hy
     go_wp2
     go_quiet (fail)
     go_wp2
     go_roundw
     case rel => exact ⟨k + 1, by rw [Hn.out]; omega, by go_num, ⟨_, rfl⟩, Hs.out⟩
     case measure => simp [intOf]; omega
    ·have Hs := hid (same_stop hx hy hxy)
     have hb : (x == y) = false := beq_eq_false_iff_ne.2 hxy
     clear hx hy hxy
     go_wp2
     go_quiet (fail)
     go_wp2
     go_ret
     exact ⟨ret_bool Hs.out.symm, nw + nq, World.drewN_drewN ..⟩
   ·have hkn : k = n := by omega
    subst hkn
    have Hs := hid (same_end Hn.out Hm.out Ht.out)
    go_wp2
    go_ret
    exact ⟨ret_bool Hs.out.symm, nw, rfl⟩
 ·have Hs := hid (show decide (a = b) = false from decide_eq_false (fun e => hl (by rw [← hn, ← hm, e])))
  have hb : (((n : Int) != (m : Int)) : Bool) = true := by rw [bne_iff_ne]; omega
  clear hn hm
  go_enter Tryz.func27, Tryz.ntmps27
  go_wp2
  go_ret
  exact ⟨ret_bool Hs.out.symm, Dr.refl _⟩
end
section
open Go.RowKit Ino Go.Maps
variable {w0 w : World} {A C B : Nat} {t : T} {K : Nat → Prop}
def infObj7 (ni kd md ow gr nl sz ty : Int) : Obj := .cells #[.int .i64 ni, .int .i64 kd, .int .i64 md, .int .i64 ow, .int .i64 gr, .int .i64 nl, .int .i64 sz, .int .i64 ty] 50
theorem topq7 (w : World) (cs : Array Value) (t : TypeId) {j : Nat} {v : Value} (h : cs[j]? = some v) : (w.alloc (.cells cs t)).cell? ⟨w.heap.size, j, none⟩ = some v := by
 rw [cell_of_row _ w.heap.size j _ _ (0, 0) (heap_alloc_new w _)]
 exact h
def smRel (K : Nat → Prop) (w0 : World) (A C B : Nat) (t : T) (iv : Value) (wr : World) : Prop := ∃ i : Nat, iv = .int .i64 i ∧ 1 ≤ i ∧ i ≤ 21 ∧ TW K w0 wr A C B t t
set_option maxHeartbeats 8000000 in
set_option maxRecDepth 100000 in
theorem same7_any (h : TW K w0 w A C B t t) (hs : Sound t) :
 Calls Tryz.prog 12 #[.pointer (some ⟨A, 0, none⟩), .pointer (some ⟨C, 0, none⟩)] w fun e w' => e = .returned (.bool true) ∧ TW K w0 w' A C B t t := by
 have HS := hid hs
 clear hs
 go_enter Tryz.func12, Tryz.ntmps12
 go_wp2
 go_loopw [5] (fun iv wr => smRel K w0 A C B t iv wr) (fun iv _ => 21 - (intOf iv).toNat)
 case atStart => exact ⟨1, rfl, Nat.le_refl _, by decide, h⟩
 case round =>
  obtain ⟨i, rfl, hi1, hi, hp⟩ := hrel
  clear h
  by_cases hlt : i < 21
  ·have i4 : (i : Int) ≤ 20 := by omega
   obtain ⟨a, ok, hst⟩ : ∃ a ok, statP t (i : Int) = (a, ok) := ⟨_, _, rfl⟩
   obtain ⟨ni, kd, md, ow, gr, nl, sz, ty⟩ := a
   have q1 := fun wx (hx : TW K w0 wx A C B t t) => tp_stat hx HS.out.sd (i : Int)
   have q2 := fun wx (hx : TW K w0 wx A C B t t) => td_stat hx HS.out.sd (i : Int)
   simp only [hst, infV] at q1 q2
   have Q1 := hid q1
   have Q2 := hid q2
   clear q1 q2 hst
   go_upto_region 5 with (go_at_call 21; refine (Q1.out _ hp).mono ?_; rintro e w1 ⟨rfl, p1, b1⟩)
   have p1a := p1.alloc (infObj7 ni kd md ow gr nl sz ty)
   have b1a : Below wr.heap.size wr (w1.alloc (infObj7 ni kd md ow gr nl sz ty)) := b1.alloc b1.size _
   have x1 : ∀ j v, (#[Value.int .i64 ni, .int .i64 kd, .int .i64 md, .int .i64 ow, .int .i64 gr, .int .i64 nl, .int .i64 sz, .int .i64 ty] : Array Value)[j]? = some v → (w1.alloc (infObj7 ni kd md ow gr nl sz ty)).cell? ⟨w1.heap.size, j, none⟩ = some v := fun j v h => topq7 w1 _ _ h
   have hX0 : wr.heap.size ≤ w1.heap.size := b1.size
   have hX1 : w1.heap.size < (w1.alloc (infObj7 ni kd md ow gr nl sz ty)).heap.size := by simp
   unfold infObj7 at p1a b1a x1 hX1
   generalize w1.alloc (Obj.cells #[Value.int .i64 ni, .int .i64 kd, .int .i64 md, .int .i64 ow, .int .i64 gr, .int .i64 nl, .int .i64 sz, .int .i64 ty] 50) = w2 at *
   generalize w1.heap.size = X at *
   clear p1 b1
   go_upto_region 6 with (go_at_call 49; refine (Q2.out _ p1a).mono ?_; rintro e w3 ⟨rfl, p3, b3⟩)
   have p3a := p3.alloc (infObj7 ni kd md ow gr nl sz ty)
   have b3a : Below wr.heap.size wr (w3.alloc (infObj7 ni kd md ow gr nl sz ty)) := (b1a.trans (b3.mono b1a.size)).alloc (Nat.le_trans b1a.size b3.size) _
   have x3 : ∀ j v, (#[Value.int .i64 ni, .int .i64 kd, .int .i64 md, .int .i64 ow, .int .i64 gr, .int .i64 nl, .int .i64 sz, .int .i64 ty] : Array Value)[j]? = some v → (w3.alloc (infObj7 ni kd md ow gr nl sz ty)).cell? ⟨w3.heap.size, j, none⟩ = some v := fun j v h => topq7 w3 _ _ h
   have x1' : ∀ j v, (#[Value.int .i64 ni, .int .i64 kd, .int .i64 md, .int .i64 ow, .int .i64 gr, .int .i64 nl, .int .i64 sz, .int .i64 ty] : Array Value)[j]? = some v → (w3.alloc (infObj7 ni kd md ow gr nl sz ty)).cell? ⟨X, j, none⟩ = some v := fun j v h => ((b3.alloc b3.size _).cell (p := ⟨X, j, none⟩) hX1).trans (x1 j v h)
   have hY0 : wr.heap.size ≤ w3.heap.size := Nat.le_trans b1a.size b3.size
   have hY1 : w3.heap.size < (w3.alloc (infObj7 ni kd md ow gr nl sz ty)).heap.size := by simp
   have hX2 : X < (w3.alloc (infObj7 ni kd md ow gr nl sz ty)).heap.size := by simp; have := b3.size; omega
   unfold infObj7 at p3a b3a x3 x1' hY1 hX2
   generalize w3.alloc (Obj.cells #[Value.int .i64 ni, .int .i64 kd, .int .i64 md, .int .i64 ow, .int .i64 gr, .int .i64 nl, .int .i64 sz, .int .i64 ty] 50) = wa at *
   generalize w3.heap.size = Y at *
   clear p3 b3 x1 p1a b1a hX1 w2
   have r0 := hp.rebase b3a
   have hKX : KN K wr wa X := .inr ⟨hX0, hX2⟩
   have hKY : KN K wr wa Y := .inr ⟨hY0, hY1⟩
   have HUN := hid (fun w' (h' : TW (KN K wr wa) wa w' A C B t t) => h'.unbase hp b3a)
   clear hp p3a b3a hX0 hX2 hY0 hY1 Q1 Q2
   generalize KN K wr wa = K1 at *
   have q3 := tp_names r0 HS.out.sd (i : Int)
   have q4 := fun wx (hx : TW K1 wa wx A C B t t) => td_names hx HS.out.sd (i : Int)
   have q5 := fun (wx : World) (v u : Value) (hv : Rd wx v (namesP t (i : Int))) (hu : Rd wx u (namesP t (i : Int))) => same_any v u (namesP t (i : Int)) (namesP t (i : Int)) wx hv hu
   simp only [decide_true] at q5
   generalize namesP t (i : Int) = l at *
   have Q3 := hid q3
   have Q4 := hid q4
   have Q5 := hid q5
   have HR0 := hid r0
   have X3 := hid x3
   have X1 := hid x1'
   clear q3 q4 q5 x3 x1' r0
   go_upto_region 7 with (first
    | (go_at_call 22; refine Q3.out.mono ?_; rintro e w4 ⟨v4, rfl, r4, p4, b4⟩; have rv4 := Rd.of_row r4)
    | (go_at_call 50; refine (Q4.out _ p4).mono ?_; rintro e w5 ⟨v5, rfl, r5, p5, f5⟩; have rv5 := Rd.of_row r5; have rv4 := rv4.below (below_fr (Below.refl _ _) f5 fun _ => False.elim))
    | (go_at_call 27; refine (Q5.out _ _ _ rv4 rv5).mono ?_; rintro e w6 ⟨rfl, nd, rfl⟩))
   have hF : Fr (fun g => wa.heap.size ≤ g) wa (w5.drewN nd) := ((Fr.of_below b4).trans (f5.mono fun _ _ => False.elim)).drewN nd
   have pr := HR0.out.fr hF fun _ h => h
   clear r4 p4 b4 rv4 r5 p5 f5 rv5 Q3 Q4 Q5 hF
   have x0 := pr.cell hKX (X1.out 0 _ rfl)
   have y0 := pr.cell hKY (X3.out 0 _ rfl)
   have x1 := pr.cell hKX (X1.out 1 _ rfl)
   have y1 := pr.cell hKY (X3.out 1 _ rfl)
   have x2 := pr.cell hKX (X1.out 2 _ rfl)
   have y2 := pr.cell hKY (X3.out 2 _ rfl)
   have x3 := pr.cell hKX (X1.out 3 _ rfl)
   have y3 := pr.cell hKY (X3.out 3 _ rfl)
   have x4 := pr.cell hKX (X1.out 4 _ rfl)
   have y4 := pr.cell hKY (X3.out 4 _ rfl)
   have x5 := pr.cell hKX (X1.out 5 _ rfl)
   have y5 := pr.cell hKY (X3.out 5 _ rfl)
   have x6 := pr.cell hKX (X1.out 6 _ rfl)
   have y6 := pr.cell hKY (X3.out 6 _ rfl)
   have x7 := pr.cell hKX (X1.out 7 _ rfl)
   have y7 := pr.cell hKY (X3.out 7 _ rfl)
   have l5 := tp_data pr (i : Int)
   have l6 := td_data pr (i : Int)
   generalize (⟨(dataP t (i : Int)).toArray⟩ : ByteArray) = ds at *
   have PR := hid (HUN.out _ pr)
   have L5 := hid l5
   have L6 := hid l6
   clear l5 l6 hKX hKY pr HR0 X1 X3
   go_wp2_with (first
    | (go_at_call 51; refine L5.out.mono ?_; rintro e w' ⟨rfl, rfl⟩)
    | (go_at_call 52; refine L6.out.mono ?_; rintro e w' ⟨rfl, rfl⟩))
   go_roundw
   case rel => exact ⟨i + 1, by go_num, by omega, by omega, PR.out⟩
   case measure => simp [intOf]; omega
  ·have i4 : ¬ (i : Int) ≤ 20 := by omega
   have HP := hid hp
   clear hp
   go_wp2_with fail
   go_ret
   exact ⟨rfl, HP.out⟩
end
section
open Go.RowKit Go.ChangeShapes Go.WideShapes Go.Deep Ino
theorem bulk_part7 {H : Type} {d : DataW H} {l : List (DataW H)} (h : d ∈ l) : Rows.uptoBulk d ≤ Rows.uptoBulkAll l := by
 induction l with
 | nil => cases h
 | cons x r ih =>
  simp only [Rows.uptoBulkAll]
  cases List.mem_cons.1 h with
  | inl e => subst e; omega
  | inr e => have := ih e; omega
theorem size_len7 (s : ByteArray) : s.data.toList.length = s.size := by simp
structure Op7.In (o : Op7) : Prop where
 s : o.s.size ≤ 1048576
 x : o.x.size ≤ 1048576
 m : wfI o.m
 b : -9223372036854775808 ≤ o.b ∧ o.b ≤ 9223372036854775807
theorem list10 {l : List Value} (h : l.length = 10) : ∃ a b c d e f g h i j, l = [a, b, c, d, e, f, g, h, i, j] := by
 match l, h with
 | [a, b, c, d, e, f, g, h, i, j], _ => exact ⟨a, b, c, d, e, f, g, h, i, j, rfl⟩
theorem op7T : Tryz.prog.underlying 29 = some (.struct (Tryz.prog.fieldsOf 29)) := by kernel_rfl
section
variable {H : Type} {enc : TypeId × Value → H} {w : World} {base : Nat} {spare : Nat → Bool} {held : Bool}
set_option maxHeartbeats 1000000 in
theorem cells_op7 {n : Nat} {cs : List Value} {y : DataW H × List MemPlace} (hy : DataW.trod enc Tryz.prog w base spare held n 29 cs = some y) (hM : Rows.uptoBulk y.1 ≤ 1048576) : ∃ u : Op7, cs = u.cells ∧ u.In := by
 obtain ⟨xs, mm, _, hx, hl, hxl, hf⟩ := DataW.trod_struct op7T hy
 rw [show Tryz.prog.cellsOf 29 = 10 by kernel_rfl] at hl
 obtain ⟨a, b, c, d, e, f, g, h, i, j, rfl⟩ := list10 hl
 have hs : (Tryz.prog.fieldsOf 29).size = 10 := by kernel_rfl
 have key : ∀ (q : Nat) (o : Nat) (t : TypeId), q < 10 → ((Tryz.prog.fieldsOf 29)[q]?.map fun g => (g.offset, g.type)) = some (o, t) → ∃ y, DataW.trod enc Tryz.prog w base spare held mm t (([a, b, c, d, e, f, g, h, i, j].drop o).take (Tryz.prog.cellsOf t)) = some y ∧ y ∈ xs := by
  intro q o t hi ht
  cases hg : (Tryz.prog.fieldsOf 29)[q]? with
  | none => rw [hg] at ht; cases ht
  | some g =>
   rw [hg] at ht
   cases ht
   exact ⟨xs[q]'(by omega), by rw [hf q g hg]; exact List.getElem?_eq_getElem _, List.getElem_mem _⟩
 have c9 : Tryz.prog.cellsOf 9 = 1 := by kernel_rfl
 have c3 : Tryz.prog.cellsOf 3 = 1 := by kernel_rfl
 obtain ⟨y0, h0, m0⟩ := key 0 0 3 (by decide) (by kernel_rfl)
 obtain ⟨y1, h1, m1⟩ := key 1 1 3 (by decide) (by kernel_rfl)
 obtain ⟨y2, h2, m2⟩ := key 2 2 3 (by decide) (by kernel_rfl)
 obtain ⟨y3, h3, m3⟩ := key 3 3 3 (by decide) (by kernel_rfl)
 obtain ⟨y4, h4, m4⟩ := key 4 4 9 (by decide) (by kernel_rfl)
 obtain ⟨y5, h5, m5⟩ := key 5 5 9 (by decide) (by kernel_rfl)
 obtain ⟨y6, h6, m6⟩ := key 6 6 3 (by decide) (by kernel_rfl)
 obtain ⟨y7, h7, m7⟩ := key 7 7 3 (by decide) (by kernel_rfl)
 obtain ⟨y8, h8, m8⟩ := key 8 8 3 (by decide) (by kernel_rfl)
 obtain ⟨y9, h9, m9⟩ := key 9 9 3 (by decide) (by kernel_rfl)
 rw [c9] at h4 h5
 rw [c3] at h0 h1 h2 h3 h6 h7 h8 h9
 obtain ⟨n0, e0, _, k0⟩ := DataW.trod_int Tryz.underlying3 h0
 obtain ⟨n1, e1, _, k1⟩ := DataW.trod_int Tryz.underlying3 h1
 obtain ⟨n2, e2, _, k2⟩ := DataW.trod_int Tryz.underlying3 h2
 obtain ⟨n3, e3, _, k3⟩ := DataW.trod_int Tryz.underlying3 h3
 obtain ⟨n4, e4, z4, k4⟩ := DataW.trod_string Tryz.underlying9 h4
 obtain ⟨n5, e5, z5, k5⟩ := DataW.trod_string Tryz.underlying9 h5
 obtain ⟨n6, e6, _, k6⟩ := DataW.trod_int Tryz.underlying3 h6
 obtain ⟨n7, e7, _, k7⟩ := DataW.trod_int Tryz.underlying3 h7
 obtain ⟨n8, e8, _, k8⟩ := DataW.trod_int Tryz.underlying3 h8
 obtain ⟨n9, e9, _, k9⟩ := DataW.trod_int Tryz.underlying3 h9
 simp at e0 e1 e2 e3 e4 e5 e6 e7 e8 e9
 subst e0 e1 e2 e3 e4 e5 e6 e7 e8 e9
 have g4 := bulk_part7 (List.mem_map_of_mem (f := (·.1)) m4)
 have g5 := bulk_part7 (List.mem_map_of_mem (f := (·.1)) m5)
 rw [z4] at g4
 rw [z5] at g5
 rw [hx] at hM
 simp only [Rows.uptoBulk, size_len7] at g4 g5 hM
 exact ⟨⟨n0, n1, n2, n3, n4, n5, n6, n7, n8, n9⟩, rfl, ⟨by show n4.size ≤ _; omega, by show n5.size ≤ _; omega, int_wf2 k6, int_wf2 k9⟩⟩
theorem open_st_b {α : Type} [Inhabited α] (mk : α → List Value) (ok : α → Prop) (c : Nat) (M : Nat) (hc0 : 0 < c) (hmk : ∀ a, (mk a).length = c) {t e : TypeId} (ht : Tryz.prog.underlying t = some (.slice e)) (hc : Tryz.prog.cellsOf e = c)
 (inv : ∀ (n : Nat) (cs : List Value) (y : DataW H × List MemPlace), DataW.trod enc Tryz.prog w base (fun _ => true) held n e cs = some y → Rows.uptoBulk y.1 ≤ M → ∃ z, cs = mk z ∧ ok z)
 {n : Nat} {p : Option Addr} {len cap : Nat} {x : DataW H × List MemPlace} (h : DataW.trod enc Tryz.prog w base (fun _ => true) held n t [.slice p len cap] = some x) (hM : Rows.uptoBulk x.1 ≤ M) :
 ∃ zs, InSt mk ok c w p len zs ∧ len ≤ maxLen := by
 rcases open_slice ht h with ⟨hcs, _⟩ | ⟨a, len', cap', m, n', D, Pl, hcs, _, hl, hm, hmm, hx, hi⟩
 ·cases hcs
  exact ⟨[], ⟨rfl, fun j u hj => by cases hj⟩, Nat.zero_le _⟩
 ·cases hcs
  have hmm' : m = cap := hmm
  subst hmm'
  rw [hc] at hi
  rw [hx] at hM
  simp only [Rows.uptoBulk] at hM
  have hu : ∀ i, i < len → ∃ u : α, ok u ∧ ∀ j v, (mk u)[j]? = some v → w.cell? ((a.add (i * c)).add j) = some v := by
   intro i him
   obtain ⟨cs', hc', ht'⟩ := hi i (by omega)
   have hmem : D i ∈ (List.range len).map D := List.mem_map_of_mem (List.mem_range.2 him)
   have g := bulk_part7 hmem
   obtain ⟨u, hu, hok⟩ := inv _ _ _ ht' (by show Rows.uptoBulk (D i) ≤ M; omega)
   obtain ⟨_, hcl, hat⟩ := World.cells?_some hc'
   refine ⟨u, hok, fun j v hj => ?_⟩
   have hj3 : j < c := by rw [← hmk u]; exact (List.getElem?_eq_some_iff.1 hj).1
   rw [hat j hj3, hu, hj]
  have hex : ∃ f : Nat → α, ∀ i, i < len → ok (f i) ∧ ∀ j v, (mk (f i))[j]? = some v → w.cell? ((a.add (i * c)).add j) = some v :=
   ⟨fun i => if h : i < len then Classical.choose (hu i h) else default, fun i h => by
    simp only [dif_pos h]; exact Classical.choose_spec (hu i h)⟩
  obtain ⟨f, hf⟩ := hex
  refine ⟨(List.range len).map f, ⟨by simp, fun j u hj => ?_⟩, by omega⟩
  have hjl : j < len := by have := (List.getElem?_eq_some_iff.1 hj).1; simpa using this
  rw [List.getElem?_map, List.getElem?_range hjl] at hj
  cases hj
  obtain ⟨v0, hv0⟩ : ∃ v, (mk (f 0))[0]? = some v := ⟨_, List.getElem?_eq_getElem (by rw [hmk]; exact hc0)⟩
  have h0 := (hf 0 (by omega)).2 0 _ hv0
  rw [Nat.zero_mul] at h0
  have hz : ∀ x : Addr, x.add 0 = x := fun x => if_pos rfl
  rw [hz, hz] at h0
  obtain ⟨b, off, rfl⟩ := addr_plain h0
  obtain ⟨hok, hj2⟩ := hf j (by omega)
  refine ⟨hok, b, off, rfl, fun i v hv => ?_⟩
  have := hj2 i v hv
  rw [Addr.add_lit, Addr.add_lit] at this
  exact this
abbrev InOps7 := InSt Op7.cells Op7.In 10
theorem open_ops7 {n : Nat} {p : Option Addr} {len cap : Nat} {x : DataW H × List MemPlace} (h : DataW.trod enc Tryz.prog w base (fun _ => true) held n 22 [.slice p len cap] = some x) (hM : Rows.uptoBulk x.1 ≤ 1048576) : ∃ zs, InOps7 w p len zs ∧ len ≤ maxLen :=
 open_st_b Op7.cells Op7.In 10 1048576 (by decide) (fun _ => rfl) Tryz.underlying22 (by kernel_rfl) (fun n cs y h hb => cells_op7 h hb) h hM
end
end
section
open Go.RowKit Ino Go.Maps
theorem new_none7 (m o : Int) (w : World) (hk : rOk m o o = false) :
 Calls Tryz.prog 10 #[.int .i64 m, .int .i64 o, .int .i64 o] w fun e w' => e = .returned (.pointer none) ∧ w = w' := by
 have h1 := fun W => mright_any m W
 have h2 := fun W => iid_any o W
 unfold rOk at hk
 cases e1 : rMode m
 ·rw [e1] at h1
  clear h2 hk
  go_enter Tryz.func10, Tryz.ntmps10
  go_wp2_with (first | (go_at_call 34; refine (h1 _).mono ?_; rintro e w' ⟨rfl, rfl⟩))
  go_ret
  exact ⟨rfl, rfl⟩
 ·cases e2 : rId o
  ·rw [e1] at h1
   rw [e2] at h2
   clear hk
   go_enter Tryz.func10, Tryz.ntmps10
   go_wp2_with (first | (go_at_call 34; refine (h1 _).mono ?_; rintro e w' ⟨rfl, rfl⟩) | (go_at_call 35; (with_reducible refine (h2 _).mono ?_); rintro e w' ⟨rfl, rfl⟩))
   go_ret
   exact ⟨rfl, rfl⟩
  ·rw [e1, e2] at hk
   cases hk
def playRel7 (w : World) (A C B : Nat) (iv : Value) (wr : World) : Prop := ∃ (k : Nat) (t : T), iv = .int .i64 k ∧ k ≤ 80 ∧ TW (KB w) w wr A C B t t ∧ Inv k t
theorem extract_size7 (s : ByteArray) (h : 5000 < s.size) : (s.extract 0 5000).size = 5000 := by
 simp [ByteArray.size_extract]; omega
theorem plays7_none (m : Int) (p0 : Option Addr) (n0 c0 : Nat) (w : World) (hm : wfI m) (hk : rOk m 0 0 = false) :
 Calls Tryz.prog 3 #[.int .i64 m, .slice p0 n0 c0] w fun e w' => e = .returned (.bool true) ∧ Below w.heap.size w w' := by
 go_enter Tryz.func3, Tryz.ntmps3
 go_wp2_with (first
  | (go_at_call 8; refine (shown7_any _).mono ?_; rintro e w1 ⟨rfl, b1⟩)
  | (go_at_call 9; refine (pnew_none m 0 0 hm hk w1).mono ?_; rintro e w2 ⟨rfl, b2⟩)
  | (go_at_call 10; refine (new_none7 m 0 w2 hk).mono ?_; rintro e w3 ⟨rfl, rfl⟩))
 go_ret
 exact ⟨ret_bool (by simp), b1.trans (b2.mono b1.size)⟩
set_option maxHeartbeats 8000000 in
set_option maxRecDepth 100000 in
theorem plays7_some (m : Int) (p0 : Option Addr) (n0 c0 : Nat) (z0 : List Op7) (w : World) (hm : wfI m) (hk : rOk m 0 0 = true) (h0 : InOps7 w p0 n0 z0) (l0 : n0 ≤ maxLen) :
 Calls Tryz.prog 3 #[.int .i64 m, .slice p0 n0 c0] w fun e w' => e = .returned (.bool true) ∧ Below w.heap.size w w' := by
 have hk3 : rMode m = true ∧ rId 0 = true := by
  have hk' := hk
  unfold rOk at hk'
  simp only [Bool.and_eq_true] at hk'
  exact ⟨hk'.1, hk'.2.1⟩
 have I0 : Inv 0 (Ino.newP m 0 0) := ⟨sound_new _ _ _, md_new hk, mw_new hm, HB.new _ _ _⟩
 have H0 := hid h0
 unfold maxLen at l0
 clear h0
 go_enter Tryz.func3, Tryz.ntmps3
 go_wp2_with (first
  | (go_at_call 8; refine (shown7_any _).mono ?_; rintro e w1 ⟨rfl, b1⟩)
  | (go_at_call 9; refine (ps_new b1 m 0 0 hm hk).mono ?_; rintro e w2 ⟨A, rfl, p2⟩)
  | (go_at_call 10; refine (td_new m 0 0 p2 hk3.1 hk3.2 hk3.2).mono ?_; rintro e w3 ⟨C, B, rfl, p3⟩))
 clear b1 p2
 go_loopw [8] (fun iv wr => playRel7 w A C B iv wr) (fun iv _ => 80 - (intOf iv).toNat)
 case atStart => exact ⟨0, _, rfl, by decide, p3, I0⟩
 case round =>
  obtain ⟨k, t, rfl, hk80, hp, hI⟩ := hrel
  clear p3 I0
  by_cases hlt : k < n0 ∧ k < 80
  ·obtain ⟨k0, k2⟩ := hlt
   have hz0 : z0[k]? = some (z0[k]'(by rw [H0.out.1]; exact k0)) := List.getElem?_eq_getElem _
   obtain ⟨ok0, g0, o0, rfl, hc⟩ := H0.out.2 k _ hz0
   generalize z0[k]'(by rw [H0.out.1]; exact k0) = z at hz0 ok0 hc
   have hg : g0 < w.heap.size := cell_lt (hc 0 _ rfl)
   have e0 : wr.cell? ⟨g0, o0 + k * 10, none⟩ = some (.int .i64 z.kind) := hp.cell hg (hc 0 _ rfl)
   have e1 : wr.cell? ⟨g0, o0 + k * 10 + 1, none⟩ = some (.int .i64 z.cwd) := hp.cell hg (hc 1 _ rfl)
   have e2 : wr.cell? ⟨g0, o0 + k * 10 + 2, none⟩ = some (.int .i64 z.u) := hp.cell hg (hc 2 _ rfl)
   have e3 : wr.cell? ⟨g0, o0 + k * 10 + 3, none⟩ = some (.int .i64 z.g) := hp.cell hg (hc 3 _ rfl)
   have e4 : wr.cell? ⟨g0, o0 + k * 10 + 4, none⟩ = some (.string z.s) := hp.cell hg (hc 4 _ rfl)
   have e5 : wr.cell? ⟨g0, o0 + k * 10 + 5, none⟩ = some (.string z.x) := hp.cell hg (hc 5 _ rfl)
   have e6 : wr.cell? ⟨g0, o0 + k * 10 + 6, none⟩ = some (.int .i64 z.m) := hp.cell hg (hc 6 _ rfl)
   have e7 : wr.cell? ⟨g0, o0 + k * 10 + 7, none⟩ = some (.int .i64 z.n) := hp.cell hg (hc 7 _ rfl)
   have e8 : wr.cell? ⟨g0, o0 + k * 10 + 8, none⟩ = some (.int .i64 z.a) := hp.cell hg (hc 8 _ rfl)
   have e9 : wr.cell? ⟨g0, o0 + k * 10 + 9, none⟩ = some (.int .i64 z.b) := hp.cell hg (hc 9 _ rfl)
   have i1 : (0 : Int) ≤ (k : Int) := by omega
   have i2 : (k : Int) < n0 := by omega
   have i5 : (k : Int) < 80 := by omega
   have HI := hid hI
   clear hz0 hI hc
   obtain ⟨kd, cwd, u, g, s, x, om, n, a, b⟩ := z
   simp only at e0 e1 e2 e3 e4 e5 e6 e7 e8 e9
   obtain ⟨os, ox, oom, ob⟩ := ok0
   simp only at os ox oom ob
   by_cases hsz : x.size ≤ 5000
   ·have i3 : ¬ (5000 < (x.size : Int)) := by omega
    have ok : Op7.Ok ⟨kd, cwd, u, g, s, x, om, n, a, b⟩ := ⟨os, hsz, oom, ob⟩
    go_wp2_with fail
    have hd := does7_any ⟨kd, cwd, u, g, s, x, om, n, a, b⟩ ok (hp.read (bel1 wr (.cells #[.int .i64 kd, .int .i64 cwd, .int .i64 u, .int .i64 g, .string s, .string x, .int .i64 om, .int .i64 n, .int .i64 a, .int .i64 b] 29))) HI.out (by omega)
    have hI2 := Op7.keeps ⟨kd, cwd, u, g, s, x, om, n, a, b⟩ ok HI.out
    simp only [Op7.val] at hd
    have HD := hid hd
    have HI2 := hid hI2
    clear hd hI2 ok hp HI
    generalize Op7.step ⟨kd, cwd, u, g, s, x, om, n, a, b⟩ t = t' at *
    refine HD.out.mono ?_
    rintro e w4 ⟨rfl, p4⟩
    clear HD
    go_wp2_with (first
     | (go_at_call 12; refine (same7_any p4 HI2.out.s).mono ?_; rintro e w5 ⟨rfl, p5⟩))
    go_roundw
    case rel => exact ⟨k + 1, t', by go_num, by omega, p5, HI2.out⟩
    case measure => simp [intOf]; omega
   ·have i3 : (5000 < (x.size : Int)) := by omega
    have hss2 : (x.extract 0 5000).size ≤ 5000 := by rw [extract_size7 x (by omega)]; omega
    have ok : Op7.Ok ⟨kd, cwd, u, g, s, (x.extract 0 5000), om, n, a, b⟩ := ⟨os, hss2, oom, ob⟩
    go_wp2_with fail
    generalize x.extract 0 5000 = x2 at *
    have hd := does7_any ⟨kd, cwd, u, g, s, x2, om, n, a, b⟩ ok (hp.read (bel1 wr (.cells #[.int .i64 kd, .int .i64 cwd, .int .i64 u, .int .i64 g, .string s, .string x2, .int .i64 om, .int .i64 n, .int .i64 a, .int .i64 b] 29))) HI.out (by omega)
    have hI2 := Op7.keeps ⟨kd, cwd, u, g, s, x2, om, n, a, b⟩ ok HI.out
    simp only [Op7.val] at hd
    have HD := hid hd
    have HI2 := hid hI2
    clear hd hI2 ok hp HI
    generalize Op7.step ⟨kd, cwd, u, g, s, x2, om, n, a, b⟩ t = t' at *
    refine HD.out.mono ?_
    rintro e w4 ⟨rfl, p4⟩
    clear HD
    go_wp2_with (first
     | (go_at_call 12; refine (same7_any p4 HI2.out.s).mono ?_; rintro e w5 ⟨rfl, p5⟩))
    go_roundw
    case rel => exact ⟨k + 1, t', by go_num, by omega, p5, HI2.out⟩
    case measure => simp [intOf]; omega
  ·have HP := hid hp.below
   clear hI hp
   by_cases hk0 : k < n0
   ·have hk1 : ¬ k < 80 := fun h => hlt ⟨hk0, h⟩
    have i1 : (k : Int) < n0 := by omega
    have i2 : ¬ (k : Int) < 80 := by omega
    go_wp2_with fail
    go_ret
    exact ⟨rfl, HP.out⟩
   ·have i1 : ¬ (k : Int) < n0 := by omega
    go_wp2_with fail
    go_ret
    exact ⟨rfl, HP.out⟩
theorem plays7_walk (m : Int) (p0 : Option Addr) (n0 c0 : Nat) (z0 : List Op7) (w : World) (hm : (Lit.int .i64 m).wf) (h0 : InOps7 w p0 n0 z0) (l0 : n0 ≤ maxLen) :
 Calls Tryz.prog 3 #[.int .i64 m, .slice p0 n0 c0] w fun e w' => e = .returned (.bool true) ∧ Below w.heap.size w w' := by
 cases hk : rOk m 0 0
 ·exact plays7_none m p0 n0 c0 w (int_wf2 hm) hk
 ·exact plays7_some m p0 n0 c0 z0 w (int_wf2 hm) hk h0 l0
end
end Go.Proofs.YtlpececggkdhmaaGreat

