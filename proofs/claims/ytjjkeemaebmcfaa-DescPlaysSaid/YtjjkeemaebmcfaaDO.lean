/- The walk of DescPlays. -/
import Derived.Test.YtjjkeemaebmcfaaDN
import Derived.Deep.RegionHeld3
namespace Go.Proofs.Ytjjkeemaebmcfaa
open Go.RowKit
set_option linter.unusedVariables false
set_option linter.unusedSimpArgs false
variable {w0 W W' : World} {P B : Nat} {e e' : Tab}

def playRel (w : World) (P B : Nat) (iv : Value) (wr : World) : Prop := ∃ (k : Nat) (e e' : Tab), iv = .int .i64 k ∧ k ≤ 200 ∧ DW w wr P B e e' ∧ Eqv e e' ∧ Bnd e k
theorem op_cell (w : World) (cs : Array Value) (t : TypeId) {j : Nat} {v : Value} (h : cs[j]? = some v) : (w.alloc (.cells cs t)).cell? ⟨w.heap.size, j, none⟩ = some v := by
  rw [cell_of_row _ w.heap.size j _ _ (0, 0) (heap_alloc_new w _)]
  exact h
theorem gp_x {n a b c f : Int} {d : Bool} {m : Nat} {X : Bool} (h : DW w0 W P B e e') (hg : getA e n = ⟨a, b, c, d, f, m⟩) (hX : isE e n = X) :
    Calls Try.prog 18 #[.pointer (some ⟨P, 0, none⟩), .int .i64 n] W fun r w' => r = .returned (.tuple #[.agg #[.int .i64 a, .int .i64 b, .int .i64 c, .bool d, .int .i64 f], .bool X]) ∧ DW w0 w' P B e e' ∧ FD P B W w' :=
  (dp_get n h).mono fun r w' k => by rw [hg, hX] at k; exact k
theorem gr_x {n a b c f : Int} {d : Bool} {m : Nat} {X : Bool} (h : DW w0 W P B e e') (q : Eqv e e') (hg : getA e n = ⟨a, b, c, d, f, m⟩) (hX : isE e n = X) :
    Calls Try.prog 19 #[.pointer (some ⟨B, 0, none⟩), .int .i64 n] (W.alloc (.cells #[.int .i64 a, .int .i64 b, .int .i64 c, .bool d, .int .i64 f] 28)) fun r w' => r = .returned (.tuple #[.agg #[.int .i64 a, .int .i64 b, .int .i64 c, .bool d, .int .i64 f], .bool X]) ∧ DW w0 w' P B e e' ∧ FD P B W w' ∧
      (w'.cell? ⟨W.heap.size, 0, none⟩ = some (.int .i64 a) ∧ w'.cell? ⟨W.heap.size, 1, none⟩ = some (.int .i64 b) ∧ w'.cell? ⟨W.heap.size, 2, none⟩ = some (.int .i64 c) ∧ w'.cell? ⟨W.heap.size, 3, none⟩ = some (.bool d) ∧ w'.cell? ⟨W.heap.size, 4, none⟩ = some (.int .i64 f)) ∧ W.heap.size < w'.heap.size :=
  (dr_get n (h.same ((Fr.refl _ _).alloc _))).mono fun r w' k => by
    rw [q.get n, q.is n, hg, hX] at k
    obtain ⟨k1, k2, k3⟩ := k
    have nP : W.heap.size ≠ P := fun e => by have := h.p.lt; omega
    have nB : W.heap.size ≠ B := fun e => by have := h.r.lt; omega
    have hc : ∀ (j : Nat) v, (Ent.mk a b c d f 0).desc[j]? = some v → w'.cell? ⟨W.heap.size, j, none⟩ = some v := fun j v hj => k3.cell (lay_desc W 28 (Ent.mk a b c d f 0) j v hj) nP nB
    exact ⟨k1, k2, ((Fr.refl _ _).alloc _).trans k3, ⟨hc 0 _ rfl, hc 1 _ rfl, hc 2 _ rfl, hc 3 _ rfl, hc 4 _ rfl⟩, Nat.lt_of_lt_of_le (by simp) k3.size⟩
theorem hp_x {n : Int} {M : Nat} (h : DW w0 W P B e e') (hM : heldA e n = M) (q : Nat) : Calls Try.prog 20 #[.pointer (some ⟨P, 0, none⟩), .int .i64 n] (W.drewN q) fun r w' => r = .returned (.int .i64 (M : Nat)) ∧ ∃ m, w' = W.drewN m :=
  (pheld_any n _ (h.p.fr (S := fun _ => False) ((Fr.refl _ _).drewN q) id)).mono fun r w' k => ⟨by rw [k.1, hM], q, k.2.symm⟩
theorem hr_x {n : Int} {M : Nat} (h : DW w0 W P B e e') (u : Eqv e e') (hM : heldA e n = M) (q : Nat) : Calls Try.prog 21 #[.pointer (some ⟨B, 0, none⟩), .int .i64 n] (W.drewN q) fun r w' => r = .returned (.int .i64 (M : Nat)) ∧ ∃ m, w' = W.drewN m :=
  (rheld_any n _ (h.r.fr (S := fun _ => False) ((Fr.refl _ _).drewN q) id)).mono fun r w' k => ⟨by rw [k.1, u.held n, hM], q, k.2.symm⟩
theorem op_x {a b c f : Int} {d : Bool} (h : DW w0 W P B e e') : Calls Try.prog 10 #[.pointer (some ⟨P, 0, none⟩), .agg #[.int .i64 a, .int .i64 b, .int .i64 c, .bool d, .int .i64 f]] W fun r w' => r = .returned (.tuple #[.int .i64 (openN e ⟨a, b, c, d, f, 0⟩), .int .i64 (openX e ⟨a, b, c, d, f, 0⟩)]) ∧ DW w0 w' P B (openT e ⟨a, b, c, d, f, 0⟩) e' ∧ FD P B W w' := dp_open _ h
theorem or_x {a b c f : Int} {d : Bool} {e2 : Tab} (h : DW w0 W P B e2 e') (q : Eqv e e') : Calls Try.prog 11 #[.pointer (some ⟨B, 0, none⟩), .agg #[.int .i64 a, .int .i64 b, .int .i64 c, .bool d, .int .i64 f]] W fun r w' => r = .returned (.tuple #[.int .i64 (openN e ⟨a, b, c, d, f, 0⟩), .int .i64 (openX e ⟨a, b, c, d, f, 0⟩)]) ∧ DW w0 w' P B e2 (openT e' ⟨a, b, c, d, f, 0⟩) ∧ FD P B W w' :=
  (dr_open ⟨a, b, c, d, f, 0⟩ h).mono fun r w' k => by rw [q.openN, q.openX] at k; exact k
theorem sr_x {n a : Int} {e2 : Tab} (h : DW w0 W P B e2 e') (q : Eqv e e') : Calls Try.prog 13 #[.pointer (some ⟨B, 0, none⟩), .int .i64 n, .int .i64 a] W fun r w' => r = .returned (.bool (seekB e n a)) ∧ DW w0 w' P B e2 (seekT e' n a) ∧ FD P B W w' :=
  (dr_seek n a h).mono fun r w' k => by rw [q.seekB] at k; exact k
theorem lr_x {n : Int} {e2 : Tab} (h : DW w0 W P B e2 e') (q : Eqv e e') (b : Bnd e 200) : Calls Try.prog 15 #[.pointer (some ⟨B, 0, none⟩), .int .i64 n] W fun r w' => r = .returned (.bool (isE e n)) ∧ DW w0 w' P B e2 (holdT e' n) ∧ FD P B W w' :=
  (dr_hold n h (by have := b n.toNat; rw [(q n.toNat).1] at this; omega)).mono fun r w' k => by rw [q.is n] at k; exact k
theorem ap_x {n a b c f : Int} {d : Bool} {m : Nat} {X : Bool} (h : DW w0 W P B e e') (bd : Bnd e 200) (hg : dropA e n = ⟨a, b, c, d, f, m⟩) (hX : dropB e n = X) :
    Calls Try.prog 16 #[.pointer (some ⟨P, 0, none⟩), .int .i64 n] W fun r w' => r = .returned (.tuple #[.agg #[.int .i64 a, .int .i64 b, .int .i64 c, .bool d, .int .i64 f], .bool X]) ∧ DW w0 w' P B (dropP e n) e' ∧ FD P B W w' :=
  (dp_drop n h (by have := bd n.toNat; omega)).mono fun r w' k => by rw [hg, hX] at k; exact k
theorem ar_x {n a b c f : Int} {d : Bool} {m : Nat} {X : Bool} {e2 : Tab} (h : DW w0 W P B e2 e') (q : Eqv e e') (bd : Bnd e 200) (hg : dropA e n = ⟨a, b, c, d, f, m⟩) (hX : dropB e n = X) :
    Calls Try.prog 17 #[.pointer (some ⟨B, 0, none⟩), .int .i64 n] (W.alloc (.cells #[.int .i64 a, .int .i64 b, .int .i64 c, .bool d, .int .i64 f] 28)) fun r w' => r = .returned (.tuple #[.agg #[.int .i64 a, .int .i64 b, .int .i64 c, .bool d, .int .i64 f], .bool X]) ∧ DW w0 w' P B e2 (dropR e' n) ∧ FD P B W w' ∧
      (w'.cell? ⟨W.heap.size, 0, none⟩ = some (.int .i64 a) ∧ w'.cell? ⟨W.heap.size, 1, none⟩ = some (.int .i64 b) ∧ w'.cell? ⟨W.heap.size, 2, none⟩ = some (.int .i64 c) ∧ w'.cell? ⟨W.heap.size, 3, none⟩ = some (.bool d) ∧ w'.cell? ⟨W.heap.size, 4, none⟩ = some (.int .i64 f)) ∧ W.heap.size < w'.heap.size :=
  (dr_drop n (h.same ((Fr.refl _ _).alloc _)) (by have := bd n.toNat; rw [(q n.toNat).1] at this; omega)).mono fun r w' k => by
    rw [q.dropA n, q.dropB n, hg, hX] at k
    obtain ⟨k1, k2, k3⟩ := k
    have nP : W.heap.size ≠ P := fun e => by have := h.p.lt; omega
    have nB : W.heap.size ≠ B := fun e => by have := h.r.lt; omega
    have hc : ∀ (j : Nat) v, (Ent.mk a b c d f 0).desc[j]? = some v → w'.cell? ⟨W.heap.size, j, none⟩ = some v := fun j v hj => k3.cell (lay_desc W 28 (Ent.mk a b c d f 0) j v hj) nP nB
    exact ⟨k1, k2, ((Fr.refl _ _).alloc _).trans k3, ⟨hc 0 _ rfl, hc 1 _ rfl, hc 2 _ rfl, hc 3 _ rfl, hc 4 _ rfl⟩, Nat.lt_of_lt_of_le (by simp) k3.size⟩
set_option maxHeartbeats 4000000 in
set_option maxRecDepth 100000 in
theorem plays_any (p0 : Option Addr) (n0 c0 : Nat) (z0 : List OpD) (w : World) (h0 : InOps w p0 n0 z0) (l0 : n0 ≤ maxLen) :
    Calls Try.prog 3 #[.slice p0 n0 c0] w fun r w' => r = .returned (.bool true) ∧ Below w.heap.size w w' := by
  have H0 := Lib.hid h0
  unfold maxLen at l0
  clear h0
  obtain ⟨Z, hz, hz1, hz2⟩ := rtab_new w
  have HZ2 := Lib.hid hz2
  have hzn : ¬ Z = #[] := fun e => by rw [e] at hz; simp at hz
  clear hz2 hz
  go_enter Try.func3, Try.ntmps3
  go_wp2_with fail
  refine (shown_any w).mono ?_
  rintro r w1 ⟨rfl, b1⟩
  go_wp2_with fail
  refine (pt_new b1).mono ?_
  rintro r w2 ⟨P, rfl, p2⟩
  have D0 : DW w (w2.alloc (.cells Z 33)) P w2.heap.size emptyT emptyT := ⟨p2.t.fr (S := fun _ => False) ((Fr.refl _ _).alloc _) id, HZ2.out w2, Nat.ne_of_lt p2.t.lt, p2.hP, p2.bel.size, p2.bel.alloc p2.bel.size _⟩
  have START := Lib.hid (show playRel w P w2.heap.size (.int .i64 0) (w2.alloc (.cells Z 33)) from ⟨0, _, _, rfl, by decide, D0, fun i => ⟨rfl, fun _ => rfl⟩, fun i => Nat.le_refl _⟩)
  clear b1 p2 D0
  go_wp2
  generalize w2.heap.size = B at *
  go_loopw [6] (fun iv wr => playRel w P B iv wr) (fun iv _ => 200 - (intOf iv).toNat)
  case atStart => exact START.out
  case round =>
    clear START
    obtain ⟨k, e, e', rfl, hk, hd, hq, hbd⟩ := hrel
    by_cases hlt : k < n0 ∧ k < 200
    · obtain ⟨k0, k2⟩ := hlt
      have hz0 : z0[k]? = some (z0[k]'(by rw [H0.out.1]; exact k0)) := List.getElem?_eq_getElem _
      obtain ⟨ok, g0, o0, rfl, hc⟩ := H0.out.2 k _ hz0
      generalize z0[k]'(by rw [H0.out.1]; exact k0) = z at hz0 ok hc
      have hg : g0 < w.heap.size := cell_lt (hc 0 _ rfl)
      obtain ⟨kd, zn, za, ⟨a, b, c, d, f, nn⟩⟩ := z
      have hb' : ∀ (i : Nat) v, (OpD.mk kd zn za ⟨a, b, c, d, f, nn⟩).cells[i]? = some v → wr.cell? ⟨g0, o0 + k * 8 + i, none⟩ = some v := fun i v hi => (hd.bel.cell (p := ⟨g0, o0 + k * 8 + i, none⟩) hg).trans (hc i v hi)
      have e0 : wr.cell? ⟨g0, o0 + k * 8, none⟩ = some (.int .i64 kd) := hb' 0 _ rfl
      have e1 : wr.cell? ⟨g0, o0 + k * 8 + 1, none⟩ = some (.int .i64 zn) := hb' 1 _ rfl
      have e2 : wr.cell? ⟨g0, o0 + k * 8 + 2, none⟩ = some (.int .i64 za) := hb' 2 _ rfl
      have e3 : wr.cell? ⟨g0, o0 + k * 8 + 3, none⟩ = some (.int .i64 a) := hb' 3 _ rfl
      have e4 : wr.cell? ⟨g0, o0 + k * 8 + 4, none⟩ = some (.int .i64 b) := hb' 4 _ rfl
      have e5 : wr.cell? ⟨g0, o0 + k * 8 + 5, none⟩ = some (.int .i64 c) := hb' 5 _ rfl
      have e6 : wr.cell? ⟨g0, o0 + k * 8 + 6, none⟩ = some (.bool d) := hb' 6 _ rfl
      have e7 : wr.cell? ⟨g0, o0 + k * 8 + 7, none⟩ = some (.int .i64 f) := hb' 7 _ rfl
      have i1 : (0 : Int) ≤ (k : Int) := by omega
      have i2 : (k : Int) < n0 := by omega
      clear hz0 hc hb' ok
      have hbd2 : Bnd e 200 := hbd.more (by omega)
      have hda := hd.same ((Fr.refl _ wr).alloc (.cells #[.int .i64 kd, .int .i64 zn, .int .i64 za, .int .i64 a, .int .i64 b, .int .i64 c, .bool d, .int .i64 f] 35))
      have q1 : (wr.alloc (.cells #[.int .i64 kd, .int .i64 zn, .int .i64 za, .int .i64 a, .int .i64 b, .int .i64 c, .bool d, .int .i64 f] 35)).cell? ⟨wr.heap.size, 1, none⟩ = some (.int .i64 zn) := op_cell _ _ _ rfl
      have qq : ∀ j, j < 5 → (wr.alloc (.cells #[.int .i64 kd, .int .i64 zn, .int .i64 za, .int .i64 a, .int .i64 b, .int .i64 c, .bool d, .int .i64 f] 35)).cell? ⟨wr.heap.size, 3 + j, none⟩ = (Ent.mk a b c d f 0).desc[j]? := fun j hj => by
        match j, hj with
        | 0, _ => exact op_cell _ _ _ rfl
        | 1, _ => exact op_cell _ _ _ rfl
        | 2, _ => exact op_cell _ _ _ rfl
        | 3, _ => exact op_cell _ _ _ rfl
        | 4, _ => exact op_cell _ _ _ rfl
      have q2 : (wr.alloc (.cells #[.int .i64 kd, .int .i64 zn, .int .i64 za, .int .i64 a, .int .i64 b, .int .i64 c, .bool d, .int .i64 f] 35)).cell? ⟨wr.heap.size, 2, none⟩ = some (.int .i64 za) := op_cell _ _ _ rfl
      have gP : wr.heap.size ≠ P := fun e => by have := hd.p.lt; omega
      have gB : wr.heap.size ≠ B := fun e => by have := hd.r.lt; omega
      have gl : wr.heap.size < (wr.alloc (.cells #[.int .i64 kd, .int .i64 zn, .int .i64 za, .int .i64 a, .int .i64 b, .int .i64 c, .bool d, .int .i64 f] 35)).heap.size := by simp
      have HDA := Lib.hid hda
      have QQ := Lib.hid qq
      clear hd hda qq
      by_cases k1 : kd = 1
      · subst k1
        go_wp2_with fail
        refine (op_x HDA.out).mono ?_
        rintro r w4 ⟨rfl, d4, f4⟩
        have x0 := f4.cell (QQ.out 0 (by decide)) gP gB
        have x1 := f4.cell (QQ.out 1 (by decide)) gP gB
        have x2 := f4.cell (QQ.out 2 (by decide)) gP gB
        have x3 := f4.cell (QQ.out 3 (by decide)) gP gB
        have x4 := f4.cell (QQ.out 4 (by decide)) gP gB
        have x5 := f4.cell q1 gP gB
        have gl4 := Nat.lt_of_lt_of_le gl f4.size
        clear q1 q2 QQ f4 HDA e0 e1 e2 e3 e4 e5 e6 e7 gl
        generalize wr.heap.size = G at *
        have D4 := Lib.hid d4
        clear d4
        go_wp2_with fail
        refine (or_x D4.out hq).mono ?_
        rintro r w5 ⟨rfl, d5, f5⟩
        have x6 := f5.cell x5 gP gB
        have gl5 := Nat.lt_of_lt_of_le gl4 f5.size
        have hq5 := hq.openT ⟨a, b, c, d, f, 0⟩
        have hb5 := hbd.openT ⟨a, b, c, d, f, 0⟩
        clear x0 x1 x2 x3 x4 x5 D4 f5 hq hbd hbd2 gl4
        generalize openT e ⟨a, b, c, d, f, 0⟩ = T at *
        generalize openT e' ⟨a, b, c, d, f, 0⟩ = T' at *
        generalize openN e ⟨a, b, c, d, f, 0⟩ = N1 at *
        generalize openX e ⟨a, b, c, d, f, 0⟩ = N2 at *
        have D5 := Lib.hid d5
        have HQ5 := Lib.hid hq5
        have HB5 := Lib.hid hb5
        clear d5 hq5 hb5
        obtain ⟨A, hA⟩ : ∃ A, getA T zn = A := ⟨_, rfl⟩
        obtain ⟨X, hX⟩ : ∃ X, isE T zn = X := ⟨_, rfl⟩
        obtain ⟨M, hM⟩ : ∃ M, heldA T zn = M := ⟨_, rfl⟩
        obtain ⟨ga, gb, gc, gd, gf, gm⟩ := A
        have HA := Lib.hid hA
        have HX := Lib.hid hX
        have HM := Lib.hid hM
        clear hA hX hM
        go_wp2_with fail
        refine (gp_x D5.out HA.out HX.out).mono ?_
        rintro r w6 ⟨rfl, d6, f6⟩
        have x7 := f6.cell x6 gP gB
        have gl6 := Nat.lt_of_lt_of_le gl5 f6.size
        have D6 := Lib.hid d6
        clear x6 f6 d6 D5 gl5
        go_wp2_with fail
        refine (gr_x D6.out HQ5.out HA.out HX.out).mono ?_
        rintro r w7 ⟨rfl, d7, f7, ⟨y0, y1, y2, y3, y4⟩, gl7⟩
        have x8 := f7.cell x7 gP gB
        have gl8 := Nat.lt_of_lt_of_le gl6 f7.size
        have D7 := Lib.hid (d7.same ((Fr.refl _ _).alloc (.cells #[.int .i64 ga, .int .i64 gb, .int .i64 gc, .bool gd, .int .i64 gf] 28)))
        clear d7 f7 x7 D6 gl6
        generalize w6.heap.size = G6 at *
        have qe := fun w => eq_desc ga gb gc gd gf w
        have qg := fun op a b xs ys w => guard_desc op a b xs ys w
        have HP := Lib.hid (hp_x D7.out HM.out)
        have HR := Lib.hid (hr_x D7.out HQ5.out HM.out)
        clear HA HX HM
        go_wp2_with fail
        go_quiet (first | (go_at_call 20; refine (HP.out _)) | (go_at_call 21; refine (HR.out _)))
        go_wp2
        go_roundw
        case rel => exact ⟨k + 1, _, _, by go_num, by omega, D7.out.same ((Fr.refl _ _).drewN _), HQ5.out, HB5.out⟩
        case measure => simp [intOf]; omega
      by_cases k2' : kd = 2
      · subst k2'
        go_wp2_with fail
        have D1 := HDA.out.same ((Fr.refl _ _).drew)
        have q5 := q1
        have q6 := q2
        have gl1 := gl
        clear HDA e0 e1 e2 e3 e4 e5 e6 e7 q1 q2 gl QQ
        generalize wr.alloc (.cells #[.int .i64 2, .int .i64 zn, .int .i64 za, .int .i64 a, .int .i64 b, .int .i64 c, .bool d, .int .i64 f] 35) = w4 at *
        change w4.drew.cell? _ = _ at q5 q6
        change _ < w4.drew.heap.size at gl1
        generalize wr.heap.size = G at *
        go_region_held3 (fun w' => w'.cell? ⟨G, 1, none⟩ = some (.int .i64 zn) ∧ w'.cell? ⟨G, 2, none⟩ = some (.int .i64 za))
          (first | exact ⟨q5, q6⟩ | exact ⟨f4.cell q5 gP gB, f4.cell q6 gP gB⟩ | exact ⟨f5.cell (f4.cell q5 gP gB) gP gB, f5.cell (f4.cell q6 gP gB) gP gB⟩)
          (first
            | (go_at_call 12; refine (dp_seek zn za D1).mono ?_; rintro r w5 ⟨rfl, d4, f4⟩)
            | (go_at_call 13; refine (sr_x d4 hq).mono ?_; rintro r w6 ⟨rfl, d5, f5⟩))
        all_goals
          have x6 := f5.cell (f4.cell q5 gP gB) gP gB
          have gl5 := Nat.lt_of_lt_of_le (Nat.lt_of_lt_of_le gl1 f4.size) f5.size
          have hq5 := hq.seekT zn za
          have hb5 := hbd.seekT zn za
          clear f4 f5 q5 q6 hq hbd hbd2 gl1 D1 d4
          generalize seekB e zn za = S0 at *
          generalize seekT e zn za = T at *
          generalize seekT e' zn za = T' at *
          have D5 := Lib.hid d5
          have HQ5 := Lib.hid hq5
          have HB5 := Lib.hid hb5
          clear d5 hq5 hb5
          obtain ⟨A, hA⟩ : ∃ A, getA T zn = A := ⟨_, rfl⟩
          obtain ⟨X, hX⟩ : ∃ X, isE T zn = X := ⟨_, rfl⟩
          obtain ⟨M, hM⟩ : ∃ M, heldA T zn = M := ⟨_, rfl⟩
          obtain ⟨ga, gb, gc, gd, gf, gm⟩ := A
          have HA := Lib.hid hA
          have HX := Lib.hid hX
          have HM := Lib.hid hM
          clear hA hX hM
          go_wp2_with fail
          refine (gp_x D5.out HA.out HX.out).mono ?_
          rintro r w6 ⟨rfl, d6, f6⟩
          have x7 := f6.cell x6 gP gB
          have gl6 := Nat.lt_of_lt_of_le gl5 f6.size
          have D6 := Lib.hid d6
          clear x6 f6 d6 D5 gl5
          go_wp2_with fail
          refine (gr_x D6.out HQ5.out HA.out HX.out).mono ?_
          rintro r w7 ⟨rfl, d7, f7, ⟨y0, y1, y2, y3, y4⟩, gl7⟩
          have x8 := f7.cell x7 gP gB
          have gl8 := Nat.lt_of_lt_of_le gl6 f7.size
          have D7 := Lib.hid (d7.same ((Fr.refl _ _).alloc (.cells #[.int .i64 ga, .int .i64 gb, .int .i64 gc, .bool gd, .int .i64 gf] 28)))
          clear d7 f7 x7 D6 gl6
          generalize w6.heap.size = G6 at *
          have qe := fun w => eq_desc ga gb gc gd gf w
          have qg := fun op a b xs ys w => guard_desc op a b xs ys w
          have HP := Lib.hid (hp_x D7.out HM.out)
          have HR := Lib.hid (hr_x D7.out HQ5.out HM.out)
          clear HA HX HM
          go_wp2_with fail
          go_quiet (first | (go_at_call 20; refine (HP.out _)) | (go_at_call 21; refine (HR.out _)))
          go_wp2
          go_roundw
          case rel => exact ⟨k + 1, _, _, by go_num, by omega, D7.out.same ((Fr.refl _ _).drewN _), HQ5.out, HB5.out⟩
          case measure => simp [intOf]; omega
      by_cases k3 : kd = 3
      · subst k3
        go_wp2_with fail
        have D1 := HDA.out.same ((Fr.refl _ _).drew)
        have q5 := q1
        have q6 := q2
        have gl1 := gl
        clear HDA e0 e1 e2 e3 e4 e5 e6 e7 q1 q2 gl QQ
        generalize wr.alloc (.cells #[.int .i64 3, .int .i64 zn, .int .i64 za, .int .i64 a, .int .i64 b, .int .i64 c, .bool d, .int .i64 f] 35) = w4 at *
        change w4.drew.cell? _ = _ at q5 q6
        change _ < w4.drew.heap.size at gl1
        generalize wr.heap.size = G at *
        go_region_held3 (fun w' => w'.cell? ⟨G, 1, none⟩ = some (.int .i64 zn) ∧ w'.cell? ⟨G, 2, none⟩ = some (.int .i64 za))
          (first | exact ⟨q5, q6⟩ | exact ⟨f4.cell q5 gP gB, f4.cell q6 gP gB⟩ | exact ⟨f5.cell (f4.cell q5 gP gB) gP gB, f5.cell (f4.cell q6 gP gB) gP gB⟩)
          (first
            | (go_at_call 14; refine (dp_hold zn D1 (by have := hbd2 zn.toNat; omega)).mono ?_; rintro r w5 ⟨rfl, d4, f4⟩)
            | (go_at_call 15; refine (lr_x d4 hq hbd2).mono ?_; rintro r w6 ⟨rfl, d5, f5⟩))
        all_goals
          have x6 := f5.cell (f4.cell q5 gP gB) gP gB
          have gl5 := Nat.lt_of_lt_of_le (Nat.lt_of_lt_of_le gl1 f4.size) f5.size
          have hq5 := hq.holdT zn
          have hb5 := hbd.holdT zn
          clear f4 f5 q5 q6 hq hbd hbd2 gl1 D1 d4
          generalize isE e zn = S0 at *
          generalize holdT e zn = T at *
          generalize holdT e' zn = T' at *
          have D5 := Lib.hid d5
          have HQ5 := Lib.hid hq5
          have HB5 := Lib.hid hb5
          clear d5 hq5 hb5
          obtain ⟨A, hA⟩ : ∃ A, getA T zn = A := ⟨_, rfl⟩
          obtain ⟨X, hX⟩ : ∃ X, isE T zn = X := ⟨_, rfl⟩
          obtain ⟨M, hM⟩ : ∃ M, heldA T zn = M := ⟨_, rfl⟩
          obtain ⟨ga, gb, gc, gd, gf, gm⟩ := A
          have HA := Lib.hid hA
          have HX := Lib.hid hX
          have HM := Lib.hid hM
          clear hA hX hM
          go_wp2_with fail
          refine (gp_x D5.out HA.out HX.out).mono ?_
          rintro r w6 ⟨rfl, d6, f6⟩
          have x7 := f6.cell x6 gP gB
          have gl6 := Nat.lt_of_lt_of_le gl5 f6.size
          have D6 := Lib.hid d6
          clear x6 f6 d6 D5 gl5
          go_wp2_with fail
          refine (gr_x D6.out HQ5.out HA.out HX.out).mono ?_
          rintro r w7 ⟨rfl, d7, f7, ⟨y0, y1, y2, y3, y4⟩, gl7⟩
          have x8 := f7.cell x7 gP gB
          have gl8 := Nat.lt_of_lt_of_le gl6 f7.size
          have D7 := Lib.hid (d7.same ((Fr.refl _ _).alloc (.cells #[.int .i64 ga, .int .i64 gb, .int .i64 gc, .bool gd, .int .i64 gf] 28)))
          clear d7 f7 x7 D6 gl6
          generalize w6.heap.size = G6 at *
          have qe := fun w => eq_desc ga gb gc gd gf w
          have qg := fun op a b xs ys w => guard_desc op a b xs ys w
          have HP := Lib.hid (hp_x D7.out HM.out)
          have HR := Lib.hid (hr_x D7.out HQ5.out HM.out)
          clear HA HX HM
          go_wp2_with fail
          go_quiet (first | (go_at_call 20; refine (HP.out _)) | (go_at_call 21; refine (HR.out _)))
          go_wp2
          go_roundw
          case rel => exact ⟨k + 1, _, _, by go_num, by omega, D7.out.same ((Fr.refl _ _).drewN _), HQ5.out, HB5.out⟩
          case measure => simp [intOf]; omega
      by_cases k4 : kd = 4
      · subst k4
        obtain ⟨A0, hA0⟩ : ∃ A, dropA e zn = A := ⟨_, rfl⟩
        obtain ⟨X0, hX0⟩ : ∃ X, dropB e zn = X := ⟨_, rfl⟩
        obtain ⟨da, db, dc, dd, df, dm⟩ := A0
        have HA0 := Lib.hid hA0
        have HX0 := Lib.hid hX0
        clear hA0 hX0
        go_wp2_with fail
        refine (ap_x HDA.out hbd2 HA0.out HX0.out).mono ?_
        rintro r w4 ⟨rfl, d4, f4⟩
        have x5 := f4.cell q1 gP gB
        have gl4 := Nat.lt_of_lt_of_le gl f4.size
        clear q1 q2 QQ f4 HDA e0 e1 e2 e3 e4 e5 e6 e7 gl
        generalize wr.heap.size = G at *
        have D4 := Lib.hid d4
        clear d4
        go_wp2_with fail
        refine (ar_x D4.out hq hbd2 HA0.out HX0.out).mono ?_
        rintro r w8 ⟨rfl, d5', f5, ⟨z0, z1, z2, z3, z4⟩, glz⟩
        have x6' := f5.cell x5 gP gB
        have gl5' := Nat.lt_of_lt_of_le gl4 f5.size
        have hq5 := hq.dropT zn
        have hb5 := hbd.dropP zn
        clear x5 D4 f5 hq hbd hbd2 gl4 HA0 HX0
        generalize dropP e zn = T at *
        generalize dropR e' zn = T' at *
        generalize w4.heap.size = G4 at *
        have qe0 := fun w => eq_desc da db dc dd df w
        have qg0 := fun op a b xs ys w => guard_desc op a b xs ys w
        go_wp2_with fail
        have d5 := d5'.same ((Fr.refl _ _).alloc (.cells #[.int .i64 da, .int .i64 db, .int .i64 dc, .bool dd, .int .i64 df] 28))
        have x6 := Fr.cell (S := fun _ => False) ((Fr.refl _ _).alloc (.cells #[.int .i64 da, .int .i64 db, .int .i64 dc, .bool dd, .int .i64 df] 28)) x6' id
        have gl5 : G < (w8.alloc (.cells #[.int .i64 da, .int .i64 db, .int .i64 dc, .bool dd, .int .i64 df] 28)).heap.size := Nat.lt_of_lt_of_le gl5' (by simp)
        clear d5' x6' gl5' z0 z1 z2 z3 z4 glz qe0 qg0
        generalize w8.alloc (.cells #[.int .i64 da, .int .i64 db, .int .i64 dc, .bool dd, .int .i64 df] 28) = w9 at *
        have D5 := Lib.hid d5
        have HQ5 := Lib.hid hq5
        have HB5 := Lib.hid hb5
        clear d5 hq5 hb5
        obtain ⟨A, hA⟩ : ∃ A, getA T zn = A := ⟨_, rfl⟩
        obtain ⟨X, hX⟩ : ∃ X, isE T zn = X := ⟨_, rfl⟩
        obtain ⟨M, hM⟩ : ∃ M, heldA T zn = M := ⟨_, rfl⟩
        obtain ⟨ga, gb, gc, gd, gf, gm⟩ := A
        have HA := Lib.hid hA
        have HX := Lib.hid hX
        have HM := Lib.hid hM
        clear hA hX hM
        go_wp2_with fail
        refine (gp_x D5.out HA.out HX.out).mono ?_
        rintro r w6 ⟨rfl, d6, f6⟩
        have x7 := f6.cell x6 gP gB
        have gl6 := Nat.lt_of_lt_of_le gl5 f6.size
        have D6 := Lib.hid d6
        clear x6 f6 d6 D5 gl5
        go_wp2_with fail
        refine (gr_x D6.out HQ5.out HA.out HX.out).mono ?_
        rintro r w7 ⟨rfl, d7, f7, ⟨y0, y1, y2, y3, y4⟩, gl7⟩
        have x8 := f7.cell x7 gP gB
        have gl8 := Nat.lt_of_lt_of_le gl6 f7.size
        have D7 := Lib.hid (d7.same ((Fr.refl _ _).alloc (.cells #[.int .i64 ga, .int .i64 gb, .int .i64 gc, .bool gd, .int .i64 gf] 28)))
        clear d7 f7 x7 D6 gl6
        generalize w6.heap.size = G6 at *
        have qe := fun w => eq_desc ga gb gc gd gf w
        have qg := fun op a b xs ys w => guard_desc op a b xs ys w
        have HP := Lib.hid (hp_x D7.out HM.out)
        have HR := Lib.hid (hr_x D7.out HQ5.out HM.out)
        clear HA HX HM
        go_wp2_with fail
        go_quiet (first | (go_at_call 20; refine (HP.out _)) | (go_at_call 21; refine (HR.out _)))
        go_wp2
        go_roundw
        case rel => exact ⟨k + 1, _, _, by go_num, by omega, D7.out.same ((Fr.refl _ _).drewN _), HQ5.out, HB5.out⟩
        case measure => simp [intOf]; omega
      · have n1 : (kd == 1) = false := by simpa using k1
        have n2 : (kd == 2) = false := by simpa using k2'
        have n3 : (kd == 3) = false := by simpa using k3
        have n4 : (kd == 4) = false := by simpa using k4
        have d5 := HDA.out
        have hq5 := hq
        have hb5 := hbd.more (show k ≤ k + 1 by omega)
        have x6 := q1
        have gl5 := gl
        clear HDA hq hbd hbd2 q1 q2 gl QQ
        generalize e = T at *
        generalize e' = T' at *
        have D5 := Lib.hid d5
        have HQ5 := Lib.hid hq5
        have HB5 := Lib.hid hb5
        clear d5 hq5 hb5
        obtain ⟨A, hA⟩ : ∃ A, getA T zn = A := ⟨_, rfl⟩
        obtain ⟨X, hX⟩ : ∃ X, isE T zn = X := ⟨_, rfl⟩
        obtain ⟨M, hM⟩ : ∃ M, heldA T zn = M := ⟨_, rfl⟩
        obtain ⟨ga, gb, gc, gd, gf, gm⟩ := A
        have HA := Lib.hid hA
        have HX := Lib.hid hX
        have HM := Lib.hid hM
        clear hA hX hM
        go_wp2_with fail
        refine (gp_x D5.out HA.out HX.out).mono ?_
        rintro r w6 ⟨rfl, d6, f6⟩
        have x7 := f6.cell x6 gP gB
        have gl6 := Nat.lt_of_lt_of_le gl5 f6.size
        have D6 := Lib.hid d6
        clear x6 f6 d6 D5 gl5
        go_wp2_with fail
        refine (gr_x D6.out HQ5.out HA.out HX.out).mono ?_
        rintro r w7 ⟨rfl, d7, f7, ⟨y0, y1, y2, y3, y4⟩, gl7⟩
        have x8 := f7.cell x7 gP gB
        have gl8 := Nat.lt_of_lt_of_le gl6 f7.size
        have D7 := Lib.hid (d7.same ((Fr.refl _ _).alloc (.cells #[.int .i64 ga, .int .i64 gb, .int .i64 gc, .bool gd, .int .i64 gf] 28)))
        clear d7 f7 x7 D6 gl6
        generalize w6.heap.size = G6 at *
        have qe := fun w => eq_desc ga gb gc gd gf w
        have qg := fun op a b xs ys w => guard_desc op a b xs ys w
        have HP := Lib.hid (hp_x D7.out HM.out)
        have HR := Lib.hid (hr_x D7.out HQ5.out HM.out)
        clear HA HX HM
        go_wp2_with fail
        go_quiet (first | (go_at_call 20; refine (HP.out _)) | (go_at_call 21; refine (HR.out _)))
        go_wp2
        go_roundw
        case rel => exact ⟨k + 1, _, _, by go_num, by omega, D7.out.same ((Fr.refl _ _).drewN _), HQ5.out, HB5.out⟩
        case measure => simp [intOf]; omega
    · have hbel := hd.bel
      clear hd
      by_cases hn : k < n0
      · have i3 : ¬ (k : Int) < 200 := by omega
        have i4 : (k : Int) < n0 := by omega
        go_wp2
        go_ret
        exact ⟨rfl, hbel⟩
      · have i4 : ¬ (k : Int) < n0 := by omega
        go_wp2
        go_ret
        exact ⟨rfl, hbel⟩
end Go.Proofs.Ytjjkeemaebmcfaa
