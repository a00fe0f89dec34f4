import Derived.Test.YtlpececggkdhmaaGreatN25
import Derived.Test.YtlpececggkdhmaaGreatN1
import Derived.Test.YtlpececggkdhmaaGreatN6
import Derived.Test.YtlpececggkdhmaaGreatN10
open Go.Lib (hid)
set_option linter.unusedVariables false
set_option linter.unusedSimpArgs false
set_option maxHeartbeats 8000000
set_option maxRecDepth 100000
namespace Go.Proofs.YtlpececggkdhmaaGreat
section
open Go.RowKit Ino Go.Maps
def someRel (w : World) (A C B : Nat) (iv : Value) (wr : World) : Prop := ∃ (k : Nat) (t : T), iv = .int .i64 k ∧ k ≤ 60 ∧ TW (KB w) w wr A C B t t ∧ Inv k t
theorem some7_any (p0 : Option Addr) (n0 c0 : Nat) (z0 : List Op7) (w : World) (h0 : InOps7 w p0 n0 z0) (l0 : n0 ≤ maxLen) :
 Calls Tryz.prog 13 #[.slice p0 n0 c0] w fun e w' => ∃ A t, e = .returned (.pointer (some ⟨A, 0, none⟩)) ∧ PS w w' A t ∧ Inv 60 t := by
 have hm : wfI 511 := by unfold wfI; omega
 have hk : rOk 511 0 0 = true := by decide
 have I0 : Inv 0 (Ino.newP 511 0 0) := ⟨sound_new _ _ _, md_new hk, mw_new hm, HB.new _ _ _⟩
 have H0 := hid h0
 unfold maxLen at l0
 clear h0
 go_enter Tryz.func13, Tryz.ntmps13
 go_wp2_with (first
  | (go_at_call 9; refine (ps_new (Below.refl w.heap.size w) 511 0 0 hm hk).mono ?_; rintro e w2 ⟨A, rfl, p2⟩)
  | (go_at_call 10; refine (td_new 511 0 0 p2 (by decide) (by decide) (by decide)).mono ?_; rintro e w3 ⟨C, B, rfl, p3⟩))
 clear p2
 go_loopw [5] (fun iv wr => someRel w A C B iv wr) (fun iv _ => 60 - (intOf iv).toNat)
 case atStart => exact ⟨0, _, rfl, by decide, p3, I0⟩
 case round =>
  obtain ⟨k, t, rfl, hk60, hp, hI⟩ := hrel
  clear p3 I0
  by_cases hlt : k < n0 ∧ k < 60
  ·obtain ⟨k0, k2⟩ := hlt
   have hz0 : z0[k]? = some (z0[k]'(by rw [H0.out.1]; exact k0)) := List.getElem?_eq_getElem _
   obtain ⟨ok0, g0, o0, rfl, hc⟩ := H0.out.2 k _ hz0
   generalize z0[k]'(by rw [H0.out.1]; exact k0) = z at hz0 ok0 hc
   have hg : g0 < w.heap.size := cell_lt (hc 0 _ rfl)
   have e0 : wr.cell? ⟨g0, o0 + k * 10, none⟩ = some (.int .i64 z.kind) := hp.cell hg (hc 0 _ rfl)
   have e1 : wr.cell? ⟨g0, o0 + k * 10 + 1, none⟩ = some (.int .i64 z.cwd) := hp.cell hg (hc 1 _ rfl)
   have e2 : wr.cell? ⟨g0, o0 + k * 10 + 2, none⟩ = some (.int .i64 z.u) := hp.cell hg (hc 2 _ rfl)
   have e3 : wr.cell? ⟨g0, o0 + k * 10 + 3, none⟩ = some (.int .i64 z.g) := hp.cell hg (hc 3 _ rfl)
   have e4 : wr.cell? ⟨g0, o0 + k * 10 + 4, none⟩ = some (.string z.s) := hp.cell hg (hc 4 _ rfl)
   have e5 : wr.cell? ⟨g0, o0 + k * 10 + 5, none⟩ = some (.string z.x) := hp.cell hg (hc 5 _ rfl)
   have e6 : wr.cell? ⟨g0, o0 + k * 10 + 6, none⟩ = some (.int .i64 z.m) := hp.cell hg (hc 6 _ rfl)
   have e7 : wr.cell? ⟨g0, o0 + k * 10 + 7, none⟩ = some (.int .i64 z.n) := hp.cell hg (hc 7 _ rfl)
   have e8 : wr.cell? ⟨g0, o0 + k * 10 + 8, none⟩ = some (.int .i64 z.a) := hp.cell hg (hc 8 _ rfl)
   have e9 : wr.cell? ⟨g0, o0 + k * 10 + 9, none⟩ = some (.int .i64 z.b) := hp.cell hg (hc 9 _ rfl)
   have i1 : (0 : Int) ≤ (k : Int) := by omega
   have i2 : (k : Int) < n0 := by omega
   have i5 : (k : Int) < 60 := by omega
   have HI := hid hI
   clear hz0 hI hc
   obtain ⟨kd, cwd, u, g, s, x, om, n, a, b⟩ := z
   simp only at e0 e1 e2 e3 e4 e5 e6 e7 e8 e9
   obtain ⟨os, ox, oom, ob⟩ := ok0
   simp only at os ox oom ob
   by_cases hsz : x.size ≤ 5000
   ·have i3 : (x.size : Int) ≤ 5000 := by omega
    have ok : Op7.Ok ⟨kd, cwd, u, g, s, x, om, n, a, b⟩ := ⟨os, hsz, oom, ob⟩
    have hd := does7_any ⟨kd, cwd, u, g, s, x, om, n, a, b⟩ ok hp HI.out (by omega)
    have hI2 := Op7.keeps ⟨kd, cwd, u, g, s, x, om, n, a, b⟩ ok HI.out
    simp only [Op7.val] at hd
    have HD := hid hd
    have HI2 := hid hI2
    clear hd hI2 ok hp HI
    generalize Op7.step ⟨kd, cwd, u, g, s, x, om, n, a, b⟩ t = t' at *
    go_wp2_with (first
     | (go_at_call 11; refine HD.out.mono ?_; rintro e w4 ⟨rfl, p4⟩))
    go_roundw
    case rel => exact ⟨k + 1, t', by go_num, by omega, p4, HI2.out⟩
    case measure => simp [intOf]; omega
   ·have i3 : ¬ (x.size : Int) ≤ 5000 := by omega
    have HP := hid hp
    clear hp
    go_wp2_with fail
    go_roundw
    case rel => exact ⟨k + 1, t, by go_num, by omega, HP.out, ⟨HI.out.s, HI.out.m, HI.out.w, HI.out.b.mono (by omega)⟩⟩
    case measure => simp [intOf]; omega
  ·have HP := hid hp.ps
   have HI : Hid (Inv 60 t) := hid ⟨hI.s, hI.m, hI.w, hI.b.mono hk60⟩
   clear hI hp
   by_cases hk0 : k < n0
   ·have hk1 : ¬ k < 60 := fun h => hlt ⟨hk0, h⟩
    have i1 : (k : Int) < n0 := by omega
    have i2 : ¬ (k : Int) < 60 := by omega
    go_wp2_with fail
    go_ret
    first | exact ⟨_, t, rfl, HP.out, HI.out⟩ | exact ⟨_, rfl, t, HP.out, HI.out⟩
   ·have i1 : ¬ (k : Int) < n0 := by omega
    go_wp2_with fail
    go_ret
    first | exact ⟨_, t, rfl, HP.out, HI.out⟩ | exact ⟨_, rfl, t, HP.out, HI.out⟩
end
section
open Go.RowKit Ino Go.Maps
open Pa (Blk strV splE nam dirP absP splN splAbs splDir)
variable {w0 w : World} {A : Nat} {t : T}
def mayQ (t : T) (i u g want : Int) : Bool := (statP t i).2 && Mo.mayB (statP t i).1.mode (statP t i).1.owner (statP t i).1.group ((statP t i).1.kind == 1) u g want
theorem may7_any (h : PS w0 w A t) (hs : Sd t) (i u g want : Int) :
 Calls Tryz.prog 19 #[.pointer (some ⟨A, 0, none⟩), .int .i64 i, .int .i64 u, .int .i64 g, .int .i64 want] w fun e w' => e = .returned (.bool (mayQ t i u g want)) ∧ Below w.heap.size w w' := by
 have q := ps_stat h hs i
 have hr : mayQ t i u g want = ((statP t i).2 && Mo.mayB (statP t i).1.mode (statP t i).1.owner (statP t i).1.group ((statP t i).1.kind == 1) u g want) := rfl
 generalize mayQ t i u g want = r at *
 generalize statP t i = st at *
 obtain ⟨⟨ni, kd, md, ow, gr, nl, sz, ty⟩, ok⟩ := st
 simp only [infV] at q hr
 have HM := hid (fun W => Mo.may_any md ow gr (kd == 1) u g want W)
 generalize Mo.mayB md ow gr (kd == 1) u g want = mb at *
 have Q := hid q
 clear q h
 cases ok
 ·have hr2 : r = false := hr
  subst hr2
  clear hr HM
  go_enter Tryz.func19, Tryz.ntmps19
  go_wp2_with (go_at_call 21; refine Q.out.mono ?_; rintro e w1 ⟨rfl, p1, b1⟩)
  go_ret
  exact ⟨rfl, bal b1 _⟩
 ·have hr2 : r = mb := hr
  subst hr2
  clear hr
  go_enter Tryz.func19, Tryz.ntmps19
  go_wp2_with (first
   | (go_at_call 21; refine Q.out.mono ?_; rintro e w1 ⟨rfl, p1, b1⟩)
   | (go_at_call 58; refine (HM.out _).mono ?_; rintro e w2 ⟨rfl, rfl⟩))
  go_ret
  exact ⟨ret_bool rfl, bal b1 _⟩
def srchT (t : T) (u g : Int) : Int → List Bs → Bool
 | _, [] => true
 | a, n :: r => if mayQ t a u g 1 = true then (if (lookP t a n).2 = true then srchT t u g (lookP t a n).1 r else r.isEmpty) else false
def srchP (t : T) (cwd : Int) (s : Bs) (u g : Int) : Bool := if splE s = 0 then srchT t u g (startI cwd (splAbs s)) (splN s) else false
def srRel (w : World) (t : T) (G : Nat) (ab dr : Bool) (v : Value) (u g : Int) (l : List Bs) (r : Bool) (av iv : Value) (W : World) : Prop :=
 ∃ (k : Nat) (a : Int), av = .int .i64 a ∧ iv = .int .i64 k ∧ k ≤ l.length ∧ srchT t u g a (l.drop k) = r ∧ Blk W G 95 #[.bool ab, v, .bool dr] ∧ InNames W v l ∧ Below w.heap.size w W
theorem searched7_any (h : PS w0 w A t) (hs : Sd t) (cwd : Int) (s : ByteArray) (hz : s.size ≤ maxLen) (u g : Int) :
 Calls Tryz.prog 15 #[.pointer (some ⟨A, 0, none⟩), .int .i64 cwd, .string s, .int .i64 u, .int .i64 g] w fun e w' => e = .returned (.bool (srchP t cwd s.data.toList u g)) ∧ Below w.heap.size w w' := by
 have C1 := hid (fun W => Pa.split_any s hz W)
 have hsm : splE s.data.toList = 0 → (splN s.data.toList).length ≤ 1000 ∧ ∀ n, n ∈ splN s.data.toList → n.length ≤ 1000 := fun h => by
  rw [show splN s.data.toList = nam s.data.toList from if_pos h]
  exact nam_small h
 have hR : srchP t cwd s.data.toList u g = if splE s.data.toList = 0 then srchT t u g (startI cwd (splAbs s.data.toList)) (splN s.data.toList) else false := rfl
 have HPT := hid (fun W (b : Below w.heap.size w W) => h.read b)
 generalize srchP t cwd s.data.toList u g = r at *
 unfold Pa.SplitPost Pa.splitV at C1
 generalize splE s.data.toList = er at *
 generalize splAbs s.data.toList = ab at *
 generalize splDir s.data.toList = dr at *
 generalize splN s.data.toList = nl at *
 have HSM := hid hsm
 have HR := hid hR
 have HS := hid hs
 clear hR hsm h hs
 go_enter Tryz.func15, Tryz.ntmps15
 go_wp2_with fail
 refine (C1.out w).mono ?_
 rintro e W2 ⟨v, rfl, hrow, b2⟩
 obtain ⟨pa, pc, rfl⟩ := Pa.row_slice hrow
 by_cases he : er = 0
 ·subst he
  have HN := hid (InNames.ofRow hrow (HSM.out rfl).1 (HSM.out rfl).2)
  have k1 := Blk.new W2 95 #[.bool ab, .slice pa nl.length pc, .bool dr]
  have J := hid (show srRel w t W2.heap.size ab dr (.slice pa nl.length pc) u g nl r (.int .i64 (startI cwd ab)) (.int .i64 ((0 : Nat) : Int)) (W2.alloc (.cells #[.bool ab, .slice pa nl.length pc, .bool dr] 95)) from ⟨0, _, rfl, rfl, Nat.zero_le _, by rw [HR.out, if_pos rfl]; rfl, k1, HN.out.up (bel1 _ _), bal b2 _⟩)
  obtain ⟨c0, c1, c2⟩ := k1.c3
  have gl := k1.lt
  clear hrow b2 k1 HN HR HSM
  cases ab
  ·go_wp2_with fail
   generalize W2.heap.size = G at *
   go_loopw [13, 14] (fun av iv wr => srRel w t G false dr (.slice pa nl.length pc) u g nl r av iv wr) (fun _ iv _ => nl.length - (intOf iv).toNat)
   case atStart => exact J.out
   case round =>
    obtain ⟨k, a, rfl, rfl, hk, hr, k1, hn, b1⟩ := hrel
    clear J c0 c1 c2 gl
    by_cases hlt : k < nl.length
    ·obtain ⟨n, hn1⟩ : ∃ n, nl[k]? = some n := ⟨_, List.getElem?_eq_getElem hlt⟩
     have hd : nl.drop k = n :: nl.drop (k + 1) := by
      rw [List.drop_eq_getElem_cons hlt]
      rw [List.getElem?_eq_getElem hlt] at hn1
      rw [Option.some.inj hn1]
     rw [hd] at hr
     have hr2 : (if mayQ t a u g 1 = true then (if (lookP t a n).2 = true then srchT t u g (lookP t a n).1 (nl.drop (k + 1)) else (nl.drop (k + 1)).isEmpty) else false) = r := hr
     have hem : (nl.drop (k + 1)).isEmpty = decide (k + 1 = nl.length) := by
      rw [Bool.eq_iff_iff]
      simp only [List.isEmpty_iff, List.drop_eq_nil_iff, decide_eq_true_eq]
      omega
     rw [hem] at hr2
     have hnz : n.length ≤ 1000 := by
      obtain ⟨p, cap, e1, h2, h3⟩ := hn
      exact (h3 k n hn1).1
     have CM := hid (fun W hW => may7_any (w0 := w0) (w := W) (A := A) (t := t) hW HS.out a u g 1)
     have CL := hid (fun W hW => ps_look (w0 := w0) (w := W) (A := A) (t := t) hW HS.out a ⟨n.toArray⟩ (by show n.length ≤ maxLen; unfold maxLen; omega))
     rw [show (⟨n.toArray⟩ : ByteArray).data.toList = n from rfl] at CL
     have HR := hid hr2
     have HN := hid hn
     have HN1 := hid hn1
     have i1 : (0 : Int) ≤ (k : Int) := by omega
     have i2 : (k : Int) < nl.length := by omega
     obtain ⟨c0, c1, c2⟩ := k1.c3
     have K1 := hid k1
     have B1 := hid b1
     clear hr hr2 hd hn hn1 k1 b1 hem hnz
     generalize mayQ t a u g 1 = my at *
     generalize lookP t a n = lk at *
     obtain ⟨y, ok⟩ := lk
     simp only [lookV] at CL HR
     go_wp2_with fail
     refine (CM.out _ (HPT.out _ B1.out)).mono ?_
     rintro e W3 ⟨rfl, b3⟩
     have k3 := K1.out.up b3
     have n3 := HN.out.up b3
     have b4 := bnext B1.out b3
     clear c0 c1 c2 K1 HN B1 b3
     obtain ⟨c0, c1, c2⟩ := k3.c3
     have K1 := hid k3
     have HN := hid n3
     have B1 := hid b4
     clear k3 n3 b4
     cases my
     ·have hr : r = false := by rw [← HR.out, if_neg (by decide)]
      subst hr
      go_wp2
      go_ret
      exact ⟨rfl, B1.out⟩
     ·obtain ⟨p, cap, e1, h2, h3⟩ := HN.out
      obtain ⟨-, g0, o0, hp0, hc⟩ := h3 k n HN1.out
      cases e1
      cases hp0
      unfold strV at hc
      clear h3
      generalize (⟨n.toArray⟩ : ByteArray) = ns at *
      go_wp2_with fail
      refine (CL.out _ (HPT.out _ B1.out)).mono ?_
      rintro e W4 ⟨rfl, rfl⟩
      cases ok
      ·have hr : r = decide (k + 1 = nl.length) := by rw [← HR.out]; simp
       clear HR
       by_cases hl : k + 1 = nl.length
       ·have j1 : ((k : Int) == (nl.length : Int) - 1) = true := by simp; omega
        obtain rfl : r = true := by rw [hr]; exact decide_eq_true hl
        clear hr hl
        go_wp2
        go_ret
        exact ⟨ret_bool (by first | exact j1 | rfl), B1.out⟩
       ·have j1 : ((k : Int) == (nl.length : Int) - 1) = false := by simp; omega
        obtain rfl : r = false := by rw [hr]; exact decide_eq_false hl
        clear hr hl
        go_wp2
        go_ret
        exact ⟨ret_bool (by first | exact j1 | rfl), B1.out⟩
      ·have hr : srchT t u g y (nl.drop (k + 1)) = r := by rw [← HR.out]; simp
       clear HR
       go_wp2
       go_roundw
       case rel => exact ⟨k + 1, y, rfl, by go_num, by omega, hr, K1.out, HN.out, B1.out⟩
       case measure => simp [intOf]; omega
    ·have hr2 : r = true := by rw [← hr, List.drop_eq_nil_of_le (by omega)]; rfl
     have i2 : ¬ (k : Int) < nl.length := by omega
     obtain ⟨c0, c1, c2⟩ := k1.c3
     subst hr2
     have B1 := hid b1
     clear hr k1 hn b1
     go_wp2
     go_ret
     exact ⟨rfl, B1.out⟩
  ·go_wp2_with fail
   generalize W2.heap.size = G at *
   go_loopw [13, 14] (fun av iv wr => srRel w t G true dr (.slice pa nl.length pc) u g nl r av iv wr) (fun _ iv _ => nl.length - (intOf iv).toNat)
   case atStart => exact J.out
   case round =>
    obtain ⟨k, a, rfl, rfl, hk, hr, k1, hn, b1⟩ := hrel
    clear J c0 c1 c2 gl
    by_cases hlt : k < nl.length
    ·obtain ⟨n, hn1⟩ : ∃ n, nl[k]? = some n := ⟨_, List.getElem?_eq_getElem hlt⟩
     have hd : nl.drop k = n :: nl.drop (k + 1) := by
      rw [List.drop_eq_getElem_cons hlt]
      rw [List.getElem?_eq_getElem hlt] at hn1
      rw [Option.some.inj hn1]
     rw [hd] at hr
     have hr2 : (if mayQ t a u g 1 = true then (if (lookP t a n).2 = true then srchT t u g (lookP t a n).1 (nl.drop (k + 1)) else (nl.drop (k + 1)).isEmpty) else false) = r := hr
     have hem : (nl.drop (k + 1)).isEmpty = decide (k + 1 = nl.length) := by
      rw [Bool.eq_iff_iff]
      simp only [List.isEmpty_iff, List.drop_eq_nil_iff, decide_eq_true_eq]
      omega
     rw [hem] at hr2
     have hnz : n.length ≤ 1000 := by
      obtain ⟨p, cap, e1, h2, h3⟩ := hn
      exact (h3 k n hn1).1
     have CM := hid (fun W hW => may7_any (w0 := w0) (w := W) (A := A) (t := t) hW HS.out a u g 1)
     have CL := hid (fun W hW => ps_look (w0 := w0) (w := W) (A := A) (t := t) hW HS.out a ⟨n.toArray⟩ (by show n.length ≤ maxLen; unfold maxLen; omega))
     rw [show (⟨n.toArray⟩ : ByteArray).data.toList = n from rfl] at CL
     have HR := hid hr2
     have HN := hid hn
     have HN1 := hid hn1
     have i1 : (0 : Int) ≤ (k : Int) := by omega
     have i2 : (k : Int) < nl.length := by omega
     obtain ⟨c0, c1, c2⟩ := k1.c3
     have K1 := hid k1
     have B1 := hid b1
     clear hr hr2 hd hn hn1 k1 b1 hem hnz
     generalize mayQ t a u g 1 = my at *
     generalize lookP t a n = lk at *
     obtain ⟨y, ok⟩ := lk
     simp only [lookV] at CL HR
     go_wp2_with fail
     refine (CM.out _ (HPT.out _ B1.out)).mono ?_
     rintro e W3 ⟨rfl, b3⟩
     have k3 := K1.out.up b3
     have n3 := HN.out.up b3
     have b4 := bnext B1.out b3
     clear c0 c1 c2 K1 HN B1 b3
     obtain ⟨c0, c1, c2⟩ := k3.c3
     have K1 := hid k3
     have HN := hid n3
     have B1 := hid b4
     clear k3 n3 b4
     cases my
     ·have hr : r = false := by rw [← HR.out, if_neg (by decide)]
      subst hr
      go_wp2
      go_ret
      exact ⟨rfl, B1.out⟩
     ·obtain ⟨p, cap, e1, h2, h3⟩ := HN.out
      obtain ⟨-, g0, o0, hp0, hc⟩ := h3 k n HN1.out
      cases e1
      cases hp0
      unfold strV at hc
      clear h3
      generalize (⟨n.toArray⟩ : ByteArray) = ns at *
      go_wp2_with fail
      refine (CL.out _ (HPT.out _ B1.out)).mono ?_
      rintro e W4 ⟨rfl, rfl⟩
      cases ok
      ·have hr : r = decide (k + 1 = nl.length) := by rw [← HR.out]; simp
       clear HR
       by_cases hl : k + 1 = nl.length
       ·have j1 : ((k : Int) == (nl.length : Int) - 1) = true := by simp; omega
        obtain rfl : r = true := by rw [hr]; exact decide_eq_true hl
        clear hr hl
        go_wp2
        go_ret
        exact ⟨ret_bool (by first | exact j1 | rfl), B1.out⟩
       ·have j1 : ((k : Int) == (nl.length : Int) - 1) = false := by simp; omega
        obtain rfl : r = false := by rw [hr]; exact decide_eq_false hl
        clear hr hl
        go_wp2
        go_ret
        exact ⟨ret_bool (by first | exact j1 | rfl), B1.out⟩
      ·have hr : srchT t u g y (nl.drop (k + 1)) = r := by rw [← HR.out]; simp
       clear HR
       go_wp2
       go_roundw
       case rel => exact ⟨k + 1, y, rfl, by go_num, by omega, hr, K1.out, HN.out, B1.out⟩
       case measure => simp [intOf]; omega
    ·have hr2 : r = true := by rw [← hr, List.drop_eq_nil_of_le (by omega)]; rfl
     have i2 : ¬ (k : Int) < nl.length := by omega
     obtain ⟨c0, c1, c2⟩ := k1.c3
     subst hr2
     have B1 := hid b1
     clear hr k1 hn b1
     go_wp2
     go_ret
     exact ⟨rfl, B1.out⟩
 ·have hr : r = false := by rw [HR.out, if_neg he]
  have her2 : ((er : Int) == 0) = false := by simp; omega
  have her3 : ((er : Int) != 0) = true := by simp; omega
  subst hr
  clear hrow
  go_wp2
  go_ret
  exact ⟨rfl, bal b2 _⟩
end
section
open Ino Pa
open Go.RowKit
variable {t : T} {N : Nat}
theorem mayQ_is {x : Nat} (h : isI t (x : Int) = true) (u g want : Int) : mayQ t x u g want = mayT t x u g want := by
 unfold mayQ
 rw [stat_inf h]
 rfl
theorem srchT_cons (u g a : Int) (n : Bs) (r : List Bs) : srchT t u g a (n :: r) = if mayQ t a u g 1 = true then (if (lookP t a n).2 = true then srchT t u g (lookP t a n).1 r else r.isEmpty) else false := rfl
theorem downT_cons (u g : Int) (x : Nat) (n : Bs) (r : List Bs) : downT t u g x (n :: r) = if lookE t x u g = 0 then (if (lookP t x n).2 = true then downT t u g (lookP t x n).1 r else (0, 3)) else (0, lookE t x u g) := rfl
theorem down_srch (hs : Sd t) (u g : Int) : ∀ (l : List Bs) (x : Nat), isI t (x : Int) = true → (downT t u g x l).2 = 0 → ∀ r : List Bs, srchT t u g x (l ++ r) = srchT t u g (downT t u g x l).1 r
 | [], x, hx, h, r => rfl
 | n :: l, x, hx, h, r => by
  rw [downT_cons] at h ⊢
  by_cases h1 : lookE t x u g = 0
  ·rw [if_pos h1] at h ⊢
   by_cases h2 : (lookP t x n).2 = true
   ·rw [if_pos h2] at h ⊢
    have hm : mayT t x u g 1 = true := by
     unfold lookE at h1
     by_cases h3 : (t x).kind = 1
     ·rw [if_pos h3] at h1
      by_cases h4 : mayT t x u g 1 = true
      ·exact h4
      ·rw [if_neg h4] at h1; cases h1
     ·rw [if_neg h3] at h1; cases h1
    show srchT t u g x (n :: (l ++ r)) = _
    rw [srchT_cons, mayQ_is hx, if_pos hm, if_pos h2]
    exact down_srch hs u g l _ (look_to hs h2) h r
   ·rw [if_neg h2] at h; cases h
  ·rw [if_neg h1] at h; exact absurd h h1
theorem look_may {x : Nat} {u g : Int} (h1 : lookE t x u g = 0) : (t x).kind = 1 ∧ mayT t x u g 1 = true := by
 unfold lookE at h1
 by_cases h3 : (t x).kind = 1
 ·rw [if_pos h3] at h1
  by_cases h4 : mayT t x u g 1 = true
  ·exact ⟨h3, h4⟩
  ·rw [if_neg h4] at h1; cases h1
 ·rw [if_neg h3] at h1; cases h1
theorem down_append (u g : Int) : ∀ (l : List Bs) (x : Nat) (r : List Bs), (downT t u g x l).2 = 0 → downT t u g x (l ++ r) = downT t u g (downT t u g x l).1 r
 | [], x, r, h => rfl
 | n :: l, x, r, h => by
  show downT t u g x (n :: (l ++ r)) = _
  rw [downT_cons] at h
  rw [downT_cons, downT_cons]
  by_cases h1 : lookE t x u g = 0
  ·rw [if_pos h1] at h ⊢
   rw [if_pos h1]
   by_cases h2 : (lookP t x n).2 = true
   ·rw [if_pos h2] at h ⊢
    rw [if_pos h2]
    exact down_append u g l _ r h
   ·rw [if_neg h2] at h; cases h
  ·rw [if_neg h1] at h; exact absurd h h1
theorem down_part (u g : Int) : ∀ (l : List Bs) (x : Nat) (r : List Bs), (downT t u g x (l ++ r)).2 = 0 → (downT t u g x l).2 = 0
 | [], x, r, h => rfl
 | n :: l, x, r, h => by
  have h' : (downT t u g x (n :: (l ++ r))).2 = 0 := h
  rw [downT_cons] at h' ⊢
  by_cases h1 : lookE t x u g = 0
  ·rw [if_pos h1] at h' ⊢
   by_cases h2 : (lookP t x n).2 = true
   ·rw [if_pos h2] at h' ⊢
    exact down_part u g l _ r h'
   ·rw [if_neg h2] at h'; cases h'
  ·rw [if_neg h1] at h'; exact absurd h' h1
theorem last_cut {l : List Bs} (h : l ≠ []) : l.dropLast ++ [lastN l] = l := by
 unfold lastN
 rw [List.getLastD_eq_getLast?, List.getLast?_eq_some_getLast h, Option.getD_some]
 exact List.dropLast_concat_getLast h
theorem no_last (s : Bs) (h : nam s = [] ∨ lastN (nam s) = [46, 46]) : dirP s = true := by
 have hne : spl s ≠ [] := by
  cases s with
  | nil => simp [spl]
  | cons c r =>
   unfold spl
   split
   ·simp
   ·cases spl r with
    | nil => simp
    | cons a b => simp
 have hl : spl s = (spl s).dropLast ++ [lastP s] := by
  have := last_cut hne
  exact this.symm
 unfold dirP
 by_cases hk : keepN (lastP s) = true
 ·have e : nam s = ((spl s).dropLast.filter keepN) ++ [lastP s] := by
   unfold nam
   conv => lhs; rw [hl]
   rw [List.filter_append, List.filter_cons, if_pos hk]
   rfl
  rcases h with h | h
  ·rw [e] at h; simp at h
  ·rw [e] at h
   unfold lastN at h
   rw [List.getLastD_concat] at h
   simp [h]
 ·have : lastP s = [] ∨ lastP s = [46] := by
   unfold keepN at hk
   simp only [Bool.and_eq_true, bne_iff_ne, ne_eq, not_and, Classical.not_not] at hk
   by_cases h1 : lastP s = []
   ·exact .inl h1
   ·exact .inr (hk h1)
  rcases this with h1 | h1 <;> simp [h1]
end
section
open Ino Pa
open Go.RowKit
variable {t : T} {N : Nat}
theorem old_zero {u g : Int} {x : Nat} {want : Int} {em : Bool} (h : (oldP t u g x want em).2.2 ≠ 0) : (oldP t u g x want em).2.1 = 0 := by
 unfold oldP at h ⊢
 split
 ·rfl
 ·split
  ·rename_i h1 h2
   rw [if_neg h1, if_pos h2] at h
   split at h <;> exact absurd rfl h
  ·rfl
theorem old_ok {u g : Int} {x : Nat} {want : Int} {em : Bool} (h : (oldP t u g x want em).2.2 = 0) : (oldP t u g x want em).2.1 = x ∧ mayT t x u g want = true ∧ ((t x).kind = 1 → (oldP t u g x want em).1 = (holdP t x).1) := by
 unfold oldP at h ⊢
 by_cases h1 : want ≠ 4 ∧ (t x).kind = 1
 ·rw [if_pos h1] at h; cases h
 ·rw [if_neg h1] at h ⊢
  by_cases h2 : mayT t x u g want = true
  ·rw [if_pos h2] at h ⊢
   by_cases h3 : em = true ∧ want ≠ 4 ∧ (t x).kind = 0
   ·rw [if_pos h3]
    exact ⟨rfl, h2, fun k => by rw [h3.2.2] at k; cases k⟩
   ·rw [if_neg h3]
    exact ⟨rfl, h2, fun _ => rfl⟩
  ·rw [if_neg h2] at h; cases h
theorem create_zero {u g : Int} {d : Nat} {nm : Bs} {kind mode : Int} (h : (createP t u g d nm kind mode).2.2 ≠ 0) : (createP t u g d nm kind mode).2.1 = 0 := by
 unfold createP at h ⊢
 by_cases h1 : (makeP t (rMake kind mode u g 0) kind mode u g 0).2.2 = 0
 ·rw [if_pos h1] at h ⊢
  split
  ·rename_i h2
   rw [if_pos h2] at h
   exact absurd rfl h
  ·rfl
 ·rw [if_neg h1]
theorem makes_zero {u g : Int} {d : Nat} {nm : Bs} {kind mode : Int} (h : (makesP t u g d nm kind mode).2.2 ≠ 0) : (makesP t u g d nm kind mode).2.1 = 0 := by
 unfold makesP at h ⊢
 split
 ·rename_i h1
  rw [if_pos h1] at h
  exact create_zero h
 ·rfl
theorem open_zero {cwd u g : Int} {s : Bs} {want mode : Int} {mk al em : Bool} (h : (openP t cwd u g s want mk al em mode).2.2 ≠ 0) : (openP t cwd u g s want mk al em mode).2.1 = 0 := by
 unfold openP at h ⊢
 by_cases h1 : wantOk want = true ∧ rMode mode = true
 ·rw [if_pos h1] at h ⊢
  by_cases h2 : mk = true
  ·rw [if_pos h2] at h ⊢
   by_cases h3 : (placeP t cwd u g s).err = 0
   ·rw [if_pos h3] at h ⊢
    by_cases h4 : (lookP t (placeP t cwd u g s).dir (placeP t cwd u g s).name).2 = true
    ·rw [if_pos h4] at h ⊢
     by_cases h5 : al = true
     ·rw [if_pos h5]
     ·rw [if_neg h5] at h ⊢
      by_cases h6 : (placeP t cwd u g s).must = true ∧ (t (lookP t (placeP t cwd u g s).dir (placeP t cwd u g s).name).1).kind ≠ 1
      ·rw [if_pos h6]
      ·rw [if_neg h6] at h ⊢
       exact old_zero h
    ·rw [if_neg h4] at h ⊢
     by_cases h5 : (placeP t cwd u g s).must = true
     ·rw [if_pos h5]
     ·rw [if_neg h5] at h ⊢
      exact makes_zero h
   ·rw [if_neg h3]
  ·rw [if_neg h2] at h ⊢
   by_cases h3 : (findP t cwd u g s).2 = 0
   ·rw [if_pos h3] at h ⊢
    exact old_zero h
   ·rw [if_neg h3]
 ·rw [if_neg h1]
theorem place_ok (hs : Sd t) {cwd u g : Int} {s : Bs} (h : (placeP t cwd u g s).err = 0) :
 splE s = 0 ∧ nam s ≠ [] ∧ isI t (startI cwd (absP s)) = true ∧ (downT t u g (startI cwd (absP s)).toNat (nam s).dropLast).2 = 0 ∧ (placeP t cwd u g s).dir = (downT t u g (startI cwd (absP s)).toNat (nam s).dropLast).1 ∧ (placeP t cwd u g s).name = lastN (nam s) ∧ lookE t (placeP t cwd u g s).dir u g = 0 ∧ isI t ((placeP t cwd u g s).dir : Int) = true := by
 unfold placeP at h ⊢
 by_cases h1 : splE s = 0
 ·rw [if_pos h1] at h ⊢
  by_cases h2 : nam s = [] ∨ lastN (nam s) = [46, 46]
  ·rw [if_pos h2] at h; cases h
  ·rw [if_neg h2] at h ⊢
   by_cases h3 : (downP t cwd u g (absP s) (nam s).dropLast).2 = 0
   ·rw [if_pos h3] at h ⊢
    by_cases h4 : lookE t (downP t cwd u g (absP s) (nam s).dropLast).1 u g = 0
    ·rw [if_pos h4]
     have hd := downP_is hs _ _ _ _ _ h3
     unfold downP at h3 h4 hd ⊢
     by_cases h5 : isI t (startI cwd (absP s)) = true
     ·rw [if_pos h5] at h3 h4 hd ⊢
      exact ⟨h1, fun e => h2 (.inl e), h5, h3, rfl, rfl, h4, hd⟩
     ·rw [if_neg h5] at h3; cases h3
    ·rw [if_neg h4] at h; exact absurd h h4
   ·rw [if_neg h3] at h; exact absurd h h3
 ·rw [if_neg h1] at h; exact absurd h h1
theorem find_ok (hs : Sd t) {cwd u g : Int} {s : Bs} (h : (findP t cwd u g s).2 = 0) :
 splE s = 0 ∧ isI t (startI cwd (absP s)) = true ∧ (downT t u g (startI cwd (absP s)).toNat (nam s)).2 = 0 ∧ (findP t cwd u g s).1 = (downT t u g (startI cwd (absP s)).toNat (nam s)).1 ∧ isI t ((findP t cwd u g s).1 : Int) = true ∧ (dirP s = true → (t (findP t cwd u g s).1).kind = 1) := by
 unfold findP at h ⊢
 by_cases h1 : splE s = 0
 ·rw [if_pos h1] at h ⊢
  by_cases h3 : (downP t cwd u g (absP s) (nam s)).2 = 0
  ·rw [if_pos h3] at h ⊢
   by_cases h4 : dirP s = true ∧ (t (downP t cwd u g (absP s) (nam s)).1).kind ≠ 1
   ·rw [if_pos h4] at h; cases h
   ·rw [if_neg h4]
    have hd := downP_is hs _ _ _ _ _ h3
    unfold downP at h3 h4 hd ⊢
    by_cases h5 : isI t (startI cwd (absP s)) = true
    ·rw [if_pos h5] at h3 h4 hd ⊢
     exact ⟨h1, h5, h3, rfl, hd, fun e => Classical.byContradiction fun q => h4 ⟨e, q⟩⟩
    ·rw [if_neg h5] at h3; cases h3
  ·rw [if_neg h3] at h; exact absurd h h3
 ·rw [if_neg h1] at h; exact absurd h h1
theorem start_nat {cwd : Int} {ab : Bool} (h : isI t (startI cwd ab) = true) : startI cwd ab = (((startI cwd ab).toNat : Nat) : Int) := by
 obtain ⟨k, e, -⟩ := isI_nat h
 rw [e]; rfl
theorem names_splN {s : Bs} (h : splE s = 0) : splN s = nam s ∧ splAbs s = absP s := ⟨if_pos h, if_pos h⟩
theorem find_srch (hs : Sd t) {cwd u g : Int} {s : Bs} (h : (findP t cwd u g s).2 = 0) : srchP t cwd s u g = true := by
 obtain ⟨h1, h2, h3, -⟩ := find_ok hs h
 unfold srchP
 rw [if_pos h1, (names_splN h1).1, (names_splN h1).2, start_nat h2]
 have := down_srch hs u g (nam s) _ (by rw [← start_nat h2]; exact h2) h3 []
 rw [List.append_nil] at this
 rw [this]
 rfl
theorem place_srch (hs : Sd t) {cwd u g : Int} {s : Bs} (h : (placeP t cwd u g s).err = 0) : srchP t cwd s u g = true := by
 obtain ⟨h1, h2, h3, h4, h5, h6, h7, h8⟩ := place_ok hs h
 unfold srchP
 rw [if_pos h1, (names_splN h1).1, (names_splN h1).2, start_nat h3]
 have := down_srch hs u g (nam s).dropLast _ (by rw [← start_nat h3]; exact h3) h4 [lastN (nam s)]
 rw [last_cut h2] at this
 rw [this, ← h5, srchT_cons, mayQ_is h8, if_pos (look_may h7).2]
 split <;> rfl
theorem find_place (hs : Sd t) {cwd u g : Int} {s : Bs} (h : (findP t cwd u g s).2 = 0) (hp : (placeP t cwd u g s).err = 0) : lookP t (placeP t cwd u g s).dir (placeP t cwd u g s).name = ((findP t cwd u g s).1, true) := by
 obtain ⟨h1, h2, h3, h4, h5, h6, h7, h8⟩ := place_ok hs hp
 obtain ⟨-, -, k3, k4, -⟩ := find_ok hs h
 have e := down_append (t := t) u g (nam s).dropLast (startI cwd (absP s)).toNat [lastN (nam s)] h4
 rw [last_cut h2, ← h5, downT_cons, if_pos h7, ← h6] at e
 rw [e] at k3 k4
 by_cases hl : (lookP t (placeP t cwd u g s).dir (placeP t cwd u g s).name).2 = true
 ·rw [if_pos hl] at k4
  rw [k4, ← hl]
  rfl
 ·rw [if_neg hl] at k3; cases k3
theorem find_dir (hs : Sd t) {cwd u g : Int} {s : Bs} (h : (findP t cwd u g s).2 = 0) (hp : (placeP t cwd u g s).err ≠ 0) : (t (findP t cwd u g s).1).kind = 1 := by
 obtain ⟨k1, k2, k3, k4, k5, k6⟩ := find_ok hs h
 refine k6 (no_last s (Classical.byContradiction fun q => hp ?_))
 have hne : nam s ≠ [] := fun e => q (.inl e)
 have e1 := k3
 rw [← last_cut hne] at e1
 have e2 := down_part u g _ _ _ e1
 have e3 := down_append (t := t) u g (nam s).dropLast (startI cwd (absP s)).toNat [lastN (nam s)] e2
 rw [e3, downT_cons] at e1
 unfold placeP
 rw [if_pos k1, if_neg q]
 unfold downP
 rw [if_pos k2, if_pos e2]
 by_cases h4 : lookE t (downT t u g (startI cwd (absP s)).toNat (nam s).dropLast).1 u g = 0
 ·rw [if_pos h4]
 ·rw [if_neg h4] at e1; exact absurd e1 h4
theorem mayQ_hold (hs : Sd t) {x : Nat} (h : isI t (x : Int) = true) (hh : Sd (holdP t x).1) (u g want : Int) : mayQ (holdP t x).1 x u g want = mayT t x u g want := by
 have hx := (isI_iff.1 h).2
 rw [Int.toNat_natCast] at hx
 have e : (holdP t x).1 = upd t x { t x with holds := (t x).holds + 1 } := by unfold holdP; rw [if_pos h, Int.toNat_natCast]
 have hi : isI (holdP t x).1 (x : Int) = true := by rw [isI_cast hh, e, upd_same]; exact hx
 rw [mayQ_is hi, e]
 unfold mayT
 rw [upd_same]
theorem add_scal (t : T) (d : Nat) (n : Bs) (x j : Nat) : (add t d n x j).mode = (t j).mode ∧ (add t d n x j).owner = (t j).owner ∧ (add t d n x j).group = (t j).group := by
 have e1 : ∀ (t : T) (x p j : Nat), (setPar t x p j).mode = (t j).mode ∧ (setPar t x p j).owner = (t j).owner ∧ (setPar t x p j).group = (t j).group := fun t x p j => by
  unfold setPar; split <;> exact ⟨rfl, rfl, rfl⟩
 have e2 : ∀ (t : T) (d : Nat) (l : List (Bs × Nat)) (j : Nat), (setEnts t d l j).mode = (t j).mode ∧ (setEnts t d l j).owner = (t j).owner ∧ (setEnts t d l j).group = (t j).group := fun t d l j => by
  unfold setEnts upd; split
  ·rename_i h; rw [h]; exact ⟨rfl, rfl, rfl⟩
  ·exact ⟨rfl, rfl, rfl⟩
 unfold add
 have a := e1 (setEnts t d ((t d).ents ++ [(n, x)])) x d j
 have b := e2 t d ((t d).ents ++ [(n, x)]) j
 exact ⟨a.1.trans b.1, a.2.1.trans b.2.1, a.2.2.trans b.2.2⟩
theorem makes_ok (hs : Sound t) {u g : Int} {d : Nat} {nm : Bs} {mode : Int} (hd : isI t (d : Int) = true) (h : (makesP t u g d nm 0 mode).2.2 = 0) :
 mayT t d u g 2 = true ∧ ∃ z1 z2, statP (makesP t u g d nm 0 mode).1 (makesP t u g d nm 0 mode).2.1 = (⟨(makesP t u g d nm 0 mode).2.1, 0, mode, u, g, 1, z1, z2⟩, true) := by
 have hdi := (isI_iff.1 hd).2
 rw [Int.toNat_natCast] at hdi
 have hd2 := (hs.sd.range d hdi).2
 unfold makesP at h ⊢
 by_cases h1 : mayT t d u g 2 = true
 ·rw [if_pos h1] at h ⊢
  refine ⟨h1, ?_⟩
  have s2 := sound_create hs u g d nm 0 mode
  unfold createP at h
  by_cases h2 : (makeP t (rMake 0 mode u g 0) 0 mode u g 0).2.2 = 0
  ·rw [if_pos h2] at h
   have hk : rMake 0 mode u g 0 = true := Classical.byContradiction fun q => by
    unfold makeP at h2
    rw [if_neg q] at h2
    cases h2
   cases hf : freeP t with
   | none => unfold makeP at h2; rw [if_pos hk, hf] at h2; cases h2
   | some i =>
    obtain ⟨i1, i2, i3⟩ := free_facts hf
    rw [make_ok hf hk] at h
    have hne : d ≠ i := fun e => by rw [e, i3] at hdi; cases hdi
    by_cases h3 : (enterP (upd t i (madeN 0 mode u g 0 i)) (d : Int) nm (i : Int)).2 = 0
    ·have h4 := h3
     unfold enterP at h4
     by_cases a1 : isI (upd t i (madeN 0 mode u g 0 i)) (d : Int) = true ∧ isI (upd t i (madeN 0 mode u g 0 i)) (i : Int) = true
     ·rw [if_pos a1, Int.toNat_natCast, Int.toNat_natCast] at h4
      by_cases a2 : (upd t i (madeN 0 mode u g 0 i) d).kind = 1
      ·rw [if_pos a2] at h4
       by_cases a3 : nameOk nm = true
       ·rw [if_pos a3] at h4
        by_cases a4 : (findE (upd t i (madeN 0 mode u g 0 i) d).ents nm).isSome = true
        ·rw [if_pos a4] at h4; cases h4
        ·rw [if_neg a4] at h4
         rw [upd_other _ _ hne] at a2 a4 h4
         by_cases a6 : (t d).ents.length < 40
         ·have hC := create_ok hs (u := u) (g := g) (kind := 0) (mode := mode) hf hk hdi a2 a3 (by cases q : findE (t d).ents nm with | none => rfl | some y => rw [q] at a4; exact absurd rfl a4) a6
          rw [hC] at s2 ⊢
          have hi : isI (madeT t u g d nm 0 mode i) (i : Int) = true := by rw [isI_cast s2.sd]; unfold madeT; rw [add_is, upd_same]; rfl
          have hl := made_links hs (u := u) (g := g) (nm := nm) (kind := 0) (mode := mode) hd2 i2 i3 i
          rw [links_fresh hs.sd i3, if_pos rfl] at hl
          rw [stat_inf hi]
          unfold infT
          rw [hl]
          have ek : (madeT t u g d nm 0 mode i i).kind = 0 := by unfold madeT; rw [add_kind, upd_same]; rfl
          have em : (madeT t u g d nm 0 mode i i).mode = mode := by unfold madeT; rw [(add_scal _ _ _ _ _).1, upd_same]; rfl
          have eo : (madeT t u g d nm 0 mode i i).owner = u := by unfold madeT; rw [(add_scal _ _ _ _ _).2.1, upd_same]; rfl
          have eg : (madeT t u g d nm 0 mode i i).group = g := by unfold madeT; rw [(add_scal _ _ _ _ _).2.2, upd_same]; rfl
          rw [ek, em, eo, eg]
          exact ⟨_, _, rfl⟩
         ·exfalso
          split at h4
          ·cases h4
          ·rw [if_pos (by omega)] at h4; cases h4
       ·rw [if_neg a3] at h4; cases h4
      ·rw [if_neg a2] at h4; cases h4
     ·rw [if_neg a1] at h4; cases h4
    ·simp only at h
     rw [if_neg h3] at h
     exact absurd h h3
  ·rw [if_neg h2] at h; exact absurd h h2
 ·rw [if_neg h1] at h; cases h
theorem opens_ok (hs : Sound t) {cwd u g : Int} {s : Bs} {want mode : Int} {mk al em : Bool} (h : (openP t cwd u g s want mk al em mode).2.2 = 0) :
 srchP t cwd s u g = true ∧
 ((placeP t cwd u g s).err ≠ 0 → mk = false ∧ mayQ (openP t cwd u g s want mk al em mode).1 (openP t cwd u g s want mk al em mode).2.1 u g want = true) ∧
 ((placeP t cwd u g s).err = 0 → (lookP t (placeP t cwd u g s).dir (placeP t cwd u g s).name).2 = true → (openP t cwd u g s want mk al em mode).2.1 = (lookP t (placeP t cwd u g s).dir (placeP t cwd u g s).name).1 ∧ mayQ t (lookP t (placeP t cwd u g s).dir (placeP t cwd u g s).name).1 u g want = true ∧ (mk && al) = false) ∧
 ((placeP t cwd u g s).err = 0 → (lookP t (placeP t cwd u g s).dir (placeP t cwd u g s).name).2 = false → mk = true ∧ mayQ t (placeP t cwd u g s).dir u g 2 = true ∧ ∃ z1 z2, statP (openP t cwd u g s want mk al em mode).1 (openP t cwd u g s want mk al em mode).2.1 = (⟨(openP t cwd u g s want mk al em mode).2.1, 0, mode, u, g, 1, z1, z2⟩, true)) := by
 unfold openP at h ⊢
 by_cases h1 : wantOk want = true ∧ rMode mode = true
 ·rw [if_pos h1] at h ⊢
  by_cases h2 : mk = true
  ·rw [if_pos h2] at h ⊢
   by_cases h3 : (placeP t cwd u g s).err = 0
   ·rw [if_pos h3] at h ⊢
    refine ⟨place_srch hs.sd h3, fun q => absurd h3 q, fun _ hl => ?_, fun _ hl => ?_⟩
    ·rw [if_pos hl] at h ⊢
     by_cases h5 : al = true
     ·rw [if_pos h5] at h; cases h
     ·rw [if_neg h5] at h ⊢
      by_cases h6 : (placeP t cwd u g s).must = true ∧ (t (lookP t (placeP t cwd u g s).dir (placeP t cwd u g s).name).1).kind ≠ 1
      ·rw [if_pos h6] at h; cases h
      ·rw [if_neg h6] at h ⊢
       obtain ⟨a1, a2, -⟩ := old_ok h
       exact ⟨a1, by rw [mayQ_is (look_to hs.sd hl)]; exact a2, by simp [h5]⟩
    ·have hl' : ¬ (lookP t (placeP t cwd u g s).dir (placeP t cwd u g s).name).2 = true := by rw [hl]; exact Bool.false_ne_true
     rw [if_neg hl'] at h ⊢
     by_cases h5 : (placeP t cwd u g s).must = true
     ·rw [if_pos h5] at h; cases h
     ·rw [if_neg h5] at h ⊢
      have hd := (place_ok hs.sd h3).2.2.2.2.2.2.2
      obtain ⟨a1, a2⟩ := makes_ok hs hd h
      exact ⟨h2, by rw [mayQ_is hd]; exact a1, a2⟩
   ·rw [if_neg h3] at h; exact absurd h h3
  ·rw [if_neg h2] at h ⊢
   have hmk : mk = false := by cases mk; rfl; exact absurd rfl h2
   by_cases h3 : (findP t cwd u g s).2 = 0
   ·rw [if_pos h3] at h ⊢
    obtain ⟨a1, a2, a3⟩ := old_ok h
    have hi := (find_ok hs.sd h3).2.2.2.2.1
    refine ⟨find_srch hs.sd h3, fun q => ⟨hmk, ?_⟩, fun h4 hl => ?_, fun h4 hl => ?_⟩
    ·rw [a1, a3 (find_dir hs.sd h3 q), mayQ_hold hs.sd hi (sound_hold hs _).sd]; exact a2
    ·rw [find_place hs.sd h3 h4]
     exact ⟨a1, by rw [mayQ_is hi]; exact a2, by rw [hmk]; rfl⟩
    ·rw [find_place hs.sd h3 h4] at hl; cases hl
   ·rw [if_neg h3] at h; exact absurd h h3
 ·rw [if_neg h1] at h; cases h
end
section
open Go.RowKit Ino Go.Maps
open Pa (Blk strV)
theorem InSt.up {α : Type} {mk : α → List Value} {ok : α → Prop} {c : Nat} {W W' : World} {p : Option Addr} {n : Nat} {zs : List α} (h : InSt mk ok c W p n zs) (b : Below W.heap.size W W') : InSt mk ok c W' p n zs :=
 ⟨h.1, fun j z hz => by
  obtain ⟨k0, g, off, k1, k2⟩ := h.2 j z hz
  exact ⟨k0, g, off, k1, fun i v hv => (b.cell (p := ⟨g, off + j * c + i, none⟩) (cell_lt (k2 i v hv))).trans (k2 i v hv)⟩⟩
theorem ps_look7 {w0 w : World} {A : Nat} {t : T} (h : PS w0 w A t) (hs : Sd t) (i : Int) (s : ByteArray) (hsz : s.size ≤ maxLen) :
 Calls Tryz.prog 18 #[.pointer (some ⟨A, 0, none⟩), .int .i64 i, .string s] w fun e w' => e = .returned (lookV (lookP t i s.data.toList)) ∧ w = w' := by
 obtain ⟨own, hP, hB, hb2⟩ := h
 exact plook_any i s w hP hs hsz
theorem Blk.k8 {W : World} {B : Nat} {y : TypeId} {a b c d e f g h : Value} (z : Blk W B y #[a, b, c, d, e, f, g, h]) : W.cell? ⟨B, 0, none⟩ = some a ∧ W.cell? ⟨B, 1, none⟩ = some b ∧ W.cell? ⟨B, 2, none⟩ = some c ∧ W.cell? ⟨B, 3, none⟩ = some d ∧ W.cell? ⟨B, 4, none⟩ = some e ∧ W.cell? ⟨B, 5, none⟩ = some f ∧ W.cell? ⟨B, 6, none⟩ = some g ∧ W.cell? ⟨B, 7, none⟩ = some h := ⟨z.cell 0, z.cell 1, z.cell 2, z.cell 3, z.cell 4, z.cell 5, z.cell 6, z.cell 7⟩
theorem Blk.kp {L : Nat → Prop} {W W' : World} {B : Nat} {y : TypeId} {cs : Array Value} (h : Blk W B y cs) (k : Kp L W W') (hL : L B) : Blk W' B y cs := (k B hL).trans h
theorem opens7_walk (p0 : Option Addr) (n0 c0 : Nat) (z0 : List Op7) (kd cwd u g : Int) (s x : ByteArray) (m n a b : Int) (w : World) (h0 : InOps7 w p0 n0 z0) (l0 : n0 ≤ maxLen) (hs1 : s.size ≤ 1048576) (hm : wfI m) :
 Calls Tryz.prog 4 #[.slice p0 n0 c0, .agg #[.int .i64 kd, .int .i64 cwd, .int .i64 u, .int .i64 g, .string s, .string x, .int .i64 m, .int .i64 n, .int .i64 a, .int .i64 b]] w fun e w' => e = .returned (.bool true) ∧ Below w.heap.size w w' := by
 have hz : s.size ≤ maxLen := by unfold maxLen; omega
 have HH := fun W => how_any kd cwd u g s x m n a b W
 generalize bits .and .i64 n 7 = want at HH
 generalize (bits .and .i64 n 8 != 0) = mk at HH
 generalize (bits .and .i64 n 16 != 0) = al at HH
 generalize (bits .and .i64 n 32 != 0) = em at HH
 have HW := hid HH
 have H0 := hid h0
 have HZ := hid hz
 have HM := hid hm
 have HL0 := hid l0
 clear HH h0 hz hm hs1 l0
 go_enter Tryz.func4, Tryz.ntmps4
 go_wp2_with fail
 refine (shown7_any _).mono ?_
 rintro e W1 ⟨rfl, b1⟩
 have kb : Blk W1 w.heap.size 29 #[.int .i64 kd, .int .i64 cwd, .int .i64 u, .int .i64 g, .string s, .string x, .int .i64 m, .int .i64 n, .int .i64 a, .int .i64 b] := Blk.up (Blk.new w _ _) b1
 have hB1 : Below w.heap.size w W1 := bnext (bel1 w _) b1
 have hGl := kb.lt
 clear b1
 go_wp2_with fail
 refine (some7_any p0 n0 c0 z0 W1 (H0.out.up hB1) HL0.out).mono ?_
 rintro e W2 ⟨A, t, rfl, p2, hI⟩
 have kb2 := kb.up p2.below
 obtain ⟨q0, q1, q2, q3, q4, q5, q6, q7, q8, q9⟩ := Blk.k10 kb2
 go_wp2_with fail
 refine (HW.out _).mono ?_
 rintro e W3 ⟨rfl, b3⟩
 have P2 : WP W1 W2 A t 60 := ⟨p2, hI.s, hI.m, hI.b⟩
 have pm := (P2.kept.read b3).more (bel1 W3 (.cells #[.int .i64 want, .bool mk, .bool al, .bool em, .bool false, .int .i64 m] 35))
 have p4 : WL (· = W3.heap.size) W1 (W3.alloc (.cells #[.int .i64 want, .bool mk, .bool al, .bool em, .bool false, .int .i64 m] 35)) A t 60 := pm.weak (fun g hg => .inr ⟨by omega, by subst hg; simp⟩)
 have kh4 := Blk.new W3 35 #[.int .i64 want, .bool mk, .bool al, .bool em, .bool false, .int .i64 m]
 have kb4 := (kb2.up b3).alloc (.cells #[.int .i64 want, .bool mk, .bool al, .bool em, .bool false, .int .i64 m] 35)
 clear q0 q1 q2 q3 q4 q5 q6 q7 q8 q9 kb2 p2 P2 pm b3 HW H0
 obtain ⟨q0, q1, q2, q3, q4, q5, q6, q7, q8, q9⟩ := Blk.k10 kb4
 obtain ⟨h0, h1, h2, h3, h4, h5⟩ := Blk.k6 kh4
 have gl := kh4.lt
 have OK := opens_ok hI.s (cwd := cwd) (u := u) (g := g) (s := s.data.toList) (want := want) (mode := m) (mk := mk) (al := al) (em := em)
 have OZ := open_zero (t := t) (cwd := cwd) (u := u) (g := g) (s := s.data.toList) (want := want) (mode := m) (mk := mk) (al := al) (em := em)
 have CS := hid (fun W (p : WL (· = W3.heap.size) W1 W A t 60) => searched7_any p.to.p hI.s.sd cwd s HZ.out u g)
 have CP := hid (fun W (p : WL (· = W3.heap.size) W1 W A t 60) => wl_parent p cwd u u u g g s HZ.out)
 have CO := hid (fun W (p : WL (· = W3.heap.size) W1 W A t 60) => wl_open p (by decide) cwd u u u g g s HZ.out want mk al em false m HM.out)
 have HSD := hid hI.s.sd
 have hnm := place_name hI.s.sd cwd u g s.data.toList
 have hnm2 := placeP_name t cwd u g s.data.toList
 generalize srchP t cwd s.data.toList u g = way at *
 generalize placeP t cwd u g s.data.toList = pl at *
 obtain ⟨d, nm, mu, er⟩ := pl
 simp only at OK OZ CP hnm hnm2
 have hnz : nm.length ≤ maxLen := by
  unfold maxLen
  by_cases e0 : er = 0
  ·have := hnm e0; omega
  ·rw [hnm2 e0]; simp
 have CK := hid (fun W (p : WL (· = W3.heap.size) W1 W A t 60) => ps_look7 p.to.p HSD.out (d : Int) ⟨nm.toArray⟩ hnz)
 rw [show (⟨nm.toArray⟩ : ByteArray).data.toList = nm from rfl] at CK
 generalize lookP t (d : Int) nm = lk at *
 obtain ⟨y, ok⟩ := lk
 simp only [lookV] at OK CK
 have CC := hid (fun W (p : WL (· = W3.heap.size) W1 W A t 60) => may7_any p.to.p HSD.out (y : Int) u g want)
 have CW := hid (fun W (p : WL (· = W3.heap.size) W1 W A t 60) => may7_any p.to.p HSD.out (d : Int) u g 2)
 generalize mayQ t (y : Int) u g want = cn at *
 generalize mayQ t (d : Int) u g 2 = wr at *
 generalize openP t cwd u g s.data.toList want mk al em m = op at *
 obtain ⟨t', xi, f⟩ := op
 simp only [makeV] at OK OZ CO
 have CQ := hid (fun W (p : WL (· = W3.heap.size) W1 W A t' 61) => may7_any p.to.p p.s.sd (xi : Int) u g want)
 have CT := hid (fun W (p : WL (· = W3.heap.size) W1 W A t' 61) => wl_stat p (xi : Int))
 generalize mayQ t' (xi : Int) u g want = mq at *
 generalize statP t' (xi : Int) = sp at *
 generalize (⟨nm.toArray⟩ : ByteArray) = ns at *
 have HOK := hid OK
 have HOZ := hid OZ
 have KB := hid kb
 have KH4 := hid kh4
 have P4 := hid p4
 have HB1 := hid hB1
 have HFIN := hid (fun W' (q : Below W1.heap.size W1 W') => bnext hB1 q)
 have HQ := hid (fun W' (q : Below W1.heap.size W1 W') => Blk.k10 (kb.up q))
 clear OK OZ kb kb4 kh4 p4 hB1 hI hnm hnm2 hnz
 go_wp2_with fail
 refine (CS.out _ P4.out).mono ?_
 rintro e W5 ⟨rfl, b5⟩
 have P5 := hid (P4.out.read b5)
 have KH5 := hid (KH4.out.up b5)
 have KB5 := hid (KB.out.up P5.out.below)
 clear b5 P4 KH4 q0 q1 q2 q3 q4 q5 q6 q7 q8 q9 h0 h1 h2 h3 h4 h5 gl
 obtain ⟨q0, q1, q2, q3, q4, q5, q6, q7, q8, q9⟩ := Blk.k10 KB5.out
 generalize hJ : W3.heap.size = J at *
 generalize hGG : w.heap.size = G at *
 go_wp2_with fail
 go_region_held3 (fun w' => w'.cell? ⟨G, 1, none⟩ = some (.int .i64 cwd) ∧ w'.cell? ⟨G, 2, none⟩ = some (.int .i64 u) ∧ w'.cell? ⟨G, 3, none⟩ = some (.int .i64 g) ∧ w'.cell? ⟨G, 4, none⟩ = some (.string s))
  (first | exact ⟨q1, q2, q3, q4⟩ | (obtain ⟨q0, q1, q2, q3, q4, q5, q6, q7, q8, q9⟩ := HQ.out _ p6.below; exact ⟨q1, q2, q3, q4⟩) | (obtain ⟨q0, q1, q2, q3, q4, q5, q6, q7, q8, q9⟩ := HQ.out _ p7.below; exact ⟨q1, q2, q3, q4⟩))
  (first
    | (go_at_call 17; refine (who_any _ _ _).mono ?_; rintro e W6 ⟨rfl, b6⟩; have p6 := P5.out.read (((Below.refl W5.heap.size W5).drew).trans b6); have kh6 := KH5.out.up (((Below.refl W5.heap.size W5).drew).trans b6); clear b6)
    | (go_at_call 16; refine (CP.out _ p6).mono ?_; rintro e W7 ⟨rfl, p7, kq7, b7⟩; have kh7 := Blk.kp kh6 kq7 rfl; clear kq7 b7))
 clear P5 KH5 KB5 q0 q1 q2 q3 q4 q5 q6 q7 q8 q9
 obtain ⟨q0, q1, q2, q3, q4, q5, q6, q7, q8, q9⟩ := HQ.out _ p7.below
 obtain ⟨h0, h1, h2, h3, h4, h5⟩ := Blk.k6 kh7
 have P7 := hid p7
 have KH7 := hid kh7
 clear p7 kh7 p6 kh6
 go_wp2_with fail
 refine (CK.out _ P7.out).mono ?_
 rintro e W8 ⟨rfl, rfl⟩
 cases ok
 ·go_wp2_with fail
  refine (CW.out _ P7.out).mono ?_
  rintro e W9 ⟨rfl, b9⟩
  have P9 := hid (P7.out.read b9)
  have KH9 := hid (KH7.out.up b9)
  clear b9 P7 KH7
  clear q0 q1 q2 q3 q4 q5 q6 q7 q8 q9 h0 h1 h2 h3 h4 h5
  obtain ⟨q0, q1, q2, q3, q4, q5, q6, q7, q8, q9⟩ := HQ.out _ P9.out.below
  obtain ⟨h0, h1, h2, h3, h4, h5⟩ := Blk.k6 KH9.out
  go_wp2_with fail
  go_region_held3 (fun w' => w'.cell? ⟨G, 1, none⟩ = some (.int .i64 cwd) ∧ w'.cell? ⟨G, 2, none⟩ = some (.int .i64 u) ∧ w'.cell? ⟨G, 3, none⟩ = some (.int .i64 g) ∧ w'.cell? ⟨G, 4, none⟩ = some (.string s) ∧ w'.cell? ⟨J, 0, none⟩ = some (.int .i64 want) ∧ w'.cell? ⟨J, 1, none⟩ = some (.bool mk) ∧ w'.cell? ⟨J, 2, none⟩ = some (.bool al) ∧ w'.cell? ⟨J, 3, none⟩ = some (.bool em) ∧ w'.cell? ⟨J, 4, none⟩ = some (.bool false) ∧ w'.cell? ⟨J, 5, none⟩ = some (.int .i64 m))
   (first | exact ⟨q1, q2, q3, q4, h0, h1, h2, h3, h4, h5⟩ | (obtain ⟨q0, q1, q2, q3, q4, q5, q6, q7, q8, q9⟩ := HQ.out _ p10.below; obtain ⟨h0, h1, h2, h3, h4, h5⟩ := Blk.k6 kh10; exact ⟨q1, q2, q3, q4, h0, h1, h2, h3, h4, h5⟩) | (obtain ⟨q0, q1, q2, q3, q4, q5, q6, q7, q8, q9⟩ := HQ.out _ p11.below; obtain ⟨h0, h1, h2, h3, h4, h5⟩ := Blk.k6 kh11; exact ⟨q1, q2, q3, q4, h0, h1, h2, h3, h4, h5⟩))
   (first
     | (go_at_call 17; refine (who_any _ _ _).mono ?_; rintro e W10 ⟨rfl, b10⟩; have p10 := P9.out.read (((Below.refl W9.heap.size W9).drew).trans b10); have kh10 := KH9.out.up (((Below.refl W9.heap.size W9).drew).trans b10); clear b10)
     | (go_at_call 20; refine (CO.out _ p10).mono ?_; rintro e W11 ⟨rfl, p11, kq11⟩; have kh11 := Blk.kp kh10 kq11 rfl; clear kq11))
  clear q0 q1 q2 q3 q4 q5 q6 q7 q8 q9 h0 h1 h2 h3 h4 h5
  obtain ⟨q0, q1, q2, q3, q4, q5, q6, q7, q8, q9⟩ := HQ.out _ p11.below
  obtain ⟨h0, h1, h2, h3, h4, h5⟩ := Blk.k6 kh11
  have P11 := hid p11
  have KH11 := hid kh11
  clear p11 kh11 p10 kh10 P9 KH9
  by_cases hf : f = 0
  ·subst hf
   obtain ⟨F1, F2, F3, F4⟩ := HOK.out rfl
   subst F1
   by_cases he : er = 0
   ·subst he
    obtain ⟨e1, e2, z1, z2, e3⟩ := F4 (by trivial) (by trivial)
    subst e1 e2
    have CT2 := CT.out _ P11.out
    rw [e3] at CT2
    simp only [infV] at CT2
    clear F2 F3 F4 e3
    go_wp2_with fail
    refine CT2.mono ?_
    rintro e W12 ⟨rfl, p12, kq12, b12⟩
    have kb12 := Blk.alloc (KB.out.up p12.below) (.cells #[.int .i64 xi, .int .i64 0, .int .i64 m, .int .i64 u, .int .i64 g, .int .i64 1, .int .i64 z1, .int .i64 z2] 50)
    have kh12 := Blk.alloc (Blk.kp KH11.out kq12 rfl) (.cells #[.int .i64 xi, .int .i64 0, .int .i64 m, .int .i64 u, .int .i64 g, .int .i64 1, .int .i64 z1, .int .i64 z2] 50)
    have ki12 := Blk.new W12 50 #[.int .i64 xi, .int .i64 0, .int .i64 m, .int .i64 u, .int .i64 g, .int .i64 1, .int .i64 z1, .int .i64 z2]
    have P12 := hid (HFIN.out _ (p12.read (bel1 W12 (.cells #[.int .i64 xi, .int .i64 0, .int .i64 m, .int .i64 u, .int .i64 g, .int .i64 1, .int .i64 z1, .int .i64 z2] 50))).below)
    clear q0 q1 q2 q3 q4 q5 q6 q7 q8 q9 h0 h1 h2 h3 h4 h5 p12 kq12 b12
    obtain ⟨q0, q1, q2, q3, q4, q5, q6, q7, q8, q9⟩ := Blk.k10 kb12
    obtain ⟨h0, h1, h2, h3, h4, h5⟩ := Blk.k6 kh12
    obtain ⟨i0, i1, i2, i3, i4, i5, i6, i7⟩ := Blk.k8 ki12
    clear kb12 kh12 ki12
    go_wp2
    go_ret
    exact ⟨ret_bool (by simp), by first | exact P12.out | (rw [hGG]; exact P12.out)⟩
   ·have her2 : ((er : Int) == 0) = false := by simp; omega
    have her3 : ((er : Int) != 0) = true := by simp; omega
    obtain ⟨e1, e2⟩ := F2 he
    subst e1 e2
    clear F2 F3 F4
    go_wp2_with fail
    refine (CQ.out _ P11.out).mono ?_
    rintro e W12 ⟨rfl, b12⟩
    have P12 := hid (HFIN.out _ (P11.out.read b12).below)
    clear b12
    go_wp2
    go_ret
    exact ⟨ret_bool (by simp), by first | exact P12.out | (rw [hGG]; exact P12.out)⟩
  ·have hf2 : ((f : Int) == 0) = false := by simp; omega
   have hf3 : ((f : Int) != 0) = true := by simp; omega
   have e0 := HOZ.out hf
   subst e0
   go_wp2
   go_ret
   exact ⟨ret_bool (by simp), by first | exact HFIN.out _ P11.out.below | (rw [hGG]; exact HFIN.out _ P11.out.below)⟩
 ·go_wp2_with fail
  refine (CC.out _ P7.out).mono ?_
  rintro e W8 ⟨rfl, b8⟩
  have P8 := hid (P7.out.read b8)
  have KH8 := hid (KH7.out.up b8)
  clear b8 P7 KH7 q0 q1 q2 q3 q4 q5 q6 q7 q8 q9 h0 h1 h2 h3 h4 h5
  obtain ⟨q0, q1, q2, q3, q4, q5, q6, q7, q8, q9⟩ := HQ.out _ P8.out.below
  obtain ⟨h0, h1, h2, h3, h4, h5⟩ := Blk.k6 KH8.out
  go_wp2_with fail
  refine (CW.out _ P8.out).mono ?_
  rintro e W9 ⟨rfl, b9⟩
  have P9 := hid (P8.out.read b9)
  have KH9 := hid (KH8.out.up b9)
  clear b9 P8 KH8
  clear q0 q1 q2 q3 q4 q5 q6 q7 q8 q9 h0 h1 h2 h3 h4 h5
  obtain ⟨q0, q1, q2, q3, q4, q5, q6, q7, q8, q9⟩ := HQ.out _ P9.out.below
  obtain ⟨h0, h1, h2, h3, h4, h5⟩ := Blk.k6 KH9.out
  go_wp2_with fail
  go_region_held3 (fun w' => w'.cell? ⟨G, 1, none⟩ = some (.int .i64 cwd) ∧ w'.cell? ⟨G, 2, none⟩ = some (.int .i64 u) ∧ w'.cell? ⟨G, 3, none⟩ = some (.int .i64 g) ∧ w'.cell? ⟨G, 4, none⟩ = some (.string s) ∧ w'.cell? ⟨J, 0, none⟩ = some (.int .i64 want) ∧ w'.cell? ⟨J, 1, none⟩ = some (.bool mk) ∧ w'.cell? ⟨J, 2, none⟩ = some (.bool al) ∧ w'.cell? ⟨J, 3, none⟩ = some (.bool em) ∧ w'.cell? ⟨J, 4, none⟩ = some (.bool false) ∧ w'.cell? ⟨J, 5, none⟩ = some (.int .i64 m))
   (first | exact ⟨q1, q2, q3, q4, h0, h1, h2, h3, h4, h5⟩ | (obtain ⟨q0, q1, q2, q3, q4, q5, q6, q7, q8, q9⟩ := HQ.out _ p10.below; obtain ⟨h0, h1, h2, h3, h4, h5⟩ := Blk.k6 kh10; exact ⟨q1, q2, q3, q4, h0, h1, h2, h3, h4, h5⟩) | (obtain ⟨q0, q1, q2, q3, q4, q5, q6, q7, q8, q9⟩ := HQ.out _ p11.below; obtain ⟨h0, h1, h2, h3, h4, h5⟩ := Blk.k6 kh11; exact ⟨q1, q2, q3, q4, h0, h1, h2, h3, h4, h5⟩))
   (first
     | (go_at_call 17; refine (who_any _ _ _).mono ?_; rintro e W10 ⟨rfl, b10⟩; have p10 := P9.out.read (((Below.refl W9.heap.size W9).drew).trans b10); have kh10 := KH9.out.up (((Below.refl W9.heap.size W9).drew).trans b10); clear b10)
     | (go_at_call 20; refine (CO.out _ p10).mono ?_; rintro e W11 ⟨rfl, p11, kq11⟩; have kh11 := Blk.kp kh10 kq11 rfl; clear kq11))
  clear q0 q1 q2 q3 q4 q5 q6 q7 q8 q9 h0 h1 h2 h3 h4 h5
  obtain ⟨q0, q1, q2, q3, q4, q5, q6, q7, q8, q9⟩ := HQ.out _ p11.below
  obtain ⟨h0, h1, h2, h3, h4, h5⟩ := Blk.k6 kh11
  have P11 := hid p11
  have KH11 := hid kh11
  clear p11 kh11 p10 kh10 P9 KH9
  by_cases hf : f = 0
  ·subst hf
   obtain ⟨F1, F2, F3, F4⟩ := HOK.out rfl
   subst F1
   by_cases he : er = 0
   ·subst he
    obtain ⟨e1, e2, e3⟩ := F3 (by trivial) (by trivial)
    subst e1 e2
    clear F2 F3 F4
    cases mk
    ·clear e3
     go_wp2
     go_ret
     exact ⟨ret_bool (by simp), by first | exact HFIN.out _ P11.out.below | (rw [hGG]; exact HFIN.out _ P11.out.below)⟩
    ·have e4 : al = false := by simpa using e3
     subst e4
     clear e3
     go_wp2
     go_ret
     exact ⟨ret_bool (by simp), by first | exact HFIN.out _ P11.out.below | (rw [hGG]; exact HFIN.out _ P11.out.below)⟩
   ·have her2 : ((er : Int) == 0) = false := by simp; omega
    have her3 : ((er : Int) != 0) = true := by simp; omega
    obtain ⟨e1, e2⟩ := F2 he
    subst e1 e2
    clear F2 F3 F4
    go_wp2_with fail
    refine (CQ.out _ P11.out).mono ?_
    rintro e W12 ⟨rfl, b12⟩
    have P12 := hid (HFIN.out _ (P11.out.read b12).below)
    clear b12
    go_wp2
    go_ret
    exact ⟨ret_bool (by simp), by first | exact P12.out | (rw [hGG]; exact P12.out)⟩
  ·have hf2 : ((f : Int) == 0) = false := by simp; omega
   have hf3 : ((f : Int) != 0) = true := by simp; omega
   have e0 := HOZ.out hf
   subst e0
   go_wp2
   go_ret
   exact ⟨ret_bool (by simp), by first | exact HFIN.out _ P11.out.below | (rw [hGG]; exact HFIN.out _ P11.out.below)⟩
theorem opens7_law (p0 : Option Addr) (n0 c0 : Nat) (z0 : List Op7) (o : Op7) (w : World) (h0 : InOps7 w p0 n0 z0) (l0 : n0 ≤ maxLen) (ho : o.In) :
 Calls Tryz.prog 4 #[.slice p0 n0 c0, o.val] w fun e w' => e = .returned (.bool true) ∧ Below w.heap.size w w' :=
 opens7_walk p0 n0 c0 z0 o.kind o.cwd o.u o.g o.s o.x o.m o.n o.a o.b w h0 l0 ho.s ho.m
section
open Go.ChangeShapes Go.WideShapes Go.Deep
theorem open_op7 {H : Type} {enc : TypeId × Value → H} {w : World} {base : Nat} {spare : Nat → Bool} {held : Bool} {r : Reach} {b0 : Nat} {v : Value} {d : DataW H} {p : List MemPlace} (hv : Value.okWide Tryz.prog w r b0 29 v) (h : DataW.Trod enc Tryz.prog w base spare held 29 v d p) (hM : Rows.uptoBulk d ≤ 1048576) :
 ∃ z : Op7, v = z.val ∧ z.In := by
 obtain ⟨cs, rfl, hsz⟩ := okWide_struct op7T hv
 obtain ⟨fuel, hf⟩ := h
 obtain ⟨u, hu, hi⟩ := cells_op7 hf hM
 obtain ⟨l⟩ := cs
 have e : l = u.cells := hu
 refine ⟨u, ?_, hi⟩
 rw [e]
 rfl
end
end
end Go.Proofs.YtlpececggkdhmaaGreat
