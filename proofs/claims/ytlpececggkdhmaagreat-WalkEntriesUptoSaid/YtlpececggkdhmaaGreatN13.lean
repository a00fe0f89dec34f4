import Derived.Test.YtlpececggkdhmaaGreatN1
import Derived.Test.YtlpececggkdhmaaGreatN11
open Go.Lib (hid)
set_option linter.unusedVariables false
set_option linter.unusedSimpArgs false
set_option maxHeartbeats 4000000
namespace Go.Proofs.YtlpececggkdhmaaGreat
section
open Go.RowKit Ino
variable {A B : Nat} {own : Nat → Prop} {t : T}
theorem dSticky_any (r u s k g : Int) (d x : Nat) (hd : d ≤ 200) (hx : x ≤ 200) (w : World) (h : RT w A B own t) :
 Calls Tryz.prog 90 #[.pointer (some ⟨A, 0, none⟩), .agg #[.int .i64 r, .int .i64 u, .int .i64 s, .int .i64 k, .int .i64 g], .int .i64 d, .int .i64 x] w fun e w' => e = .returned (.bool (stickyT t u d x)) ∧ Below w.heap.size w w' := by
 have htop := h.top
 have hA := h.lt.1
 have hB := h.lt.2
 obtain ⟨p, cap, -, -, c2, c3, -⟩ := h.cells d hd
 obtain ⟨p', cap', -, -, -, e3, -⟩ := h.cells x hx
 have hr : stickyT t u d x = ((bits .and .i64 (t d).mode 512 == 0) || (u == 0 || (u == (t d).owner || u == (t x).owner))) := rfl
 clear h
 generalize stickyT t u d x = R at *
 generalize (t d).mode = m at *
 generalize (t d).owner = o1 at *
 generalize (t x).owner = o2 at *
 cases q1 : (bits .and .i64 m 512 == 0)
 ·cases q2 : (u == 0)
  ·cases q3 : (u == o1)
   ·rw [q1, q2, q3] at hr
    simp only [Bool.false_or] at hr
    have Hr := hid hr
    clear hr
    go_enter Tryz.func90, Tryz.ntmps90
    go_wp2
    go_quiet (fail)
    go_wp2
    go_ret
    exact ⟨ret_bool (by rw [Hr.out]), (bel1 _ _).trans ⟨rfl, rfl, rfl, Nat.le_refl _, fun _ _ => rfl⟩⟩
   ·rw [q1, q2, q3] at hr
    simp only [Bool.false_or, Bool.true_or] at hr
    have Hr := hid hr
    clear hr
    go_enter Tryz.func90, Tryz.ntmps90
    go_wp2
    go_quiet (fail)
    go_wp2
    go_ret
    exact ⟨ret_bool (by rw [Hr.out]), (bel1 _ _).trans ⟨rfl, rfl, rfl, Nat.le_refl _, fun _ _ => rfl⟩⟩
  ·rw [q1, q2] at hr
   simp only [Bool.false_or, Bool.true_or] at hr
   have Hr := hid hr
   clear hr
   go_enter Tryz.func90, Tryz.ntmps90
   go_wp2
   go_quiet (fail)
   go_wp2
   go_ret
   exact ⟨ret_bool (by rw [Hr.out]), (bel1 _ _).trans ⟨rfl, rfl, rfl, Nat.le_refl _, fun _ _ => rfl⟩⟩
 ·rw [q1] at hr
  simp only [Bool.true_or] at hr
  have Hr := hid hr
  clear hr
  go_enter Tryz.func90, Tryz.ntmps90
  go_wp2
  go_quiet (fail)
  go_wp2
  go_ret
  exact ⟨ret_bool (by rw [Hr.out]), (bel1 _ _).trans ⟨rfl, rfl, rfl, Nat.le_refl _, fun _ _ => rfl⟩⟩
end
section
open Go.RowKit Ino
open Pa (Blk strV)
variable {A B : Nat} {own : Nat → Prop} {t : T}
def ino2V (a : Nat × Nat) : Value := .tuple #[.int .i64 a.1, .int .i64 a.2]
theorem isD_isI {x : Nat} (h : isI t (x : Int) = true) : isD t (x : Int) = decide ((t x).kind = 1) := by unfold isD; rw [h]; simp
def dwRel (w : World) (t : T) (cr : Array Value) (u g : Int) (l : List Bs) (r : Nat × Nat) (av iv : Value) (W : World) : Prop :=
 ∃ k x : Nat, av = .int .i64 x ∧ iv = .int .i64 k ∧ k ≤ l.length ∧ isI t (x : Int) = true ∧ downT t u g x (l.drop k) = r ∧ Blk W w.heap.size 42 cr ∧ Below w.heap.size w W
theorem Blk.k5 {W : World} {B : Nat} {y : TypeId} {a b c d e : Value} (h : Blk W B y #[a, b, c, d, e]) : W.cell? ⟨B, 0, none⟩ = some a ∧ W.cell? ⟨B, 1, none⟩ = some b ∧ W.cell? ⟨B, 2, none⟩ = some c ∧ W.cell? ⟨B, 3, none⟩ = some d ∧ W.cell? ⟨B, 4, none⟩ = some e := ⟨h.cell 0, h.cell 1, h.cell 2, h.cell 3, h.cell 4⟩
theorem dDown_any (cwd r0 u s0 k0 g : Int) (abs : Bool) (v : Value) (l : List Bs) (w : World) (h : RT w A B own t) (hs : Sd t) (hm : Mw t) (hv : InNames w v l) :
 Calls Tryz.prog 82 #[.pointer (some ⟨A, 0, none⟩), .int .i64 cwd, .agg #[.int .i64 r0, .int .i64 u, .int .i64 s0, .int .i64 k0, .int .i64 g], .bool abs, v] w fun e w' => e = .returned (ino2V (downP t cwd u g abs l)) ∧ Below w.heap.size w w' := by
 obtain ⟨p, cap, rfl, hl, hn⟩ := hv
 have hP : downP t cwd u g abs l = if isI t (startI cwd abs) = true then downT t u g (startI cwd abs).toNat l else (0, 3) := rfl
 have HPT := hid (fun W (hb : Below w.heap.size w W) => h.fr (S := fun _ => False) (Fr.of_below hb) fun _ _ _ => id)
 have HN := hid hn
 generalize downP t cwd u g abs l = r at hP ⊢
 have hst : startI cwd abs = if abs = true then 1 else cwd := rfl
 generalize startI cwd abs = st at *
 have HP := hid hP
 have HST := hid hst
 have HS := hid hs
 have HM := hid hm
 clear hP h hn hst hs hm
 cases abs
 ·have hst2 : st = cwd := HST.out
  rw [hst2] at HP
  clear HST hst2
  go_enter Tryz.func82, Tryz.ntmps82
  go_wp2_with fail
  refine calls_world (fun W => Blk W w.heap.size 42 #[.int .i64 r0, .int .i64 u, .int .i64 s0, .int .i64 k0, .int .i64 g] ∧ Below w.heap.size w W) ⟨Blk.new w _ _, bel1 _ _⟩ ?_
  rintro W ⟨k1, b1⟩
  refine (is_any _ W (HPT.out W b1)).mono ?_
  rintro e W2 ⟨rfl, rfl⟩
  have K1 := hid k1
  have B1 := hid b1
  clear k1 b1
  cases hi : isI t cwd
  ·have hr : r = (0, 3) := by rw [HP.out, hi, if_neg Bool.false_ne_true]
   subst hr
   clear HP HN HPT HS HM
   go_wp2
   go_ret2
   exact ⟨rfl, B1.out⟩
  ·obtain ⟨x0, hx0, -, -, -⟩ := isI_nat hi
   have hr : downT t u g x0 (l.drop 0) = r := by rw [HP.out, hi, if_pos rfl, hx0]; rfl
   have J := hid (show dwRel w t #[.int .i64 r0, .int .i64 u, .int .i64 s0, .int .i64 k0, .int .i64 g] u g l r (.int .i64 cwd) (.int .i64 ((0 : Nat) : Int)) W from ⟨0, x0, by rw [hx0], rfl, Nat.zero_le _, by rw [← hx0]; exact hi, hr, K1.out, B1.out⟩)
   clear HP hr hx0 hi K1 B1
   go_wp2_with fail
   go_loopw [12, 14] (fun av iv wr => dwRel w t #[.int .i64 r0, .int .i64 u, .int .i64 s0, .int .i64 k0, .int .i64 g] u g l r av iv wr) (fun _ iv _ => l.length - (intOf iv).toNat)
   case atStart => exact J.out
   case round =>
    obtain ⟨k, x, rfl, rfl, hk, hx, hr, k1, b1⟩ := hrel
    clear J
    have hx2 : x ≤ 200 := by obtain ⟨k2, e2, -, h2, -⟩ := isI_nat hx; omega
    by_cases hlt : k < l.length
    ·obtain ⟨n, hn⟩ : ∃ n, l[k]? = some n := ⟨_, List.getElem?_eq_getElem hlt⟩
     obtain ⟨hns, g0, o0, rfl, hc⟩ := HN.out k n hn
     have hg0 : g0 < w.heap.size := cell_lt hc
     have e0 : wr.cell? ⟨g0, o0 + k, none⟩ = some (strV n) := (b1.cell (p := ⟨g0, o0 + k, none⟩) hg0).trans hc
     unfold strV at e0
     have hd : l.drop k = n :: l.drop (k + 1) := by
      rw [List.drop_eq_getElem_cons hlt]
      rw [List.getElem?_eq_getElem hlt] at hn
      rw [Option.some.inj hn]
     rw [hd] at hr
     have hr2 : (if lookE t x u g = 0 then (if (lookP t (x : Int) n).2 = true then downT t u g (lookP t (x : Int) n).1 (l.drop (k + 1)) else (0, 3)) else (0, lookE t x u g)) = r := hr
     have hle : lookE t x u g = if (t x).kind = 1 then (if mayT t x u g 1 = true then 0 else 4) else 6 := rfl
     have C2 := hid (fun W hW => dir_any (A := A) (B := B) (own := own) (t := t) (x : Int) W hW)
     have C3 := hid (fun W hW => dMay_any (A := A) (B := B) (own := own) (t := t) r0 u s0 k0 g 1 x hx2 (HM.out x) W hW)
     have C4 := hid (fun W hW => look_any (A := A) (B := B) (own := own) (t := t) (x : Int) ⟨n.toArray⟩ W hW HS.out)
     have C5 := hid (fun hl => look_to (t := t) HS.out (x := x) (n := n) hl)
     have hdi := isD_isI hx
     rw [show (⟨n.toArray⟩ : ByteArray).data.toList = n from rfl] at C4
     rw [hdi] at C2
     have i1 : (0 : Int) ≤ (k : Int) := by omega
     have i2 : (k : Int) < l.length := by omega
     have HR := hid hr2
     have HLE := hid hle
     clear hr hr2 hle hn hc hd hns hdi hx
     generalize lookE t x u g = er at HR HLE
     generalize (t x).kind = kd at *
     generalize mayT t x u g 1 = my at *
     generalize lookP t (x : Int) n = lk at *
     obtain ⟨y, ok⟩ := lk
     simp only [lookV] at C4
     generalize (⟨n.toArray⟩ : ByteArray) = ns at *
     obtain ⟨z0, z1, z2, z3, z4⟩ := Blk.k5 k1
     have K1 := hid k1
     have B1 := hid b1
     clear k1 b1
     go_wp2_with fail
     refine (C2.out _ (HPT.out _ B1.out)).mono ?_
     rintro e w2 ⟨rfl, rfl⟩
     by_cases hkd : kd = 1
     ·rw [decide_eq_true hkd]
      go_wp2_with fail
      refine (C3.out _ (HPT.out _ B1.out)).mono ?_
      rintro e w3 ⟨rfl, b2⟩
      have k3 := K1.out.up b2
      have b3 := bnext B1.out b2
      have e1 : w3.cell? ⟨g0, o0 + k, none⟩ = some (.string ns) := (b2.cell (p := ⟨g0, o0 + k, none⟩) (cell_lt e0)).trans e0
      clear b2 e0 z0 z1 z2 z3 z4 K1 B1
      obtain ⟨z0, z1, z2, z3, z4⟩ := Blk.k5 k3
      have K1 := hid k3
      have B1 := hid b3
      clear k3 b3
      cases my
      ·have he : er = 4 := by rw [HLE.out, if_pos hkd, if_neg Bool.false_ne_true]
       have hr3 : r = (0, 4) := by rw [← HR.out, he, if_neg (by decide)]
       go_wp2
       go_ret2
       exact ⟨by rw [hr3]; rfl, B1.out⟩
      ·have he : er = 0 := by rw [HLE.out, if_pos hkd, if_pos rfl]
       go_wp2_with fail
       refine (C4.out _ (HPT.out _ B1.out)).mono ?_
       rintro e w4 ⟨rfl, rfl⟩
       cases ok
       ·have hr3 : r = (0, 3) := by rw [← HR.out, if_pos he, if_neg Bool.false_ne_true]
        go_wp2
        go_ret2
        exact ⟨by rw [hr3]; rfl, B1.out⟩
       ·have hr3 : downT t u g y (l.drop (k + 1)) = r := by rw [← HR.out, if_pos he, if_pos rfl]
        have HR3 := hid hr3
        clear hr3
        go_wp2
        go_roundw
        case rel => exact ⟨k + 1, y, rfl, by go_num, by omega, C5.out trivial, HR3.out, K1.out, B1.out⟩
        case measure => simp [intOf]; omega
     ·have he : er = 6 := by rw [HLE.out, if_neg hkd]
      have hr3 : r = (0, 6) := by rw [← HR.out, he, if_neg (by decide)]
      rw [decide_eq_false hkd]
      go_wp2
      go_ret2
      exact ⟨by rw [hr3]; rfl, B1.out⟩
    ·obtain rfl : k = l.length := by omega
     rw [List.drop_length] at hr
     have hr3 : r = (x, 0) := hr.symm
     clear hr k1
     subst hr3
     go_wp2
     go_ret2
     exact ⟨rfl, b1⟩
 ·have hst2 : st = (1:Int) := HST.out
  rw [hst2] at HP
  clear HST hst2
  go_enter Tryz.func82, Tryz.ntmps82
  go_wp2_with fail
  refine calls_world (fun W => Blk W w.heap.size 42 #[.int .i64 r0, .int .i64 u, .int .i64 s0, .int .i64 k0, .int .i64 g] ∧ Below w.heap.size w W) ⟨Blk.new w _ _, bel1 _ _⟩ ?_
  rintro W ⟨k1, b1⟩
  refine (is_any _ W (HPT.out W b1)).mono ?_
  rintro e W2 ⟨rfl, rfl⟩
  have K1 := hid k1
  have B1 := hid b1
  clear k1 b1
  cases hi : isI t (1 : Int)
  ·have hr : r = (0, 3) := by rw [HP.out, hi, if_neg Bool.false_ne_true]
   subst hr
   clear HP HN HPT HS HM
   go_wp2
   go_ret2
   exact ⟨rfl, B1.out⟩
  ·obtain ⟨x0, hx0, -, -, -⟩ := isI_nat hi
   have hr : downT t u g x0 (l.drop 0) = r := by rw [HP.out, hi, if_pos rfl, hx0]; rfl
   have J := hid (show dwRel w t #[.int .i64 r0, .int .i64 u, .int .i64 s0, .int .i64 k0, .int .i64 g] u g l r (.int .i64 1) (.int .i64 ((0 : Nat) : Int)) W from ⟨0, x0, by rw [hx0], rfl, Nat.zero_le _, by rw [← hx0]; exact hi, hr, K1.out, B1.out⟩)
   clear HP hr hx0 hi K1 B1
   go_wp2_with fail
   go_loopw [12, 14] (fun av iv wr => dwRel w t #[.int .i64 r0, .int .i64 u, .int .i64 s0, .int .i64 k0, .int .i64 g] u g l r av iv wr) (fun _ iv _ => l.length - (intOf iv).toNat)
   case atStart => exact J.out
   case round =>
    obtain ⟨k, x, rfl, rfl, hk, hx, hr, k1, b1⟩ := hrel
    clear J
    have hx2 : x ≤ 200 := by obtain ⟨k2, e2, -, h2, -⟩ := isI_nat hx; omega
    by_cases hlt : k < l.length
    ·obtain ⟨n, hn⟩ : ∃ n, l[k]? = some n := ⟨_, List.getElem?_eq_getElem hlt⟩
     obtain ⟨hns, g0, o0, rfl, hc⟩ := HN.out k n hn
     have hg0 : g0 < w.heap.size := cell_lt hc
     have e0 : wr.cell? ⟨g0, o0 + k, none⟩ = some (strV n) := (b1.cell (p := ⟨g0, o0 + k, none⟩) hg0).trans hc
     unfold strV at e0
     have hd : l.drop k = n :: l.drop (k + 1) := by
      rw [List.drop_eq_getElem_cons hlt]
      rw [List.getElem?_eq_getElem hlt] at hn
      rw [Option.some.inj hn]
     rw [hd] at hr
     have hr2 : (if lookE t x u g = 0 then (if (lookP t (x : Int) n).2 = true then downT t u g (lookP t (x : Int) n).1 (l.drop (k + 1)) else (0, 3)) else (0, lookE t x u g)) = r := hr
     have hle : lookE t x u g = if (t x).kind = 1 then (if mayT t x u g 1 = true then 0 else 4) else 6 := rfl
     have C2 := hid (fun W hW => dir_any (A := A) (B := B) (own := own) (t := t) (x : Int) W hW)
     have C3 := hid (fun W hW => dMay_any (A := A) (B := B) (own := own) (t := t) r0 u s0 k0 g 1 x hx2 (HM.out x) W hW)
     have C4 := hid (fun W hW => look_any (A := A) (B := B) (own := own) (t := t) (x : Int) ⟨n.toArray⟩ W hW HS.out)
     have C5 := hid (fun hl => look_to (t := t) HS.out (x := x) (n := n) hl)
     have hdi := isD_isI hx
     rw [show (⟨n.toArray⟩ : ByteArray).data.toList = n from rfl] at C4
     rw [hdi] at C2
     have i1 : (0 : Int) ≤ (k : Int) := by omega
     have i2 : (k : Int) < l.length := by omega
     have HR := hid hr2
     have HLE := hid hle
     clear hr hr2 hle hn hc hd hns hdi hx
     generalize lookE t x u g = er at HR HLE
     generalize (t x).kind = kd at *
     generalize mayT t x u g 1 = my at *
     generalize lookP t (x : Int) n = lk at *
     obtain ⟨y, ok⟩ := lk
     simp only [lookV] at C4
     generalize (⟨n.toArray⟩ : ByteArray) = ns at *
     obtain ⟨z0, z1, z2, z3, z4⟩ := Blk.k5 k1
     have K1 := hid k1
     have B1 := hid b1
     clear k1 b1
     go_wp2_with fail
     refine (C2.out _ (HPT.out _ B1.out)).mono ?_
     rintro e w2 ⟨rfl, rfl⟩
     by_cases hkd : kd = 1
     ·rw [decide_eq_true hkd]
      go_wp2_with fail
      refine (C3.out _ (HPT.out _ B1.out)).mono ?_
      rintro e w3 ⟨rfl, b2⟩
      have k3 := K1.out.up b2
      have b3 := bnext B1.out b2
      have e1 : w3.cell? ⟨g0, o0 + k, none⟩ = some (.string ns) := (b2.cell (p := ⟨g0, o0 + k, none⟩) (cell_lt e0)).trans e0
      clear b2 e0 z0 z1 z2 z3 z4 K1 B1
      obtain ⟨z0, z1, z2, z3, z4⟩ := Blk.k5 k3
      have K1 := hid k3
      have B1 := hid b3
      clear k3 b3
      cases my
      ·have he : er = 4 := by rw [HLE.out, if_pos hkd, if_neg Bool.false_ne_true]
       have hr3 : r = (0, 4) := by rw [← HR.out, he, if_neg (by decide)]
       go_wp2
       go_ret2
       exact ⟨by rw [hr3]; rfl, B1.out⟩
      ·have he : er = 0 := by rw [HLE.out, if_pos hkd, if_pos rfl]
       go_wp2_with fail
       refine (C4.out _ (HPT.out _ B1.out)).mono ?_
       rintro e w4 ⟨rfl, rfl⟩
       cases ok
       ·have hr3 : r = (0, 3) := by rw [← HR.out, if_pos he, if_neg Bool.false_ne_true]
        go_wp2
        go_ret2
        exact ⟨by rw [hr3]; rfl, B1.out⟩
       ·have hr3 : downT t u g y (l.drop (k + 1)) = r := by rw [← HR.out, if_pos he, if_pos rfl]
        have HR3 := hid hr3
        clear hr3
        go_wp2
        go_roundw
        case rel => exact ⟨k + 1, y, rfl, by go_num, by omega, C5.out trivial, HR3.out, K1.out, B1.out⟩
        case measure => simp [intOf]; omega
     ·have he : er = 6 := by rw [HLE.out, if_neg hkd]
      have hr3 : r = (0, 6) := by rw [← HR.out, he, if_neg (by decide)]
      rw [decide_eq_false hkd]
      go_wp2
      go_ret2
      exact ⟨by rw [hr3]; rfl, B1.out⟩
    ·obtain rfl : k = l.length := by omega
     rw [List.drop_length] at hr
     have hr3 : r = (x, 0) := hr.symm
     clear hr k1
     subst hr3
     go_wp2
     go_ret2
     exact ⟨rfl, b1⟩
end
end Go.Proofs.YtlpececggkdhmaaGreat
