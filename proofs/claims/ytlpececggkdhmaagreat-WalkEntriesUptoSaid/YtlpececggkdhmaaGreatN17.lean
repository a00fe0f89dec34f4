import Derived.Test.YtlpececggkdhmaaGreatN15
open Go.Lib (hid)
set_option linter.unusedVariables false
set_option linter.unusedSimpArgs false
set_option maxHeartbeats 4000000
set_option maxRecDepth 100000
namespace Go.Proofs.YtlpececggkdhmaaGreat
section
open Go.RowKit Ino
open Pa (Blk strV splE nam dirP absP splN splAbs splDir)
variable {A B : Nat} {own : Nat → Prop} {t : T}
theorem dOpenF4_any (cwd r0 u s0 k0 g : Int) (s : ByteArray) (hz : s.size ≤ 1048576) (want : Int) (al em en : Bool) (mode : Int) (hw : want = 4) (hrm : rMode mode = true) (w : World) (h : RT w A B own t) (hs : Sound t) (hm : Mw t) (hb : HB 999999 t) :
 Calls Tryz.prog 38 #[.pointer (some ⟨A, 0, none⟩), .int .i64 cwd, .agg #[.int .i64 r0, .int .i64 u, .int .i64 s0, .int .i64 k0, .int .i64 g], .string s, .agg #[.int .i64 want, .bool false, .bool al, .bool em, .bool en, .int .i64 mode]] w fun e w' => e = .returned (makeV (openP t cwd u g s.data.toList want false al em mode).2) ∧ Rt w A B own (openP t cwd u g s.data.toList want false al em mode).1 w' := by
 have q1 : (want != 4) = false := by rw [hw]; rfl
 have wr : (bits .and .i64 want 2 != 0) = false := by rw [hw]; decide
 have C1 := hid (fun W => mright_any mode W)
 have C2 := hid (fun W hW => dFind_any (A := A) (B := B) (own := own) (t := t) cwd r0 u s0 k0 g s hz W hW hs.sd hm)
 have hfi := findP_is hs.sd cwd u g s.data.toList
 have hwo : wantOk want = true := by rw [hw]; rfl
 have hR : openP t cwd u g s.data.toList want false al em mode = if (findP t cwd u g s.data.toList).2 = 0 then oldP t u g (findP t cwd u g s.data.toList).1 want em else (t, 0, (findP t cwd u g s.data.toList).2) := by
  unfold openP; rw [if_pos ⟨hwo, hrm⟩, if_neg (by decide)]
 rw [oldP4 hw] at hR
 rw [hrm] at C1
 generalize openP t cwd u g s.data.toList want false al em mode = r at *
 generalize findP t cwd u g s.data.toList = f at *
 obtain ⟨x, ef⟩ := f
 simp only [ino2V] at hfi C2 hR
 have C4 := hid (fun W (hx : x ≤ 200) hW => dMay_any (A := A) (B := B) (own := own) (t := t) r0 u s0 k0 g want x hx (hm x) W hW)
 have C5 := hid (fun W hW => hold_any (A := A) (B := B) (own := own) (t := t) (x : Int) W hW (fun k => Nat.le_trans (hb k) (by decide)))
 have C6 := hid (fun W hW => cut_any (A := A) (B := B) (own := own) (t := (holdP t x).1) (x : Int) W hW (sound_hold hs x).sd)
 have C7 := hid (fun W (hx : x ≤ 200) hW => dPlainer_any (A := A) (B := B) (own := own) (t := (cutP (holdP t x).1 x).1) x hx W hW)
 have HC := hid (fun W (hW : RT W A B own t) (hx : x ≤ 200) => hW.cells x hx)
 have HCH := hid (fun W (hW : RT W A B own (holdP t x).1) (hx : x ≤ 200) => (show W.cell? ⟨B, x * 10 + 1, none⟩ = some (.int .i64 (t x).kind) by
  obtain ⟨p, cap, -, kc, -⟩ := hW.cells x hx
  rw [kc, hold_kind]))
 generalize mayT t x u g want = my at *
 generalize (cutP (holdP t x).1 x) = qc at *
 obtain ⟨tC, ec⟩ := qc
 generalize holdP t x = qh at *
 obtain ⟨tH, bh⟩ := qh
 generalize (t x).kind = kd at *
 simp only at hR C5 C6 C7 HCH
 have hx : ef = 0 → x ≤ 200 := fun e => by obtain ⟨k2, e2, -, h2, -⟩ := isI_nat (hfi e); omega
 have HX := hid hx
 have hBw := h.lt.2
 have HPT := hid (fun W (b : Below w.heap.size w W) => Rt.start h b)
 have HP2 := hid (fun W (hb : Below w.heap.size w W) => h.fr (S := fun _ => False) (Fr.of_below hb) fun _ _ _ => id)
 have HR := hid hR
 clear hR hs hm hb h hfi hx hw hwo hrm
 obtain ⟨r1, r2, r3⟩ := r
 simp only [makeV]
 go_enter Tryz.func38, Tryz.ntmps38
 go_wp2_with fail
 refine calls_world (fun W => Blk W w.heap.size 42 #[.int .i64 r0, .int .i64 u, .int .i64 s0, .int .i64 k0, .int .i64 g] ∧ Blk W (w.heap.size + 1) 35 #[.int .i64 want, .bool false, .bool al, .bool em, .bool en, .int .i64 mode] ∧ Below w.heap.size w W) ⟨(Blk.new w _ _).alloc _, blk1 w _ _ _, bel2 _ _ _⟩ ?_
 rintro W ⟨k1, k2, b1⟩
 obtain ⟨d0, d1, d2, d3, d4⟩ := Blk.k5 k1
 obtain ⟨e0, e1, e2, e3, e4, e5⟩ := Blk.k6 k2
 have K1 := hid k1
 have K2 := hid k2
 have B1 := hid b1
 clear k1 k2 b1
 go_wp2_with fail
 refine (C1.out W).mono ?_
 rintro e W0 ⟨rfl, rfl⟩
 go_wp2_with fail
 refine (C2.out _ (HP2.out _ B1.out)).mono ?_
 rintro e W2 ⟨rfl, b2⟩
 have k1 := K1.out.up b2
 have k2 := K2.out.up b2
 have b1 := bnext B1.out b2
 clear d0 d1 d2 d3 d4 e0 e1 e2 e3 e4 e5 K1 K2 B1 b2
 have K1 := hid k1
 have K2 := hid k2
 have B1 := hid b1
 clear k1 k2 b1
 by_cases hf : ef = 0
 ·subst hf
  have hx2 := HX.out rfl
  have HRT := hid (HP2.out _ B1.out)
  have htop := HRT.out.top
  have hA := HRT.out.lt.1
  have hB := HRT.out.lt.2
  obtain ⟨p, cap, -, kc, -⟩ := HC.out _ HRT.out hx2
  have x0 : (0 : Int) ≤ x := by omega
  have x1 : (x : Int) < 201 := by omega
  obtain ⟨d0, d1, d2, d3, d4⟩ := Blk.k5 K1.out
  obtain ⟨e0, e1, e2, e3, e4, e5⟩ := Blk.k6 K2.out
  have g1 := K1.out.lt
  have g2 := K2.out.lt
  go_wp2_with fail
  refine (C4.out _ hx2 (HP2.out _ B1.out)).mono ?_
  rintro e W4 ⟨rfl, b4⟩
  have b5 := bnext B1.out b4
  have K4 : Hid (Blk W4 (w.heap.size + 1) 35 #[.int .i64 want, .bool false, .bool al, .bool em, .bool en, .int .i64 mode]) := hid ((b4.block _ K2.out.lt).trans K2.out)
  have B4 := hid b5
  clear d0 d1 d2 d3 d4 e0 e1 e2 e3 e4 e5 kc htop b4 b5 g1 g2 K1 K2 B1 HRT
  cases my
  ·have hr : (r1, r2, r3) = (t, 0, 4) := by rw [HR.out]; simp []
   cases hr
   go_wp2
   go_ret2
   exact ⟨rfl, HPT.out _ B4.out⟩
  ·go_wp2_with fail
   refine (C5.out _ (HP2.out _ B4.out)).mono ?_
   rintro e W5 ⟨rfl, h5, f5⟩
   have H5 := hid h5
   have F5 := hid ((Fr.of_below (S := (· = B)) B4.out).trans f5)
   have k5 := Blk.fr K4.out f5 (fun e => by have e' : w.heap.size + 1 = B := e; omega)
   have htop := h5.top
   have kc := HCH.out _ h5 hx2
   obtain ⟨e0, e1, e2, e3, e4, e5⟩ := Blk.k6 k5
   clear h5 f5 K4 k5 B4
   cases em
   all_goals
    have hr : (r1, r2, r3) = (tH, x, 0) := by rw [HR.out]; simp 
    cases hr
    go_wp2
    go_ret2
    exact ⟨rfl, Rt.of H5.out F5.out⟩
 ·have hr : (r1, r2, r3) = (t, 0, ef) := by rw [HR.out]; simp [hf]
  have her2 : ((ef : Int) == 0) = false := by simp; omega
  have her3 : ((ef : Int) != 0) = true := by simp; omega
  cases hr
  go_wp2
  go_ret2
  exact ⟨rfl, HPT.out _ B1.out⟩
end
section
open Go.RowKit Ino
open Pa (Blk strV splE nam dirP absP splN splAbs splDir)
variable {A B : Nat} {own : Nat → Prop} {t : T}
theorem dOpenF2_any (cwd r0 u s0 k0 g : Int) (s : ByteArray) (hz : s.size ≤ 1048576) (want : Int) (al em en : Bool) (mode : Int) (hw : want = 2) (hrm : rMode mode = true) (w : World) (h : RT w A B own t) (hs : Sound t) (hm : Mw t) (hb : HB 999999 t) :
 Calls Tryz.prog 38 #[.pointer (some ⟨A, 0, none⟩), .int .i64 cwd, .agg #[.int .i64 r0, .int .i64 u, .int .i64 s0, .int .i64 k0, .int .i64 g], .string s, .agg #[.int .i64 want, .bool false, .bool al, .bool em, .bool en, .int .i64 mode]] w fun e w' => e = .returned (makeV (openP t cwd u g s.data.toList want false al em mode).2) ∧ Rt w A B own (openP t cwd u g s.data.toList want false al em mode).1 w' := by
 have q1 : (want != 4) = true := by rw [hw]; rfl
 have q2 : (want != 2) = false := by rw [hw]; rfl
 have wr : (bits .and .i64 want 2 != 0) = true := by rw [hw]; decide
 have C1 := hid (fun W => mright_any mode W)
 have C2 := hid (fun W hW => dFind_any (A := A) (B := B) (own := own) (t := t) cwd r0 u s0 k0 g s hz W hW hs.sd hm)
 have hfi := findP_is hs.sd cwd u g s.data.toList
 have hwo : wantOk want = true := by rw [hw]; rfl
 have hR : openP t cwd u g s.data.toList want false al em mode = if (findP t cwd u g s.data.toList).2 = 0 then oldP t u g (findP t cwd u g s.data.toList).1 want em else (t, 0, (findP t cwd u g s.data.toList).2) := by
  unfold openP; rw [if_pos ⟨hwo, hrm⟩, if_neg (by decide)]
 rw [oldPw (by omega)] at hR
 rw [hrm] at C1
 generalize openP t cwd u g s.data.toList want false al em mode = r at *
 generalize findP t cwd u g s.data.toList = f at *
 obtain ⟨x, ef⟩ := f
 simp only [ino2V] at hfi C2 hR
 have C4 := hid (fun W (hx : x ≤ 200) hW => dMay_any (A := A) (B := B) (own := own) (t := t) r0 u s0 k0 g want x hx (hm x) W hW)
 have C5 := hid (fun W hW => hold_any (A := A) (B := B) (own := own) (t := t) (x : Int) W hW (fun k => Nat.le_trans (hb k) (by decide)))
 have C6 := hid (fun W hW => cut_any (A := A) (B := B) (own := own) (t := (holdP t x).1) (x : Int) W hW (sound_hold hs x).sd)
 have C7 := hid (fun W (hx : x ≤ 200) hW => dPlainer_any (A := A) (B := B) (own := own) (t := (cutP (holdP t x).1 x).1) x hx W hW)
 have HC := hid (fun W (hW : RT W A B own t) (hx : x ≤ 200) => hW.cells x hx)
 have HCH := hid (fun W (hW : RT W A B own (holdP t x).1) (hx : x ≤ 200) => (show W.cell? ⟨B, x * 10 + 1, none⟩ = some (.int .i64 (t x).kind) by
  obtain ⟨p, cap, -, kc, -⟩ := hW.cells x hx
  rw [kc, hold_kind]))
 generalize mayT t x u g want = my at *
 generalize (cutP (holdP t x).1 x) = qc at *
 obtain ⟨tC, ec⟩ := qc
 generalize holdP t x = qh at *
 obtain ⟨tH, bh⟩ := qh
 generalize (t x).kind = kd at *
 simp only at hR C5 C6 C7 HCH
 have hx : ef = 0 → x ≤ 200 := fun e => by obtain ⟨k2, e2, -, h2, -⟩ := isI_nat (hfi e); omega
 have HX := hid hx
 have hBw := h.lt.2
 have HPT := hid (fun W (b : Below w.heap.size w W) => Rt.start h b)
 have HP2 := hid (fun W (hb : Below w.heap.size w W) => h.fr (S := fun _ => False) (Fr.of_below hb) fun _ _ _ => id)
 have HR := hid hR
 clear hR hs hm hb h hfi hx hw hwo hrm
 obtain ⟨r1, r2, r3⟩ := r
 simp only [makeV]
 go_enter Tryz.func38, Tryz.ntmps38
 go_wp2_with fail
 refine calls_world (fun W => Blk W w.heap.size 42 #[.int .i64 r0, .int .i64 u, .int .i64 s0, .int .i64 k0, .int .i64 g] ∧ Blk W (w.heap.size + 1) 35 #[.int .i64 want, .bool false, .bool al, .bool em, .bool en, .int .i64 mode] ∧ Below w.heap.size w W) ⟨(Blk.new w _ _).alloc _, blk1 w _ _ _, bel2 _ _ _⟩ ?_
 rintro W ⟨k1, k2, b1⟩
 obtain ⟨d0, d1, d2, d3, d4⟩ := Blk.k5 k1
 obtain ⟨e0, e1, e2, e3, e4, e5⟩ := Blk.k6 k2
 have K1 := hid k1
 have K2 := hid k2
 have B1 := hid b1
 clear k1 k2 b1
 go_wp2_with fail
 refine (C1.out W).mono ?_
 rintro e W0 ⟨rfl, rfl⟩
 go_wp2_with fail
 refine (C2.out _ (HP2.out _ B1.out)).mono ?_
 rintro e W2 ⟨rfl, b2⟩
 have k1 := K1.out.up b2
 have k2 := K2.out.up b2
 have b1 := bnext B1.out b2
 clear d0 d1 d2 d3 d4 e0 e1 e2 e3 e4 e5 K1 K2 B1 b2
 have K1 := hid k1
 have K2 := hid k2
 have B1 := hid b1
 clear k1 k2 b1
 by_cases hf : ef = 0
 ·subst hf
  have hx2 := HX.out rfl
  have HRT := hid (HP2.out _ B1.out)
  have htop := HRT.out.top
  have hA := HRT.out.lt.1
  have hB := HRT.out.lt.2
  obtain ⟨p, cap, -, kc, -⟩ := HC.out _ HRT.out hx2
  have x0 : (0 : Int) ≤ x := by omega
  have x1 : (x : Int) < 201 := by omega
  obtain ⟨d0, d1, d2, d3, d4⟩ := Blk.k5 K1.out
  obtain ⟨e0, e1, e2, e3, e4, e5⟩ := Blk.k6 K2.out
  have g1 := K1.out.lt
  have g2 := K2.out.lt
  by_cases hk : kd = 1
  ·have kk : (kd == 1) = true := by simp [hk]
   have hr : (r1, r2, r3) = (t, 0, 7) := by rw [HR.out]; simp [hk]
   cases hr
   go_wp2
   go_wp2
   go_ret2
   exact ⟨rfl, HPT.out _ B1.out⟩
  ·have kk : (kd == 1) = false := by simp [hk]
   go_wp2_with fail
   refine (C4.out _ hx2 (HP2.out _ B1.out)).mono ?_
   rintro e W4 ⟨rfl, b4⟩
   have b5 := bnext B1.out b4
   have K4 : Hid (Blk W4 (w.heap.size + 1) 35 #[.int .i64 want, .bool false, .bool al, .bool em, .bool en, .int .i64 mode]) := hid ((b4.block _ K2.out.lt).trans K2.out)
   have B4 := hid b5
   clear d0 d1 d2 d3 d4 e0 e1 e2 e3 e4 e5 kc htop b4 b5 g1 g2 K1 K2 B1 HRT
   cases my
   ·have hr : (r1, r2, r3) = (t, 0, 4) := by rw [HR.out]; simp [hk]
    cases hr
    go_wp2
    go_ret2
    exact ⟨rfl, HPT.out _ B4.out⟩
   ·go_wp2_with fail
    refine (C5.out _ (HP2.out _ B4.out)).mono ?_
    rintro e W5 ⟨rfl, h5, f5⟩
    have H5 := hid h5
    have F5 := hid ((Fr.of_below (S := (· = B)) B4.out).trans f5)
    have k5 := Blk.fr K4.out f5 (fun e => by have e' : w.heap.size + 1 = B := e; omega)
    have htop := h5.top
    have kc := HCH.out _ h5 hx2
    obtain ⟨e0, e1, e2, e3, e4, e5⟩ := Blk.k6 k5
    clear h5 f5 K4 k5 B4
    cases em
    ·have hr : (r1, r2, r3) = (tH, x, 0) := by rw [HR.out]; simp [hk]
     cases hr
     go_wp2
     go_ret2
     exact ⟨rfl, Rt.of H5.out F5.out⟩
    ·by_cases hk0 : kd = 0
     ·have kk0 : (kd == 0) = true := by simp [hk0]
      have hr : (r1, r2, r3) = (plainT tC x, x, 0) := by rw [HR.out]; simp [hk0]
      cases hr
      go_wp2_with fail
      refine (C6.out _ H5.out).mono ?_
      rintro e W6 ⟨rfl, h6, f6⟩
      have H6 := hid h6
      have F6 := hid (F5.out.trans f6)
      clear h6 f6 e0 e1 e2 e3 e4 e5 kc htop H5 F5
      go_wp2_with fail
      refine (C7.out _ hx2 H6.out).mono ?_
      rintro e W7 ⟨rfl, h7, f7⟩
      have H7 := hid h7
      have F7 := hid (F6.out.trans f7)
      clear h7 f7 H6 F6
      go_wp2
      go_ret2
      exact ⟨rfl, Rt.of H7.out F7.out⟩
     ·have kk0 : (kd == 0) = false := by simp [hk0]
      have hr : (r1, r2, r3) = (tH, x, 0) := by rw [HR.out]; simp [hk, hk0]
      cases hr
      go_wp2
      go_ret2
      exact ⟨rfl, Rt.of H5.out F5.out⟩
 ·have hr : (r1, r2, r3) = (t, 0, ef) := by rw [HR.out]; simp [hf]
  have her2 : ((ef : Int) == 0) = false := by simp; omega
  have her3 : ((ef : Int) != 0) = true := by simp; omega
  cases hr
  go_wp2
  go_ret2
  exact ⟨rfl, HPT.out _ B1.out⟩
end
section
open Go.RowKit Ino
open Pa (Blk strV splE nam dirP absP splN splAbs splDir)
variable {A B : Nat} {own : Nat → Prop} {t : T}
theorem dOpenF6_any (cwd r0 u s0 k0 g : Int) (s : ByteArray) (hz : s.size ≤ 1048576) (want : Int) (al em en : Bool) (mode : Int) (hw : want = 6) (hrm : rMode mode = true) (w : World) (h : RT w A B own t) (hs : Sound t) (hm : Mw t) (hb : HB 999999 t) :
 Calls Tryz.prog 38 #[.pointer (some ⟨A, 0, none⟩), .int .i64 cwd, .agg #[.int .i64 r0, .int .i64 u, .int .i64 s0, .int .i64 k0, .int .i64 g], .string s, .agg #[.int .i64 want, .bool false, .bool al, .bool em, .bool en, .int .i64 mode]] w fun e w' => e = .returned (makeV (openP t cwd u g s.data.toList want false al em mode).2) ∧ Rt w A B own (openP t cwd u g s.data.toList want false al em mode).1 w' := by
 have q1 : (want != 4) = true := by rw [hw]; rfl
 have q2 : (want != 2) = true := by rw [hw]; rfl
 have q3 : (want != 6) = false := by rw [hw]; rfl
 have wr : (bits .and .i64 want 2 != 0) = true := by rw [hw]; decide
 have C1 := hid (fun W => mright_any mode W)
 have C2 := hid (fun W hW => dFind_any (A := A) (B := B) (own := own) (t := t) cwd r0 u s0 k0 g s hz W hW hs.sd hm)
 have hfi := findP_is hs.sd cwd u g s.data.toList
 have hwo : wantOk want = true := by rw [hw]; rfl
 have hR : openP t cwd u g s.data.toList want false al em mode = if (findP t cwd u g s.data.toList).2 = 0 then oldP t u g (findP t cwd u g s.data.toList).1 want em else (t, 0, (findP t cwd u g s.data.toList).2) := by
  unfold openP; rw [if_pos ⟨hwo, hrm⟩, if_neg (by decide)]
 rw [oldPw (by omega)] at hR
 rw [hrm] at C1
 generalize openP t cwd u g s.data.toList want false al em mode = r at *
 generalize findP t cwd u g s.data.toList = f at *
 obtain ⟨x, ef⟩ := f
 simp only [ino2V] at hfi C2 hR
 have C4 := hid (fun W (hx : x ≤ 200) hW => dMay_any (A := A) (B := B) (own := own) (t := t) r0 u s0 k0 g want x hx (hm x) W hW)
 have C5 := hid (fun W hW => hold_any (A := A) (B := B) (own := own) (t := t) (x : Int) W hW (fun k => Nat.le_trans (hb k) (by decide)))
 have C6 := hid (fun W hW => cut_any (A := A) (B := B) (own := own) (t := (holdP t x).1) (x : Int) W hW (sound_hold hs x).sd)
 have C7 := hid (fun W (hx : x ≤ 200) hW => dPlainer_any (A := A) (B := B) (own := own) (t := (cutP (holdP t x).1 x).1) x hx W hW)
 have HC := hid (fun W (hW : RT W A B own t) (hx : x ≤ 200) => hW.cells x hx)
 have HCH := hid (fun W (hW : RT W A B own (holdP t x).1) (hx : x ≤ 200) => (show W.cell? ⟨B, x * 10 + 1, none⟩ = some (.int .i64 (t x).kind) by
  obtain ⟨p, cap, -, kc, -⟩ := hW.cells x hx
  rw [kc, hold_kind]))
 generalize mayT t x u g want = my at *
 generalize (cutP (holdP t x).1 x) = qc at *
 obtain ⟨tC, ec⟩ := qc
 generalize holdP t x = qh at *
 obtain ⟨tH, bh⟩ := qh
 generalize (t x).kind = kd at *
 simp only at hR C5 C6 C7 HCH
 have hx : ef = 0 → x ≤ 200 := fun e => by obtain ⟨k2, e2, -, h2, -⟩ := isI_nat (hfi e); omega
 have HX := hid hx
 have hBw := h.lt.2
 have HPT := hid (fun W (b : Below w.heap.size w W) => Rt.start h b)
 have HP2 := hid (fun W (hb : Below w.heap.size w W) => h.fr (S := fun _ => False) (Fr.of_below hb) fun _ _ _ => id)
 have HR := hid hR
 clear hR hs hm hb h hfi hx hw hwo hrm
 obtain ⟨r1, r2, r3⟩ := r
 simp only [makeV]
 go_enter Tryz.func38, Tryz.ntmps38
 go_wp2_with fail
 refine calls_world (fun W => Blk W w.heap.size 42 #[.int .i64 r0, .int .i64 u, .int .i64 s0, .int .i64 k0, .int .i64 g] ∧ Blk W (w.heap.size + 1) 35 #[.int .i64 want, .bool false, .bool al, .bool em, .bool en, .int .i64 mode] ∧ Below w.heap.size w W) ⟨(Blk.new w _ _).alloc _, blk1 w _ _ _, bel2 _ _ _⟩ ?_
 rintro W ⟨k1, k2, b1⟩
 obtain ⟨d0, d1, d2, d3, d4⟩ := Blk.k5 k1
 obtain ⟨e0, e1, e2, e3, e4, e5⟩ := Blk.k6 k2
 have K1 := hid k1
 have K2 := hid k2
 have B1 := hid b1
 clear k1 k2 b1
 go_wp2_with fail
 refine (C1.out W).mono ?_
 rintro e W0 ⟨rfl, rfl⟩
 go_wp2_with fail
 refine (C2.out _ (HP2.out _ B1.out)).mono ?_
 rintro e W2 ⟨rfl, b2⟩
 have k1 := K1.out.up b2
 have k2 := K2.out.up b2
 have b1 := bnext B1.out b2
 clear d0 d1 d2 d3 d4 e0 e1 e2 e3 e4 e5 K1 K2 B1 b2
 have K1 := hid k1
 have K2 := hid k2
 have B1 := hid b1
 clear k1 k2 b1
 by_cases hf : ef = 0
 ·subst hf
  have hx2 := HX.out rfl
  have HRT := hid (HP2.out _ B1.out)
  have htop := HRT.out.top
  have hA := HRT.out.lt.1
  have hB := HRT.out.lt.2
  obtain ⟨p, cap, -, kc, -⟩ := HC.out _ HRT.out hx2
  have x0 : (0 : Int) ≤ x := by omega
  have x1 : (x : Int) < 201 := by omega
  obtain ⟨d0, d1, d2, d3, d4⟩ := Blk.k5 K1.out
  obtain ⟨e0, e1, e2, e3, e4, e5⟩ := Blk.k6 K2.out
  have g1 := K1.out.lt
  have g2 := K2.out.lt
  by_cases hk : kd = 1
  ·have kk : (kd == 1) = true := by simp [hk]
   have hr : (r1, r2, r3) = (t, 0, 7) := by rw [HR.out]; simp [hk]
   cases hr
   go_wp2
   go_wp2
   go_ret2
   exact ⟨rfl, HPT.out _ B1.out⟩
  ·have kk : (kd == 1) = false := by simp [hk]
   go_wp2_with fail
   refine (C4.out _ hx2 (HP2.out _ B1.out)).mono ?_
   rintro e W4 ⟨rfl, b4⟩
   have b5 := bnext B1.out b4
   have K4 : Hid (Blk W4 (w.heap.size + 1) 35 #[.int .i64 want, .bool false, .bool al, .bool em, .bool en, .int .i64 mode]) := hid ((b4.block _ K2.out.lt).trans K2.out)
   have B4 := hid b5
   clear d0 d1 d2 d3 d4 e0 e1 e2 e3 e4 e5 kc htop b4 b5 g1 g2 K1 K2 B1 HRT
   cases my
   ·have hr : (r1, r2, r3) = (t, 0, 4) := by rw [HR.out]; simp [hk]
    cases hr
    go_wp2
    go_ret2
    exact ⟨rfl, HPT.out _ B4.out⟩
   ·go_wp2_with fail
    refine (C5.out _ (HP2.out _ B4.out)).mono ?_
    rintro e W5 ⟨rfl, h5, f5⟩
    have H5 := hid h5
    have F5 := hid ((Fr.of_below (S := (· = B)) B4.out).trans f5)
    have k5 := Blk.fr K4.out f5 (fun e => by have e' : w.heap.size + 1 = B := e; omega)
    have htop := h5.top
    have kc := HCH.out _ h5 hx2
    obtain ⟨e0, e1, e2, e3, e4, e5⟩ := Blk.k6 k5
    clear h5 f5 K4 k5 B4
    cases em
    ·have hr : (r1, r2, r3) = (tH, x, 0) := by rw [HR.out]; simp [hk]
     cases hr
     go_wp2
     go_ret2
     exact ⟨rfl, Rt.of H5.out F5.out⟩
    ·by_cases hk0 : kd = 0
     ·have kk0 : (kd == 0) = true := by simp [hk0]
      have hr : (r1, r2, r3) = (plainT tC x, x, 0) := by rw [HR.out]; simp [hk0]
      cases hr
      go_wp2_with fail
      refine (C6.out _ H5.out).mono ?_
      rintro e W6 ⟨rfl, h6, f6⟩
      have H6 := hid h6
      have F6 := hid (F5.out.trans f6)
      clear h6 f6 e0 e1 e2 e3 e4 e5 kc htop H5 F5
      go_wp2_with fail
      refine (C7.out _ hx2 H6.out).mono ?_
      rintro e W7 ⟨rfl, h7, f7⟩
      have H7 := hid h7
      have F7 := hid (F6.out.trans f7)
      clear h7 f7 H6 F6
      go_wp2
      go_ret2
      exact ⟨rfl, Rt.of H7.out F7.out⟩
     ·have kk0 : (kd == 0) = false := by simp [hk0]
      have hr : (r1, r2, r3) = (tH, x, 0) := by rw [HR.out]; simp [hk, hk0]
      cases hr
      go_wp2
      go_ret2
      exact ⟨rfl, Rt.of H5.out F5.out⟩
 ·have hr : (r1, r2, r3) = (t, 0, ef) := by rw [HR.out]; simp [hf]
  have her2 : ((ef : Int) == 0) = false := by simp; omega
  have her3 : ((ef : Int) != 0) = true := by simp; omega
  cases hr
  go_wp2
  go_ret2
  exact ⟨rfl, HPT.out _ B1.out⟩
end
section
open Go.RowKit Ino
open Pa (Blk strV splE nam dirP absP splN splAbs splDir)
variable {A B : Nat} {own : Nat → Prop} {t : T}
theorem dOpenB0_any (cwd r0 u s0 k0 g : Int) (s : ByteArray) (want : Int) (mk al em en : Bool) (mode : Int) (h4 : want ≠ 4) (h2 : want ≠ 2) (h6 : want ≠ 6) (w : World) (h : RT w A B own t) :
 Calls Tryz.prog 38 #[.pointer (some ⟨A, 0, none⟩), .int .i64 cwd, .agg #[.int .i64 r0, .int .i64 u, .int .i64 s0, .int .i64 k0, .int .i64 g], .string s, .agg #[.int .i64 want, .bool mk, .bool al, .bool em, .bool en, .int .i64 mode]] w fun e w' => e = .returned (makeV (openP t cwd u g s.data.toList want mk al em mode).2) ∧ Rt w A B own (openP t cwd u g s.data.toList want mk al em mode).1 w' := by
 have C1 := (fun W => mright_any mode W)
 have q1 : (want != 4) = true := by simp [h4]
 have q2 : (want != 2) = true := by simp [h2]
 have q3 : (want != 6) = true := by simp [h6]
 have hbad : ¬ (wantOk want = true ∧ rMode mode = true) := fun z => by
  have := z.1
  unfold wantOk at this
  simp [h4, h2, h6] at this
 have hR : openP t cwd u g s.data.toList want mk al em mode = (t, 0, 1) := by
  unfold openP; rw [if_neg hbad]
 clear hbad
 generalize rMode mode = rm at *
 have C1 := hid C1
 generalize openP t cwd u g s.data.toList want mk al em mode = r at *
 have HPT := hid (fun W (b : Below w.heap.size w W) => Rt.start h b)
 cases hR
 clear h
 simp only [makeV]
 go_enter Tryz.func38, Tryz.ntmps38
 go_wp2_with fail
 refine calls_world (fun W => Blk W w.heap.size 42 #[.int .i64 r0, .int .i64 u, .int .i64 s0, .int .i64 k0, .int .i64 g] ∧ Blk W (w.heap.size + 1) 35 #[.int .i64 want, .bool mk, .bool al, .bool em, .bool en, .int .i64 mode] ∧ Below w.heap.size w W) ⟨(Blk.new w _ _).alloc _, blk1 w _ _ _, bel2 _ _ _⟩ ?_
 rintro W ⟨k1, k2, b1⟩
 obtain ⟨d0, d1, d2, d3, d4⟩ := Blk.k5 k1
 obtain ⟨e0, e1, e2, e3, e4, e5⟩ := Blk.k6 k2
 have K1 := hid k1
 have K2 := hid k2
 have B1 := hid b1
 clear k1 k2 b1
 go_wp2_with fail
 refine (C1.out W).mono ?_
 rintro e W0 ⟨rfl, rfl⟩
 go_wp2
 go_ret2
 exact ⟨rfl, HPT.out _ B1.out⟩
theorem dOpenB4_any (cwd r0 u s0 k0 g : Int) (s : ByteArray) (want : Int) (mk al em en : Bool) (mode : Int) (hw : want = 4) (hrm : rMode mode = false) (w : World) (h : RT w A B own t) :
 Calls Tryz.prog 38 #[.pointer (some ⟨A, 0, none⟩), .int .i64 cwd, .agg #[.int .i64 r0, .int .i64 u, .int .i64 s0, .int .i64 k0, .int .i64 g], .string s, .agg #[.int .i64 want, .bool mk, .bool al, .bool em, .bool en, .int .i64 mode]] w fun e w' => e = .returned (makeV (openP t cwd u g s.data.toList want mk al em mode).2) ∧ Rt w A B own (openP t cwd u g s.data.toList want mk al em mode).1 w' := by
 have C1 := (fun W => mright_any mode W)
 have q1 : (want != 4) = false := by rw [hw]; rfl
 have wr : (bits .and .i64 want 2 != 0) = false := by rw [hw]; decide
 have hbad : ¬ (wantOk want = true ∧ rMode mode = true) := fun z => by rw [hrm] at z; exact absurd z.2 (by decide)
 have hR : openP t cwd u g s.data.toList want mk al em mode = (t, 0, 1) := by
  unfold openP; rw [if_neg hbad]
 clear hbad
 rw [hrm] at C1
 clear hw hrm
 have C1 := hid C1
 generalize openP t cwd u g s.data.toList want mk al em mode = r at *
 have HPT := hid (fun W (b : Below w.heap.size w W) => Rt.start h b)
 cases hR
 clear h
 simp only [makeV]
 go_enter Tryz.func38, Tryz.ntmps38
 go_wp2_with fail
 refine calls_world (fun W => Blk W w.heap.size 42 #[.int .i64 r0, .int .i64 u, .int .i64 s0, .int .i64 k0, .int .i64 g] ∧ Blk W (w.heap.size + 1) 35 #[.int .i64 want, .bool mk, .bool al, .bool em, .bool en, .int .i64 mode] ∧ Below w.heap.size w W) ⟨(Blk.new w _ _).alloc _, blk1 w _ _ _, bel2 _ _ _⟩ ?_
 rintro W ⟨k1, k2, b1⟩
 obtain ⟨d0, d1, d2, d3, d4⟩ := Blk.k5 k1
 obtain ⟨e0, e1, e2, e3, e4, e5⟩ := Blk.k6 k2
 have K1 := hid k1
 have K2 := hid k2
 have B1 := hid b1
 clear k1 k2 b1
 go_wp2_with fail
 refine (C1.out W).mono ?_
 rintro e W0 ⟨rfl, rfl⟩
 go_wp2
 go_ret2
 exact ⟨rfl, HPT.out _ B1.out⟩
theorem dOpenB2_any (cwd r0 u s0 k0 g : Int) (s : ByteArray) (want : Int) (mk al em en : Bool) (mode : Int) (hw : want = 2) (hrm : rMode mode = false) (w : World) (h : RT w A B own t) :
 Calls Tryz.prog 38 #[.pointer (some ⟨A, 0, none⟩), .int .i64 cwd, .agg #[.int .i64 r0, .int .i64 u, .int .i64 s0, .int .i64 k0, .int .i64 g], .string s, .agg #[.int .i64 want, .bool mk, .bool al, .bool em, .bool en, .int .i64 mode]] w fun e w' => e = .returned (makeV (openP t cwd u g s.data.toList want mk al em mode).2) ∧ Rt w A B own (openP t cwd u g s.data.toList want mk al em mode).1 w' := by
 have C1 := (fun W => mright_any mode W)
 have q1 : (want != 4) = true := by rw [hw]; rfl
 have q2 : (want != 2) = false := by rw [hw]; rfl
 have wr : (bits .and .i64 want 2 != 0) = true := by rw [hw]; decide
 have hbad : ¬ (wantOk want = true ∧ rMode mode = true) := fun z => by rw [hrm] at z; exact absurd z.2 (by decide)
 have hR : openP t cwd u g s.data.toList want mk al em mode = (t, 0, 1) := by
  unfold openP; rw [if_neg hbad]
 clear hbad
 rw [hrm] at C1
 clear hw hrm
 have C1 := hid C1
 generalize openP t cwd u g s.data.toList want mk al em mode = r at *
 have HPT := hid (fun W (b : Below w.heap.size w W) => Rt.start h b)
 cases hR
 clear h
 simp only [makeV]
 go_enter Tryz.func38, Tryz.ntmps38
 go_wp2_with fail
 refine calls_world (fun W => Blk W w.heap.size 42 #[.int .i64 r0, .int .i64 u, .int .i64 s0, .int .i64 k0, .int .i64 g] ∧ Blk W (w.heap.size + 1) 35 #[.int .i64 want, .bool mk, .bool al, .bool em, .bool en, .int .i64 mode] ∧ Below w.heap.size w W) ⟨(Blk.new w _ _).alloc _, blk1 w _ _ _, bel2 _ _ _⟩ ?_
 rintro W ⟨k1, k2, b1⟩
 obtain ⟨d0, d1, d2, d3, d4⟩ := Blk.k5 k1
 obtain ⟨e0, e1, e2, e3, e4, e5⟩ := Blk.k6 k2
 have K1 := hid k1
 have K2 := hid k2
 have B1 := hid b1
 clear k1 k2 b1
 go_wp2_with fail
 refine (C1.out W).mono ?_
 rintro e W0 ⟨rfl, rfl⟩
 go_wp2
 go_ret2
 exact ⟨rfl, HPT.out _ B1.out⟩
theorem dOpenB6_any (cwd r0 u s0 k0 g : Int) (s : ByteArray) (want : Int) (mk al em en : Bool) (mode : Int) (hw : want = 6) (hrm : rMode mode = false) (w : World) (h : RT w A B own t) :
 Calls Tryz.prog 38 #[.pointer (some ⟨A, 0, none⟩), .int .i64 cwd, .agg #[.int .i64 r0, .int .i64 u, .int .i64 s0, .int .i64 k0, .int .i64 g], .string s, .agg #[.int .i64 want, .bool mk, .bool al, .bool em, .bool en, .int .i64 mode]] w fun e w' => e = .returned (makeV (openP t cwd u g s.data.toList want mk al em mode).2) ∧ Rt w A B own (openP t cwd u g s.data.toList want mk al em mode).1 w' := by
 have C1 := (fun W => mright_any mode W)
 have q1 : (want != 4) = true := by rw [hw]; rfl
 have q2 : (want != 2) = true := by rw [hw]; rfl
 have q3 : (want != 6) = false := by rw [hw]; rfl
 have wr : (bits .and .i64 want 2 != 0) = true := by rw [hw]; decide
 have hbad : ¬ (wantOk want = true ∧ rMode mode = true) := fun z => by rw [hrm] at z; exact absurd z.2 (by decide)
 have hR : openP t cwd u g s.data.toList want mk al em mode = (t, 0, 1) := by
  unfold openP; rw [if_neg hbad]
 clear hbad
 rw [hrm] at C1
 clear hw hrm
 have C1 := hid C1
 generalize openP t cwd u g s.data.toList want mk al em mode = r at *
 have HPT := hid (fun W (b : Below w.heap.size w W) => Rt.start h b)
 cases hR
 clear h
 simp only [makeV]
 go_enter Tryz.func38, Tryz.ntmps38
 go_wp2_with fail
 refine calls_world (fun W => Blk W w.heap.size 42 #[.int .i64 r0, .int .i64 u, .int .i64 s0, .int .i64 k0, .int .i64 g] ∧ Blk W (w.heap.size + 1) 35 #[.int .i64 want, .bool mk, .bool al, .bool em, .bool en, .int .i64 mode] ∧ Below w.heap.size w W) ⟨(Blk.new w _ _).alloc _, blk1 w _ _ _, bel2 _ _ _⟩ ?_
 rintro W ⟨k1, k2, b1⟩
 obtain ⟨d0, d1, d2, d3, d4⟩ := Blk.k5 k1
 obtain ⟨e0, e1, e2, e3, e4, e5⟩ := Blk.k6 k2
 have K1 := hid k1
 have K2 := hid k2
 have B1 := hid b1
 clear k1 k2 b1
 go_wp2_with fail
 refine (C1.out W).mono ?_
 rintro e W0 ⟨rfl, rfl⟩
 go_wp2
 go_ret2
 exact ⟨rfl, HPT.out _ B1.out⟩
end
end Go.Proofs.YtlpececggkdhmaaGreat
