import Derived.Test.YtlpececggkdhmaaGreatM17
import Derived.Test.YtlpececggkdhmaaGreatN15
open Go.Lib (hid)
set_option linter.unusedVariables false
set_option linter.unusedSimpArgs false
namespace Go.Proofs.YtlpececggkdhmaaGreat
section
open Go.RowKit Ino
open Pa (Blk strV)
variable {A B : Nat} {own : Nat → Prop} {t : T}
set_option maxHeartbeats 8000000 in
theorem dRename_any (cwd r0 u s0 k0 g : Int) (s a : ByteArray) (hz : s.size ≤ 1048576) (hza : a.size ≤ 1048576) (w : World) (h : RT w A B own t) (hs : Sound t) (hm : Mw t) (hb : HB 999999 t) :
 Calls Tryz.prog 42 #[.pointer (some ⟨A, 0, none⟩), .int .i64 cwd, .agg #[.int .i64 r0, .int .i64 u, .int .i64 s0, .int .i64 k0, .int .i64 g], .string s, .string a] w fun e w' => e = .returned (.int .i64 ((renP t cwd u g s.data.toList a.data.toList).2 : Nat)) ∧ Rt w A B own (renP t cwd u g s.data.toList a.data.toList).1 w' := by
 have C1 := hid (fun W hW => dParent_any (A := A) (B := B) (own := own) (t := t) cwd r0 u s0 k0 g s hz W hW hs.sd hm)
 have C2 := hid (fun W hW => dParent_any (A := A) (B := B) (own := own) (t := t) cwd r0 u s0 k0 g a hza W hW hs.sd hm)
 have hd1 := place_le hs.sd cwd u g s.data.toList
 have hd2 := place_le hs.sd cwd u g a.data.toList
 have hn1 := place_name hs.sd cwd u g s.data.toList
 have hn2 := place_name hs.sd cwd u g a.data.toList
 have hR : renP t cwd u g s.data.toList a.data.toList = if (placeP t cwd u g s.data.toList).err = 0 then
  if (lookP t (placeP t cwd u g s.data.toList).dir (placeP t cwd u g s.data.toList).name).2 = true then
   if (placeP t cwd u g a.data.toList).err = 0 then
    if ((placeP t cwd u g s.data.toList).must || (placeP t cwd u g a.data.toList).must) = true ∧ (t (lookP t (placeP t cwd u g s.data.toList).dir (placeP t cwd u g s.data.toList).name).1).kind ≠ 1 then (t, 6)
    else if mayT t (placeP t cwd u g s.data.toList).dir u g 2 = true ∧ mayT t (placeP t cwd u g a.data.toList).dir u g 2 = true then
     if stickyT t u (placeP t cwd u g s.data.toList).dir (lookP t (placeP t cwd u g s.data.toList).dir (placeP t cwd u g s.data.toList).name).1 = true ∧ ((lookP t (placeP t cwd u g a.data.toList).dir (placeP t cwd u g a.data.toList).name).2 = true → stickyT t u (placeP t cwd u g a.data.toList).dir (lookP t (placeP t cwd u g a.data.toList).dir (placeP t cwd u g a.data.toList).name).1 = true) then
      moveP t (placeP t cwd u g s.data.toList).dir (placeP t cwd u g s.data.toList).name (placeP t cwd u g a.data.toList).dir (placeP t cwd u g a.data.toList).name
     else (t, 2)
    else (t, 4)
   else (t, (placeP t cwd u g a.data.toList).err)
  else (t, 3)
 else (t, (placeP t cwd u g s.data.toList).err) := rfl
 generalize renP t cwd u g s.data.toList a.data.toList = r at *
 generalize placeP t cwd u g s.data.toList = q1 at *
 generalize placeP t cwd u g a.data.toList = q2 at *
 obtain ⟨d1, nm1, must, er1⟩ := q1
 obtain ⟨d2, nm2, also, er2⟩ := q2
 simp only [plc4V] at hR hd1 hd2 hn1 hn2 C1 C2
 have C3 := hid (fun W hW => look_any (A := A) (B := B) (own := own) (t := t) (d1 : Int) ⟨nm1.toArray⟩ W hW hs.sd)
 have C8 := hid (fun W hW => look_any (A := A) (B := B) (own := own) (t := t) (d2 : Int) ⟨nm2.toArray⟩ W hW hs.sd)
 have C5 := hid (fun W hW => dMay_any (A := A) (B := B) (own := own) (t := t) r0 u s0 k0 g 2 d1 hd1 (hm d1) W hW)
 have C6 := hid (fun W hW => dMay_any (A := A) (B := B) (own := own) (t := t) r0 u s0 k0 g 2 d2 hd2 (hm d2) W hW)
 have C10 := hid (fun W (o : Nat → Prop) (h1 : er1 = 0) (h2 : er2 = 0) hW => move_any (A := A) (B := B) (own := o) (t := t) (d1 : Int) (d2 : Int) ⟨nm1.toArray⟩ ⟨nm2.toArray⟩ W hW hs (by show nm1.length ≤ maxLen; have := hn1 h1; unfold maxLen; omega) (by show nm2.length ≤ maxLen; have := hn2 h2; unfold maxLen; omega) (fun k => Nat.le_trans (hb k) (by decide)))
 rw [show (⟨nm1.toArray⟩ : ByteArray).data.toList = nm1 from rfl] at C3 C10
 rw [show (⟨nm2.toArray⟩ : ByteArray).data.toList = nm2 from rfl] at C8 C10
 have hl1 := look_to (t := t) hs.sd (x := d1) (n := nm1)
 have hl2 := look_to (t := t) hs.sd (x := d2) (n := nm2)
 generalize moveP t (d1 : Int) nm1 (d2 : Int) nm2 = q3 at *
 obtain ⟨t1, e1⟩ := q3
 simp only at hR C10
 generalize lookP t (d1 : Int) nm1 = lk1 at *
 generalize lookP t (d2 : Int) nm2 = lk2 at *
 obtain ⟨x, ok1⟩ := lk1
 obtain ⟨y, ok2⟩ := lk2
 simp only [lookV] at hR C3 C8 hl1 hl2
 have C7 := hid (fun W (hy : x ≤ 200) hW => dSticky_any (A := A) (B := B) (own := own) (t := t) r0 u s0 k0 g d1 x hd1 hy W hW)
 have C9 := hid (fun W (hy : y ≤ 200) hW => dSticky_any (A := A) (B := B) (own := own) (t := t) r0 u s0 k0 g d2 y hd2 hy W hW)
 have C4 := hid (fun W hW => dir_any (A := A) (B := B) (own := own) (t := t) (x : Int) W hW)
 have hdi : ok1 = true → isD t (x : Int) = decide ((t x).kind = 1) := fun e => isD_isI (hl1 e)
 have hx2 : ok1 = true → x ≤ 200 := fun e => by obtain ⟨k2, e2, -, h2, -⟩ := isI_nat (hl1 e); omega
 have hy2 : ok2 = true → y ≤ 200 := fun e => by obtain ⟨k2, e2, -, h2, -⟩ := isI_nat (hl2 e); omega
 generalize (⟨nm1.toArray⟩ : ByteArray) = ns1 at *
 generalize (⟨nm2.toArray⟩ : ByteArray) = ns2 at *
 generalize mayT t d1 u g 2 = my1 at *
 generalize mayT t d2 u g 2 = my2 at *
 generalize stickyT t u d1 x = st1 at *
 generalize stickyT t u d2 y = st2 at *
 generalize (t x).kind = kd at *
 generalize isD t (x : Int) = dy at *
 have HPT := hid (fun W (b : Below w.heap.size w W) => Rt.start h b)
 have HP2 := hid (fun W (hb : Below w.heap.size w W) => h.fr (S := fun _ => False) (Fr.of_below hb) fun _ _ _ => id)
 have HR := hid hR
 have HDI := hid hdi
 have HX := hid hx2
 have HY := hid hy2
 clear hR hs hm h hb hd1 hd2 hn1 hn2 hdi hx2 hy2 hl1 hl2
 obtain ⟨r1, r2⟩ := r
 simp only
 go_enter Tryz.func42, Tryz.ntmps42
 go_wp2_with fail
 refine calls_world (fun W => Blk W w.heap.size 42 #[.int .i64 r0, .int .i64 u, .int .i64 s0, .int .i64 k0, .int .i64 g] ∧ Below w.heap.size w W) ⟨Blk.new w _ _, bel1 _ _⟩ ?_
 rintro W ⟨k1, b1⟩
 refine (C1.out _ (HP2.out _ b1)).mono ?_
 rintro e W2 ⟨rfl, b2⟩
 have k1 := k1.up b2
 have b1 := bnext b1 b2
 clear b2
 obtain ⟨c0, c1, c2, c3, c4⟩ := Blk.k5 k1
 have K1 := hid k1
 have B1 := hid b1
 clear k1 b1
 by_cases he1 : er1 = 0
 case neg =>
  have hr : (r1, r2) = (t, er1) := by rw [HR.out]; simp [he1]
  have her2 : ((er1 : Int) == 0) = false := by simp; omega
  have her3 : ((er1 : Int) != 0) = true := by simp; omega
  cases hr
  go_wp2
  go_ret
  exact ⟨rfl, HPT.out _ B1.out⟩
 subst he1
 go_wp2_with fail
 refine (C3.out _ (HP2.out _ B1.out)).mono ?_
 rintro e W3 ⟨rfl, rfl⟩
 cases ok1
 case false =>
  have hr : (r1, r2) = (t, 3) := by rw [HR.out]; simp []
  cases hr
  go_wp2
  go_ret
  exact ⟨rfl, HPT.out _ B1.out⟩
 have hx := HX.out rfl
 have hdy := HDI.out rfl
 subst hdy
 clear HX HDI
 go_wp2_with fail
 refine (C2.out _ (HP2.out _ B1.out)).mono ?_
 rintro e W4 ⟨rfl, b2⟩
 have k1 := K1.out.up b2
 have b1 := bnext B1.out b2
 clear c0 c1 c2 c3 c4 K1 B1 b2
 obtain ⟨c0, c1, c2, c3, c4⟩ := Blk.k5 k1
 have K1 := hid k1
 have B1 := hid b1
 clear k1 b1
 by_cases he2 : er2 = 0
 case neg =>
  have hr : (r1, r2) = (t, er2) := by rw [HR.out]; simp [he2]
  have her2 : ((er2 : Int) == 0) = false := by simp; omega
  have her3 : ((er2 : Int) != 0) = true := by simp; omega
  cases hr
  go_wp2
  go_ret
  exact ⟨rfl, HPT.out _ B1.out⟩
 subst he2
 go_wp2_with fail
 refine (C4.out _ (HP2.out _ B1.out)).mono ?_
 rintro e W5 ⟨rfl, rfl⟩
 have hcase : ((must || also) = true ∧ kd ≠ 1) ∨ ((must || also) = false) ∨ kd = 1 := by
  by_cases h1 : kd = 1
  ·exact .inr (.inr h1)
  ·cases (must || also)
   ·exact .inr (.inl rfl)
   ·exact .inl ⟨rfl, h1⟩
 by_cases hbad : (must || also) = true ∧ kd ≠ 1
 case pos =>
  clear hcase
  have hr : (r1, r2) = (t, 6) := by rw [HR.out]; simp [hbad.1, hbad.2]
  cases hr
  rw [decide_eq_false hbad.2]
  have hb1 := hbad.1
  clear hbad HR
  cases must <;> cases also <;> first | (exact absurd hb1 (by decide)) | (go_wp2; go_ret; exact ⟨rfl, HPT.out _ B1.out⟩)
 have HR2 := HR.out
 simp only [if_true] at HR2
 rw [if_neg hbad] at HR2
 have HRR := hid HR2
 have hgo : ∃ dk : Bool, decide (kd = 1) = dk ∧ ((must = false ∧ also = false) ∨ dk = true) := by
  refine ⟨_, rfl, ?_⟩
  by_cases h1 : kd = 1
  ·exact .inr (decide_eq_true h1)
  ·left
   cases must <;> cases also <;> simp_all
 obtain ⟨dk, hdk, hgo⟩ := hgo
 rw [hdk]
 clear HR2 HR hcase hbad hdk
 rcases hgo with ⟨rfl, rfl⟩ | rfl
 ·go_wp2_with fail
  refine (C5.out _ (HP2.out _ B1.out)).mono ?_
  rintro e W6 ⟨rfl, b2⟩
  have k1 := K1.out.up b2
  have b1 := bnext B1.out b2
  clear c0 c1 c2 c3 c4 K1 B1 b2
  obtain ⟨c0, c1, c2, c3, c4⟩ := Blk.k5 k1
  have K1 := hid k1
  have B1 := hid b1
  clear k1 b1
  go_wp2_with fail
  refine (C6.out _ (HP2.out _ B1.out)).mono ?_
  rintro e W7 ⟨rfl, b2⟩
  have k1 := K1.out.up b2
  have b1 := bnext B1.out b2
  clear c0 c1 c2 c3 c4 K1 B1 b2
  obtain ⟨c0, c1, c2, c3, c4⟩ := Blk.k5 k1
  have K1 := hid k1
  have B1 := hid b1
  clear k1 b1
  by_cases hmy : my1 = true ∧ my2 = true
  case neg =>
   have hr : (r1, r2) = (t, 4) := by rw [HRR.out]; simp [hmy]
   cases hr
   clear HRR
   cases my1 <;> cases my2 <;> first | (exact absurd ⟨rfl, rfl⟩ hmy) | (go_wp2; go_ret; exact ⟨rfl, HPT.out _ B1.out⟩)
  obtain ⟨rfl, rfl⟩ := hmy
  go_wp2_with fail
  refine (C7.out _ hx (HP2.out _ B1.out)).mono ?_
  rintro e W8 ⟨rfl, b2⟩
  have k1 := K1.out.up b2
  have b1 := bnext B1.out b2
  clear c0 c1 c2 c3 c4 K1 B1 b2
  obtain ⟨c0, c1, c2, c3, c4⟩ := Blk.k5 k1
  have K1 := hid k1
  have B1 := hid b1
  clear k1 b1
  go_wp2_with fail
  refine (C8.out _ (HP2.out _ B1.out)).mono ?_
  rintro e W9 ⟨rfl, rfl⟩
  cases ok2
  ·cases st1
   ·have hr : (r1, r2) = (t, 2) := by rw [HRR.out]; simp
    cases hr
    go_wp2
    go_ret
    exact ⟨rfl, HPT.out _ B1.out⟩
   ·have hr : (r1, r2) = (t1, e1) := by rw [HRR.out]; simp
    cases hr
    go_wp2_with fail
    refine ((HPT.out _ B1.out).call (fun o ho => C10.out _ o (by trivial) (by trivial) ho)).mono ?_
    rintro e W10 ⟨rfl, p7⟩
    have P7 := hid p7
    clear p7
    go_wp2
    go_ret
    exact ⟨rfl, P7.out⟩
  ·have hy := HY.out rfl
   go_wp2_with fail
   refine (C9.out _ hy (HP2.out _ B1.out)).mono ?_
   rintro e W11 ⟨rfl, b2⟩
   have k1 := K1.out.up b2
   have b1 := bnext B1.out b2
   clear c0 c1 c2 c3 c4 K1 B1 b2
   obtain ⟨c0, c1, c2, c3, c4⟩ := Blk.k5 k1
   have K1 := hid k1
   have B1 := hid b1
   clear k1 b1
   by_cases hst : st1 = true ∧ st2 = true
   case neg =>
    have hr : (r1, r2) = (t, 2) := by rw [HRR.out]; simp [hst]
    cases hr
    clear HRR
    cases st1 <;> cases st2 <;> first | (exact absurd ⟨rfl, rfl⟩ hst) | (go_wp2; go_ret; exact ⟨rfl, HPT.out _ B1.out⟩)
   obtain ⟨rfl, rfl⟩ := hst
   have hr : (r1, r2) = (t1, e1) := by rw [HRR.out]; simp
   cases hr
   go_wp2_with fail
   refine ((HPT.out _ B1.out).call (fun o ho => C10.out _ o (by trivial) (by trivial) ho)).mono ?_
   rintro e W10 ⟨rfl, p7⟩
   have P7 := hid p7
   clear p7
   go_wp2
   go_ret
   exact ⟨rfl, P7.out⟩
 ·cases must <;> cases also
  all_goals
   go_wp2_with fail
   refine (C5.out _ (HP2.out _ B1.out)).mono ?_
   rintro e W6 ⟨rfl, b2⟩
   have k1 := K1.out.up b2
   have b1 := bnext B1.out b2
   clear c0 c1 c2 c3 c4 K1 B1 b2
   obtain ⟨c0, c1, c2, c3, c4⟩ := Blk.k5 k1
   have K1 := hid k1
   have B1 := hid b1
   clear k1 b1
   go_wp2_with fail
   refine (C6.out _ (HP2.out _ B1.out)).mono ?_
   rintro e W7 ⟨rfl, b2⟩
   have k1 := K1.out.up b2
   have b1 := bnext B1.out b2
   clear c0 c1 c2 c3 c4 K1 B1 b2
   obtain ⟨c0, c1, c2, c3, c4⟩ := Blk.k5 k1
   have K1 := hid k1
   have B1 := hid b1
   clear k1 b1
   by_cases hmy : my1 = true ∧ my2 = true
   case neg =>
    have hr : (r1, r2) = (t, 4) := by rw [HRR.out]; simp [hmy]
    cases hr
    clear HRR
    cases my1 <;> cases my2 <;> first | (exact absurd ⟨rfl, rfl⟩ hmy) | (go_wp2; go_ret; exact ⟨rfl, HPT.out _ B1.out⟩)
   obtain ⟨rfl, rfl⟩ := hmy
   go_wp2_with fail
   refine (C7.out _ hx (HP2.out _ B1.out)).mono ?_
   rintro e W8 ⟨rfl, b2⟩
   have k1 := K1.out.up b2
   have b1 := bnext B1.out b2
   clear c0 c1 c2 c3 c4 K1 B1 b2
   obtain ⟨c0, c1, c2, c3, c4⟩ := Blk.k5 k1
   have K1 := hid k1
   have B1 := hid b1
   clear k1 b1
   go_wp2_with fail
   refine (C8.out _ (HP2.out _ B1.out)).mono ?_
   rintro e W9 ⟨rfl, rfl⟩
   cases ok2
   ·cases st1
    ·have hr : (r1, r2) = (t, 2) := by rw [HRR.out]; simp
     cases hr
     go_wp2
     go_ret
     exact ⟨rfl, HPT.out _ B1.out⟩
    ·have hr : (r1, r2) = (t1, e1) := by rw [HRR.out]; simp
     cases hr
     go_wp2_with fail
     refine ((HPT.out _ B1.out).call (fun o ho => C10.out _ o (by trivial) (by trivial) ho)).mono ?_
     rintro e W10 ⟨rfl, p7⟩
     have P7 := hid p7
     clear p7
     go_wp2
     go_ret
     exact ⟨rfl, P7.out⟩
   ·have hy := HY.out rfl
    go_wp2_with fail
    refine (C9.out _ hy (HP2.out _ B1.out)).mono ?_
    rintro e W11 ⟨rfl, b2⟩
    have k1 := K1.out.up b2
    have b1 := bnext B1.out b2
    clear c0 c1 c2 c3 c4 K1 B1 b2
    obtain ⟨c0, c1, c2, c3, c4⟩ := Blk.k5 k1
    have K1 := hid k1
    have B1 := hid b1
    clear k1 b1
    by_cases hst : st1 = true ∧ st2 = true
    case neg =>
     have hr : (r1, r2) = (t, 2) := by rw [HRR.out]; simp [hst]
     cases hr
     clear HRR
     cases st1 <;> cases st2 <;> first | (exact absurd ⟨rfl, rfl⟩ hst) | (go_wp2; go_ret; exact ⟨rfl, HPT.out _ B1.out⟩)
    obtain ⟨rfl, rfl⟩ := hst
    have hr : (r1, r2) = (t1, e1) := by rw [HRR.out]; simp
    cases hr
    go_wp2_with fail
    refine ((HPT.out _ B1.out).call (fun o ho => C10.out _ o (by trivial) (by trivial) ho)).mono ?_
    rintro e W10 ⟨rfl, p7⟩
    have P7 := hid p7
    clear p7
    go_wp2
    go_ret
    exact ⟨rfl, P7.out⟩
end
end Go.Proofs.YtlpececggkdhmaaGreat
