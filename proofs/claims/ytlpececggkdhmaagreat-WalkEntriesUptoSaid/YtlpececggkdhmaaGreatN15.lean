import Derived.Test.YtlpececggkdhmaaGreatN6
import Derived.Test.YtlpececggkdhmaaGreatN13
import Derived.Test.YtlpececggkdhmaaGreatN14
open Go.Lib (hid)
set_option linter.unusedVariables false
set_option linter.unusedSimpArgs false
set_option maxHeartbeats 4000000
namespace Go.Proofs.YtlpececggkdhmaaGreat
section
open Go.RowKit Ino
open Pa (Blk strV splE nam dirP absP splN splAbs splDir)
variable {A B : Nat} {own : Nat → Prop} {t : T}
theorem place_le (h : Sd t) (cwd u g : Int) (s : Bs) : (placeP t cwd u g s).dir ≤ 200 := by
 rw [placeP_eq]
 split
 ·split
  ·exact Nat.zero_le _
  ·split
   ·rename_i h4
    split
    ·show (downP t cwd u g (splAbs s) (splN s).dropLast).1 ≤ 200
     obtain ⟨k, e, -, h2, -⟩ := isI_nat (downP_is h _ _ _ _ _ h4)
     omega
    ·exact Nat.zero_le _
   ·exact Nat.zero_le _
 ·exact Nat.zero_le _
theorem place_name (h : Sd t) (cwd u g : Int) (s : Bs) (he : (placeP t cwd u g s).err = 0) : (placeP t cwd u g s).name.length ≤ 1000 := by
 have := pla_name t cwd u g s
 rw [pla_ok h he] at this
 exact this
theorem dMkdir_any (cwd r0 u s0 k0 g : Int) (s : ByteArray) (hz : s.size ≤ 1048576) (mode : Int) (w : World) (h : RT w A B own t) (hs : Sound t) (hm : Mw t) (hb : HB 999999 t) :
 Calls Tryz.prog 39 #[.pointer (some ⟨A, 0, none⟩), .int .i64 cwd, .agg #[.int .i64 r0, .int .i64 u, .int .i64 s0, .int .i64 k0, .int .i64 g], .string s, .int .i64 mode] w fun e w' => e = .returned (.int .i64 ((mkdirP t cwd u g s.data.toList mode).2 : Nat)) ∧ Rt w A B own (mkdirP t cwd u g s.data.toList mode).1 w' := by
 have C1 := hid (fun W => mright_any mode W)
 have C2 := hid (fun W hW => dParent_any (A := A) (B := B) (own := own) (t := t) cwd r0 u s0 k0 g s hz W hW hs.sd hm)
 have hd := place_le hs.sd cwd u g s.data.toList
 have hn := place_name hs.sd cwd u g s.data.toList
 have hR : mkdirP t cwd u g s.data.toList mode = if rMode mode = true then
  if (placeP t cwd u g s.data.toList).err = 0 then
   if (lookP t (placeP t cwd u g s.data.toList).dir (placeP t cwd u g s.data.toList).name).2 = true then (t, 5)
   else if (makesP t u g (placeP t cwd u g s.data.toList).dir (placeP t cwd u g s.data.toList).name 1 mode).2.2 = 0 then
    ((dropP (makesP t u g (placeP t cwd u g s.data.toList).dir (placeP t cwd u g s.data.toList).name 1 mode).1 (makesP t u g (placeP t cwd u g s.data.toList).dir (placeP t cwd u g s.data.toList).name 1 mode).2.1).1, 0)
   else ((makesP t u g (placeP t cwd u g s.data.toList).dir (placeP t cwd u g s.data.toList).name 1 mode).1, (makesP t u g (placeP t cwd u g s.data.toList).dir (placeP t cwd u g s.data.toList).name 1 mode).2.2)
  else (t, (placeP t cwd u g s.data.toList).err)
  else (t, 1) := rfl
 generalize mkdirP t cwd u g s.data.toList mode = r at *
 generalize placeP t cwd u g s.data.toList = q at *
 obtain ⟨d, nm, must, er⟩ := q
 simp only [plc4V] at hR hd hn C2
 have C3 := hid (fun W hW => look_any (A := A) (B := B) (own := own) (t := t) (d : Int) ⟨nm.toArray⟩ W hW hs.sd)
 have C4 := hid (fun W (o : Nat → Prop) (he : er = 0) hW => dMakes_any (A := A) (B := B) (own := o) (t := t) r0 u s0 k0 g d hd ⟨nm.toArray⟩ (by show nm.length ≤ maxLen; have := hn he; unfold maxLen; omega) 1 mode W hW hs hm hb)
 rw [show (⟨nm.toArray⟩ : ByteArray).data.toList = nm from rfl] at C3 C4
 have hs1 := sound_makes hs u g d nm 1 mode
 have hb1 := hb.makes u g d nm 1 mode
 generalize makesP t u g d nm 1 mode = q2 at *
 obtain ⟨t1, x, e1⟩ := q2
 simp only [makeV] at hR C4 hs1 hb1
 have C5 := hid (fun W (o : Nat → Prop) hW => drop_any (A := A) (B := B) (own := o) (t := t1) (x : Int) W hW hs1.sd hb1)
 generalize dropP t1 (x : Int) = q3 at *
 obtain ⟨t2, d2⟩ := q3
 simp only at hR C5
 generalize lookP t (d : Int) nm = lk at *
 obtain ⟨y, ok⟩ := lk
 simp only [lookV] at hR C3
 generalize (⟨nm.toArray⟩ : ByteArray) = ns at *
 have HPT := hid (fun W (b : Below w.heap.size w W) => Rt.start h b)
 have HP2 := hid (fun W (hb : Below w.heap.size w W) => h.fr (S := fun _ => False) (Fr.of_below hb) fun _ _ _ => id)
 have HR := hid hR
 generalize rMode mode = rm at *
 clear hR hs1 hb1 hs hb hm h hn hd
 obtain ⟨r1, r2⟩ := r
 simp only
 go_enter Tryz.func39, Tryz.ntmps39
 go_wp2_with fail
 refine calls_world (fun W => Blk W w.heap.size 42 #[.int .i64 r0, .int .i64 u, .int .i64 s0, .int .i64 k0, .int .i64 g] ∧ Below w.heap.size w W) ⟨Blk.new w _ _, bel1 _ _⟩ ?_
 rintro W ⟨k1, b1⟩
 refine (C1.out W).mono ?_
 rintro e W0 ⟨rfl, rfl⟩
 obtain ⟨c0, c1, c2, c3, c4⟩ := Blk.k5 k1
 have K1 := hid k1
 have B1 := hid b1
 clear k1 b1
 cases rm
 ·have hr : (r1, r2) = (t, 1) := HR.out
  cases hr
  go_wp2
  go_ret
  exact ⟨rfl, HPT.out _ B1.out⟩
 go_wp2_with fail
 refine (C2.out _ (HP2.out _ B1.out)).mono ?_
 rintro e W2 ⟨rfl, b2⟩
 have k1 := K1.out.up b2
 have b1 := bnext B1.out b2
 clear c0 c1 c2 c3 c4 K1 B1 b2
 obtain ⟨c0, c1, c2, c3, c4⟩ := Blk.k5 k1
 have B1 := hid b1
 clear k1 b1
 by_cases he : er = 0
 ·subst he
  go_wp2_with fail
  refine (C3.out _ (HP2.out _ B1.out)).mono ?_
  rintro e W3 ⟨rfl, rfl⟩
  cases ok
  ·go_wp2_with fail
   refine ((HPT.out _ B1.out).call (fun o ho => C4.out _ o trivial ho)).mono ?_
   rintro e W4 ⟨rfl, p4⟩
   have P4 := hid p4
   clear p4 c0 c1 c2 c3 c4
   by_cases h2 : e1 = 0
   ·subst h2
    have hr : (r1, r2) = (t2, 0) := by rw [HR.out]; simp
    cases hr
    go_wp2_with fail
    refine (P4.out.call (fun o ho => (C5.out _ o ho).mono (by rintro e w' ⟨rfl, h1, h2⟩; exact ⟨rfl, Rt.of h1 h2⟩))).mono ?_
    rintro e W5 ⟨rfl, p5⟩
    have P5 := hid p5
    clear P4 p5
    go_wp2
    go_ret
    exact ⟨rfl, P5.out⟩
   ·have hr : (r1, r2) = (t1, e1) := by rw [HR.out]; simp [h2]
    have her2 : ((e1 : Int) == 0) = false := by simp; omega
    have her3 : ((e1 : Int) != 0) = true := by simp; omega
    cases hr
    go_wp2
    go_ret
    exact ⟨rfl, P4.out⟩
  ·have hr : (r1, r2) = (t, 5) := by rw [HR.out]; simp
   cases hr
   go_wp2
   go_ret
   exact ⟨rfl, HPT.out _ B1.out⟩
 ·have hr : (r1, r2) = (t, er) := by rw [HR.out]; simp [he]
  have her2 : ((er : Int) == 0) = false := by simp; omega
  have her3 : ((er : Int) != 0) = true := by simp; omega
  cases hr
  go_wp2
  go_ret
  exact ⟨rfl, HPT.out _ B1.out⟩
end
section
open Go.RowKit Ino
open Pa (Blk strV)
variable {A B : Nat} {own : Nat → Prop} {t : T}
theorem dRemove_any (cwd r0 u s0 k0 g : Int) (s : ByteArray) (hz : s.size ≤ 1048576) (want : Bool) (w : World) (h : RT w A B own t) (hs : Sound t) (hm : Mw t) :
 Calls Tryz.prog 40 #[.pointer (some ⟨A, 0, none⟩), .int .i64 cwd, .agg #[.int .i64 r0, .int .i64 u, .int .i64 s0, .int .i64 k0, .int .i64 g], .string s, .bool want] w fun e w' => e = .returned (.int .i64 ((rmP t cwd u g s.data.toList want).2 : Nat)) ∧ Rt w A B own (rmP t cwd u g s.data.toList want).1 w' := by
 have C2 := hid (fun W hW => dParent_any (A := A) (B := B) (own := own) (t := t) cwd r0 u s0 k0 g s hz W hW hs.sd hm)
 have hd := place_le hs.sd cwd u g s.data.toList
 have hR : rmP t cwd u g s.data.toList want = if (placeP t cwd u g s.data.toList).err = 0 then
  if (lookP t (placeP t cwd u g s.data.toList).dir (placeP t cwd u g s.data.toList).name).2 = true then
   if (want || (placeP t cwd u g s.data.toList).must) = true ∧ (t (lookP t (placeP t cwd u g s.data.toList).dir (placeP t cwd u g s.data.toList).name).1).kind ≠ 1 then (t, 6)
   else if want = false ∧ (t (lookP t (placeP t cwd u g s.data.toList).dir (placeP t cwd u g s.data.toList).name).1).kind = 1 then (t, 7)
   else if mayT t (placeP t cwd u g s.data.toList).dir u g 2 = true then
    if stickyT t u (placeP t cwd u g s.data.toList).dir (lookP t (placeP t cwd u g s.data.toList).dir (placeP t cwd u g s.data.toList).name).1 = true then removeP t (placeP t cwd u g s.data.toList).dir (placeP t cwd u g s.data.toList).name
    else (t, 2)
   else (t, 4)
  else (t, 3)
  else (t, (placeP t cwd u g s.data.toList).err) := rfl
 generalize rmP t cwd u g s.data.toList want = r at *
 generalize placeP t cwd u g s.data.toList = q at *
 obtain ⟨d, nm, must, er⟩ := q
 simp only [plc4V] at hR hd C2
 have C3 := hid (fun W hW => look_any (A := A) (B := B) (own := own) (t := t) (d : Int) ⟨nm.toArray⟩ W hW hs.sd)
 have C4 := hid (fun W hW => dMay_any (A := A) (B := B) (own := own) (t := t) r0 u s0 k0 g 2 d hd (hm d) W hW)
 have C6 := hid (fun W (o : Nat → Prop) hW => remove_any (A := A) (B := B) (own := o) (t := t) (d : Int) ⟨nm.toArray⟩ W hW hs.sd)
 rw [show (⟨nm.toArray⟩ : ByteArray).data.toList = nm from rfl] at C3 C6
 have hlt := look_to (t := t) hs.sd (x := d) (n := nm)
 generalize removeP t (d : Int) nm = q2 at *
 obtain ⟨t1, e1⟩ := q2
 simp only at hR C6
 generalize lookP t (d : Int) nm = lk at *
 obtain ⟨y, ok⟩ := lk
 simp only [lookV] at hR C3 hlt
 have C5 := hid (fun W (hy : y ≤ 200) hW => dSticky_any (A := A) (B := B) (own := own) (t := t) r0 u s0 k0 g d y hd hy W hW)
 have C7 := hid (fun W hW => dir_any (A := A) (B := B) (own := own) (t := t) (y : Int) W hW)
 have hdi : ok = true → isD t (y : Int) = decide ((t y).kind = 1) := fun e => isD_isI (hlt e)
 have hy2 : ok = true → y ≤ 200 := fun e => by obtain ⟨k2, e2, -, h2, -⟩ := isI_nat (hlt e); omega
 generalize (⟨nm.toArray⟩ : ByteArray) = ns at *
 generalize mayT t d u g 2 = my at *
 generalize stickyT t u d y = st at *
 generalize (t y).kind = kd at *
 generalize isD t (y : Int) = dy at *
 have HPT := hid (fun W (b : Below w.heap.size w W) => Rt.start h b)
 have HP2 := hid (fun W (hb : Below w.heap.size w W) => h.fr (S := fun _ => False) (Fr.of_below hb) fun _ _ _ => id)
 have HR := hid hR
 have HDI := hid hdi
 have HY := hid hy2
 clear hR hs hm h hd hdi hy2 hlt
 obtain ⟨r1, r2⟩ := r
 simp only
 go_enter Tryz.func40, Tryz.ntmps40
 go_wp2_with fail
 refine calls_world (fun W => Blk W w.heap.size 42 #[.int .i64 r0, .int .i64 u, .int .i64 s0, .int .i64 k0, .int .i64 g] ∧ Below w.heap.size w W) ⟨Blk.new w _ _, bel1 _ _⟩ ?_
 rintro W ⟨k1, b1⟩
 refine (C2.out _ (HP2.out _ b1)).mono ?_
 rintro e W2 ⟨rfl, b2⟩
 have k1 := k1.up b2
 have b1 := bnext b1 b2
 clear b2
 obtain ⟨c0, c1, c2, c3, c4⟩ := Blk.k5 k1
 have K1 := hid k1
 have B1 := hid b1
 clear k1 b1
 by_cases he : er = 0
 ·subst he
  go_wp2_with fail
  refine (C3.out _ (HP2.out _ B1.out)).mono ?_
  rintro e W3 ⟨rfl, rfl⟩
  cases ok
  ·have hr : (r1, r2) = (t, 3) := by rw [HR.out]; simp
   cases hr
   go_wp2
   go_ret
   exact ⟨rfl, HPT.out _ B1.out⟩
  ·have hdy := HDI.out rfl
   have hy := HY.out rfl
   subst hdy
   clear HDI HY
   go_wp2_with fail
   refine (C7.out _ (HP2.out _ B1.out)).mono ?_
   rintro e W4 ⟨rfl, rfl⟩
   have fin : ((want || must) = true ∧ ¬ kd = 1) ∨ (want = false ∧ kd = 1) ∨ (¬ ((want || must) = true ∧ ¬ kd = 1) ∧ ¬ (want = false ∧ kd = 1)) := by
    by_cases x1 : (want || must) = true ∧ ¬ kd = 1
    ·exact .inl x1
    ·by_cases x2 : want = false ∧ kd = 1
     ·exact .inr (.inl x2)
     ·exact .inr (.inr ⟨x1, x2⟩)
   by_cases hk : kd = 1
   ·rw [decide_eq_true hk]
    cases want
    ·have hr : (r1, r2) = (t, 7) := by rw [HR.out]; simp [hk]
     cases hr
     clear fin
     cases must
     all_goals
      go_wp2
      go_ret
      exact ⟨rfl, HPT.out _ B1.out⟩
    ·clear fin
     go_wp2_with fail
     refine (C4.out _ (HP2.out _ B1.out)).mono ?_
     rintro e W5 ⟨rfl, b2⟩
     have k1 := K1.out.up b2
     have b1 := bnext B1.out b2
     clear c0 c1 c2 c3 c4 K1 B1 b2
     obtain ⟨c0, c1, c2, c3, c4⟩ := Blk.k5 k1
     have B1 := hid b1
     clear k1 b1
     cases my
     ·have hr : (r1, r2) = (t, 4) := by rw [HR.out]; simp [hk]
      cases hr
      go_wp2
      go_ret
      exact ⟨rfl, HPT.out _ B1.out⟩
     ·go_wp2_with fail
      refine (C5.out _ hy (HP2.out _ B1.out)).mono ?_
      rintro e W6 ⟨rfl, b2⟩
      have B6 := hid (bnext B1.out b2)
      clear c0 c1 c2 c3 c4 B1 b2
      cases st
      ·have hr : (r1, r2) = (t, 2) := by rw [HR.out]; simp [hk]
       cases hr
       go_wp2
       go_ret
       exact ⟨rfl, HPT.out _ B6.out⟩
      ·have hr : (r1, r2) = (t1, e1) := by rw [HR.out]; simp [hk]
       cases hr
       go_wp2_with fail
       refine ((HPT.out _ B6.out).call (fun o ho => C6.out _ o ho)).mono ?_
       rintro e W7 ⟨rfl, p7⟩
       have P7 := hid p7
       clear p7
       go_wp2
       go_ret
       exact ⟨rfl, P7.out⟩
   ·rw [decide_eq_false hk]
    clear fin
    cases hwm : (want || must)
    ·obtain ⟨rfl, rfl⟩ : want = false ∧ must = false := by cases want <;> cases must <;> simp_all
     go_wp2_with fail
     refine (C4.out _ (HP2.out _ B1.out)).mono ?_
     rintro e W5 ⟨rfl, b2⟩
     have k1 := K1.out.up b2
     have b1 := bnext B1.out b2
     clear c0 c1 c2 c3 c4 K1 B1 b2
     obtain ⟨c0, c1, c2, c3, c4⟩ := Blk.k5 k1
     have B1 := hid b1
     clear k1 b1
     cases my
     ·have hr : (r1, r2) = (t, 4) := by rw [HR.out]; simp [hk]
      cases hr
      go_wp2
      go_ret
      exact ⟨rfl, HPT.out _ B1.out⟩
     ·go_wp2_with fail
      refine (C5.out _ hy (HP2.out _ B1.out)).mono ?_
      rintro e W6 ⟨rfl, b2⟩
      have B6 := hid (bnext B1.out b2)
      clear c0 c1 c2 c3 c4 B1 b2
      cases st
      ·have hr : (r1, r2) = (t, 2) := by rw [HR.out]; simp [hk]
       cases hr
       go_wp2
       go_ret
       exact ⟨rfl, HPT.out _ B6.out⟩
      ·have hr : (r1, r2) = (t1, e1) := by rw [HR.out]; simp [hk]
       cases hr
       go_wp2_with fail
       refine ((HPT.out _ B6.out).call (fun o ho => C6.out _ o ho)).mono ?_
       rintro e W7 ⟨rfl, p7⟩
       have P7 := hid p7
       clear p7
       go_wp2
       go_ret
       exact ⟨rfl, P7.out⟩
    ·have hr : (r1, r2) = (t, 6) := by rw [HR.out]; simp [hk, hwm]
     cases hr
     cases want <;> cases must <;> first | (exact absurd hwm (by decide)) | (go_wp2; go_ret; exact ⟨rfl, HPT.out _ B1.out⟩)
 ·have hr : (r1, r2) = (t, er) := by rw [HR.out]; simp [he]
  have her2 : ((er : Int) == 0) = false := by simp; omega
  have her3 : ((er : Int) != 0) = true := by simp; omega
  cases hr
  go_wp2
  go_ret
  exact ⟨rfl, HPT.out _ B1.out⟩
end
section
open Go.RowKit Ino
open Pa (Blk strV splE nam dirP absP splN splAbs splDir)
variable {A B : Nat} {own : Nat → Prop} {t : T}
theorem findP_is (h : Sd t) (cwd u g : Int) (s : Bs) (he : (findP t cwd u g s).2 = 0) : isI t ((findP t cwd u g s).1 : Int) = true := by
 rw [findP_eq] at he ⊢
 by_cases h1 : splE s = 0
 ·rw [if_pos h1] at he ⊢
  by_cases h2 : (downP t cwd u g (splAbs s) (splN s)).2 = 0
  ·rw [if_pos h2] at he ⊢
   by_cases h3 : splDir s = true ∧ (t (downP t cwd u g (splAbs s) (splN s)).1).kind ≠ 1
   ·rw [if_pos h3] at he; exact absurd he (by decide)
   ·rw [if_neg h3]; exact downP_is h _ _ _ _ _ h2
  ·rw [if_neg h2] at he; exact absurd he h2
 ·rw [if_neg h1] at he; exact absurd he h1
theorem dLink_any (cwd r0 u s0 k0 g : Int) (s a : ByteArray) (hz : s.size ≤ 1048576) (hza : a.size ≤ 1048576) (w : World) (h : RT w A B own t) (hs : Sound t) (hm : Mw t) :
 Calls Tryz.prog 41 #[.pointer (some ⟨A, 0, none⟩), .int .i64 cwd, .agg #[.int .i64 r0, .int .i64 u, .int .i64 s0, .int .i64 k0, .int .i64 g], .string s, .string a] w fun e w' => e = .returned (.int .i64 ((linkP t cwd u g s.data.toList a.data.toList).2 : Nat)) ∧ Rt w A B own (linkP t cwd u g s.data.toList a.data.toList).1 w' := by
 have C1 := hid (fun W hW => dFind_any (A := A) (B := B) (own := own) (t := t) cwd r0 u s0 k0 g s hz W hW hs.sd hm)
 have C2 := hid (fun W hW => dParent_any (A := A) (B := B) (own := own) (t := t) cwd r0 u s0 k0 g a hza W hW hs.sd hm)
 have hd := place_le hs.sd cwd u g a.data.toList
 have hn := place_name hs.sd cwd u g a.data.toList
 have hfi := findP_is hs.sd cwd u g s.data.toList
 have hR : linkP t cwd u g s.data.toList a.data.toList = if (findP t cwd u g s.data.toList).2 = 0 then
  if (t (findP t cwd u g s.data.toList).1).kind = 1 then (t, 7)
  else if (placeP t cwd u g a.data.toList).err = 0 then
   if (lookP t (placeP t cwd u g a.data.toList).dir (placeP t cwd u g a.data.toList).name).2 = true then (t, 5)
   else if (placeP t cwd u g a.data.toList).must = true then (t, 6)
   else if mayT t (placeP t cwd u g a.data.toList).dir u g 2 = true then enterP t (placeP t cwd u g a.data.toList).dir (placeP t cwd u g a.data.toList).name (findP t cwd u g s.data.toList).1
   else (t, 4)
  else (t, (placeP t cwd u g a.data.toList).err)
  else (t, (findP t cwd u g s.data.toList).2) := rfl
 generalize linkP t cwd u g s.data.toList a.data.toList = r at *
 generalize placeP t cwd u g a.data.toList = q at *
 generalize findP t cwd u g s.data.toList = f at *
 obtain ⟨d, nm, must, er⟩ := q
 obtain ⟨x, ef⟩ := f
 simp only [plc4V] at hR hd hn C2
 simp only [ino2V] at hfi C1 hR
 have C3 := hid (fun W hW => look_any (A := A) (B := B) (own := own) (t := t) (d : Int) ⟨nm.toArray⟩ W hW hs.sd)
 have C4 := hid (fun W hW => dMay_any (A := A) (B := B) (own := own) (t := t) r0 u s0 k0 g 2 d hd (hm d) W hW)
 have C6 := hid (fun W (o : Nat → Prop) (he : er = 0) hW => enter_any (A := A) (B := B) (own := o) (t := t) (d : Int) (x : Int) ⟨nm.toArray⟩ W hW hs.sd (by show nm.length ≤ maxLen; have := hn he; unfold maxLen; omega))
 rw [show (⟨nm.toArray⟩ : ByteArray).data.toList = nm from rfl] at C3 C6
 generalize enterP t (d : Int) nm (x : Int) = q2 at *
 obtain ⟨t1, e1⟩ := q2
 simp only at hR C6
 generalize lookP t (d : Int) nm = lk at *
 obtain ⟨y, ok⟩ := lk
 simp only [lookV] at hR C3
 have C7 := hid (fun W hW => dir_any (A := A) (B := B) (own := own) (t := t) (x : Int) W hW)
 have hdi : ef = 0 → isD t (x : Int) = decide ((t x).kind = 1) := fun e => isD_isI (hfi e)
 generalize (⟨nm.toArray⟩ : ByteArray) = ns at *
 generalize mayT t d u g 2 = my at *
 generalize (t x).kind = kd at *
 generalize isD t (x : Int) = dy at *
 have HPT := hid (fun W (b : Below w.heap.size w W) => Rt.start h b)
 have HP2 := hid (fun W (hb : Below w.heap.size w W) => h.fr (S := fun _ => False) (Fr.of_below hb) fun _ _ _ => id)
 have HR := hid hR
 have HDI := hid hdi
 clear hR hs hm h hd hn hdi hfi
 obtain ⟨r1, r2⟩ := r
 simp only
 go_enter Tryz.func41, Tryz.ntmps41
 go_wp2_with fail
 refine calls_world (fun W => Blk W w.heap.size 42 #[.int .i64 r0, .int .i64 u, .int .i64 s0, .int .i64 k0, .int .i64 g] ∧ Below w.heap.size w W) ⟨Blk.new w _ _, bel1 _ _⟩ ?_
 rintro W ⟨k1, b1⟩
 refine (C1.out _ (HP2.out _ b1)).mono ?_
 rintro e W2 ⟨rfl, b2⟩
 have k1 := k1.up b2
 have b1 := bnext b1 b2
 clear b2
 obtain ⟨c0, c1, c2, c3, c4⟩ := Blk.k5 k1
 have K1 := hid k1
 have B1 := hid b1
 clear k1 b1
 by_cases hf : ef = 0
 ·have hdy := HDI.out hf
  subst hf
  subst hdy
  clear HDI
  go_wp2_with fail
  refine (C7.out _ (HP2.out _ B1.out)).mono ?_
  rintro e W4 ⟨rfl, rfl⟩
  by_cases hk : kd = 1
  ·rw [decide_eq_true hk]
   have hr : (r1, r2) = (t, 7) := by rw [HR.out]; simp [hk]
   cases hr
   go_wp2
   go_ret
   exact ⟨rfl, HPT.out _ B1.out⟩
  rw [decide_eq_false hk]
  go_wp2_with fail
  refine (C2.out _ (HP2.out _ B1.out)).mono ?_
  rintro e W5 ⟨rfl, b2⟩
  have k1 := K1.out.up b2
  have b1 := bnext B1.out b2
  clear c0 c1 c2 c3 c4 K1 B1 b2
  obtain ⟨c0, c1, c2, c3, c4⟩ := Blk.k5 k1
  have B1 := hid b1
  clear k1 b1
  by_cases he : er = 0
  ·subst he
   go_wp2_with fail
   refine (C3.out _ (HP2.out _ B1.out)).mono ?_
   rintro e W6 ⟨rfl, rfl⟩
   cases ok
   ·cases must
    ·go_wp2_with fail
     refine (C4.out _ (HP2.out _ B1.out)).mono ?_
     rintro e W7 ⟨rfl, b2⟩
     have B7 := hid (bnext B1.out b2)
     clear c0 c1 c2 c3 c4 B1 b2
     cases my
     ·have hr : (r1, r2) = (t, 4) := by rw [HR.out]; simp [hk]
      cases hr
      go_wp2
      go_ret
      exact ⟨rfl, HPT.out _ B7.out⟩
     ·have hr : (r1, r2) = (t1, e1) := by rw [HR.out]; simp [hk]
      cases hr
      go_wp2_with fail
      refine ((HPT.out _ B7.out).call (fun o ho => C6.out _ o trivial ho)).mono ?_
      rintro e W8 ⟨rfl, p7⟩
      have P7 := hid p7
      clear p7
      go_wp2
      go_ret
      exact ⟨rfl, P7.out⟩
    ·have hr : (r1, r2) = (t, 6) := by rw [HR.out]; simp [hk]
     cases hr
     go_wp2
     go_ret
     exact ⟨rfl, HPT.out _ B1.out⟩
   ·have hr : (r1, r2) = (t, 5) := by rw [HR.out]; simp [hk]
    cases hr
    go_wp2
    go_ret
    exact ⟨rfl, HPT.out _ B1.out⟩
  ·have hr : (r1, r2) = (t, er) := by rw [HR.out]; simp [he, hk]
   have her2 : ((er : Int) == 0) = false := by simp; omega
   have her3 : ((er : Int) != 0) = true := by simp; omega
   cases hr
   go_wp2
   go_ret
   exact ⟨rfl, HPT.out _ B1.out⟩
 ·have hr : (r1, r2) = (t, ef) := by rw [HR.out]; simp [hf]
  have her2 : ((ef : Int) == 0) = false := by simp; omega
  have her3 : ((ef : Int) != 0) = true := by simp; omega
  cases hr
  go_wp2
  go_ret
  exact ⟨rfl, HPT.out _ B1.out⟩
end
section
open Go.RowKit Ino
variable {A B : Nat} {own : Nat → Prop} {t : T}
theorem putP_is {i a : Int} {s : Bs} (he : (putP t i a s).2 = 0) : isI t i = true := by
 unfold putP at he
 by_cases h : fileE t i ≠ 0
 ·rw [if_pos h] at he; exact absurd he h
 ·cases hi : isI t i
  ·exact absurd (show fileE t i ≠ 0 by unfold fileE; rw [hi, if_neg Bool.false_ne_true]; decide) h
  ·rfl
theorem dPut_any (i a : Int) (s : ByteArray) (w : World) (h : RT w A B own t) (hs : Sd t) (ha : -9223372036854775808 ≤ a ∧ a ≤ 9223372036854775807) (hsz : s.size ≤ maxLen) :
 Calls Tryz.prog 46 #[.pointer (some ⟨A, 0, none⟩), .int .i64 i, .int .i64 a, .string s] w fun e w' => e = .returned (.int .i64 ((fputP t i a s.data.toList).2 : Nat)) ∧ RT w' A B own (fputP t i a s.data.toList).1 ∧ Fr (· = B) w w' := by
 have C1 := hid (put_any i a s w h hs ha hsz)
 have hR : fputP t i a s.data.toList = if (putP t i a s.data.toList).2 = 0 then (plainT (putP t i a s.data.toList).1 i.toNat, 0) else putP t i a s.data.toList := rfl
 have hi := putP_is (t := t) (i := i) (a := a) (s := s.data.toList)
 generalize fputP t i a s.data.toList = r at *
 generalize putP t i a s.data.toList = q at *
 obtain ⟨t1, e1⟩ := q
 obtain ⟨r1, r2⟩ := r
 simp only at C1 hR hi ⊢
 have HR := hid hR
 clear hR h hs ha hsz
 by_cases h1 : e1 = 0
 ·have hii := hi h1
  obtain ⟨k, rfl, -, hk, -⟩ := isI_nat hii
  have hr : (r1, r2) = (plainT t1 k, 0) := by rw [HR.out, if_pos h1, Int.toNat_natCast]
  cases hr
  subst h1
  clear hi hii
  have C2 := hid (fun W hW => dPlainer_any (A := A) (B := B) (own := own) (t := t1) k hk W hW)
  go_enter Tryz.func46, Tryz.ntmps46
  go_wp2_with fail
  refine C1.out.mono ?_
  rintro e W1 ⟨rfl, h1, f1⟩
  have H1 := hid h1
  have F1 := hid f1
  clear h1 f1
  go_wp2_with fail
  refine (C2.out _ H1.out).mono ?_
  rintro e W2 ⟨rfl, h2, f2⟩
  have H2 := hid h2
  have F2 := hid (F1.out.trans f2)
  clear h2 f2
  go_wp2
  go_ret
  exact ⟨rfl, H2.out, F2.out⟩
 ·have hr : (r1, r2) = (t1, e1) := by rw [HR.out, if_neg h1]
  have her2 : ((e1 : Int) == 0) = false := by simp; omega
  have her3 : ((e1 : Int) != 0) = true := by simp; omega
  cases hr
  clear hi
  go_enter Tryz.func46, Tryz.ntmps46
  go_wp2_with fail
  refine C1.out.mono ?_
  rintro e W1 ⟨rfl, h1, f1⟩
  have H1 := hid h1
  have F1 := hid f1
  clear h1 f1
  go_wp2
  go_ret
  exact ⟨rfl, H1.out, F1.out⟩
end
section
open Go.RowKit Ino
open Pa (Blk strV splE nam dirP absP splN splAbs splDir)
variable {A B : Nat} {own : Nat → Prop} {t : T}
theorem oldP4 {t : T} {u g : Int} {x : Nat} {want : Int} {em : Bool} (hw : want = 4) : oldP t u g x want em = if mayT t x u g want = true then ((holdP t x).1, x, 0) else (t, 0, 4) := by
 unfold oldP
 rw [if_neg (fun z => z.1 hw)]
 split
 ·rw [if_neg (fun z => z.2.1 hw)]
 ·rfl
theorem oldPw {t : T} {u g : Int} {x : Nat} {want : Int} {em : Bool} (hw : want ≠ 4) : oldP t u g x want em = if (t x).kind = 1 then (t, 0, 7) else if mayT t x u g want = true then (if em = true ∧ (t x).kind = 0 then (plainT (cutP (holdP t x).1 x).1 x, x, 0) else ((holdP t x).1, x, 0)) else (t, 0, 4) := by
 unfold oldP
 by_cases h1 : (t x).kind = 1
 ·rw [if_pos ⟨hw, h1⟩, if_pos h1]
 ·rw [if_neg (fun z => h1 z.2), if_neg h1]
  split
  ·by_cases h2 : em = true ∧ (t x).kind = 0
   ·rw [if_pos ⟨h2.1, hw, h2.2⟩, if_pos h2]
   ·rw [if_neg (fun z => h2 ⟨z.1, z.2.2⟩), if_neg h2]
  ·rfl
theorem hold_kind (t : T) (i : Int) (j : Nat) : ((holdP t i).1 j).kind = (t j).kind := by
 unfold holdP
 split
 ·show (upd t i.toNat _ j).kind = _
  unfold upd
  split
  ·rename_i e; rw [e]
  ·rfl
 ·rfl
theorem Blk.k6 {W : World} {B : Nat} {y : TypeId} {a b c d e f : Value} (h : Blk W B y #[a, b, c, d, e, f]) : W.cell? ⟨B, 0, none⟩ = some a ∧ W.cell? ⟨B, 1, none⟩ = some b ∧ W.cell? ⟨B, 2, none⟩ = some c ∧ W.cell? ⟨B, 3, none⟩ = some d ∧ W.cell? ⟨B, 4, none⟩ = some e ∧ W.cell? ⟨B, 5, none⟩ = some f := ⟨h.cell 0, h.cell 1, h.cell 2, h.cell 3, h.cell 4, h.cell 5⟩
theorem Blk.fr {S : Nat → Prop} {W W' : World} {B : Nat} {y : TypeId} {cs : Array Value} (h : Blk W B y cs) (f : Fr S W W') (hn : ¬ S B) : Blk W' B y cs := (f.block B h.lt hn).trans h
end
end Go.Proofs.YtlpececggkdhmaaGreat
