import Derived.Test.YtlpececggkdhmaaGreatN15
open Go.Lib (hid)
set_option linter.unusedVariables false
set_option linter.unusedSimpArgs false
set_option maxHeartbeats 4000000
set_option maxRecDepth 100000
namespace Go.Proofs.YtlpececggkdhmaaGreat
section
open Go.RowKit Ino
open Pa (Blk strV splE nam dirP absP splN splAbs splDir)
variable {A B : Nat} {own : Nat → Prop} {t : T}
theorem dChmod_any (cwd r0 u s0 k0 g : Int) (s : ByteArray) (hz : s.size ≤ 1048576) (mode : Int) (w : World) (h : RT w A B own t) (hs : Sd t) (hm : Mw t) :
 Calls Tryz.prog 43 #[.pointer (some ⟨A, 0, none⟩), .int .i64 cwd, .agg #[.int .i64 r0, .int .i64 u, .int .i64 s0, .int .i64 k0, .int .i64 g], .string s, .int .i64 mode] w fun e w' => e = .returned (.int .i64 ((chmodP t cwd u g s.data.toList mode).2 : Nat)) ∧ Rt w A B own (chmodP t cwd u g s.data.toList mode).1 w' := by
 have C1 := hid (fun W hW => dFind_any (A := A) (B := B) (own := own) (t := t) cwd r0 u s0 k0 g s hz W hW hs hm)
 have hfi := findP_is hs cwd u g s.data.toList
 have hR : chmodP t cwd u g s.data.toList mode = if (findP t cwd u g s.data.toList).2 = 0 then
  if u = 0 ∨ u = (t (findP t cwd u g s.data.toList).1).owner then
   setP t (findP t cwd u g s.data.toList).1 (rMode mode && (rId (t (findP t cwd u g s.data.toList).1).owner && rId (t (findP t cwd u g s.data.toList).1).group)) mode (t (findP t cwd u g s.data.toList).1).owner (t (findP t cwd u g s.data.toList).1).group
  else (t, 2)
 else (t, (findP t cwd u g s.data.toList).2) := rfl
 generalize chmodP t cwd u g s.data.toList mode = r at *
 generalize findP t cwd u g s.data.toList = f at *
 obtain ⟨x, ef⟩ := f
 simp only [ino2V] at hfi C1 hR
 have HC := hid (fun W (hW : RT W A B own t) (hx : x ≤ 200) => hW.cells x hx)
 generalize (t x).owner = o1 at *
 generalize (t x).group = g1 at *
 generalize (t x).mode = m1 at *
 have C2 := hid (fun W (o' : Nat → Prop) hW => set_any (A := A) (B := B) (own := o') (t := t) (x : Int) mode o1 g1 W hW)
 generalize setP t (x : Int) (rMode mode && (rId o1 && rId g1)) mode o1 g1 = q2 at *
 obtain ⟨t1, e1⟩ := q2
 simp only at hR C2
 have hR2 : r = if ef = 0 then (if ((u == 0) || (u == o1)) = true then (t1, e1) else (t, 2)) else (t, ef) := by
  simp only [Bool.or_eq_true, Bool.and_eq_true, beq_iff_eq]
  exact hR
 have HPT := hid (fun W (b : Below w.heap.size w W) => Rt.start h b)
 have HP2 := hid (fun W (hb : Below w.heap.size w W) => h.fr (S := fun _ => False) (Fr.of_below hb) fun _ _ _ => id)
 have HR := hid hR2
 have hx : ef = 0 → x ≤ 200 := fun e => by obtain ⟨k2, e2, -, h2, -⟩ := isI_nat (hfi e); omega
 have HX := hid hx
 clear hR hR2 hs hm h hfi hx
 obtain ⟨r1, r2⟩ := r
 simp only
 go_enter Tryz.func43, Tryz.ntmps43
 go_wp2_with fail
 refine calls_world (fun W => Blk W w.heap.size 42 #[.int .i64 r0, .int .i64 u, .int .i64 s0, .int .i64 k0, .int .i64 g] ∧ Below w.heap.size w W) ⟨Blk.new w _ _, bel1 _ _⟩ ?_
 rintro W ⟨k1, b1⟩
 refine (C1.out _ (HP2.out _ b1)).mono ?_
 rintro e W2 ⟨rfl, b2⟩
 have k1 := k1.up b2
 have b1 := bnext b1 b2
 clear b2
 obtain ⟨d0, d1, d2, d3, d4⟩ := Blk.k5 k1
 have hlt := k1.lt
 have B1 := hid b1
 have HRT := hid (HP2.out _ b1)
 clear k1 b1
 by_cases hf : ef = 0
 ·subst hf
  have hx2 := HX.out rfl
  have htop := HRT.out.top
  have hA := HRT.out.lt.1
  have hB := HRT.out.lt.2
  obtain ⟨p, cap, c0, c1, c2, c3, c4, c5, c6, c7, c8, c9, hl1, hl2, -⟩ := HC.out _ HRT.out hx2
  have x0 : (0 : Int) ≤ x := by omega
  have x1 : (x : Int) < 201 := by omega
  unfold maxLen at hl2
  clear HX HC HRT
  cases q0 : (u == 0)
  ·have q0n : (u != 0) = true := by rw [bne, q0]; rfl
   cases q1 : (u == o1)
   ·have q1n : (u != o1) = true := by rw [bne, q1]; rfl
    have hr : (r1, r2) = (t, 2) := by rw [HR.out]; simp [q0, q1]
    cases hr
    go_wp2
    go_ret
    exact ⟨rfl, HPT.out _ (bal B1.out _)⟩
   ·have q1n : (u != o1) = false := by rw [bne, q1]; rfl
    have hr : (r1, r2) = (t1, e1) := by rw [HR.out]; simp [q0, q1]
    cases hr
    go_wp2_with fail
    refine ((HPT.out _ (bal B1.out _)).call (fun o ho => (C2.out _ o ho).mono (by rintro e w' ⟨rfl, h1, h2⟩; exact ⟨rfl, Rt.of h1 h2⟩))).mono ?_
    rintro e W4 ⟨rfl, p4⟩
    have P4 := hid p4
    clear p4
    go_wp2
    go_ret
    exact ⟨rfl, P4.out⟩
  ·have q0n : (u != 0) = false := by rw [bne, q0]; rfl
   have hr : (r1, r2) = (t1, e1) := by rw [HR.out]; simp [q0]
   cases hr
   go_wp2_with fail
   refine ((HPT.out _ (bal B1.out _)).call (fun o ho => (C2.out _ o ho).mono (by rintro e w' ⟨rfl, h1, h2⟩; exact ⟨rfl, Rt.of h1 h2⟩))).mono ?_
   rintro e W4 ⟨rfl, p4⟩
   have P4 := hid p4
   clear p4
   go_wp2
   go_ret
   exact ⟨rfl, P4.out⟩
 ·have hr : (r1, r2) = (t, ef) := by rw [HR.out]; simp [hf]
  have her2 : ((ef : Int) == 0) = false := by simp; omega
  have her3 : ((ef : Int) != 0) = true := by simp; omega
  cases hr
  go_wp2
  go_ret
  exact ⟨rfl, HPT.out _ B1.out⟩
end
section
open Go.RowKit Ino
open Pa (Blk strV splE nam dirP absP splN splAbs splDir)
variable {A B : Nat} {own : Nat → Prop} {t : T}
theorem dChown_any (cwd r0 u s0 k0 g : Int) (s : ByteArray) (hz : s.size ≤ 1048576) (o k : Int) (w : World) (h : RT w A B own t) (hs : Sd t) (hm : Mw t) :
 Calls Tryz.prog 44 #[.pointer (some ⟨A, 0, none⟩), .int .i64 cwd, .agg #[.int .i64 r0, .int .i64 u, .int .i64 s0, .int .i64 k0, .int .i64 g], .string s, .int .i64 o, .int .i64 k] w fun e w' => e = .returned (.int .i64 ((chownP t cwd u g s.data.toList o k).2 : Nat)) ∧ Rt w A B own (chownP t cwd u g s.data.toList o k).1 w' := by
 have C1 := hid (fun W hW => dFind_any (A := A) (B := B) (own := own) (t := t) cwd r0 u s0 k0 g s hz W hW hs hm)
 have hfi := findP_is hs cwd u g s.data.toList
 have hR : chownP t cwd u g s.data.toList o k = if (findP t cwd u g s.data.toList).2 = 0 then
  if u = 0 ∨ (u = (t (findP t cwd u g s.data.toList).1).owner ∧ o = (t (findP t cwd u g s.data.toList).1).owner ∧ (k = g ∨ k = (t (findP t cwd u g s.data.toList).1).group)) then
   setP t (findP t cwd u g s.data.toList).1 (rMode (bits .andNot .i64 (t (findP t cwd u g s.data.toList).1).mode 2048) && (rId o && rId k)) (bits .andNot .i64 (t (findP t cwd u g s.data.toList).1).mode 2048) o k
  else (t, 2)
 else (t, (findP t cwd u g s.data.toList).2) := rfl
 generalize chownP t cwd u g s.data.toList o k = r at *
 generalize findP t cwd u g s.data.toList = f at *
 obtain ⟨x, ef⟩ := f
 simp only [ino2V] at hfi C1 hR
 have HC := hid (fun W (hW : RT W A B own t) (hx : x ≤ 200) => hW.cells x hx)
 generalize (t x).owner = o1 at *
 generalize (t x).group = g1 at *
 generalize (t x).mode = m1 at *
 have C2 := hid (fun W (o' : Nat → Prop) hW => set_any (A := A) (B := B) (own := o') (t := t) (x : Int) (bits .andNot .i64 m1 2048) o k W hW)
 generalize setP t (x : Int) (rMode (bits .andNot .i64 m1 2048) && (rId o && rId k)) (bits .andNot .i64 m1 2048) o k = q2 at *
 obtain ⟨t1, e1⟩ := q2
 simp only at hR C2
 have hR2 : r = if ef = 0 then (if ((u == 0) || ((u == o1) && ((o == o1) && ((k == g) || (k == g1))))) = true then (t1, e1) else (t, 2)) else (t, ef) := by
  simp only [Bool.or_eq_true, Bool.and_eq_true, beq_iff_eq]
  exact hR
 have HPT := hid (fun W (b : Below w.heap.size w W) => Rt.start h b)
 have HP2 := hid (fun W (hb : Below w.heap.size w W) => h.fr (S := fun _ => False) (Fr.of_below hb) fun _ _ _ => id)
 have HR := hid hR2
 have hx : ef = 0 → x ≤ 200 := fun e => by obtain ⟨k2, e2, -, h2, -⟩ := isI_nat (hfi e); omega
 have HX := hid hx
 clear hR hR2 hs hm h hfi hx
 obtain ⟨r1, r2⟩ := r
 simp only
 go_enter Tryz.func44, Tryz.ntmps44
 go_wp2_with fail
 refine calls_world (fun W => Blk W w.heap.size 42 #[.int .i64 r0, .int .i64 u, .int .i64 s0, .int .i64 k0, .int .i64 g] ∧ Below w.heap.size w W) ⟨Blk.new w _ _, bel1 _ _⟩ ?_
 rintro W ⟨k1, b1⟩
 refine (C1.out _ (HP2.out _ b1)).mono ?_
 rintro e W2 ⟨rfl, b2⟩
 have k1 := k1.up b2
 have b1 := bnext b1 b2
 clear b2
 obtain ⟨d0, d1, d2, d3, d4⟩ := Blk.k5 k1
 have hlt := k1.lt
 have B1 := hid b1
 have HRT := hid (HP2.out _ b1)
 clear k1 b1
 by_cases hf : ef = 0
 ·subst hf
  have hx2 := HX.out rfl
  have htop := HRT.out.top
  have hA := HRT.out.lt.1
  have hB := HRT.out.lt.2
  obtain ⟨p, cap, c0, c1, c2, c3, c4, c5, c6, c7, c8, c9, hl1, hl2, -⟩ := HC.out _ HRT.out hx2
  have x0 : (0 : Int) ≤ x := by omega
  have x1 : (x : Int) < 201 := by omega
  unfold maxLen at hl2
  clear HX HC HRT
  cases q0 : (u == 0)
  ·have q0n : (u != 0) = true := by rw [bne, q0]; rfl
   cases q1 : (u == o1)
   ·have q1n : (u != o1) = true := by rw [bne, q1]; rfl
    have hr : (r1, r2) = (t, 2) := by rw [HR.out]; simp [q0, q1]
    cases hr
    go_wp2
    go_ret
    exact ⟨rfl, HPT.out _ (bal B1.out _)⟩
   ·have q1n : (u != o1) = false := by rw [bne, q1]; rfl
    cases q2 : (o == o1)
    ·have q2n : (o != o1) = true := by rw [bne, q2]; rfl
     have hr : (r1, r2) = (t, 2) := by rw [HR.out]; simp [q0, q1, q2]
     cases hr
     go_wp2
     go_ret
     exact ⟨rfl, HPT.out _ (bal B1.out _)⟩
    ·have q2n : (o != o1) = false := by rw [bne, q2]; rfl
     cases q3 : (k == g)
     ·have q3n : (k != g) = true := by rw [bne, q3]; rfl
      cases q4 : (k == g1)
      ·have q4n : (k != g1) = true := by rw [bne, q4]; rfl
       have hr : (r1, r2) = (t, 2) := by rw [HR.out]; simp [q0, q1, q2, q3, q4]
       cases hr
       go_wp2
       go_ret
       exact ⟨rfl, HPT.out _ (bal B1.out _)⟩
      ·have q4n : (k != g1) = false := by rw [bne, q4]; rfl
       have hr : (r1, r2) = (t1, e1) := by rw [HR.out]; simp [q0, q1, q2, q3, q4]
       cases hr
       go_wp2_with fail
       refine ((HPT.out _ (bal B1.out _)).call (fun o ho => (C2.out _ o ho).mono (by rintro e w' ⟨rfl, h1, h2⟩; exact ⟨rfl, Rt.of h1 h2⟩))).mono ?_
       rintro e W4 ⟨rfl, p4⟩
       have P4 := hid p4
       clear p4
       go_wp2
       go_ret
       exact ⟨rfl, P4.out⟩
     ·have q3n : (k != g) = false := by rw [bne, q3]; rfl
      have hr : (r1, r2) = (t1, e1) := by rw [HR.out]; simp [q0, q1, q2, q3]
      cases hr
      go_wp2_with fail
      refine ((HPT.out _ (bal B1.out _)).call (fun o ho => (C2.out _ o ho).mono (by rintro e w' ⟨rfl, h1, h2⟩; exact ⟨rfl, Rt.of h1 h2⟩))).mono ?_
      rintro e W4 ⟨rfl, p4⟩
      have P4 := hid p4
      clear p4
      go_wp2
      go_ret
      exact ⟨rfl, P4.out⟩
  ·have q0n : (u != 0) = false := by rw [bne, q0]; rfl
   have hr : (r1, r2) = (t1, e1) := by rw [HR.out]; simp [q0]
   cases hr
   go_wp2_with fail
   refine ((HPT.out _ (bal B1.out _)).call (fun o ho => (C2.out _ o ho).mono (by rintro e w' ⟨rfl, h1, h2⟩; exact ⟨rfl, Rt.of h1 h2⟩))).mono ?_
   rintro e W4 ⟨rfl, p4⟩
   have P4 := hid p4
   clear p4
   go_wp2
   go_ret
   exact ⟨rfl, P4.out⟩
 ·have hr : (r1, r2) = (t, ef) := by rw [HR.out]; simp [hf]
  have her2 : ((ef : Int) == 0) = false := by simp; omega
  have her3 : ((ef : Int) != 0) = true := by simp; omega
  cases hr
  go_wp2
  go_ret
  exact ⟨rfl, HPT.out _ B1.out⟩
end
end Go.Proofs.YtlpececggkdhmaaGreat
