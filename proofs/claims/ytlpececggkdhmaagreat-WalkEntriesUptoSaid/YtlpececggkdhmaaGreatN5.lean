import Derived.Test.YtlpececggkdhmaaGreatN4
open Go.Lib (hid)
open List renaming getElem?_toArray → jD, getElem?_cons_succ → jE, getElem?_cons_zero → jF
set_option linter.unusedVariables false
set_option linter.unusedSimpArgs false
set_option maxHeartbeats 4000000
set_option maxRecDepth 100000
namespace Go.Proofs.YtlpececggkdhmaaGreat
section
open Go.RowKit Ino Go.Maps
open Pa (Blk strV)
variable {own : Nat → Prop} {t : T}
def fputA (t : T) (i a : Int) (s : Bs) : T × Nat :=
 if (putP t i a s).2 = 0 then (clearA (putP t i a s).1 (statP (putP t i a s).1 i).1, 0) else putP t i a s
theorem wPut_any (A : Nat) (i a : Int) (s : ByteArray) (w : World) (h : PTo w A own t) (hsd : Sd t) (ha : -9223372036854775808 ≤ a ∧ a ≤ 9223372036854775807) (hsz : s.size ≤ 1000000)
 (hs2 : Sd (putP t i a s.data.toList).1) (hm : wfI (bits .andNot .i64 (statP (putP t i a s.data.toList).1 i).1.mode 2048)) :
 Calls Tryz.prog 45 #[.pointer (some ⟨A, 0, none⟩), .int .i64 i, .int .i64 a, .string s] w fun e w' =>
  e = .returned (.int .i64 ((fputA t i a s.data.toList).2 : Int)) ∧ Pt w A own (fputA t i a s.data.toList).1 w' := by
 have C1 := hid (fun W own' (hq : PTo W A own' t) => pput_any i a s W hq hsd ha hsz)
 have C2 := hid (fun W own' (hq : PTo W A own' (putP t i a s.data.toList).1) => pstat_any i W hq hs2)
 have C3 := hid (fun W own' (hq : PTo W A own' (putP t i a s.data.toList).1) => wclear_any A (statP (putP t i a s.data.toList).1 i).1 W hq hm)
 have hR : fputA t i a s.data.toList = if (putP t i a s.data.toList).2 = 0 then (clearA (putP t i a s.data.toList).1 (statP (putP t i a s.data.toList).1 i).1, 0) else putP t i a s.data.toList := rfl
 generalize fputA t i a s.data.toList = R at hR ⊢
 generalize statP (putP t i a s.data.toList).1 i = st at *
 generalize clearA (putP t i a s.data.toList).1 st.1 = t2 at *
 generalize putP t i a s.data.toList = c1 at *
 obtain ⟨t1, er⟩ := c1
 obtain ⟨⟨f0, f1, f2, f3, f4, f5, f6, f7⟩, ok⟩ := st
 simp only [infV] at C1 C2 C3 hR
 have HR := hid hR
 have H := hid h
 clear h hsd ha hsz hs2 hm hR
 go_enter Tryz.func45, Tryz.ntmps45
 go_wp2_with fail
 refine calls_world (fun W => Pk (fun _ => False) w own A t W) (by first | exact Pk.start H.out (Below.refl _ _) (fun _ => False.elim) | exact Pk.start H.out (bel1 _ _) (fun _ => False.elim)) ?_
 rintro W p0
 refine (p0.call (fun own' hp => C1.out W own' hp)).mono ?_
 rintro e W1 ⟨rfl, p1, f1'⟩
 have P1 := hid p1
 clear p0 p1 f1' C1
 by_cases he : er = 0
 ·subst he
  go_wp2_with fail
  obtain ⟨own', q1⟩ := P1.out.pto
  refine (C2.out W1 own' q1).mono ?_
  rintro e W2 ⟨rfl, b2⟩
  have P2 := hid (P1.out.up b2 (L' := fun _ => False) (fun _ => False.elim))
  clear P1 q1 b2 C2
  go_wp2_with fail
  refine calls_world (fun W => Pk (fun _ => False) w own A t1 W) (by first | exact P2.out | exact P2.out.up (bel1 _ _) (fun _ => False.elim)) ?_
  rintro W3 p3
  refine (p3.call (fun own' hp => C3.out W3 own' hp)).mono ?_
  rintro e W4 ⟨rfl, p4, f4⟩
  have P4 := hid p4
  clear p3 p4 f4 P2 C3
  go_wp2
  go_ret
  rw [show R = (t2, 0) by rw [HR.out]; simp]
  exact ⟨rfl, P4.out.done⟩
 ·have he2 : ((er : Int) == 0) = false := by simp; omega
  have he3 : ((er : Int) != 0) = true := by simp; omega
  go_wp2
  go_ret
  rw [show R = (t1, er) by rw [HR.out]; simp [he]]
  exact ⟨rfl, P1.out.done⟩
end
section
open Go.RowKit Ino Go.Maps
open Pa (Blk strV)
variable {own : Nat → Prop} {t : T}
noncomputable def openA (t : T) (u g : Int) (n : Inf × Nat) (x : Nat) (q : Pla) (d y : Nat) (want : Int) (mk al em : Bool) (mode : Int) : T × Nat × Nat :=
 if wantOk want = true ∧ rMode mode = true then
  if mk = true then
   if q.err = 0 then
    if q.taken = true then
     if al = true then (t, 0, 5)
     else if q.must = true ∧ (q.entry.kind == 1) = false then (t, 0, 6)
     else oldA t u g q.entry y want em
    else newP t u g d ⟨q.dir, q.name, q.must, q.taken, q.entry⟩ mode
   else (t, 0, q.err)
  else if n.2 = 0 then oldA t u g n.1 x want em
  else (t, 0, n.2)
 else (t, 0, 1)
theorem wOpen_any (A : Nat) (cwd r u s k g : Int) (p : ByteArray) (hp : p.size ≤ maxLen) (want : Int) (mk al em en : Bool) (mode : Int) (hm : wfI mode) (w : World) (h : PTo w A own t) (hs : Sound t) (hb : ∀ k, (t k).holds ≤ 999999)
 (hh : ∀ x : Nat, Sd (holdP t (x : Int)).1) (x d y : Nat)
 (hx : (toldI t (findP t cwd u g p.data.toList)).1.ino = (x : Int)) (hxm : wfI (bits .andNot .i64 (toldI t (findP t cwd u g p.data.toList)).1.mode 2048))
 (hd : (plaP t (placeP t cwd u g p.data.toList)).dir.ino = (d : Int)) (hns : (plaP t (placeP t cwd u g p.data.toList)).name.length ≤ 1000)
 (hy : (plaP t (placeP t cwd u g p.data.toList)).entry.ino = (y : Int)) (hym : wfI (bits .andNot .i64 (plaP t (placeP t cwd u g p.data.toList)).entry.mode 2048)) :
 Calls Tryz.prog 20 #[.pointer (some ⟨A, 0, none⟩), .int .i64 cwd, .agg #[.int .i64 r, .int .i64 u, .int .i64 s, .int .i64 k, .int .i64 g], .string p, .agg #[.int .i64 want, .bool mk, .bool al, .bool em, .bool en, .int .i64 mode]] w fun e w' =>
  e = .returned (makeV (openA t u g (toldI t (findP t cwd u g p.data.toList)) x (plaP t (placeP t cwd u g p.data.toList)) d y want mk al em mode).2) ∧ Pt w A own (openA t u g (toldI t (findP t cwd u g p.data.toList)) x (plaP t (placeP t cwd u g p.data.toList)) d y want mk al em mode).1 w' := by
 have hb1 : ∀ k, (t k).holds ≤ 1000000 := fun k => by have := hb k; omega
 have C0 := hid (fun W => wisWant_any want W)
 have C1 := hid (fun W => wisMode_any mode hm W)
 have C2 := hid (fun W => wcallerOf_any A cwd r u s k g W)
 have C3 := hid (fun W (hq : PTo W A own t) => wfind_any A cwd u g p hp W hq hs.sd)
 have C4 := hid (fun W (hq : PTo W A own t) => wlocate_any A cwd u g p hp W hq hs.sd)
 have HPT := hid (fun W (hb : Below w.heap.size w W) => h.below hb)
 generalize plaP t (placeP t cwd u g p.data.toList) = q at *
 generalize toldI t (findP t cwd u g p.data.toList) = n at *
 have C5 := hid (fun W own' (hq : PTo W A own' t) => wopenOld_any A cwd u g n.1 x hx want mk al em en mode W hq hb1 (hh x) hxm)
 have C6 := hid (fun W own' (hq : PTo W A own' t) => wopenOld_any A cwd u g q.entry y hy want mk al em en mode W hq hb1 (hh y) hym)
 have C7 := hid (fun W own' (hq : PTo W A own' t) => wopenNew_any A cwd u g ⟨q.dir, q.name, q.must, q.taken, q.entry⟩ mode hm d hd hns W hq hs hb)
 have C8 := hid (fun W => wisDir_any q.entry W)
 have hR : openA t u g n x q d y want mk al em mode = if wantOk want = true ∧ rMode mode = true then
  if mk = true then
   if q.err = 0 then
    if q.taken = true then
     if al = true then (t, 0, 5)
     else if q.must = true ∧ (q.entry.kind == 1) = false then (t, 0, 6)
     else oldA t u g q.entry y want em
    else newP t u g d ⟨q.dir, q.name, q.must, q.taken, q.entry⟩ mode
   else (t, 0, q.err)
  else if n.2 = 0 then oldA t u g n.1 x want em
  else (t, 0, n.2)
 else (t, 0, 1) := rfl
 simp only at C7
 generalize openA t u g n x q d y want mk al em mode = R at hR ⊢
 generalize newP t u g d ⟨q.dir, q.name, q.must, q.taken, q.entry⟩ mode = rn at *
 generalize oldA t u g q.entry y want em = re at *
 generalize oldA t u g n.1 x want em = rf at *
 generalize (q.entry.kind == 1) = kd at *
 generalize wantOk want = wo at *
 generalize rMode mode = mo at *
 obtain ⟨⟨d0, d1, d2, d3, d4, d5, d6, d7⟩, nm, mu, tk, ⟨x0, x1, x2, x3, x4, x5, x6, x7⟩, er⟩ := q
 obtain ⟨⟨f0, f1, f2, f3, f4, f5, f6, f7⟩, fe⟩ := n
 obtain ⟨tn, nn, cn⟩ := rn
 obtain ⟨te, ne, ce⟩ := re
 obtain ⟨tf, nf, cf⟩ := rf
 simp only [plaV, plcC, strV, ansV, infAg, infC, makeV] at C3 C4 C5 C6 C7 C8 hR
 have HR := hid hR
 have H := hid h
 clear hns hp hm h hs hb hh hx hxm hd hy hym hb1 hR
 generalize (⟨nm.toArray⟩ : ByteArray) = ds at *
 cases wo
 ·go_enter Tryz.func20, Tryz.ntmps20
  go_wp2_with fail
  refine (C0.out _).mono ?_
  rintro e W ⟨rfl, rfl⟩
  go_wp2
  go_ret2
  rw [show R = (t, 0, 1) by rw [HR.out]; simp]
  exact ⟨rfl, (Pk.start (L := fun _ => False) H.out (by first | exact bel2 _ _ _ | exact bel1 _ _) (fun _ => False.elim)).done⟩
 ·cases mo
  ·go_enter Tryz.func20, Tryz.ntmps20
   go_wp2_with fail
   refine (C0.out _).mono ?_
   rintro e W ⟨rfl, rfl⟩
   go_wp2_with fail
   refine (C1.out _).mono ?_
   rintro e W ⟨rfl, rfl⟩
   go_wp2
   go_ret2
   rw [show R = (t, 0, 1) by rw [HR.out]; simp]
   exact ⟨rfl, (Pk.start (L := fun _ => False) H.out (by first | exact bel2 _ _ _ | exact bel1 _ _) (fun _ => False.elim)).done⟩
  ·go_enter Tryz.func20, Tryz.ntmps20
   go_wp2_with fail
   refine (C0.out _).mono ?_
   rintro e W ⟨rfl, rfl⟩
   go_wp2_with fail
   refine (C1.out _).mono ?_
   rintro e W ⟨rfl, rfl⟩
   cases mk
   ·go_wp2_with fail
    refine calls_world (fun W => Blk W (w.heap.size + 1) 35 #[.int .i64 want, .bool false, .bool al, .bool em, .bool en, .int .i64 mode] ∧ Below w.heap.size w W) ⟨blk1 w _ _ _, bel2 _ _ _⟩ ?_
    rintro W ⟨k3, b0⟩
    refine (C2.out W).mono ?_
    rintro e W1 ⟨rfl, b1⟩
    have k3 := k3.up b1
    have l2 : w.heap.size + 1 < W1.heap.size := k3.lt
    have B1 := hid (bnext b0 b1)
    have j0 := k3.cell 0
    have j1 := k3.cell 1
    have j2 := k3.cell 2
    have j3 := k3.cell 3
    have j4 := k3.cell 4
    have j5 := k3.cell 5
    simp only [jD, jF, jE] at j0 j1 j2 j3 j4 j5
    have K3 := hid k3
    clear b0 b1 k3
    go_wp2_with fail
    refine calls_world (fun W => Blk W W1.heap.size 102 (calC A cwd u g) ∧ Blk W (w.heap.size + 1) 35 #[.int .i64 want, .bool false, .bool al, .bool em, .bool en, .int .i64 mode] ∧ Below w.heap.size w W) ⟨Blk.new W1 _ _, K3.out.alloc _, bal B1.out _⟩ ?_
    rintro W2 ⟨k1, k3, b2⟩
    refine (C3.out W2 (HPT.out _ b2)).mono ?_
    rintro e W3 ⟨rfl, b3⟩
    have k1 := k1.up b3
    have k3 := k3.up b3
    have l3 : W1.heap.size < W3.heap.size := k1.lt
    have l4 : w.heap.size + 1 < W3.heap.size := k3.lt
    have B3 := hid (bnext b2 b3)
    clear j0 j1 j2 j3 j4 j5 K3 b2 b3 B1 C2 HPT
    obtain ⟨c0, c1, c2, c3⟩ := k1.c4
    have j0 := k3.cell 0
    have j1 := k3.cell 1
    have j2 := k3.cell 2
    have j3 := k3.cell 3
    have j4 := k3.cell 4
    have j5 := k3.cell 5
    simp only [jD, jF, jE] at j0 j1 j2 j3 j4 j5
    have K1 := hid k1
    have K3 := hid k3
    clear k1 k3
    by_cases hfe : fe = 0
    ·subst hfe
     go_wp2_with fail
     refine (Pk.call (L := (fun g => g = W1.heap.size ∨ g = w.heap.size + 1 ∨ g = W3.heap.size)) (w := w) (own := own) (Pk.start H.out (bal B3.out _) (fun y hy => by simp; omega)) (fun own' hp => C5.out _ own' hp)).mono ?_
     rintro e Wz ⟨rfl, p, f⟩
     have Pz := hid p
     clear p f
     go_wp2
     go_ret2
     rw [show R = (tf, nf, cf) by rw [HR.out]; simp]
     exact ⟨rfl, Pz.out.done⟩
    ·have he2 : ((fe : Int) == 0) = false := by simp; omega
     have he3 : ((fe : Int) != 0) = true := by simp; omega
     go_wp2
     go_ret2
     rw [show R = (t, 0, fe) by rw [HR.out]; simp [hfe]]
     exact ⟨rfl, (Pk.start (L := fun _ => False) H.out (bal B3.out _) (fun _ => False.elim)).done⟩
   ·go_wp2_with fail
    refine calls_world (fun W => Blk W (w.heap.size + 1) 35 #[.int .i64 want, .bool true, .bool al, .bool em, .bool en, .int .i64 mode] ∧ Below w.heap.size w W) ⟨blk1 w _ _ _, bel2 _ _ _⟩ ?_
    rintro W ⟨k3, b0⟩
    refine (C2.out W).mono ?_
    rintro e W1 ⟨rfl, b1⟩
    have k3 := k3.up b1
    have l2 : w.heap.size + 1 < W1.heap.size := k3.lt
    have B1 := hid (bnext b0 b1)
    have j0 := k3.cell 0
    have j1 := k3.cell 1
    have j2 := k3.cell 2
    have j3 := k3.cell 3
    have j4 := k3.cell 4
    have j5 := k3.cell 5
    simp only [jD, jF, jE] at j0 j1 j2 j3 j4 j5
    have K3 := hid k3
    clear b0 b1 k3
    go_wp2_with fail
    refine calls_world (fun W => Blk W W1.heap.size 102 (calC A cwd u g) ∧ Blk W (w.heap.size + 1) 35 #[.int .i64 want, .bool true, .bool al, .bool em, .bool en, .int .i64 mode] ∧ Below w.heap.size w W) ⟨Blk.new W1 _ _, K3.out.alloc _, bal B1.out _⟩ ?_
    rintro W2 ⟨k1, k3, b2⟩
    refine (C4.out W2 (HPT.out _ b2)).mono ?_
    rintro e W3 ⟨rfl, b3⟩
    have k1 := k1.up b3
    have k3 := k3.up b3
    have l3 : W1.heap.size < W3.heap.size := k1.lt
    have l4 : w.heap.size + 1 < W3.heap.size := k3.lt
    have B3 := hid (bnext b2 b3)
    clear j0 j1 j2 j3 j4 j5 K3 b2 b3 B1 C2 HPT
    obtain ⟨c0, c1, c2, c3⟩ := k1.c4
    have j0 := k3.cell 0
    have j1 := k3.cell 1
    have j2 := k3.cell 2
    have j3 := k3.cell 3
    have j4 := k3.cell 4
    have j5 := k3.cell 5
    simp only [jD, jF, jE] at j0 j1 j2 j3 j4 j5
    have K1 := hid k1
    have K3 := hid k3
    clear k1 k3
    by_cases he : er = 0
    ·subst he
     cases tk
     ·go_wp2_with (first | (refine wpList_storeAgg rfl 99 _ _ rfl rfl W3.heap.size 99 _ #[.int .i64 d0, .int .i64 d1, .int .i64 d2, .int .i64 d3, .int .i64 d4, .int .i64 d5, .int .i64 d6, .int .i64 d7, .string ds, .bool mu, .bool false, .int .i64 x0, .int .i64 x1, .int .i64 x2, .int .i64 x3, .int .i64 x4, .int .i64 x5, .int .i64 x6, .int .i64 x7] rfl rfl (Blk.new W3 _ _) rfl aggPlace (one_all rfl) ?_; intro W4 hB4 hF4; have k1 := (K1.out.alloc _).off hF4 (by omega); have k3 := (K3.out.alloc _).off hF4 (by omega); have HF4 := hid hF4; have HB4 := hid hB4; clear c0 c1 c2 c3 j0 j1 j2 j3 j4 j5; obtain ⟨c0, c1, c2, c3⟩ := k1.c4; obtain ⟨e0, e1, e2, e3, e4, e5, e6, e7, e8, e9, e10, e11, e12, e13, e14, e15, e16, e17, e18⟩ := hB4.c19; have j0 := k3.cell 0; have j1 := k3.cell 1; have j2 := k3.cell 2; have j3 := k3.cell 3; have j4 := k3.cell 4; have j5 := k3.cell 5; simp only [jD, jF, jE] at j0 j1 j2 j3 j4 j5; have K1 := hid k1; have K3 := hid k3; clear k1 k3 hB4 hF4) | (refine wpList_loadAgg rfl 99 _ rfl W3.heap.size 99 _ rfl HB4.out aggPlace ?_))
      refine ((Pk.start (L := (fun g => g = W1.heap.size ∨ g = w.heap.size + 1 ∨ g = W3.heap.size)) H.out (below_one (bal B3.out _) (by omega) HF4.out) (fun y hy => by have := HB4.out.lt; omega)).call (fun own' hp => C7.out _ own' hp)).mono ?_
      rintro e Wz ⟨rfl, p, f⟩
      have Pz := hid p
      clear p f
      go_wp2
      go_ret2
      rw [show R = (tn, nn, cn) by rw [HR.out]; simp]
      exact ⟨rfl, Pz.out.done⟩
     ·cases al
      ·cases mu
       ·go_wp2_with (refine wpList_storeAgg rfl 99 _ _ rfl rfl W3.heap.size 99 _ #[.int .i64 d0, .int .i64 d1, .int .i64 d2, .int .i64 d3, .int .i64 d4, .int .i64 d5, .int .i64 d6, .int .i64 d7, .string ds, .bool false, .bool true, .int .i64 x0, .int .i64 x1, .int .i64 x2, .int .i64 x3, .int .i64 x4, .int .i64 x5, .int .i64 x6, .int .i64 x7] rfl rfl (Blk.new W3 _ _) rfl aggPlace (one_all rfl) ?_; intro W4 hB4 hF4; have k1 := (K1.out.alloc _).off hF4 (by omega); have k3 := (K3.out.alloc _).off hF4 (by omega); have HF4 := hid hF4; have HB4 := hid hB4; clear c0 c1 c2 c3 j0 j1 j2 j3 j4 j5; obtain ⟨c0, c1, c2, c3⟩ := k1.c4; obtain ⟨e0, e1, e2, e3, e4, e5, e6, e7, e8, e9, e10, e11, e12, e13, e14, e15, e16, e17, e18⟩ := hB4.c19; have j0 := k3.cell 0; have j1 := k3.cell 1; have j2 := k3.cell 2; have j3 := k3.cell 3; have j4 := k3.cell 4; have j5 := k3.cell 5; simp only [jD, jF, jE] at j0 j1 j2 j3 j4 j5; have K1 := hid k1; have K3 := hid k3; clear k1 k3 hB4 hF4)
        refine ((Pk.start (L := (fun g => g = W1.heap.size ∨ g = w.heap.size + 1 ∨ g = W3.heap.size)) H.out (below_one (bal B3.out _) (by omega) HF4.out) (fun y hy => by have := HB4.out.lt; omega)).call (fun own' hp => C6.out _ own' hp)).mono ?_
        rintro e Wz ⟨rfl, p, f⟩
        have Pz := hid p
        clear p f
        go_wp2
        go_ret2
        rw [show R = (te, ne, ce) by rw [HR.out]; simp]
        exact ⟨rfl, Pz.out.done⟩
       ·go_wp2_with (refine wpList_storeAgg rfl 99 _ _ rfl rfl W3.heap.size 99 _ #[.int .i64 d0, .int .i64 d1, .int .i64 d2, .int .i64 d3, .int .i64 d4, .int .i64 d5, .int .i64 d6, .int .i64 d7, .string ds, .bool true, .bool true, .int .i64 x0, .int .i64 x1, .int .i64 x2, .int .i64 x3, .int .i64 x4, .int .i64 x5, .int .i64 x6, .int .i64 x7] rfl rfl (Blk.new W3 _ _) rfl aggPlace (one_all rfl) ?_; intro W4 hB4 hF4; have k1 := (K1.out.alloc _).off hF4 (by omega); have k3 := (K3.out.alloc _).off hF4 (by omega); have HF4 := hid hF4; have HB4 := hid hB4; clear c0 c1 c2 c3 j0 j1 j2 j3 j4 j5; obtain ⟨c0, c1, c2, c3⟩ := k1.c4; obtain ⟨e0, e1, e2, e3, e4, e5, e6, e7, e8, e9, e10, e11, e12, e13, e14, e15, e16, e17, e18⟩ := hB4.c19; have j0 := k3.cell 0; have j1 := k3.cell 1; have j2 := k3.cell 2; have j3 := k3.cell 3; have j4 := k3.cell 4; have j5 := k3.cell 5; simp only [jD, jF, jE] at j0 j1 j2 j3 j4 j5; have K1 := hid k1; have K3 := hid k3; clear k1 k3 hB4 hF4)
        have p1 := (Pk.start (L := (fun g => g = W1.heap.size ∨ g = w.heap.size + 1 ∨ g = W3.heap.size)) H.out (below_one (bal B3.out _) (by omega) HF4.out) (fun y hy => by have := HB4.out.lt; omega))
        refine (C8.out _).mono ?_
        rintro e W5 ⟨rfl, b⟩
        have k1 := K1.out.up b
        have k2 := HB4.out.up b
        have k3 := K3.out.up b
        have p := p1.up b (L' := (fun g => g = W1.heap.size ∨ g = w.heap.size + 1 ∨ g = W3.heap.size)) (fun g => .inl)
        clear c0 c1 c2 c3 j0 j1 j2 j3 j4 j5 e0 e1 e2 e3 e4 e5 e6 e7 e8 e9 e10 e11 e12 e13 e14 e15 e16 e17 e18 K1 K3 HB4 HF4 b p1
        obtain ⟨c0, c1, c2, c3⟩ := k1.c4
        obtain ⟨e0, e1, e2, e3, e4, e5, e6, e7, e8, e9, e10, e11, e12, e13, e14, e15, e16, e17, e18⟩ := k2.c19
        have j0 := k3.cell 0
        have j1 := k3.cell 1
        have j2 := k3.cell 2
        have j3 := k3.cell 3
        have j4 := k3.cell 4
        have j5 := k3.cell 5
        simp only [jD, jF, jE] at j0 j1 j2 j3 j4 j5
        have P := hid p
        clear k1 k2 k3 p
        cases kd
        ·go_wp2
         go_ret2
         rw [show R = (t, 0, 6) by rw [HR.out]; simp]
         exact ⟨rfl, P.out.done⟩
        ·go_wp2_with fail
         refine (P.out.call (fun own' hp => C6.out _ own' hp)).mono ?_
         rintro e Wz ⟨rfl, p, f⟩
         have Pz := hid p
         clear p f
         go_wp2
         go_ret2
         rw [show R = (te, ne, ce) by rw [HR.out]; simp]
         exact ⟨rfl, Pz.out.done⟩
      ·go_wp2_with (refine wpList_storeAgg rfl 99 _ _ rfl rfl W3.heap.size 99 _ #[.int .i64 d0, .int .i64 d1, .int .i64 d2, .int .i64 d3, .int .i64 d4, .int .i64 d5, .int .i64 d6, .int .i64 d7, .string ds, .bool mu, .bool true, .int .i64 x0, .int .i64 x1, .int .i64 x2, .int .i64 x3, .int .i64 x4, .int .i64 x5, .int .i64 x6, .int .i64 x7] rfl rfl (Blk.new W3 _ _) rfl aggPlace (one_all rfl) ?_; intro W4 hB4 hF4; have k1 := (K1.out.alloc _).off hF4 (by omega); have k3 := (K3.out.alloc _).off hF4 (by omega); have HF4 := hid hF4; have HB4 := hid hB4; clear c0 c1 c2 c3 j0 j1 j2 j3 j4 j5; obtain ⟨c0, c1, c2, c3⟩ := k1.c4; obtain ⟨e0, e1, e2, e3, e4, e5, e6, e7, e8, e9, e10, e11, e12, e13, e14, e15, e16, e17, e18⟩ := hB4.c19; have j0 := k3.cell 0; have j1 := k3.cell 1; have j2 := k3.cell 2; have j3 := k3.cell 3; have j4 := k3.cell 4; have j5 := k3.cell 5; simp only [jD, jF, jE] at j0 j1 j2 j3 j4 j5; have K1 := hid k1; have K3 := hid k3; clear k1 k3 hB4 hF4)
       go_ret2
       rw [show R = (t, 0, 5) by rw [HR.out]; simp]
       exact ⟨rfl, (Pk.start (L := fun _ => False) H.out (below_one (bal B3.out _) (by omega) HF4.out) (fun _ => False.elim)).done⟩
    ·have he2 : ((er : Int) == 0) = false := by simp; omega
     have he3 : ((er : Int) != 0) = true := by simp; omega
     go_wp2_with (refine wpList_storeAgg rfl 99 _ _ rfl rfl W3.heap.size 99 _ #[.int .i64 d0, .int .i64 d1, .int .i64 d2, .int .i64 d3, .int .i64 d4, .int .i64 d5, .int .i64 d6, .int .i64 d7, .string ds, .bool mu, .bool tk, .int .i64 x0, .int .i64 x1, .int .i64 x2, .int .i64 x3, .int .i64 x4, .int .i64 x5, .int .i64 x6, .int .i64 x7] rfl rfl (Blk.new W3 _ _) rfl aggPlace (one_all rfl) ?_; intro W4 hB4 hF4; have k1 := (K1.out.alloc _).off hF4 (by omega); have k3 := (K3.out.alloc _).off hF4 (by omega); have HF4 := hid hF4; have HB4 := hid hB4; clear c0 c1 c2 c3 j0 j1 j2 j3 j4 j5; obtain ⟨c0, c1, c2, c3⟩ := k1.c4; obtain ⟨e0, e1, e2, e3, e4, e5, e6, e7, e8, e9, e10, e11, e12, e13, e14, e15, e16, e17, e18⟩ := hB4.c19; have j0 := k3.cell 0; have j1 := k3.cell 1; have j2 := k3.cell 2; have j3 := k3.cell 3; have j4 := k3.cell 4; have j5 := k3.cell 5; simp only [jD, jF, jE] at j0 j1 j2 j3 j4 j5; have K1 := hid k1; have K3 := hid k3; clear k1 k3 hB4 hF4)
     go_ret2
     rw [show R = (t, 0, er) by rw [HR.out]; simp [he]]
     exact ⟨rfl, (Pk.start (L := fun _ => False) H.out (below_one (bal B3.out _) (by omega) HF4.out) (fun _ => False.elim)).done⟩
end
end Go.Proofs.YtlpececggkdhmaaGreat
