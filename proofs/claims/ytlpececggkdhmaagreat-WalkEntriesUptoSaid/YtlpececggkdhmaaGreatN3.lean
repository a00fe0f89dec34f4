import Derived.Test.YtlpececggkdhmaaGreatN2
open Go.Lib (hid)
open List renaming getElem?_toArray → jD, getElem?_cons_succ → jE, getElem?_cons_zero → jF
set_option linter.unusedVariables false
set_option linter.unusedSimpArgs false
set_option maxHeartbeats 4000000
set_option maxRecDepth 100000
namespace Go.Proofs.YtlpececggkdhmaaGreat
section
open Go.RowKit Ino Go.Maps
open Pa (Blk strV)
variable {own : Nat → Prop} {t : T}
theorem wisMode_any (n : Int) (hn : wfI n) (w : World) : Calls Tryz.prog 60 #[.int .i64 n] w fun e w' => e = .returned (.bool (rMode n)) ∧ w = w' := by
 have C := hid (fun w => pright_any n hn w)
 generalize rMode n = b at *
 go_enter Tryz.func60, Tryz.ntmps60
 go_wp2_with (go_at_call 79; refine (C.out _).mono ?_; rintro e w' ⟨rfl, rfl⟩)
 go_ret
 exact ⟨rfl, rfl⟩
def stickyA (p : PlA) (u : Int) : Bool := (bits .and .i64 p.dir.mode 512 == 0) || (u == 0 || (u == p.dir.owner || u == p.entry.owner))
theorem wkeeps_any (A : Nat) (cwd u g : Int) (p : PlA) (w : World) :
 Calls Tryz.prog 69 #[(.agg #[.pointer (some ⟨A, 0, none⟩), .int .i64 cwd, .int .i64 u, .int .i64 g]), .agg (plcC p.dir p.name p.must p.taken p.entry)] w fun e w' => e = .returned (.bool (stickyA p u)) ∧ Below w.heap.size w w' := by
 obtain ⟨⟨d0, d1, d2, d3, d4, d5, d6, d7⟩, nm, mu, tk, ⟨x0, x1, x2, x3, x4, x5, x6, x7⟩⟩ := p
 have hr : stickyA ⟨⟨d0, d1, d2, d3, d4, d5, d6, d7⟩, nm, mu, tk, ⟨x0, x1, x2, x3, x4, x5, x6, x7⟩⟩ u = ((bits .and .i64 d2 512 == 0) || (u == 0 || (u == d3 || u == x3))) := rfl
 generalize stickyA ⟨⟨d0, d1, d2, d3, d4, d5, d6, d7⟩, nm, mu, tk, ⟨x0, x1, x2, x3, x4, x5, x6, x7⟩⟩ u = r at hr ⊢
 have C0 := hid (fun w => wisZero_any A cwd u g w)
 have C1 := hid (fun w => wowns_any A cwd u g ⟨d0, d1, d2, d3, d4, d5, d6, d7⟩ w)
 have C2 := hid (fun w => wowns_any A cwd u g ⟨x0, x1, x2, x3, x4, x5, x6, x7⟩ w)
 simp only at C1 C2 ⊢
 have HR := hid hr
 clear hr
 unfold plcC strV
 simp only
 generalize (⟨nm.toArray⟩ : ByteArray) = ds at *
 cases hb : (bits .and .i64 d2 512 == 0)
 ·rw [hb] at HR
  go_enter Tryz.func69, Tryz.ntmps69
  go_wp2_with fail
  refine calls_world (fun W => Blk W w.heap.size 102 (calC A cwd u g) ∧ Blk W (w.heap.size + 1) 99 #[.int .i64 d0, .int .i64 d1, .int .i64 d2, .int .i64 d3, .int .i64 d4, .int .i64 d5, .int .i64 d6, .int .i64 d7, .string ds, .bool mu, .bool tk, .int .i64 x0, .int .i64 x1, .int .i64 x2, .int .i64 x3, .int .i64 x4, .int .i64 x5, .int .i64 x6, .int .i64 x7] ∧ Below w.heap.size w W) ⟨(Blk.new w _ _).alloc _, blk1 w _ _ _, bel2 _ _ _⟩ ?_
  rintro W ⟨k1, k2, b1⟩
  refine (C0.out W).mono ?_
  rintro e W2 ⟨rfl, b2⟩
  have k1 := k1.up b2
  have k2 := k2.up b2
  have b1 := bnext b1 b2
  obtain ⟨c0, c1, c2, c3⟩ := k1.c4
  have K1 := hid k1
  have K2 := hid k2
  have B1 := hid b1
  clear k1 k2 b1 b2
  cases h0 : (u == 0)
  ·rw [h0] at HR
   obtain ⟨e0, e1, e2, e3, e4, e5, e6, e7, e8, e9, e10, e11, e12, e13, e14, e15, e16, e17, e18⟩ := K2.out.c19
   go_wp2_with fail
   refine (C1.out _).mono ?_
   rintro e W3 ⟨rfl, b2⟩
   have k1 := K1.out.up b2
   have k2 := K2.out.up b2
   have b1 := bnext B1.out b2
   clear e0 e1 e2 e3 e4 e5 e6 e7 e8 e9 e10 e11 e12 e13 e14 e15 e16 e17 e18 c0 c1 c2 c3 K1 K2 B1 b2
   obtain ⟨c0, c1, c2, c3⟩ := k1.c4
   obtain ⟨e0, e1, e2, e3, e4, e5, e6, e7, e8, e9, e10, e11, e12, e13, e14, e15, e16, e17, e18⟩ := k2.c19
   have B1 := hid b1
   clear k1 k2 b1
   cases h1 : (u == d3)
   ·rw [h1] at HR
    go_wp2_with fail
    refine (C2.out _).mono ?_
    rintro e W4 ⟨rfl, b2⟩
    have B2 := hid (bnext B1.out b2)
    clear b2 B1 e0 e1 e2 e3 e4 e5 e6 e7 e8 e9 e10 e11 e12 e13 e14 e15 e16 e17 e18 c0 c1 c2 c3
    go_wp2
    go_ret
    exact ⟨ret_bool (by rw [HR.out]; simp), B2.out⟩
   ·rw [h1] at HR
    go_wp2
    go_ret
    exact ⟨ret_bool (by rw [HR.out]; rfl), B1.out⟩
  ·rw [h0] at HR
   go_wp2
   go_ret
   exact ⟨ret_bool (by rw [HR.out]; rfl), B1.out⟩
 ·rw [hb] at HR
  go_enter Tryz.func69, Tryz.ntmps69
  go_wp2
  go_ret
  exact ⟨ret_bool (by rw [HR.out]; rfl), bel2 _ _ _⟩
def giveA (a : Inf) (u g o k : Int) : Bool := (u == a.owner) && ((o == a.owner) && (k == g || k == a.group))
theorem wmayGive_any (A : Nat) (cwd u g : Int) (a : Inf) (o k : Int) (w : World) :
 Calls Tryz.prog 76 #[(.agg #[.pointer (some ⟨A, 0, none⟩), .int .i64 cwd, .int .i64 u, .int .i64 g]), (.agg #[.int .i64 a.ino, .int .i64 a.kind, .int .i64 a.mode, .int .i64 a.owner, .int .i64 a.group, .int .i64 a.links, .int .i64 a.size, .int .i64 a.tty]), .int .i64 o, .int .i64 k] w fun e w' => e = .returned (.bool (giveA a u g o k)) ∧ Below w.heap.size w w' := by
 have hr : giveA a u g o k = ((u == a.owner) && ((o == a.owner) && (k == g || k == a.group))) := rfl
 have C1 := hid (fun w => wowns_any A cwd u g a w)
 generalize giveA a u g o k = r at hr ⊢
 obtain ⟨d0, d1, d2, d3, d4, d5, d6, d7⟩ := a
 simp only at C1 hr ⊢
 have HR := hid hr
 clear hr
 go_enter Tryz.func76, Tryz.ntmps76
 go_wp2_with fail
 refine calls_world (fun W => Blk W w.heap.size 102 (calC A cwd u g) ∧ Blk W (w.heap.size + 1) 50 #[.int .i64 d0, .int .i64 d1, .int .i64 d2, .int .i64 d3, .int .i64 d4, .int .i64 d5, .int .i64 d6, .int .i64 d7] ∧ Below w.heap.size w W) ⟨(Blk.new w _ _).alloc _, blk1 w _ _ _, bel2 _ _ _⟩ ?_
 rintro W ⟨k1, k2, b1⟩
 refine (C1.out W).mono ?_
 rintro e W2 ⟨rfl, b2⟩
 have k1 := k1.up b2
 have k2 := k2.up b2
 have b1 := bnext b1 b2
 obtain ⟨c0, c1, c2, c3⟩ := k1.c4
 obtain ⟨e0, e1, e2, e3, e4, e5, e6, e7⟩ := k2.c8
 have B1 := hid b1
 clear k1 k2 b1 b2
 cases h0 : (u == d3)
 ·rw [h0] at HR
  go_wp2
  go_ret
  exact ⟨ret_bool (by rw [HR.out]; rfl), B1.out⟩
 ·rw [h0] at HR
  cases h1 : (o == d3)
  ·rw [h1] at HR
   go_wp2
   go_ret
   exact ⟨ret_bool (by rw [HR.out]; rfl), B1.out⟩
  ·rw [h1] at HR
   cases h2 : (k == g)
   ·rw [h2] at HR
    go_wp2
    go_ret
    exact ⟨ret_bool (by rw [HR.out]; simp), B1.out⟩
   ·rw [h2] at HR
    go_wp2
    go_ret
    exact ⟨ret_bool (by rw [HR.out]; rfl), B1.out⟩
noncomputable def newP (t : T) (u g : Int) (d : Nat) (p : PlA) (mode : Int) : T × Nat × Nat :=
 if p.must = true then (t, 0, 7) else if mayI p.dir u g 2 = true then createP t u g d p.name 0 mode else (t, 0, 4)
theorem wopenNew_any (A : Nat) (cwd u g : Int) (p : PlA) (mode : Int) (hm : wfI mode) (d : Nat) (hd : p.dir.ino = (d : Int)) (hns : p.name.length ≤ 1000) (w : World) (h : PTo w A own t) (hs : Sound t) (hb : ∀ k, (t k).holds ≤ 999999) :
 Calls Tryz.prog 63 #[(.agg #[.pointer (some ⟨A, 0, none⟩), .int .i64 cwd, .int .i64 u, .int .i64 g]), .agg (plcC p.dir p.name p.must p.taken p.entry), .int .i64 mode] w fun e w' => e = .returned (makeV (newP t u g d p mode).2) ∧ Pt w A own (newP t u g d p mode).1 w' := by
 have hR : newP t u g d p mode = if p.must = true then (t, 0, 7) else if mayI p.dir u g 2 = true then createP t u g d p.name 0 mode else (t, 0, 4) := rfl
 have C2 := hid (fun W own' (hp : PTo W A own' t) => wcreate_any A cwd u g p 0 mode hm d hd hns W hp hs hb)
 have C1 := hid (fun w => wmayI_any A cwd u g 2 p.dir w)
 generalize newP t u g d p mode = r at hR ⊢
 generalize createP t u g d p.name 0 mode = cr at *
 generalize mayI p.dir u g 2 = my at *
 obtain ⟨⟨d0, d1, d2, d3, d4, d5, d6, d7⟩, nm, mu, tk, ⟨x0, x1, x2, x3, x4, x5, x6, x7⟩⟩ := p
 simp only at C1 C2 hR hd ⊢
 clear hd hns hm
 unfold plcC strV at C2 ⊢
 simp only at C2 ⊢
 generalize (⟨nm.toArray⟩ : ByteArray) = ds at *
 have HR := hid hR
 have H := hid h
 clear hR h hs hb
 cases mu
 ·rw [if_neg Bool.false_ne_true] at HR
  go_enter Tryz.func63, Tryz.ntmps63
  go_wp2_with fail
  refine calls_world (fun W => Blk W w.heap.size 102 (calC A cwd u g) ∧ Blk W (w.heap.size + 1) 99 #[.int .i64 d0, .int .i64 d1, .int .i64 d2, .int .i64 d3, .int .i64 d4, .int .i64 d5, .int .i64 d6, .int .i64 d7, .string ds, .bool false, .bool tk, .int .i64 x0, .int .i64 x1, .int .i64 x2, .int .i64 x3, .int .i64 x4, .int .i64 x5, .int .i64 x6, .int .i64 x7] ∧ Pk (fun g => g = w.heap.size ∨ g = w.heap.size + 1) w own A t W) ⟨(Blk.new w _ _).alloc _, blk1 w _ _ _, Pk.start H.out (bel2 _ _ _) (fun g hg => by simp; omega)⟩ ?_
  rintro W ⟨k1, k2, p1⟩
  refine (C1.out W).mono ?_
  rintro e W2 ⟨rfl, b2⟩
  have k1 := k1.up b2
  have k2 := k2.up b2
  have p2 := p1.up b2 (L' := fun g => g = w.heap.size ∨ g = w.heap.size + 1) (fun g => .inl)
  have K1 := hid k1
  have K2 := hid k2
  have P2 := hid p2
  obtain ⟨c0, c1, c2, c3⟩ := k1.c4
  clear k1 k2 p1 p2 b2 H
  cases my
  ·rw [if_neg Bool.false_ne_true] at HR
   go_wp2
   go_ret2
   rw [HR.out]
   exact ⟨rfl, P2.out.done⟩
  ·rw [if_pos rfl] at HR
   go_wp2_with (refine wpList_loadAgg rfl 99 _ rfl (w.heap.size + 1) 99 _ rfl K2.out aggPlace ?_)
   refine (P2.out.call (fun own' hp => C2.out W2 own' hp)).mono ?_
   rintro e W3 ⟨rfl, p3, f3⟩
   obtain ⟨t3, n3, c3'⟩ := cr
   simp only [makeV] at HR ⊢
   have P3 := hid p3
   clear p3 f3 P2 K1 K2 c0 c1 c2 c3
   go_wp2
   go_ret2
   rw [HR.out]
   exact ⟨rfl, P3.out.done⟩
 ·rw [if_pos rfl] at HR
  go_enter Tryz.func63, Tryz.ntmps63
  go_wp2
  go_ret2
  rw [HR.out]
  exact ⟨rfl, (Pk.start (L := fun _ => False) H.out (bel2 _ _ _) (fun _ => False.elim)).done⟩
end
section
open Go.RowKit Ino Go.Maps
open Pa (Blk strV)
variable {own : Nat → Prop} {t : T}
theorem toldI_ino (t : T) (cwd u g : Int) (l : Bs) (h0 : (findP t cwd u g l).2 ≠ 0 → (findP t cwd u g l).1 = 0) : (toldI t (findP t cwd u g l)).1.ino = ((findP t cwd u g l).1 : Int) ∧ (toldI t (findP t cwd u g l)).2 = (findP t cwd u g l).2 := by
 unfold toldI
 by_cases h : (findP t cwd u g l).2 = 0
 ·rw [if_pos h]; exact ⟨rfl, h.symm⟩
 ·rw [if_neg h, h0 h]; exact ⟨rfl, rfl⟩
theorem findP_none (t : T) (cwd u g : Int) (l : Bs) (h : (findP t cwd u g l).2 ≠ 0) : (findP t cwd u g l).1 = 0 := by
 unfold findP at h ⊢
 split at h
 ·rename_i h1
  rw [if_pos h1]
  split at h
  ·rename_i h2
   rw [if_pos h2]
   split at h
   ·rename_i h3; rw [if_pos h3]
   ·exact absurd rfl h
  ·rename_i h2; rw [if_neg h2]
 ·rename_i h1; rw [if_neg h1]
theorem wFind_any (A : Nat) (cwd r u s k g : Int) (p : ByteArray) (hp : p.size ≤ maxLen) (w : World) (h : PTo w A own t) (hsd : Sd t) :
 Calls Tryz.prog 30 #[.pointer (some ⟨A, 0, none⟩), .int .i64 cwd, .agg #[.int .i64 r, .int .i64 u, .int .i64 s, .int .i64 k, .int .i64 g], .string p] w fun e w' => e = .returned (makeV (findP t cwd u g p.data.toList)) ∧ Below w.heap.size w w' := by
 have HI := toldI_ino t cwd u g p.data.toList (findP_none t cwd u g _)
 have C1 := hid (fun W => wcallerOf_any A cwd r u s k g W)
 have C2 := hid (fun W (hq : PTo W A own t) => wfind_any A cwd u g p hp W hq hsd)
 have HPT := hid (fun W (hb : Below w.heap.size w W) => h.below hb)
 generalize findP t cwd u g p.data.toList = r1 at *
 generalize toldI t r1 = r2 at *
 obtain ⟨f, fe⟩ := r1
 obtain ⟨⟨q0, q1, q2, q3, q4, q5, q6, q7⟩, er⟩ := r2
 simp only [ansV, infAg, infC] at HI C2
 obtain ⟨rfl, rfl⟩ := HI
 clear h hsd hp
 go_enter Tryz.func30, Tryz.ntmps30
 go_wp2_with fail
 refine calls_world (fun W => Below w.heap.size w W) (by first | exact Below.refl _ _ | exact bel1 _ _ | exact bel2 _ _ _) ?_
 rintro W b0
 refine (C1.out W).mono ?_
 rintro e W2 ⟨rfl, b2⟩
 have B2 := hid (bnext b0 b2)
 clear b0 b2
 go_wp2_with fail
 refine (C2.out W2 (HPT.out _ B2.out)).mono ?_
 rintro e W3 ⟨rfl, b3⟩
 have B3 := hid (bnext B2.out b3)
 clear b3 B2
 go_wp2
 go_ret2
 exact ⟨rfl, bal B3.out _⟩
end
section
open Go.RowKit Ino Go.Maps
open Pa (Blk strV)
variable {own : Nat → Prop} {t : T}
noncomputable def mkdirA (t : T) (u g : Int) (d : Nat) (q : Pla) (mode : Int) : T × Nat :=
 if rMode mode = true then
  if q.err = 0 then
   if q.taken = true then (t, 5)
   else if mayI q.dir u g 2 = true then
    (if (createP t u g d q.name 1 mode).2.2 = 0 then ((dropP (createP t u g d q.name 1 mode).1 (createP t u g d q.name 1 mode).2.1).1, 0) else ((createP t u g d q.name 1 mode).1, (createP t u g d q.name 1 mode).2.2))
   else (t, 4)
  else (t, q.err)
 else (t, 1)
theorem mkdirA_eq (t : T) (u g : Int) (d : Nat) (q : Pla) (mode : Int) {t1 : T} {n c : Nat} (h : createP t u g d q.name 1 mode = (t1, n, c)) : mkdirA t u g d q mode = if rMode mode = true then
 if q.err = 0 then
  if q.taken = true then (t, 5)
  else if mayI q.dir u g 2 = true then
   (if c = 0 then ((dropP t1 n).1, 0) else (t1, c))
  else (t, 4)
 else (t, q.err)
 else (t, 1) := by
 unfold mkdirA
 rw [h]
theorem wMkdir_any (A : Nat) (cwd r u s k g : Int) (p : ByteArray) (hp : p.size ≤ maxLen) (mode : Int) (hm : wfI mode) (w : World) (h : PTo w A own t) (hs : Sound t) (hb : ∀ k, (t k).holds ≤ 999999)
 (d : Nat) (hd : (plaP t (placeP t cwd u g p.data.toList)).dir.ino = (d : Int)) (hns : (plaP t (placeP t cwd u g p.data.toList)).name.length ≤ 1000) :
 Calls Tryz.prog 23 #[.pointer (some ⟨A, 0, none⟩), .int .i64 cwd, .agg #[.int .i64 r, .int .i64 u, .int .i64 s, .int .i64 k, .int .i64 g], .string p, .int .i64 mode] w fun e w' =>
  e = .returned (.int .i64 ((mkdirA t u g d (plaP t (placeP t cwd u g p.data.toList)) mode).2 : Int)) ∧ Pt w A own (mkdirA t u g d (plaP t (placeP t cwd u g p.data.toList)) mode).1 w' := by
 have C0 := hid (fun W => wisMode_any mode hm W)
 have C1 := hid (fun W => wcallerOf_any A cwd r u s k g W)
 have C2 := hid (fun W (hq : PTo W A own t) => wlocate_any A cwd u g p hp W hq hs.sd)
 have HPT := hid (fun W (hb : Below w.heap.size w W) => h.below hb)
 generalize plaP t (placeP t cwd u g p.data.toList) = q at *
 have C3 := hid (fun W => wmayI_any A cwd u g 2 q.dir W)
 have C4 := hid (fun W own' (hq : PTo W A own' t) => wcreate_any A cwd u g ⟨q.dir, q.name, q.must, q.taken, q.entry⟩ 1 mode hm d hd hns W hq hs hb)
 obtain ⟨t1, n, c, hc⟩ : ∃ t1 n c, createP t u g d q.name 1 mode = (t1, n, c) := ⟨_, _, _, rfl⟩
 have s1 : Sound t1 := by have := sound_create hs u g d q.name 1 mode; rw [hc] at this; exact this
 have b1 : ∀ k, (t1 k).holds ≤ 1000000 := by have := HB.create (m := 999999) hb u g d q.name 1 mode; rw [hc] at this; exact this
 have C5 := hid (fun W own' (hq : PTo W A own' t1) => pdrop_any (n : Int) W hq s1 b1)
 have hR := mkdirA_eq t u g d q mode hc
 simp only at C4
 rw [hc] at C4
 simp only [makeV] at C4
 generalize mkdirA t u g d q mode = R at hR ⊢
 generalize mayI q.dir u g 2 = my at *
 obtain ⟨t2, ok, hdr⟩ : ∃ t2 ok, dropP t1 (n : Int) = (t2, ok) := ⟨_, _, rfl⟩
 rw [hdr] at C5
 have hdr' : (dropP t1 (n : Int)).1 = t2 := by rw [hdr]
 rw [hdr'] at hR
 simp only at C5
 obtain ⟨⟨d0, d1, d2, d3, d4, d5, d6, d7⟩, nm, mu, tk, ⟨x0, x1, x2, x3, x4, x5, x6, x7⟩, er⟩ := q
 simp only [plaV, plcC, strV] at C2 C3 C4 hR
 have HR := hid hR
 have H := hid h
 clear hd hns hp hm h hs hb hc s1 b1 hR hdr hdr'
 generalize (⟨nm.toArray⟩ : ByteArray) = ds at *
 cases hmo : rMode mode
 ·rw [hmo] at C0 HR
  rw [if_neg Bool.false_ne_true] at HR
  go_enter Tryz.func23, Tryz.ntmps23
  go_wp2_with fail
  refine (C0.out _).mono ?_
  rintro e W ⟨rfl, rfl⟩
  go_wp2
  go_ret
  rw [HR.out]
  exact ⟨rfl, (Pk.start (L := fun _ => False) H.out (bel1 _ _) (fun _ => False.elim)).done⟩
 ·rw [hmo] at C0 HR
  rw [if_pos rfl] at HR
  go_enter Tryz.func23, Tryz.ntmps23
  go_wp2_with fail
  refine (C0.out _).mono ?_
  rintro e W ⟨rfl, rfl⟩
  go_wp2_with fail
  refine calls_world (fun W => Below w.heap.size w W) (bel1 _ _) ?_
  rintro W b0
  refine (C1.out W).mono ?_
  rintro e W1 ⟨rfl, b1⟩
  have B1 := hid (bnext b0 b1)
  have l1 : w.heap.size ≤ W1.heap.size := B1.out.size
  clear b0 b1
  go_wp2_with fail
  refine calls_world (fun W => Blk W W1.heap.size 102 (calC A cwd u g) ∧ Below w.heap.size w W) ⟨Blk.new W1 _ _, bal B1.out _⟩ ?_
  rintro W2 ⟨k1, b2⟩
  refine (C2.out W2 (HPT.out _ b2)).mono ?_
  rintro e W3 ⟨rfl, b3⟩
  have k1 := k1.up b3
  have l3 : W1.heap.size < W3.heap.size := k1.lt
  have B3 := hid (bnext b2 b3)
  obtain ⟨c0, c1, c2, c3⟩ := k1.c4
  have K1 := hid k1
  clear k1 b2 b3 B1 C1 C0 C2 HPT
  by_cases he : er = 0
  ·subst he
   rw [if_pos rfl] at HR
   cases tk
   ·rw [if_neg Bool.false_ne_true] at HR
    go_wp2_with (refine wpList_storeAgg rfl 99 _ _ rfl rfl W3.heap.size 99 _ #[.int .i64 d0, .int .i64 d1, .int .i64 d2, .int .i64 d3, .int .i64 d4, .int .i64 d5, .int .i64 d6, .int .i64 d7, .string ds, .bool mu, .bool false, .int .i64 x0, .int .i64 x1, .int .i64 x2, .int .i64 x3, .int .i64 x4, .int .i64 x5, .int .i64 x6, .int .i64 x7] rfl rfl (Blk.new W3 _ _) rfl aggPlace (one_all rfl) ?_; intro W4 hB4 hF4; have HB4 := hid hB4; have HF4 := hid hF4; clear c0 c1 c2 c3; obtain ⟨c0, c1, c2, c3⟩ := ((K1.out.alloc _).off hF4 (by omega)).c4; obtain ⟨e0, e1, e2, e3, e4, e5, e6, e7, e8, e9, e10, e11, e12, e13, e14, e15, e16, e17, e18⟩ := hB4.c19; clear hB4 hF4)
    have k1 := (K1.out.alloc _).off HF4.out (by omega)
    have k2 := HB4.out
    have p1 : Pk (fun g => g = W1.heap.size ∨ g = W3.heap.size) w own A t W4 := Pk.start H.out (below_one (bal B3.out _) (by omega) HF4.out) (fun g hg => by have := k2.lt; omega)
    clear HB4 HF4 e0 e1 e2 e3 e4 e5 e6 e7 e8 e9 e10 e11 e12 e13 e14 e15 e16 e17 e18
    refine (C3.out W4).mono ?_
    rintro e W5 ⟨rfl, b5⟩
    have k1 := k1.up b5
    have k2 := k2.up b5
    have p2 := p1.up b5 (L' := fun g => g = W1.heap.size ∨ g = W3.heap.size) (fun g => .inl)
    obtain ⟨c0', c1', c2', c3'⟩ := k1.c4
    have K2 := hid k2
    have P2 := hid p2
    clear k1 k2 p1 p2 b5 H K1 B3 c0 c1 c2 c3 C3
    cases my
    ·rw [if_neg Bool.false_ne_true] at HR
     go_wp2
     go_ret
     rw [HR.out]
     exact ⟨rfl, P2.out.done⟩
    ·rw [if_pos rfl] at HR
     go_wp2_with (refine wpList_loadAgg rfl 99 _ rfl W3.heap.size 99 _ rfl K2.out aggPlace ?_)
     refine (P2.out.call (fun own' hp => C4.out W5 own' hp)).mono ?_
     rintro e W6 ⟨rfl, p3, f3⟩
     have P3 := hid p3
     clear p3 f3 P2 K2 c0' c1' c2' c3' C4
     by_cases hc : c = 0
     ·subst hc
      rw [if_pos rfl] at HR
      go_wp2_with fail
      refine (P3.out.call (fun own' hp => C5.out W6 own' hp)).mono ?_
      rintro e W7 ⟨rfl, p4, f4⟩
      have P4 := hid p4
      clear p4 f4 P3 C5
      go_wp2
      go_ret
      rw [HR.out]
      exact ⟨rfl, P4.out.done⟩
     ·have he2 : ((c : Int) == 0) = false := by simp; omega
      have he3 : ((c : Int) != 0) = true := by simp; omega
      rw [if_neg hc] at HR
      go_wp2
      go_ret
      rw [HR.out]
      exact ⟨rfl, P3.out.done⟩
   ·rw [if_pos rfl] at HR
    go_wp2_with (refine wpList_storeAgg rfl 99 _ _ rfl rfl W3.heap.size 99 _ #[.int .i64 d0, .int .i64 d1, .int .i64 d2, .int .i64 d3, .int .i64 d4, .int .i64 d5, .int .i64 d6, .int .i64 d7, .string ds, .bool mu, .bool true, .int .i64 x0, .int .i64 x1, .int .i64 x2, .int .i64 x3, .int .i64 x4, .int .i64 x5, .int .i64 x6, .int .i64 x7] rfl rfl (Blk.new W3 _ _) rfl aggPlace (one_all rfl) ?_; intro W4 hB4 hF4; have HB4 := hid hB4; have HF4 := hid hF4; have e10 : W4.cell? ⟨W3.heap.size, 10, none⟩ = some (.bool true) := hB4.cell 10; clear hB4 hF4)
    go_ret
    rw [HR.out]
    exact ⟨rfl, (Pk.start (L := fun _ => False) H.out (below_one (bal B3.out _) (by omega) HF4.out) (fun _ => False.elim)).done⟩
  ·have he2 : ((er : Int) == 0) = false := by simp; omega
   have he3 : ((er : Int) != 0) = true := by simp; omega
   rw [if_neg he] at HR
   go_wp2_with (refine wpList_storeAgg rfl 99 _ _ rfl rfl W3.heap.size 99 _ #[.int .i64 d0, .int .i64 d1, .int .i64 d2, .int .i64 d3, .int .i64 d4, .int .i64 d5, .int .i64 d6, .int .i64 d7, .string ds, .bool mu, .bool tk, .int .i64 x0, .int .i64 x1, .int .i64 x2, .int .i64 x3, .int .i64 x4, .int .i64 x5, .int .i64 x6, .int .i64 x7] rfl rfl (Blk.new W3 _ _) rfl aggPlace (one_all rfl) ?_; intro W4 hB4 hF4; have HB4 := hid hB4; have HF4 := hid hF4; have e10 : W4.cell? ⟨W3.heap.size, 10, none⟩ = some (.bool tk) := hB4.cell 10; clear hB4 hF4)
   go_ret
   rw [HR.out]
   exact ⟨rfl, (Pk.start (L := fun _ => False) H.out (below_one (bal B3.out _) (by omega) HF4.out) (fun _ => False.elim)).done⟩
end
section
open Go.RowKit Ino Go.Maps
open Pa (Blk strV)
variable {own : Nat → Prop} {t : T}
noncomputable def linkA (t : T) (u g : Int) (n : Inf × Nat) (q : Pla) : T × Nat :=
 if n.2 = 0 then
  if (n.1.kind == 1) = true then (t, 7)
  else if q.err = 0 then
   if q.taken = true then (t, 5)
   else if q.must = true then (t, 6)
   else if mayI q.dir u g 2 = true then enterP t q.dir.ino q.name n.1.ino
   else (t, 4)
  else (t, q.err)
 else (t, n.2)
theorem wLink_any (A : Nat) (cwd r u s k g : Int) (p a : ByteArray) (hp : p.size ≤ maxLen) (ha : a.size ≤ maxLen) (w : World) (h : PTo w A own t) (hsd : Sd t)
 (hns : (plaP t (placeP t cwd u g a.data.toList)).name.length ≤ 1000) :
 Calls Tryz.prog 25 #[.pointer (some ⟨A, 0, none⟩), .int .i64 cwd, .agg #[.int .i64 r, .int .i64 u, .int .i64 s, .int .i64 k, .int .i64 g], .string p, .string a] w fun e w' =>
  e = .returned (.int .i64 ((linkA t u g (toldI t (findP t cwd u g p.data.toList)) (plaP t (placeP t cwd u g a.data.toList))).2 : Int)) ∧ Pt w A own (linkA t u g (toldI t (findP t cwd u g p.data.toList)) (plaP t (placeP t cwd u g a.data.toList))).1 w' := by
 have C1 := hid (fun W => wcallerOf_any A cwd r u s k g W)
 have C2 := hid (fun W (hq : PTo W A own t) => wfind_any A cwd u g p hp W hq hsd)
 have C3 := hid (fun W (hq : PTo W A own t) => wlocate_any A cwd u g a ha W hq hsd)
 have HPT := hid (fun W (hb : Below w.heap.size w W) => h.below hb)
 generalize plaP t (placeP t cwd u g a.data.toList) = q at *
 generalize toldI t (findP t cwd u g p.data.toList) = n at *
 have hsz : (⟨q.name.toArray⟩ : ByteArray).size ≤ maxLen := by show q.name.length ≤ maxLen; unfold maxLen; omega
 have C4 := hid (fun W => wisDir_any n.1 W)
 have C5 := hid (fun W => wmayI_any A cwd u g 2 q.dir W)
 have C6 := hid (fun W own' (hq : PTo W A own' t) => penter_any q.dir.ino n.1.ino ⟨q.name.toArray⟩ W hq hsd hsz)
 have hR : linkA t u g n q = if n.2 = 0 then
  if (n.1.kind == 1) = true then (t, 7)
  else if q.err = 0 then
   if q.taken = true then (t, 5)
   else if q.must = true then (t, 6)
   else if mayI q.dir u g 2 = true then enterP t q.dir.ino q.name n.1.ino
   else (t, 4)
  else (t, q.err)
 else (t, n.2) := rfl
 have e2 : (⟨q.name.toArray⟩ : ByteArray).data.toList = q.name := rfl
 rw [e2] at C6
 generalize linkA t u g n q = R at hR ⊢
 generalize mayI q.dir u g 2 = my at *
 obtain ⟨t1, c1, hen⟩ : ∃ t1 c1, enterP t q.dir.ino q.name n.1.ino = (t1, c1) := ⟨_, _, rfl⟩
 rw [hen] at C6 hR
 obtain ⟨⟨d0, d1, d2, d3, d4, d5, d6, d7⟩, nm, mu, tk, ⟨x0, x1, x2, x3, x4, x5, x6, x7⟩, er⟩ := q
 obtain ⟨⟨f0, f1, f2, f3, f4, f5, f6, f7⟩, fe⟩ := n
 simp only [plaV, plcC, strV, ansV, infAg, infC] at C2 C3 C4 C5 C6 hR
 have HR := hid hR
 have H := hid h
 clear hns hp ha h hsd hR hsz e2 hen
 generalize (⟨nm.toArray⟩ : ByteArray) = ds at *
 go_enter Tryz.func25, Tryz.ntmps25
 go_wp2_with fail
 refine calls_world (fun W => Below w.heap.size w W) (by first | exact Below.refl _ _ | exact bel1 _ _) ?_
 rintro W b0
 refine (C1.out W).mono ?_
 rintro e W1 ⟨rfl, b1⟩
 have B1 := hid (bnext b0 b1)
 have l1 : w.heap.size ≤ W1.heap.size := B1.out.size
 clear b0 b1
 go_wp2_with fail
 refine calls_world (fun W => Blk W W1.heap.size 102 (calC A cwd u g) ∧ Below w.heap.size w W) ⟨Blk.new W1 _ _, bal B1.out _⟩ ?_
 rintro W2 ⟨k1, b2⟩
 refine (C2.out W2 (HPT.out _ b2)).mono ?_
 rintro e W3 ⟨rfl, b3⟩
 have k1 := k1.up b3
 have l3 : W1.heap.size < W3.heap.size := k1.lt
 have B3 := hid (bnext b2 b3)
 have K1 := hid k1
 clear k1 b2 b3 B1 C1 C2
 by_cases hfe : fe = 0
 ·subst hfe
  rw [if_pos rfl] at HR
  go_wp2_with fail
  refine calls_world (fun W => Blk W W1.heap.size 102 (calC A cwd u g) ∧ Blk W W3.heap.size 50 #[.int .i64 f0, .int .i64 f1, .int .i64 f2, .int .i64 f3, .int .i64 f4, .int .i64 f5, .int .i64 f6, .int .i64 f7] ∧ Below w.heap.size w W) ⟨K1.out.alloc _, Blk.new W3 _ _, bal B3.out _⟩ ?_
  rintro W4 ⟨k1, k2, b4⟩
  refine (C4.out W4).mono ?_
  rintro e W5 ⟨rfl, b5⟩
  have k1 := k1.up b5
  have k2 := k2.up b5
  have B5 := hid (bnext b4 b5)
  obtain ⟨c0, c1', c2, c3⟩ := k1.c4
  have K1 := hid k1
  have K2 := hid k2
  clear k1 k2 b4 b5 B3 C4
  cases hk : (f1 == 1)
  ·rw [hk] at HR
   rw [if_neg Bool.false_ne_true] at HR
   go_wp2_with fail
   refine (C3.out W5 (HPT.out _ B5.out)).mono ?_
   rintro e W7 ⟨rfl, b7⟩
   have k1 := K1.out.up b7
   have k2 := K2.out.up b7
   have l7 : W3.heap.size < W7.heap.size := k2.lt
   have B7 := hid (bnext B5.out b7)
   clear c0 c1' c2 c3 K1 K2 B5 b7 C3 HPT
   obtain ⟨c0, c1, c2, c3⟩ := k1.c4
   obtain ⟨i0, i1, i2, i3, i4, i5, i6, i7⟩ := k2.c8
   have K1 := hid k1
   have K2 := hid k2
   clear k1 k2
   by_cases he : er = 0
   ·subst he
    rw [if_pos rfl] at HR
    cases tk
    ·rw [if_neg Bool.false_ne_true] at HR
     cases mu
     ·rw [if_neg Bool.false_ne_true] at HR
      go_wp2_with (refine wpList_storeAgg rfl 99 _ _ rfl rfl W7.heap.size 99 _ #[.int .i64 d0, .int .i64 d1, .int .i64 d2, .int .i64 d3, .int .i64 d4, .int .i64 d5, .int .i64 d6, .int .i64 d7, .string ds, .bool false, .bool false, .int .i64 x0, .int .i64 x1, .int .i64 x2, .int .i64 x3, .int .i64 x4, .int .i64 x5, .int .i64 x6, .int .i64 x7] rfl rfl (Blk.new W7 _ _) rfl aggPlace (one_all rfl) ?_; intro W8 hB4 hF4; have HB4 := hid hB4; have HF4 := hid hF4; clear c0 c1 c2 c3 i0 i1 i2 i3 i4 i5 i6 i7; obtain ⟨c0, c1, c2, c3⟩ := ((K1.out.alloc _).off hF4 (by omega)).c4; obtain ⟨i0, i1, i2, i3, i4, i5, i6, i7⟩ := ((K2.out.alloc _).off hF4 (by omega)).c8; obtain ⟨e0, e1, e2, e3, e4, e5, e6, e7, e8, e9, e10, e11, e12, e13, e14, e15, e16, e17, e18⟩ := hB4.c19; clear hB4 hF4)
      have k1 := (K1.out.alloc _).off HF4.out (by omega)
      have k2 := (K2.out.alloc _).off HF4.out (by omega)
      have k3 := HB4.out
      have p1 : Pk (fun g => g = W1.heap.size ∨ g = W3.heap.size ∨ g = W7.heap.size) w own A t W8 := Pk.start H.out (below_one (bal B7.out _) (by omega) HF4.out) (fun g hg => by have := k3.lt; omega)
      clear HB4 HF4 e0 e1 e2 e3 e4 e5 e6 e7 e8 e9 e10 e11 e12 e13 e14 e15 e16 e17 e18 c0 c1 c2 c3 i0 i1 i2 i3 i4 i5 i6 i7
      refine (C5.out W8).mono ?_
      rintro e W9 ⟨rfl, b9⟩
      have k1 := k1.up b9
      have k2 := k2.up b9
      have k3 := k3.up b9
      have p2 := p1.up b9 (L' := fun g => g = W1.heap.size ∨ g = W3.heap.size ∨ g = W7.heap.size) (fun g => .inl)
      obtain ⟨i0, i1, i2, i3, i4, i5, i6, i7⟩ := k2.c8
      have e0 := k3.cell 0
      have e8 := k3.cell 8
      simp only [jD, jF, jE] at e0 e8
      have P2 := hid p2
      clear k1 k2 k3 p1 p2 b9 H K1 K2 B7 C5
      cases my
      ·rw [if_neg Bool.false_ne_true] at HR
       go_wp2
       go_ret
       rw [HR.out]
       exact ⟨rfl, P2.out.done⟩
      ·rw [if_pos rfl] at HR
       go_wp2_with fail
       refine (P2.out.call (fun own' hp => C6.out W9 own' hp)).mono ?_
       rintro e W10 ⟨rfl, p3, f3⟩
       have P3 := hid p3
       clear p3 f3 P2 C6 e0 e8 i0 i1 i2 i3 i4 i5 i6 i7
       go_wp2
       go_ret
       rw [HR.out]
       exact ⟨rfl, P3.out.done⟩
     ·rw [if_pos rfl] at HR
      go_wp2_with (refine wpList_storeAgg rfl 99 _ _ rfl rfl W7.heap.size 99 _ #[.int .i64 d0, .int .i64 d1, .int .i64 d2, .int .i64 d3, .int .i64 d4, .int .i64 d5, .int .i64 d6, .int .i64 d7, .string ds, .bool true, .bool false, .int .i64 x0, .int .i64 x1, .int .i64 x2, .int .i64 x3, .int .i64 x4, .int .i64 x5, .int .i64 x6, .int .i64 x7] rfl rfl (Blk.new W7 _ _) rfl aggPlace (one_all rfl) ?_; intro W8 hB4 hF4; have HB4 := hid hB4; have HF4 := hid hF4; clear c0 c1 c2 c3 i0 i1 i2 i3 i4 i5 i6 i7; obtain ⟨c0, c1, c2, c3⟩ := ((K1.out.alloc _).off hF4 (by omega)).c4; obtain ⟨i0, i1, i2, i3, i4, i5, i6, i7⟩ := ((K2.out.alloc _).off hF4 (by omega)).c8; obtain ⟨e0, e1, e2, e3, e4, e5, e6, e7, e8, e9, e10, e11, e12, e13, e14, e15, e16, e17, e18⟩ := hB4.c19; clear hB4 hF4)
      go_ret
      rw [HR.out]
      exact ⟨rfl, (Pk.start (L := fun _ => False) H.out (below_one (bal B7.out _) (by omega) HF4.out) (fun _ => False.elim)).done⟩
    ·rw [if_pos rfl] at HR
     go_wp2_with (refine wpList_storeAgg rfl 99 _ _ rfl rfl W7.heap.size 99 _ #[.int .i64 d0, .int .i64 d1, .int .i64 d2, .int .i64 d3, .int .i64 d4, .int .i64 d5, .int .i64 d6, .int .i64 d7, .string ds, .bool mu, .bool true, .int .i64 x0, .int .i64 x1, .int .i64 x2, .int .i64 x3, .int .i64 x4, .int .i64 x5, .int .i64 x6, .int .i64 x7] rfl rfl (Blk.new W7 _ _) rfl aggPlace (one_all rfl) ?_; intro W8 hB4 hF4; have HB4 := hid hB4; have HF4 := hid hF4; clear c0 c1 c2 c3 i0 i1 i2 i3 i4 i5 i6 i7; obtain ⟨c0, c1, c2, c3⟩ := ((K1.out.alloc _).off hF4 (by omega)).c4; obtain ⟨i0, i1, i2, i3, i4, i5, i6, i7⟩ := ((K2.out.alloc _).off hF4 (by omega)).c8; obtain ⟨e0, e1, e2, e3, e4, e5, e6, e7, e8, e9, e10, e11, e12, e13, e14, e15, e16, e17, e18⟩ := hB4.c19; clear hB4 hF4)
     go_ret
     rw [HR.out]
     exact ⟨rfl, (Pk.start (L := fun _ => False) H.out (below_one (bal B7.out _) (by omega) HF4.out) (fun _ => False.elim)).done⟩
   ·have he2 : ((er : Int) == 0) = false := by simp; omega
    have he3 : ((er : Int) != 0) = true := by simp; omega
    rw [if_neg he] at HR
    go_wp2_with (refine wpList_storeAgg rfl 99 _ _ rfl rfl W7.heap.size 99 _ #[.int .i64 d0, .int .i64 d1, .int .i64 d2, .int .i64 d3, .int .i64 d4, .int .i64 d5, .int .i64 d6, .int .i64 d7, .string ds, .bool mu, .bool tk, .int .i64 x0, .int .i64 x1, .int .i64 x2, .int .i64 x3, .int .i64 x4, .int .i64 x5, .int .i64 x6, .int .i64 x7] rfl rfl (Blk.new W7 _ _) rfl aggPlace (one_all rfl) ?_; intro W8 hB4 hF4; have HB4 := hid hB4; have HF4 := hid hF4; clear c0 c1 c2 c3 i0 i1 i2 i3 i4 i5 i6 i7; obtain ⟨c0, c1, c2, c3⟩ := ((K1.out.alloc _).off hF4 (by omega)).c4; obtain ⟨i0, i1, i2, i3, i4, i5, i6, i7⟩ := ((K2.out.alloc _).off hF4 (by omega)).c8; obtain ⟨e0, e1, e2, e3, e4, e5, e6, e7, e8, e9, e10, e11, e12, e13, e14, e15, e16, e17, e18⟩ := hB4.c19; clear hB4 hF4)
    go_ret
    rw [HR.out]
    exact ⟨rfl, (Pk.start (L := fun _ => False) H.out (below_one (bal B7.out _) (by omega) HF4.out) (fun _ => False.elim)).done⟩
  ·rw [hk] at HR
   rw [if_pos rfl] at HR
   go_wp2
   go_ret
   rw [HR.out]
   exact ⟨rfl, (Pk.start (L := fun _ => False) H.out B5.out (fun _ => False.elim)).done⟩
 ·have he2 : ((fe : Int) == 0) = false := by simp; omega
  have he3 : ((fe : Int) != 0) = true := by simp; omega
  rw [if_neg hfe] at HR
  go_wp2
  go_ret
  rw [HR.out]
  exact ⟨rfl, (Pk.start (L := fun _ => False) H.out (bal B3.out _) (fun _ => False.elim)).done⟩
end
end Go.Proofs.YtlpececggkdhmaaGreat
