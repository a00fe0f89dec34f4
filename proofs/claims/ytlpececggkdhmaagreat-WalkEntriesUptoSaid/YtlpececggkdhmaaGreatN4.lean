import Derived.Test.YtlpececggkdhmaaGreatN3
open Go.Lib (hid)
open List renaming getElem?_toArray → jD, getElem?_cons_succ → jE, getElem?_cons_zero → jF
set_option linter.unusedVariables false
set_option linter.unusedSimpArgs false
set_option maxHeartbeats 4000000
set_option maxRecDepth 100000
namespace Go.Proofs.YtlpececggkdhmaaGreat
section
open Go.RowKit Ino Go.Maps
open Pa (Blk strV)
variable {own : Nat → Prop} {t : T}
noncomputable def removeA (t : T) (u g : Int) (dir : Bool) (q : Pla) : T × Nat :=
 if q.err = 0 then
  if q.taken = true then
   if (dir || q.must) = true ∧ (q.entry.kind == 1) = false then (t, 6)
   else if dir = false ∧ (q.entry.kind == 1) = true then (t, 7)
   else if mayI q.dir u g 2 = true then
    if stickyA ⟨q.dir, q.name, q.must, q.taken, q.entry⟩ u = true then removeP t q.dir.ino q.name else (t, 2)
   else (t, 4)
  else (t, 3)
 else (t, q.err)
theorem wRemove_any (A : Nat) (cwd r u s k g : Int) (p : ByteArray) (hp : p.size ≤ maxLen) (dir : Bool) (w : World) (h : PTo w A own t) (hs : Sound t)
 (hns : (plaP t (placeP t cwd u g p.data.toList)).name.length ≤ 1000) :
 Calls Tryz.prog 24 #[.pointer (some ⟨A, 0, none⟩), .int .i64 cwd, .agg #[.int .i64 r, .int .i64 u, .int .i64 s, .int .i64 k, .int .i64 g], .string p, .bool dir] w fun e w' =>
  e = .returned (.int .i64 ((removeA t u g dir (plaP t (placeP t cwd u g p.data.toList))).2 : Int)) ∧ Pt w A own (removeA t u g dir (plaP t (placeP t cwd u g p.data.toList))).1 w' := by
 have C1 := hid (fun W => wcallerOf_any A cwd r u s k g W)
 have C2 := hid (fun W (hq : PTo W A own t) => wlocate_any A cwd u g p hp W hq hs.sd)
 have HPT := hid (fun W (hb : Below w.heap.size w W) => h.below hb)
 generalize plaP t (placeP t cwd u g p.data.toList) = q at *
 have hsz : (⟨q.name.toArray⟩ : ByteArray).size ≤ maxLen := by show q.name.length ≤ maxLen; unfold maxLen; omega
 have C4 := hid (fun W => wisDir_any q.entry W)
 have C5 := hid (fun W => wmayI_any A cwd u g 2 q.dir W)
 have C7 := hid (fun W => wkeeps_any A cwd u g ⟨q.dir, q.name, q.must, q.taken, q.entry⟩ W)
 have C6 := hid (fun W own' (hq : PTo W A own' t) => premoveE_any q.dir.ino ⟨q.name.toArray⟩ W hq hs hsz)
 have hR : removeA t u g dir q = if q.err = 0 then
  if q.taken = true then
   if (dir || q.must) = true ∧ (q.entry.kind == 1) = false then (t, 6)
   else if dir = false ∧ (q.entry.kind == 1) = true then (t, 7)
   else if mayI q.dir u g 2 = true then
    if stickyA ⟨q.dir, q.name, q.must, q.taken, q.entry⟩ u = true then removeP t q.dir.ino q.name else (t, 2)
   else (t, 4)
  else (t, 3)
 else (t, q.err) := rfl
 have e2 : (⟨q.name.toArray⟩ : ByteArray).data.toList = q.name := rfl
 rw [e2] at C6
 simp only at C7
 generalize removeA t u g dir q = R at hR ⊢
 generalize mayI q.dir u g 2 = my at *
 generalize stickyA ⟨q.dir, q.name, q.must, q.taken, q.entry⟩ u = st at *
 generalize (q.entry.kind == 1) = kd at *
 obtain ⟨t1, c1, hen⟩ : ∃ t1 cz, removeP t q.dir.ino q.name = (t1, cz) := ⟨_, _, rfl⟩
 rw [hen] at C6 hR
 obtain ⟨⟨d0, d1, d2, d3, d4, d5, d6, d7⟩, nm, mu, tk, ⟨x0, x1, x2, x3, x4, x5, x6, x7⟩, er⟩ := q
 simp only [plaV, plcC, strV] at C2 C4 C5 C6 C7 hR
 have HR := hid hR
 have H := hid h
 clear hns hp h hs hR hsz e2 hen
 generalize (⟨nm.toArray⟩ : ByteArray) = ds at *
 go_enter Tryz.func24, Tryz.ntmps24
 go_wp2_with fail
 refine calls_world (fun W => Below w.heap.size w W) (by first | exact Below.refl _ _ | exact bel1 _ _) ?_
 rintro W b0
 refine (C1.out W).mono ?_
 rintro e W1 ⟨rfl, b1⟩
 have B1 := hid (bnext b0 b1)
 have l1 : w.heap.size ≤ W1.heap.size := B1.out.size
 clear b0 b1
 go_wp2_with fail
 refine calls_world (fun W => Blk W W1.heap.size 102 (calC A cwd u g) ∧ Below w.heap.size w W) ⟨Blk.new W1 _ _, bal B1.out _⟩ ?_
 rintro W2 ⟨k1, b2⟩
 refine (C2.out W2 (HPT.out _ b2)).mono ?_
 rintro e W3 ⟨rfl, b3⟩
 have k1 := k1.up b3
 have l3 : W1.heap.size < W3.heap.size := k1.lt
 have B3 := hid (bnext b2 b3)
 obtain ⟨c0, c1, c2, c3⟩ := k1.c4
 have K1 := hid k1
 clear k1 b2 b3 B1 C1 C2 HPT
 by_cases he : er = 0
 ·subst he
  cases tk
  ·go_wp2_with (refine wpList_storeAgg rfl 99 _ _ rfl rfl W3.heap.size 99 _ #[.int .i64 d0, .int .i64 d1, .int .i64 d2, .int .i64 d3, .int .i64 d4, .int .i64 d5, .int .i64 d6, .int .i64 d7, .string ds, .bool mu, .bool false, .int .i64 x0, .int .i64 x1, .int .i64 x2, .int .i64 x3, .int .i64 x4, .int .i64 x5, .int .i64 x6, .int .i64 x7] rfl rfl (Blk.new W3 _ _) rfl aggPlace (one_all rfl) ?_; intro W4 hB4 hF4; have HB4 := hid hB4; have HF4 := hid hF4; clear c0 c1 c2 c3; obtain ⟨c0, c1, c2, c3⟩ := ((K1.out.alloc _).off hF4 (by omega)).c4; obtain ⟨e0, e1, e2, e3, e4, e5, e6, e7, e8, e9, e10, e11, e12, e13, e14, e15, e16, e17, e18⟩ := hB4.c19; clear hB4 hF4)
   go_ret
   rw [show R = (t, 3) by rw [HR.out]; simp]
   exact ⟨rfl, (Pk.start (L := fun _ => False) H.out (below_one (bal B3.out _) (by omega) HF4.out) (fun _ => False.elim)).done⟩
  ·cases dir
   ·cases mu
    ·skip
     go_wp2_with (refine wpList_storeAgg rfl 99 _ _ rfl rfl W3.heap.size 99 _ #[.int .i64 d0, .int .i64 d1, .int .i64 d2, .int .i64 d3, .int .i64 d4, .int .i64 d5, .int .i64 d6, .int .i64 d7, .string ds, .bool false, .bool true, .int .i64 x0, .int .i64 x1, .int .i64 x2, .int .i64 x3, .int .i64 x4, .int .i64 x5, .int .i64 x6, .int .i64 x7] rfl rfl (Blk.new W3 _ _) rfl aggPlace (one_all rfl) ?_; intro W4 hB4 hF4; have HB4 := hid hB4; have HF4 := hid hF4; clear c0 c1 c2 c3; obtain ⟨c0, c1, c2, c3⟩ := ((K1.out.alloc _).off hF4 (by omega)).c4; obtain ⟨e0, e1, e2, e3, e4, e5, e6, e7, e8, e9, e10, e11, e12, e13, e14, e15, e16, e17, e18⟩ := hB4.c19; clear hB4 hF4)
     have p := Pk.start (L := (fun g => g = W1.heap.size ∨ g = W3.heap.size)) H.out (below_one (bal B3.out _) (by omega) HF4.out) (fun g hg => by have := HB4.out.lt; omega)
     have k1 := (K1.out.alloc _).off HF4.out (by omega)
     have k2 := HB4.out
     clear K1 HB4 HF4 H B3
     have K1 := hid k1
     have K2 := hid k2
     have P := hid p
     clear k1 k2 p
     refine (C4.out _).mono ?_
     rintro e W5 ⟨rfl, b⟩
     have k1 := K1.out.up b
     have k2 := K2.out.up b
     have p := P.out.up b (L' := (fun g => g = W1.heap.size ∨ g = W3.heap.size)) (fun g => .inl)
     clear c0 c1 c2 c3 e0 e1 e2 e3 e4 e5 e6 e7 e8 e9 e10 e11 e12 e13 e14 e15 e16 e17 e18 K1 K2 P b
     obtain ⟨c0, c1, c2, c3⟩ := k1.c4
     obtain ⟨e0, e1, e2, e3, e4, e5, e6, e7, e8, e9, e10, e11, e12, e13, e14, e15, e16, e17, e18⟩ := k2.c19
     have K1 := hid k1
     have K2 := hid k2
     have P := hid p
     clear k1 k2 p
     cases kd
     ·skip
      go_wp2_with fail
      refine (C5.out _).mono ?_
      rintro e W6 ⟨rfl, b⟩
      have k1 := K1.out.up b
      have k2 := K2.out.up b
      have p := P.out.up b (L' := (fun g => g = W1.heap.size ∨ g = W3.heap.size)) (fun g => .inl)
      clear c0 c1 c2 c3 e0 e1 e2 e3 e4 e5 e6 e7 e8 e9 e10 e11 e12 e13 e14 e15 e16 e17 e18 K1 K2 P b
      obtain ⟨c0, c1, c2, c3⟩ := k1.c4
      obtain ⟨e0, e1, e2, e3, e4, e5, e6, e7, e8, e9, e10, e11, e12, e13, e14, e15, e16, e17, e18⟩ := k2.c19
      have K1 := hid k1
      have K2 := hid k2
      have P := hid p
      clear k1 k2 p
      cases my
      ·skip
       go_wp2
       go_ret
       rw [show R = (t, 4) by rw [HR.out]; simp]
       exact ⟨rfl, P.out.done⟩
      ·skip
       go_wp2_with (refine wpList_loadAgg rfl 99 _ rfl W3.heap.size 99 _ rfl K2.out aggPlace ?_)
       refine (C7.out _).mono ?_
       rintro e W7 ⟨rfl, b⟩
       have k1 := K1.out.up b
       have k2 := K2.out.up b
       have p := P.out.up b (L' := (fun g => g = W1.heap.size ∨ g = W3.heap.size)) (fun g => .inl)
       clear c0 c1 c2 c3 e0 e1 e2 e3 e4 e5 e6 e7 e8 e9 e10 e11 e12 e13 e14 e15 e16 e17 e18 K1 K2 P b
       obtain ⟨c0, c1, c2, c3⟩ := k1.c4
       obtain ⟨e0, e1, e2, e3, e4, e5, e6, e7, e8, e9, e10, e11, e12, e13, e14, e15, e16, e17, e18⟩ := k2.c19
       have K1 := hid k1
       have K2 := hid k2
       have P := hid p
       clear k1 k2 p
       cases st
       ·skip
        go_wp2
        go_ret
        rw [show R = (t, 2) by rw [HR.out]; simp]
        exact ⟨rfl, P.out.done⟩
       ·skip
        go_wp2_with fail
        refine (P.out.call (fun own' hp => C6.out _ own' hp)).mono ?_
        rintro e Wz ⟨rfl, p, f⟩
        have Pz := hid p
        clear p f P c0 c1 c2 c3 e0 e1 e2 e3 e4 e5 e6 e7 e8 e9 e10 e11 e12 e13 e14 e15 e16 e17 e18 K1 K2
        go_wp2
        go_ret
        rw [show R = (t1, c1) by rw [HR.out]; simp]
        exact ⟨rfl, Pz.out.done⟩
     ·skip
      go_wp2
      go_ret
      rw [show R = (t, 7) by rw [HR.out]; simp]
      exact ⟨rfl, P.out.done⟩
    ·skip
     go_wp2_with (refine wpList_storeAgg rfl 99 _ _ rfl rfl W3.heap.size 99 _ #[.int .i64 d0, .int .i64 d1, .int .i64 d2, .int .i64 d3, .int .i64 d4, .int .i64 d5, .int .i64 d6, .int .i64 d7, .string ds, .bool true, .bool true, .int .i64 x0, .int .i64 x1, .int .i64 x2, .int .i64 x3, .int .i64 x4, .int .i64 x5, .int .i64 x6, .int .i64 x7] rfl rfl (Blk.new W3 _ _) rfl aggPlace (one_all rfl) ?_; intro W4 hB4 hF4; have HB4 := hid hB4; have HF4 := hid hF4; clear c0 c1 c2 c3; obtain ⟨c0, c1, c2, c3⟩ := ((K1.out.alloc _).off hF4 (by omega)).c4; obtain ⟨e0, e1, e2, e3, e4, e5, e6, e7, e8, e9, e10, e11, e12, e13, e14, e15, e16, e17, e18⟩ := hB4.c19; clear hB4 hF4)
     have p := Pk.start (L := (fun g => g = W1.heap.size ∨ g = W3.heap.size)) H.out (below_one (bal B3.out _) (by omega) HF4.out) (fun g hg => by have := HB4.out.lt; omega)
     have k1 := (K1.out.alloc _).off HF4.out (by omega)
     have k2 := HB4.out
     clear K1 HB4 HF4 H B3
     have K1 := hid k1
     have K2 := hid k2
     have P := hid p
     clear k1 k2 p
     refine (C4.out _).mono ?_
     rintro e W8 ⟨rfl, b⟩
     have k1 := K1.out.up b
     have k2 := K2.out.up b
     have p := P.out.up b (L' := (fun g => g = W1.heap.size ∨ g = W3.heap.size)) (fun g => .inl)
     clear c0 c1 c2 c3 e0 e1 e2 e3 e4 e5 e6 e7 e8 e9 e10 e11 e12 e13 e14 e15 e16 e17 e18 K1 K2 P b
     obtain ⟨c0, c1, c2, c3⟩ := k1.c4
     obtain ⟨e0, e1, e2, e3, e4, e5, e6, e7, e8, e9, e10, e11, e12, e13, e14, e15, e16, e17, e18⟩ := k2.c19
     have K1 := hid k1
     have K2 := hid k2
     have P := hid p
     clear k1 k2 p
     cases kd
     ·skip
      go_wp2
      go_ret
      rw [show R = (t, 6) by rw [HR.out]; simp]
      exact ⟨rfl, P.out.done⟩
     ·skip
      go_wp2_with fail
      refine (C4.out _).mono ?_
      rintro e W9 ⟨rfl, b⟩
      have k1 := K1.out.up b
      have k2 := K2.out.up b
      have p := P.out.up b (L' := (fun g => g = W1.heap.size ∨ g = W3.heap.size)) (fun g => .inl)
      clear c0 c1 c2 c3 e0 e1 e2 e3 e4 e5 e6 e7 e8 e9 e10 e11 e12 e13 e14 e15 e16 e17 e18 K1 K2 P b
      obtain ⟨c0, c1, c2, c3⟩ := k1.c4
      obtain ⟨e0, e1, e2, e3, e4, e5, e6, e7, e8, e9, e10, e11, e12, e13, e14, e15, e16, e17, e18⟩ := k2.c19
      have K1 := hid k1
      have K2 := hid k2
      have P := hid p
      clear k1 k2 p
      go_wp2
      go_ret
      rw [show R = (t, 7) by rw [HR.out]; simp]
      exact ⟨rfl, P.out.done⟩
   ·skip
    go_wp2_with (refine wpList_storeAgg rfl 99 _ _ rfl rfl W3.heap.size 99 _ #[.int .i64 d0, .int .i64 d1, .int .i64 d2, .int .i64 d3, .int .i64 d4, .int .i64 d5, .int .i64 d6, .int .i64 d7, .string ds, .bool mu, .bool true, .int .i64 x0, .int .i64 x1, .int .i64 x2, .int .i64 x3, .int .i64 x4, .int .i64 x5, .int .i64 x6, .int .i64 x7] rfl rfl (Blk.new W3 _ _) rfl aggPlace (one_all rfl) ?_; intro W4 hB4 hF4; have HB4 := hid hB4; have HF4 := hid hF4; clear c0 c1 c2 c3; obtain ⟨c0, c1, c2, c3⟩ := ((K1.out.alloc _).off hF4 (by omega)).c4; obtain ⟨e0, e1, e2, e3, e4, e5, e6, e7, e8, e9, e10, e11, e12, e13, e14, e15, e16, e17, e18⟩ := hB4.c19; clear hB4 hF4)
    have p := Pk.start (L := (fun g => g = W1.heap.size ∨ g = W3.heap.size)) H.out (below_one (bal B3.out _) (by omega) HF4.out) (fun g hg => by have := HB4.out.lt; omega)
    have k1 := (K1.out.alloc _).off HF4.out (by omega)
    have k2 := HB4.out
    clear K1 HB4 HF4 H B3
    have K1 := hid k1
    have K2 := hid k2
    have P := hid p
    clear k1 k2 p
    refine (C4.out _).mono ?_
    rintro e W10 ⟨rfl, b⟩
    have k1 := K1.out.up b
    have k2 := K2.out.up b
    have p := P.out.up b (L' := (fun g => g = W1.heap.size ∨ g = W3.heap.size)) (fun g => .inl)
    clear c0 c1 c2 c3 e0 e1 e2 e3 e4 e5 e6 e7 e8 e9 e10 e11 e12 e13 e14 e15 e16 e17 e18 K1 K2 P b
    obtain ⟨c0, c1, c2, c3⟩ := k1.c4
    obtain ⟨e0, e1, e2, e3, e4, e5, e6, e7, e8, e9, e10, e11, e12, e13, e14, e15, e16, e17, e18⟩ := k2.c19
    have K1 := hid k1
    have K2 := hid k2
    have P := hid p
    clear k1 k2 p
    cases kd
    ·skip
     go_wp2
     go_ret
     rw [show R = (t, 6) by rw [HR.out]; simp]
     exact ⟨rfl, P.out.done⟩
    ·skip
     go_wp2_with fail
     refine (C5.out _).mono ?_
     rintro e W11 ⟨rfl, b⟩
     have k1 := K1.out.up b
     have k2 := K2.out.up b
     have p := P.out.up b (L' := (fun g => g = W1.heap.size ∨ g = W3.heap.size)) (fun g => .inl)
     clear c0 c1 c2 c3 e0 e1 e2 e3 e4 e5 e6 e7 e8 e9 e10 e11 e12 e13 e14 e15 e16 e17 e18 K1 K2 P b
     obtain ⟨c0, c1, c2, c3⟩ := k1.c4
     obtain ⟨e0, e1, e2, e3, e4, e5, e6, e7, e8, e9, e10, e11, e12, e13, e14, e15, e16, e17, e18⟩ := k2.c19
     have K1 := hid k1
     have K2 := hid k2
     have P := hid p
     clear k1 k2 p
     cases my
     ·skip
      go_wp2
      go_ret
      rw [show R = (t, 4) by rw [HR.out]; simp]
      exact ⟨rfl, P.out.done⟩
     ·skip
      go_wp2_with (refine wpList_loadAgg rfl 99 _ rfl W3.heap.size 99 _ rfl K2.out aggPlace ?_)
      refine (C7.out _).mono ?_
      rintro e W12 ⟨rfl, b⟩
      have k1 := K1.out.up b
      have k2 := K2.out.up b
      have p := P.out.up b (L' := (fun g => g = W1.heap.size ∨ g = W3.heap.size)) (fun g => .inl)
      clear c0 c1 c2 c3 e0 e1 e2 e3 e4 e5 e6 e7 e8 e9 e10 e11 e12 e13 e14 e15 e16 e17 e18 K1 K2 P b
      obtain ⟨c0, c1, c2, c3⟩ := k1.c4
      obtain ⟨e0, e1, e2, e3, e4, e5, e6, e7, e8, e9, e10, e11, e12, e13, e14, e15, e16, e17, e18⟩ := k2.c19
      have K1 := hid k1
      have K2 := hid k2
      have P := hid p
      clear k1 k2 p
      cases st
      ·skip
       go_wp2
       go_ret
       rw [show R = (t, 2) by rw [HR.out]; simp]
       exact ⟨rfl, P.out.done⟩
      ·skip
       go_wp2_with fail
       refine (P.out.call (fun own' hp => C6.out _ own' hp)).mono ?_
       rintro e Wz ⟨rfl, p, f⟩
       have Pz := hid p
       clear p f P c0 c1 c2 c3 e0 e1 e2 e3 e4 e5 e6 e7 e8 e9 e10 e11 e12 e13 e14 e15 e16 e17 e18 K1 K2
       go_wp2
       go_ret
       rw [show R = (t1, c1) by rw [HR.out]; simp]
       exact ⟨rfl, Pz.out.done⟩
 ·have he2 : ((er : Int) == 0) = false := by simp; omega
  have he3 : ((er : Int) != 0) = true := by simp; omega
  go_wp2_with (refine wpList_storeAgg rfl 99 _ _ rfl rfl W3.heap.size 99 _ #[.int .i64 d0, .int .i64 d1, .int .i64 d2, .int .i64 d3, .int .i64 d4, .int .i64 d5, .int .i64 d6, .int .i64 d7, .string ds, .bool mu, .bool tk, .int .i64 x0, .int .i64 x1, .int .i64 x2, .int .i64 x3, .int .i64 x4, .int .i64 x5, .int .i64 x6, .int .i64 x7] rfl rfl (Blk.new W3 _ _) rfl aggPlace (one_all rfl) ?_; intro W4 hB4 hF4; have HB4 := hid hB4; have HF4 := hid hF4; clear c0 c1 c2 c3; obtain ⟨c0, c1, c2, c3⟩ := ((K1.out.alloc _).off hF4 (by omega)).c4; obtain ⟨e0, e1, e2, e3, e4, e5, e6, e7, e8, e9, e10, e11, e12, e13, e14, e15, e16, e17, e18⟩ := hB4.c19; clear hB4 hF4)
  go_ret
  rw [show R = (t, er) by rw [HR.out]; simp [he]]
  exact ⟨rfl, (Pk.start (L := fun _ => False) H.out (below_one (bal B3.out _) (by omega) HF4.out) (fun _ => False.elim)).done⟩
end
section
open Go.RowKit Ino Go.Maps
open Pa (Blk strV)
variable {own : Nat → Prop} {t : T}
def chownA (t : T) (u g o k : Int) (n : Inf × Nat) : T × Nat :=
 if n.2 = 0 then
  if (u == 0) = true ∨ giveA n.1 u g o k = true then setP t n.1.ino (rOk (bits .andNot .i64 n.1.mode 2048) o k) (bits .andNot .i64 n.1.mode 2048) o k
  else (t, 2)
 else (t, n.2)
theorem wChown_any (A : Nat) (cwd r u s k g : Int) (p : ByteArray) (hp : p.size ≤ maxLen) (o x : Int) (w : World) (h : PTo w A own t) (hsd : Sd t)
 (hm : wfI (bits .andNot .i64 (toldI t (findP t cwd u g p.data.toList)).1.mode 2048)) :
 Calls Tryz.prog 29 #[.pointer (some ⟨A, 0, none⟩), .int .i64 cwd, .agg #[.int .i64 r, .int .i64 u, .int .i64 s, .int .i64 k, .int .i64 g], .string p, .int .i64 o, .int .i64 x] w fun e w' =>
  e = .returned (.int .i64 ((chownA t u g o x (toldI t (findP t cwd u g p.data.toList))).2 : Int)) ∧ Pt w A own (chownA t u g o x (toldI t (findP t cwd u g p.data.toList))).1 w' := by
 have C1 := hid (fun W => wcallerOf_any A cwd r u s k g W)
 have C2 := hid (fun W (hq : PTo W A own t) => wfind_any A cwd u g p hp W hq hsd)
 have HPT := hid (fun W (hb : Below w.heap.size w W) => h.below hb)
 generalize toldI t (findP t cwd u g p.data.toList) = n at *
 have C3 := hid (fun W => wisZero_any A cwd u g W)
 have C4 := hid (fun W => wmayGive_any A cwd u g n.1 o x W)
 have C6 := hid (fun W own' (hq : PTo W A own' t) => pset_any n.1.ino (bits .andNot .i64 n.1.mode 2048) o x hm W hq)
 have hR : chownA t u g o x n = if n.2 = 0 then
  if (u == 0) = true ∨ giveA n.1 u g o x = true then setP t n.1.ino (rOk (bits .andNot .i64 n.1.mode 2048) o x) (bits .andNot .i64 n.1.mode 2048) o x
  else (t, 2)
 else (t, n.2) := rfl
 generalize chownA t u g o x n = R at hR ⊢
 generalize giveA n.1 u g o x = gv at *
 obtain ⟨t1, c1, hen⟩ : ∃ t1 c1, setP t n.1.ino (rOk (bits .andNot .i64 n.1.mode 2048) o x) (bits .andNot .i64 n.1.mode 2048) o x = (t1, c1) := ⟨_, _, rfl⟩
 rw [hen] at C6 hR
 obtain ⟨⟨f0, f1, f2, f3, f4, f5, f6, f7⟩, fe⟩ := n
 simp only [ansV, infAg, infC] at C2 C4 C6 hR
 have HR := hid hR
 have H := hid h
 clear hp h hsd hR hen hm
 go_enter Tryz.func29, Tryz.ntmps29
 go_wp2_with fail
 refine calls_world (fun W => Below w.heap.size w W) (by first | exact Below.refl _ _ | exact bel1 _ _) ?_
 rintro W b0
 refine (C1.out W).mono ?_
 rintro e W1 ⟨rfl, b1⟩
 have B1 := hid (bnext b0 b1)
 have l1 : w.heap.size ≤ W1.heap.size := B1.out.size
 clear b0 b1
 go_wp2_with fail
 refine calls_world (fun W => Blk W W1.heap.size 102 (calC A cwd u g) ∧ Below w.heap.size w W) ⟨Blk.new W1 _ _, bal B1.out _⟩ ?_
 rintro W2 ⟨k1, b2⟩
 refine (C2.out W2 (HPT.out _ b2)).mono ?_
 rintro e W3 ⟨rfl, b3⟩
 have k1 := k1.up b3
 have l3 : W1.heap.size < W3.heap.size := k1.lt
 have B3 := hid (bnext b2 b3)
 have K1 := hid k1
 obtain ⟨c0, c1', c2, c3⟩ := k1.c4
 clear k1 b2 b3 B1 C1 C2
 by_cases hfe : fe = 0
 ·subst hfe
  rw [if_pos rfl] at HR
  go_wp2_with fail
  refine calls_world (fun W => Blk W W1.heap.size 102 (calC A cwd u g) ∧ Blk W W3.heap.size 50 #[.int .i64 f0, .int .i64 f1, .int .i64 f2, .int .i64 f3, .int .i64 f4, .int .i64 f5, .int .i64 f6, .int .i64 f7] ∧ Pk (fun g => g = W1.heap.size ∨ g = W3.heap.size) w own A t W) ⟨K1.out.alloc _, Blk.new W3 _ _, Pk.start H.out (bal B3.out _) (fun g hg => by
   have hz := (Blk.new W3 50 #[.int .i64 f0, .int .i64 f1, .int .i64 f2, .int .i64 f3, .int .i64 f4, .int .i64 f5, .int .i64 f6, .int .i64 f7]).lt
   omega)⟩ ?_
  rintro W4 ⟨k1, k2, p1⟩
  refine (C3.out W4).mono ?_
  rintro e W5 ⟨rfl, b5⟩
  have k1 := k1.up b5
  have k2 := k2.up b5
  have p2 := p1.up b5 (L' := fun g => g = W1.heap.size ∨ g = W3.heap.size) (fun g => .inl)
  clear c0 c1' c2 c3 p1 b5 K1 B3 H HPT C3
  obtain ⟨c0, c1', c2, c3⟩ := k1.c4
  obtain ⟨i0, i1, i2, i3, i4, i5, i6, i7⟩ := k2.c8
  have K1 := hid k1
  have K2 := hid k2
  have P2 := hid p2
  clear k1 k2 p2
  generalize (u == 0) = z at *
  cases z
  ·go_wp2_with fail
   refine (C4.out W5).mono ?_
   rintro e W6 ⟨rfl, b6⟩
   have k2 := K2.out.up b6
   have P3 := hid (P2.out.up b6 (L' := fun g => g = W1.heap.size ∨ g = W3.heap.size) (fun g => .inl))
   clear c0 c1' c2 c3 i0 i1 i2 i3 i4 i5 i6 i7 K1 K2 P2 b6 C4
   obtain ⟨i0, i1, i2, i3, i4, i5, i6, i7⟩ := k2.c8
   clear k2
   cases gv
   ·go_wp2
    go_ret
    rw [show R = (t, 2) by rw [HR.out]; simp]
    exact ⟨rfl, P3.out.done⟩
   ·go_wp2_with fail
    refine (P3.out.call (fun own' hp => C6.out W6 own' hp)).mono ?_
    rintro e W7 ⟨rfl, p4, f4⟩
    have P4 := hid p4
    clear p4 f4 P3 C6 i0 i1 i2 i3 i4 i5 i6 i7
    go_wp2
    go_ret
    rw [show R = (t1, c1) by rw [HR.out]; simp]
    exact ⟨rfl, P4.out.done⟩
  ·go_wp2_with fail
   refine (P2.out.call (fun own' hp => C6.out W5 own' hp)).mono ?_
   rintro e W7 ⟨rfl, p4, f4⟩
   have P4 := hid p4
   clear p4 f4 P2 C6 i0 i1 i2 i3 i4 i5 i6 i7 K1 K2 c0 c1' c2 c3
   go_wp2
   go_ret
   rw [show R = (t1, c1) by rw [HR.out]; simp]
   exact ⟨rfl, P4.out.done⟩
 ·have he2 : ((fe : Int) == 0) = false := by simp; omega
  have he3 : ((fe : Int) != 0) = true := by simp; omega
  rw [if_neg hfe] at HR
  go_wp2
  go_ret
  rw [HR.out]
  exact ⟨rfl, (Pk.start (L := fun _ => False) H.out (bal B3.out _) (fun _ => False.elim)).done⟩
end
section
open Go.RowKit Ino Go.Maps
open Pa (Blk strV)
variable {own : Nat → Prop} {t : T}
def clearA (t : T) (n : Inf) : T := (setP t n.ino (rOk (bits .andNot .i64 n.mode 2048) n.owner n.group) (bits .andNot .i64 n.mode 2048) n.owner n.group).1
theorem wclear_any (A : Nat) (n : Inf) (w : World) (h : PTo w A own t) (hm : wfI (bits .andNot .i64 n.mode 2048)) :
 Calls Tryz.prog 96 #[.pointer (some ⟨A, 0, none⟩), (.agg #[.int .i64 n.ino, .int .i64 n.kind, .int .i64 n.mode, .int .i64 n.owner, .int .i64 n.group, .int .i64 n.links, .int .i64 n.size, .int .i64 n.tty])] w fun e w' => e = .returned (.tuple #[]) ∧ Pt w A own (clearA t n) w' := by
 have C6 := hid (fun W own' (hq : PTo W A own' t) => pset_any n.ino (bits .andNot .i64 n.mode 2048) n.owner n.group hm W hq)
 have hR : clearA t n = (setP t n.ino (rOk (bits .andNot .i64 n.mode 2048) n.owner n.group) (bits .andNot .i64 n.mode 2048) n.owner n.group).1 := rfl
 generalize clearA t n = R at hR ⊢
 obtain ⟨t1, c1, hen⟩ : ∃ t1 c1, setP t n.ino (rOk (bits .andNot .i64 n.mode 2048) n.owner n.group) (bits .andNot .i64 n.mode 2048) n.owner n.group = (t1, c1) := ⟨_, _, rfl⟩
 rw [hen] at C6 hR
 obtain ⟨f0, f1, f2, f3, f4, f5, f6, f7⟩ := n
 simp only at C6 hR ⊢
 subst hR
 have H := hid h
 clear h hen hm
 go_enter Tryz.func96, Tryz.ntmps96
 go_wp2_with fail
 refine calls_world (fun W => Pk (fun g => False) w own A t W) (Pk.start H.out (bel1 _ _) (fun _ => False.elim)) ?_
 rintro W p1
 refine (p1.call (fun own' hp => C6.out W own' hp)).mono ?_
 rintro e W2 ⟨rfl, p2, f2⟩
 have P2 := hid p2
 clear p1 p2 f2 C6
 go_wp2
 exact bodyPost_end (v := .tuple #[]) (by simp [results, Tryz.results96, go_sem]) rfl ⟨rfl, P2.out.done⟩
def oldA (t : T) (u g : Int) (n : Inf) (x : Nat) (want : Int) (empty : Bool) : T × Nat × Nat :=
 if (bits .and .i64 want 2 != 0) = true ∧ (n.kind == 1) = true then (t, 0, 7)
 else if mayI n u g want = true then
  (if empty = true ∧ (bits .and .i64 want 2 != 0) = true ∧ (n.kind == 0) = true then (clearA (cutP (holdP t x).1 x).1 n, x, 0) else ((holdP t x).1, x, 0))
 else (t, 0, 4)
theorem wopenOld_any (A : Nat) (cwd u g : Int) (n : Inf) (x : Nat) (hx : n.ino = (x : Int)) (want : Int) (mk al em en : Bool) (mode : Int) (w : World) (h : PTo w A own t) (hb : ∀ k, (t k).holds ≤ 1000000) (hs : Sd (holdP t (x : Int)).1) (hm : wfI (bits .andNot .i64 n.mode 2048)) :
 Calls Tryz.prog 62 #[(.agg #[.pointer (some ⟨A, 0, none⟩), .int .i64 cwd, .int .i64 u, .int .i64 g]), (.agg #[.int .i64 n.ino, .int .i64 n.kind, .int .i64 n.mode, .int .i64 n.owner, .int .i64 n.group, .int .i64 n.links, .int .i64 n.size, .int .i64 n.tty]), .agg #[.int .i64 want, .bool mk, .bool al, .bool em, .bool en, .int .i64 mode]] w fun e w' => e = .returned (makeV (oldA t u g n x want em).2) ∧ Pt w A own (oldA t u g n x want em).1 w' := by
 have C1 := hid (fun W => wisDir_any n W)
 have C2 := hid (fun W => wmayI_any A cwd u g want n W)
 have C3 := hid (fun W own' (hq : PTo W A own' t) => phold_any (x : Int) W hq hb)
 have C4 := hid (fun W own' (hq : PTo W A own' (holdP t (x : Int)).1) => pcut_any (x : Int) W hq hs)
 have C5 := hid (fun W own' (hq : PTo W A own' (cutP (holdP t (x : Int)).1 (x : Int)).1) => wclear_any A n W hq hm)
 have hR : oldA t u g n x want em = if (bits .and .i64 want 2 != 0) = true ∧ (n.kind == 1) = true then (t, 0, 7)
  else if mayI n u g want = true then
   (if em = true ∧ (bits .and .i64 want 2 != 0) = true ∧ (n.kind == 0) = true then (clearA (cutP (holdP t x).1 x).1 n, x, 0) else ((holdP t x).1, x, 0))
  else (t, 0, 4) := rfl
 generalize oldA t u g n x want em = R at hR ⊢
 generalize mayI n u g want = my at *
 generalize clearA (cutP (holdP t (x : Int)).1 (x : Int)).1 n = t3 at *
 generalize cutP (holdP t (x : Int)).1 (x : Int) = c2 at *
 generalize holdP t (x : Int) = c1 at *
 obtain ⟨t1, ok1⟩ := c1
 obtain ⟨t2, ok2⟩ := c2
 obtain ⟨f0, f1, f2, f3, f4, f5, f6, f7⟩ := n
 simp only at C1 C2 C3 C4 C5 hR hx ⊢
 subst hx
 have HR := hid hR
 have H := hid h
 clear h hb hs hm hR
 have key : ∀ wr : Bool, (bits .and .i64 want 2 != 0) = wr → Calls Tryz.prog 62 #[(.agg #[.pointer (some ⟨A, 0, none⟩), .int .i64 cwd, .int .i64 u, .int .i64 g]), .agg #[.int .i64 (x : Int), .int .i64 f1, .int .i64 f2, .int .i64 f3, .int .i64 f4, .int .i64 f5, .int .i64 f6, .int .i64 f7], .agg #[.int .i64 want, .bool mk, .bool al, .bool em, .bool en, .int .i64 mode]] w fun e w' => e = .returned (makeV R.2) ∧ Pt w A own R.1 w' := by
  intro wr hw
  rw [hw] at HR
  cases wr
  ·go_enter Tryz.func62, Tryz.ntmps62
   go_wp2_with fail
   refine calls_world (fun W => Blk W w.heap.size 102 (calC A cwd u g) ∧ Blk W (w.heap.size + 1) 50 #[.int .i64 (x : Int), .int .i64 f1, .int .i64 f2, .int .i64 f3, .int .i64 f4, .int .i64 f5, .int .i64 f6, .int .i64 f7] ∧ Blk W (w.heap.size + 1 + 1) 35 #[.int .i64 want, .bool mk, .bool al, .bool em, .bool en, .int .i64 mode] ∧ Pk (fun g => g = w.heap.size ∨ g = w.heap.size + 1 ∨ g = w.heap.size + 1 + 1) w own A t W) ⟨((Blk.new w _ _).alloc _).alloc _, (blk1 w _ _ _).alloc _, blk2 w _ _ _ _, Pk.start H.out (bel3 _ _ _ _) (fun y hy => by simp; omega)⟩ ?_
   rintro W4 ⟨k1, k2, k3, p⟩
   have K1 := hid k1
   have K2 := hid k2
   have K3 := hid k3
   have P := hid p
   clear k1 k2 k3 p H
   refine (C2.out _).mono ?_
   rintro e W ⟨rfl, b⟩
   have k1 := K1.out.up b
   have k2 := K2.out.up b
   have k3 := K3.out.up b
   have p := P.out.up b (L' := (fun g => g = w.heap.size ∨ g = w.heap.size + 1 ∨ g = w.heap.size + 1 + 1)) (fun g => .inl)
   clear K1 K2 K3 P b 
   obtain ⟨c0, c1, c2, c3⟩ := k1.c4
   obtain ⟨i0, i1, i2, i3, i4, i5, i6, i7⟩ := k2.c8
   have j0 := k3.cell 0
   have j1 := k3.cell 1
   have j2 := k3.cell 2
   have j3 := k3.cell 3
   have j4 := k3.cell 4
   have j5 := k3.cell 5
   simp only [jD, jF, jE] at j0 j1 j2 j3 j4 j5
   have K1 := hid k1
   have K2 := hid k2
   have K3 := hid k3
   have P := hid p
   clear k1 k2 k3 p
   cases my
   ·skip
    go_wp2
    go_ret2
    rw [show R = (t, 0, 4) by rw [HR.out]; simp]
    exact ⟨rfl, P.out.done⟩
   ·skip
    go_wp2_with fail
    refine (P.out.call (fun own' hp => C3.out _ own' hp)).mono ?_
    rintro e W ⟨rfl, p, f⟩
    have k1 := Pk.blk K1.out f (.inl rfl)
    have k2 := Pk.blk K2.out f (.inr (.inl rfl))
    have k3 := Pk.blk K3.out f (.inr (.inr rfl))
    clear K1 K2 K3 P f c0 c1 c2 c3 i0 i1 i2 i3 i4 i5 i6 i7 j0 j1 j2 j3 j4 j5
    obtain ⟨c0, c1, c2, c3⟩ := k1.c4
    obtain ⟨i0, i1, i2, i3, i4, i5, i6, i7⟩ := k2.c8
    have j0 := k3.cell 0
    have j1 := k3.cell 1
    have j2 := k3.cell 2
    have j3 := k3.cell 3
    have j4 := k3.cell 4
    have j5 := k3.cell 5
    simp only [jD, jF, jE] at j0 j1 j2 j3 j4 j5
    have K1 := hid k1
    have K2 := hid k2
    have K3 := hid k3
    have P := hid p
    clear k1 k2 k3 p
    cases em
    all_goals
     go_wp2
     go_ret2
     rw [show R = (t1, x, 0) by rw [HR.out]; simp]
     exact ⟨rfl, P.out.done⟩
  ·go_enter Tryz.func62, Tryz.ntmps62
   go_wp2_with fail
   refine calls_world (fun W => Blk W w.heap.size 102 (calC A cwd u g) ∧ Blk W (w.heap.size + 1) 50 #[.int .i64 (x : Int), .int .i64 f1, .int .i64 f2, .int .i64 f3, .int .i64 f4, .int .i64 f5, .int .i64 f6, .int .i64 f7] ∧ Blk W (w.heap.size + 1 + 1) 35 #[.int .i64 want, .bool mk, .bool al, .bool em, .bool en, .int .i64 mode] ∧ Pk (fun g => g = w.heap.size ∨ g = w.heap.size + 1 ∨ g = w.heap.size + 1 + 1) w own A t W) ⟨((Blk.new w _ _).alloc _).alloc _, (blk1 w _ _ _).alloc _, blk2 w _ _ _ _, Pk.start H.out (bel3 _ _ _ _) (fun y hy => by simp; omega)⟩ ?_
   rintro W4 ⟨k1, k2, k3, p⟩
   have K1 := hid k1
   have K2 := hid k2
   have K3 := hid k3
   have P := hid p
   clear k1 k2 k3 p H
   refine (C1.out _).mono ?_
   rintro e W ⟨rfl, b⟩
   have k1 := K1.out.up b
   have k2 := K2.out.up b
   have k3 := K3.out.up b
   have p := P.out.up b (L' := (fun g => g = w.heap.size ∨ g = w.heap.size + 1 ∨ g = w.heap.size + 1 + 1)) (fun g => .inl)
   clear K1 K2 K3 P b 
   obtain ⟨c0, c1, c2, c3⟩ := k1.c4
   obtain ⟨i0, i1, i2, i3, i4, i5, i6, i7⟩ := k2.c8
   have j0 := k3.cell 0
   have j1 := k3.cell 1
   have j2 := k3.cell 2
   have j3 := k3.cell 3
   have j4 := k3.cell 4
   have j5 := k3.cell 5
   simp only [jD, jF, jE] at j0 j1 j2 j3 j4 j5
   have K1 := hid k1
   have K2 := hid k2
   have K3 := hid k3
   have P := hid p
   clear k1 k2 k3 p
   generalize hk : (f1 == 1) = kd at *
   cases kd
   ·skip
    go_wp2_with fail
    refine (C2.out _).mono ?_
    rintro e W ⟨rfl, b⟩
    have k1 := K1.out.up b
    have k2 := K2.out.up b
    have k3 := K3.out.up b
    have p := P.out.up b (L' := (fun g => g = w.heap.size ∨ g = w.heap.size + 1 ∨ g = w.heap.size + 1 + 1)) (fun g => .inl)
    clear K1 K2 K3 P b c0 c1 c2 c3 i0 i1 i2 i3 i4 i5 i6 i7 j0 j1 j2 j3 j4 j5
    obtain ⟨c0, c1, c2, c3⟩ := k1.c4
    obtain ⟨i0, i1, i2, i3, i4, i5, i6, i7⟩ := k2.c8
    have j0 := k3.cell 0
    have j1 := k3.cell 1
    have j2 := k3.cell 2
    have j3 := k3.cell 3
    have j4 := k3.cell 4
    have j5 := k3.cell 5
    simp only [jD, jF, jE] at j0 j1 j2 j3 j4 j5
    have K1 := hid k1
    have K2 := hid k2
    have K3 := hid k3
    have P := hid p
    clear k1 k2 k3 p
    cases my
    ·skip
     go_wp2
     go_ret2
     rw [show R = (t, 0, 4) by rw [HR.out]; simp]
     exact ⟨rfl, P.out.done⟩
    ·skip
     go_wp2_with fail
     refine (P.out.call (fun own' hp => C3.out _ own' hp)).mono ?_
     rintro e W ⟨rfl, p, f⟩
     have k1 := Pk.blk K1.out f (.inl rfl)
     have k2 := Pk.blk K2.out f (.inr (.inl rfl))
     have k3 := Pk.blk K3.out f (.inr (.inr rfl))
     clear K1 K2 K3 P f c0 c1 c2 c3 i0 i1 i2 i3 i4 i5 i6 i7 j0 j1 j2 j3 j4 j5
     obtain ⟨c0, c1, c2, c3⟩ := k1.c4
     obtain ⟨i0, i1, i2, i3, i4, i5, i6, i7⟩ := k2.c8
     have j0 := k3.cell 0
     have j1 := k3.cell 1
     have j2 := k3.cell 2
     have j3 := k3.cell 3
     have j4 := k3.cell 4
     have j5 := k3.cell 5
     simp only [jD, jF, jE] at j0 j1 j2 j3 j4 j5
     have K1 := hid k1
     have K2 := hid k2
     have K3 := hid k3
     have P := hid p
     clear k1 k2 k3 p
     cases em
     ·skip
      go_wp2
      go_ret2
      rw [show R = (t1, x, 0) by rw [HR.out]; simp]
      exact ⟨rfl, P.out.done⟩
     ·generalize hf : (f1 == 0) = z at *
      cases z
      ·skip
       go_wp2
       go_ret2
       rw [show R = (t1, x, 0) by rw [HR.out]; simp]
       exact ⟨rfl, P.out.done⟩
      ·skip
       go_wp2_with fail
       refine (P.out.call (fun own' hp => C4.out _ own' hp)).mono ?_
       rintro e W ⟨rfl, p, f⟩
       have k1 := Pk.blk K1.out f (.inl rfl)
       have k2 := Pk.blk K2.out f (.inr (.inl rfl))
       have k3 := Pk.blk K3.out f (.inr (.inr rfl))
       clear K1 K2 K3 P f c0 c1 c2 c3 i0 i1 i2 i3 i4 i5 i6 i7 j0 j1 j2 j3 j4 j5
       obtain ⟨c0, c1, c2, c3⟩ := k1.c4
       obtain ⟨i0, i1, i2, i3, i4, i5, i6, i7⟩ := k2.c8
       have j0 := k3.cell 0
       have j1 := k3.cell 1
       have j2 := k3.cell 2
       have j3 := k3.cell 3
       have j4 := k3.cell 4
       have j5 := k3.cell 5
       simp only [jD, jF, jE] at j0 j1 j2 j3 j4 j5
       have K1 := hid k1
       have K2 := hid k2
       have K3 := hid k3
       have P := hid p
       clear k1 k2 k3 p
       go_wp2_with fail
       refine (P.out.call (fun own' hp => C5.out _ own' hp)).mono ?_
       rintro e W ⟨rfl, p, f⟩
       have k1 := Pk.blk K1.out f (.inl rfl)
       have k2 := Pk.blk K2.out f (.inr (.inl rfl))
       have k3 := Pk.blk K3.out f (.inr (.inr rfl))
       clear K1 K2 K3 P f c0 c1 c2 c3 i0 i1 i2 i3 i4 i5 i6 i7 j0 j1 j2 j3 j4 j5
       obtain ⟨c0, c1, c2, c3⟩ := k1.c4
       obtain ⟨i0, i1, i2, i3, i4, i5, i6, i7⟩ := k2.c8
       have j0 := k3.cell 0
       have j1 := k3.cell 1
       have j2 := k3.cell 2
       have j3 := k3.cell 3
       have j4 := k3.cell 4
       have j5 := k3.cell 5
       simp only [jD, jF, jE] at j0 j1 j2 j3 j4 j5
       have K1 := hid k1
       have K2 := hid k2
       have K3 := hid k3
       have P := hid p
       clear k1 k2 k3 p
       go_wp2
       go_ret2
       rw [show R = (t3, x, 0) by rw [HR.out]; simp]
       exact ⟨rfl, P.out.done⟩
   ·skip
    go_wp2
    go_ret2
    rw [show R = (t, 0, 7) by rw [HR.out]; simp]
    exact ⟨rfl, P.out.done⟩
 exact key _ rfl
end
end Go.Proofs.YtlpececggkdhmaaGreat
