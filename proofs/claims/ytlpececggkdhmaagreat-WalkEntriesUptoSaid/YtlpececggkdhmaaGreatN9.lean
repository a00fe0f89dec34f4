import Derived.Test.YtlpececggkdhmaaGreatN7
import Derived.Test.YtlpececggkdhmaaGreatN8
open Go.Lib (hid)
set_option linter.unusedVariables false
set_option linter.unusedSimpArgs false
set_option maxHeartbeats 8000000
set_option maxRecDepth 100000
namespace Go.Proofs.YtlpececggkdhmaaGreat
section
open Go.RowKit Ino Go.Maps
open Pa (Blk strV)
variable {own : Nat → Prop} {t : T}
theorem wRename_fftx (A : Nat) (cwd r u s k g : Int) (p a : ByteArray) (hp : p.size ≤ maxLen) (ha : a.size ≤ maxLen) (w : World) (h : PTo w A own t) (hs : Sound t)
 (pp qq : Pla) (hpp : plaP t (placeP t cwd u g p.data.toList) = pp) (hqq : plaP t (placeP t cwd u g a.data.toList) = qq) (hns : pp.name.length ≤ 1000) (hna : qq.name.length ≤ 1000) (h1 : pp.err = 0) (h2 : pp.taken = true) (h3 : qq.err = 0) (h4 : pp.must = false) (h5 : qq.must = false) (h6 : qq.taken = true) (hx : ¬ (mayI pp.dir u g 2 = true ∧ mayI qq.dir u g 2 = true ∧ stickyA ⟨pp.dir, pp.name, pp.must, pp.taken, pp.entry⟩ u = true)) :
 Calls Tryz.prog 26 #[.pointer (some ⟨A, 0, none⟩), .int .i64 cwd, .agg #[.int .i64 r, .int .i64 u, .int .i64 s, .int .i64 k, .int .i64 g], .string p, .string a] w fun e w' =>
  e = .returned (.int .i64 ((renA t u g pp qq).2 : Int)) ∧ Pt w A own (renA t u g pp qq).1 w' := by
 have C1 := hid (fun W => wcallerOf_any A cwd r u s k g W)
 have C2 := hid (fun W (hq : PTo W A own t) => wlocate_any A cwd u g p hp W hq hs.sd)
 have C3 := hid (fun W own' (hq : PTo W A own' t) => wlocate_any A cwd u g a ha W hq hs.sd)
 have HPT := hid (fun W (hb : Below w.heap.size w W) => h.below hb)
 rw [hpp] at C2
 rw [hqq] at C3
 clear hpp hqq
 have hsz : (⟨pp.name.toArray⟩ : ByteArray).size ≤ maxLen := by show pp.name.length ≤ maxLen; unfold maxLen; omega
 have haz : (⟨qq.name.toArray⟩ : ByteArray).size ≤ maxLen := by show qq.name.length ≤ maxLen; unfold maxLen; omega
 have C4 := hid (fun W => wisDir_any pp.entry W)
 have C5 := hid (fun W => wmayI_any A cwd u g 2 pp.dir W)
 have C6 := hid (fun W => wmayI_any A cwd u g 2 qq.dir W)
 have C7 := hid (fun W => wkeeps_any A cwd u g ⟨pp.dir, pp.name, pp.must, pp.taken, pp.entry⟩ W)
 have C8 := hid (fun W => wkeeps_any A cwd u g ⟨qq.dir, qq.name, qq.must, qq.taken, qq.entry⟩ W)
 have C9 := hid (fun W own' (hq : PTo W A own' t) => pmove_any pp.dir.ino qq.dir.ino ⟨pp.name.toArray⟩ ⟨qq.name.toArray⟩ W hq hs hsz haz)
 have hR : renA t u g pp qq = if pp.err = 0 then
  if pp.taken = true then
   if qq.err = 0 then
    if (pp.must || qq.must) = true ∧ (pp.entry.kind == 1) = false then (t, 6)
    else if mayI pp.dir u g 2 = true ∧ mayI qq.dir u g 2 = true then
     if stickyA ⟨pp.dir, pp.name, pp.must, pp.taken, pp.entry⟩ u = true ∧ (qq.taken = true → stickyA ⟨qq.dir, qq.name, qq.must, qq.taken, qq.entry⟩ u = true) then moveP t pp.dir.ino pp.name qq.dir.ino qq.name else (t, 2)
    else (t, 4)
   else (t, qq.err)
  else (t, 3)
 else (t, pp.err) := rfl
 have e2 : (⟨pp.name.toArray⟩ : ByteArray).data.toList = pp.name := rfl
 have e2' : (⟨qq.name.toArray⟩ : ByteArray).data.toList = qq.name := rfl
 rw [e2, e2'] at C9
 simp only at C7 C8
 generalize renA t u g pp qq = R at hR ⊢
 generalize mayI pp.dir u g 2 = my at *
 generalize mayI qq.dir u g 2 = my2 at *
 generalize stickyA ⟨pp.dir, pp.name, pp.must, pp.taken, pp.entry⟩ u = st at *
 generalize stickyA ⟨qq.dir, qq.name, qq.must, qq.taken, qq.entry⟩ u = st2 at *
 generalize (pp.entry.kind == 1) = kd at *
 obtain ⟨t1, cz, hen⟩ : ∃ t1 cz, moveP t pp.dir.ino pp.name qq.dir.ino qq.name = (t1, cz) := ⟨_, _, rfl⟩
 rw [hen] at C9 hR
 obtain ⟨⟨d0, d1, d2, d3, d4, d5, d6, d7⟩, nm, mu, tk, ⟨x0, x1, x2, x3, x4, x5, x6, x7⟩, er⟩ := pp
 obtain ⟨⟨g0, g1, g2, g3, g4, g5, g6, g7⟩, nm2, mu2, tk2, ⟨y0, y1, y2, y3, y4, y5, y6, y7⟩, er2⟩ := qq
 simp only [plaV, plcC, strV] at C2 C3 C4 C5 C6 C7 C8 C9 hR
 simp only at h1 h2 h3 h4 h5 h6
 subst h1 h2 h3 h4 h5 h6
 have HR := hid hR
 have H := hid h
 clear hns hna hp ha h hs hR hsz haz e2 e2' hen
 generalize (⟨nm.toArray⟩ : ByteArray) = ds at *
 generalize (⟨nm2.toArray⟩ : ByteArray) = es at *
 go_enter Tryz.func26, Tryz.ntmps26
 go_wp2_with fail
 refine calls_world (fun W => Below w.heap.size w W) (by first | exact Below.refl _ _ | exact bel1 _ _) ?_
 rintro W b0
 refine (C1.out W).mono ?_
 rintro e W1 ⟨rfl, b1⟩
 have B1 := hid (bnext b0 b1)
 have l1 : w.heap.size ≤ W1.heap.size := B1.out.size
 clear b0 b1
 go_wp2_with fail
 refine calls_world (fun W => Blk W W1.heap.size 102 (calC A cwd u g) ∧ Below w.heap.size w W) ⟨Blk.new W1 _ _, bal B1.out _⟩ ?_
 rintro W2 ⟨k1, b2⟩
 refine (C2.out W2 (HPT.out _ b2)).mono ?_
 rintro e W3 ⟨rfl, b3⟩
 have k1 := k1.up b3
 have l3 : W1.heap.size < W3.heap.size := k1.lt
 have B3 := hid (bnext b2 b3)
 obtain ⟨c0, c1, c2, c3⟩ := k1.c4
 have K1 := hid k1
 clear k1 b2 b3 B1 C1 C2 HPT
 go_wp2_with (refine wpList_storeAgg rfl 99 _ _ rfl rfl W3.heap.size 99 _ #[.int .i64 d0, .int .i64 d1, .int .i64 d2, .int .i64 d3, .int .i64 d4, .int .i64 d5, .int .i64 d6, .int .i64 d7, .string ds, .bool false, .bool true, .int .i64 x0, .int .i64 x1, .int .i64 x2, .int .i64 x3, .int .i64 x4, .int .i64 x5, .int .i64 x6, .int .i64 x7] rfl rfl (Blk.new W3 _ _) rfl aggPlace (one_all rfl) ?_; intro W4 hB4 hF4; have HB4 := hid hB4; have HF4 := hid hF4; clear c0 c1 c2 c3; obtain ⟨c0, c1, c2, c3⟩ := ((K1.out.alloc _).off hF4 (by omega)).c4; obtain ⟨e0, e1, e2, e3, e4, e5, e6, e7, e8, e9, e10, e11, e12, e13, e14, e15, e16, e17, e18⟩ := hB4.c19; clear hB4 hF4)
 have p := Pk.start (L := (fun g => g = W1.heap.size ∨ g = W3.heap.size)) H.out (below_one (bal B3.out _) (by omega) HF4.out) (fun g hg => by have := HB4.out.lt; omega)
 have k1 := (K1.out.alloc _).off HF4.out (by omega)
 have k2 := HB4.out
 clear K1 HB4 HF4 H B3
 obtain ⟨ow, hq⟩ := p.pto
 refine (C3.out _ ow hq).mono ?_
 rintro e W5 ⟨rfl, b⟩
 have k1 := k1.up b
 have k2 := k2.up b
 have p := p.up b (L' := (fun g => g = W1.heap.size ∨ g = W3.heap.size)) (fun g => .inl)
 have l5 : W3.heap.size < W5.heap.size := k2.lt
 clear c0 c1 c2 c3 e0 e1 e2 e3 e4 e5 e6 e7 e8 e9 e10 e11 e12 e13 e14 e15 e16 e17 e18 b hq C3
 obtain ⟨c0, c1, c2, c3⟩ := k1.c4
 obtain ⟨e0, e1, e2, e3, e4, e5, e6, e7, e8, e9, e10, e11, e12, e13, e14, e15, e16, e17, e18⟩ := k2.c19
 have K1 := hid k1
 have K2 := hid k2
 have P := hid p
 clear k1 k2 p
 go_wp2_with (refine wpList_storeAgg rfl 99 _ _ rfl rfl W5.heap.size 99 _ #[.int .i64 g0, .int .i64 g1, .int .i64 g2, .int .i64 g3, .int .i64 g4, .int .i64 g5, .int .i64 g6, .int .i64 g7, .string es, .bool false, .bool true, .int .i64 y0, .int .i64 y1, .int .i64 y2, .int .i64 y3, .int .i64 y4, .int .i64 y5, .int .i64 y6, .int .i64 y7] rfl rfl (Blk.new W5 _ _) rfl aggPlace (one_all rfl) ?_; intro W6 hB6 hF6; have HB6 := hid hB6; have HF6 := hid hF6; clear c0 c1 c2 c3 e0 e1 e2 e3 e4 e5 e6 e7 e8 e9 e10 e11 e12 e13 e14 e15 e16 e17 e18; obtain ⟨c0, c1, c2, c3⟩ := ((K1.out.alloc _).off hF6 (by omega)).c4; obtain ⟨e0, e1, e2, e3, e4, e5, e6, e7, e8, e9, e10, e11, e12, e13, e14, e15, e16, e17, e18⟩ := ((K2.out.alloc _).off hF6 (by omega)).c19; obtain ⟨q0, q1, q2, q3, q4, q5, q6, q7, q8, q9, q10, q11, q12, q13, q14, q15, q16, q17, q18⟩ := hB6.c19; clear hB6 hF6)
 have bq := below_one (bal (Below.refl _ W5) _) (Nat.le_refl _) HF6.out
 have p := P.out.up bq (L' := (fun g => g = W1.heap.size ∨ g = W3.heap.size ∨ g = W5.heap.size)) (fun g hg => hg.elim (fun q => .inl (.inl q)) (fun q => q.elim (fun q => .inl (.inr q)) (fun q => .inr ⟨by omega, by subst q; exact HB6.out.lt⟩)))
 have k1 := (K1.out.alloc _).off HF6.out (by omega)
 have k2 := (K2.out.alloc _).off HF6.out (by omega)
 have k3 := HB6.out
 clear K1 K2 HB6 HF6 P bq
 have K1 := hid k1
 have K2 := hid k2
 have K3 := hid k3
 have P := hid p
 clear k1 k2 k3 p
 refine (C5.out _).mono ?_
 rintro e W10 ⟨rfl, b⟩
 have k1 := K1.out.up b
 have k2 := K2.out.up b
 have k3 := K3.out.up b
 have p := P.out.up b (L' := (fun g => g = W1.heap.size ∨ g = W3.heap.size ∨ g = W5.heap.size)) (fun g => .inl)
 clear c0 c1 c2 c3 e0 e1 e2 e3 e4 e5 e6 e7 e8 e9 e10 e11 e12 e13 e14 e15 e16 e17 e18 q0 q1 q2 q3 q4 q5 q6 q7 q8 q9 q10 q11 q12 q13 q14 q15 q16 q17 q18 K1 K2 K3 P b
 obtain ⟨c0, c1, c2, c3⟩ := k1.c4
 obtain ⟨e0, e1, e2, e3, e4, e5, e6, e7, e8, e9, e10, e11, e12, e13, e14, e15, e16, e17, e18⟩ := k2.c19
 obtain ⟨q0, q1, q2, q3, q4, q5, q6, q7, q8, q9, q10, q11, q12, q13, q14, q15, q16, q17, q18⟩ := k3.c19
 have K1 := hid k1
 have K2 := hid k2
 have K3 := hid k3
 have P := hid p
 clear k1 k2 k3 p
 cases my
 ·skip
  go_wp2
  go_ret
  rw [show R = (t, 4) by rw [HR.out]; simp]
  exact ⟨rfl, P.out.done⟩
 ·skip
  go_wp2_with fail
  refine (C6.out _).mono ?_
  rintro e W11 ⟨rfl, b⟩
  have k1 := K1.out.up b
  have k2 := K2.out.up b
  have k3 := K3.out.up b
  have p := P.out.up b (L' := (fun g => g = W1.heap.size ∨ g = W3.heap.size ∨ g = W5.heap.size)) (fun g => .inl)
  clear c0 c1 c2 c3 e0 e1 e2 e3 e4 e5 e6 e7 e8 e9 e10 e11 e12 e13 e14 e15 e16 e17 e18 q0 q1 q2 q3 q4 q5 q6 q7 q8 q9 q10 q11 q12 q13 q14 q15 q16 q17 q18 K1 K2 K3 P b
  obtain ⟨c0, c1, c2, c3⟩ := k1.c4
  obtain ⟨e0, e1, e2, e3, e4, e5, e6, e7, e8, e9, e10, e11, e12, e13, e14, e15, e16, e17, e18⟩ := k2.c19
  obtain ⟨q0, q1, q2, q3, q4, q5, q6, q7, q8, q9, q10, q11, q12, q13, q14, q15, q16, q17, q18⟩ := k3.c19
  have K1 := hid k1
  have K2 := hid k2
  have K3 := hid k3
  have P := hid p
  clear k1 k2 k3 p
  cases my2
  ·skip
   go_wp2
   go_ret
   rw [show R = (t, 4) by rw [HR.out]; simp]
   exact ⟨rfl, P.out.done⟩
  ·skip
   cases st
   ·skip
    go_wp2_with (refine wpList_loadAgg rfl 99 _ rfl W3.heap.size 99 _ rfl K2.out aggPlace ?_)
    refine (C7.out _).mono ?_
    rintro e W12 ⟨rfl, b⟩
    have k1 := K1.out.up b
    have k2 := K2.out.up b
    have k3 := K3.out.up b
    have p := P.out.up b (L' := (fun g => g = W1.heap.size ∨ g = W3.heap.size ∨ g = W5.heap.size)) (fun g => .inl)
    clear c0 c1 c2 c3 e0 e1 e2 e3 e4 e5 e6 e7 e8 e9 e10 e11 e12 e13 e14 e15 e16 e17 e18 q0 q1 q2 q3 q4 q5 q6 q7 q8 q9 q10 q11 q12 q13 q14 q15 q16 q17 q18 K1 K2 K3 P b
    obtain ⟨c0, c1, c2, c3⟩ := k1.c4
    obtain ⟨e0, e1, e2, e3, e4, e5, e6, e7, e8, e9, e10, e11, e12, e13, e14, e15, e16, e17, e18⟩ := k2.c19
    obtain ⟨q0, q1, q2, q3, q4, q5, q6, q7, q8, q9, q10, q11, q12, q13, q14, q15, q16, q17, q18⟩ := k3.c19
    have K1 := hid k1
    have K2 := hid k2
    have K3 := hid k3
    have P := hid p
    clear k1 k2 k3 p
    go_wp2
    go_ret
    rw [show R = (t, 2) by rw [HR.out]; simp]
    exact ⟨rfl, P.out.done⟩
   ·exact (hx (by simp)).elim
theorem wRename_ffty (A : Nat) (cwd r u s k g : Int) (p a : ByteArray) (hp : p.size ≤ maxLen) (ha : a.size ≤ maxLen) (w : World) (h : PTo w A own t) (hs : Sound t)
 (pp qq : Pla) (hpp : plaP t (placeP t cwd u g p.data.toList) = pp) (hqq : plaP t (placeP t cwd u g a.data.toList) = qq) (hns : pp.name.length ≤ 1000) (hna : qq.name.length ≤ 1000) (h1 : pp.err = 0) (h2 : pp.taken = true) (h3 : qq.err = 0) (h4 : pp.must = false) (h5 : qq.must = false) (h6 : qq.taken = true) (hy1 : mayI pp.dir u g 2 = true) (hy2 : mayI qq.dir u g 2 = true) (hy3 : stickyA ⟨pp.dir, pp.name, pp.must, pp.taken, pp.entry⟩ u = true) :
 Calls Tryz.prog 26 #[.pointer (some ⟨A, 0, none⟩), .int .i64 cwd, .agg #[.int .i64 r, .int .i64 u, .int .i64 s, .int .i64 k, .int .i64 g], .string p, .string a] w fun e w' =>
  e = .returned (.int .i64 ((renA t u g pp qq).2 : Int)) ∧ Pt w A own (renA t u g pp qq).1 w' := by
 have C1 := hid (fun W => wcallerOf_any A cwd r u s k g W)
 have C2 := hid (fun W (hq : PTo W A own t) => wlocate_any A cwd u g p hp W hq hs.sd)
 have C3 := hid (fun W own' (hq : PTo W A own' t) => wlocate_any A cwd u g a ha W hq hs.sd)
 have HPT := hid (fun W (hb : Below w.heap.size w W) => h.below hb)
 rw [hpp] at C2
 rw [hqq] at C3
 clear hpp hqq
 have hsz : (⟨pp.name.toArray⟩ : ByteArray).size ≤ maxLen := by show pp.name.length ≤ maxLen; unfold maxLen; omega
 have haz : (⟨qq.name.toArray⟩ : ByteArray).size ≤ maxLen := by show qq.name.length ≤ maxLen; unfold maxLen; omega
 have C4 := hid (fun W => wisDir_any pp.entry W)
 have C5 := hid (fun W => wmayI_any A cwd u g 2 pp.dir W)
 have C6 := hid (fun W => wmayI_any A cwd u g 2 qq.dir W)
 have C7 := hid (fun W => wkeeps_any A cwd u g ⟨pp.dir, pp.name, pp.must, pp.taken, pp.entry⟩ W)
 have C8 := hid (fun W => wkeeps_any A cwd u g ⟨qq.dir, qq.name, qq.must, qq.taken, qq.entry⟩ W)
 have C9 := hid (fun W own' (hq : PTo W A own' t) => pmove_any pp.dir.ino qq.dir.ino ⟨pp.name.toArray⟩ ⟨qq.name.toArray⟩ W hq hs hsz haz)
 have hR : renA t u g pp qq = if pp.err = 0 then
  if pp.taken = true then
   if qq.err = 0 then
    if (pp.must || qq.must) = true ∧ (pp.entry.kind == 1) = false then (t, 6)
    else if mayI pp.dir u g 2 = true ∧ mayI qq.dir u g 2 = true then
     if stickyA ⟨pp.dir, pp.name, pp.must, pp.taken, pp.entry⟩ u = true ∧ (qq.taken = true → stickyA ⟨qq.dir, qq.name, qq.must, qq.taken, qq.entry⟩ u = true) then moveP t pp.dir.ino pp.name qq.dir.ino qq.name else (t, 2)
    else (t, 4)
   else (t, qq.err)
  else (t, 3)
 else (t, pp.err) := rfl
 have e2 : (⟨pp.name.toArray⟩ : ByteArray).data.toList = pp.name := rfl
 have e2' : (⟨qq.name.toArray⟩ : ByteArray).data.toList = qq.name := rfl
 rw [e2, e2'] at C9
 simp only at C7 C8
 generalize renA t u g pp qq = R at hR ⊢
 generalize mayI pp.dir u g 2 = my at *
 generalize mayI qq.dir u g 2 = my2 at *
 generalize stickyA ⟨pp.dir, pp.name, pp.must, pp.taken, pp.entry⟩ u = st at *
 generalize stickyA ⟨qq.dir, qq.name, qq.must, qq.taken, qq.entry⟩ u = st2 at *
 generalize (pp.entry.kind == 1) = kd at *
 obtain ⟨t1, cz, hen⟩ : ∃ t1 cz, moveP t pp.dir.ino pp.name qq.dir.ino qq.name = (t1, cz) := ⟨_, _, rfl⟩
 rw [hen] at C9 hR
 obtain ⟨⟨d0, d1, d2, d3, d4, d5, d6, d7⟩, nm, mu, tk, ⟨x0, x1, x2, x3, x4, x5, x6, x7⟩, er⟩ := pp
 obtain ⟨⟨g0, g1, g2, g3, g4, g5, g6, g7⟩, nm2, mu2, tk2, ⟨y0, y1, y2, y3, y4, y5, y6, y7⟩, er2⟩ := qq
 simp only [plaV, plcC, strV] at C2 C3 C4 C5 C6 C7 C8 C9 hR
 simp only at h1 h2 h3 h4 h5 h6
 subst h1 h2 h3 h4 h5 h6
 subst hy1 hy2 hy3
 have HR := hid hR
 have H := hid h
 clear hns hna hp ha h hs hR hsz haz e2 e2' hen
 generalize (⟨nm.toArray⟩ : ByteArray) = ds at *
 generalize (⟨nm2.toArray⟩ : ByteArray) = es at *
 go_enter Tryz.func26, Tryz.ntmps26
 go_wp2_with fail
 refine calls_world (fun W => Below w.heap.size w W) (by first | exact Below.refl _ _ | exact bel1 _ _) ?_
 rintro W b0
 refine (C1.out W).mono ?_
 rintro e W1 ⟨rfl, b1⟩
 have B1 := hid (bnext b0 b1)
 have l1 : w.heap.size ≤ W1.heap.size := B1.out.size
 clear b0 b1
 go_wp2_with fail
 refine calls_world (fun W => Blk W W1.heap.size 102 (calC A cwd u g) ∧ Below w.heap.size w W) ⟨Blk.new W1 _ _, bal B1.out _⟩ ?_
 rintro W2 ⟨k1, b2⟩
 refine (C2.out W2 (HPT.out _ b2)).mono ?_
 rintro e W3 ⟨rfl, b3⟩
 have k1 := k1.up b3
 have l3 : W1.heap.size < W3.heap.size := k1.lt
 have B3 := hid (bnext b2 b3)
 obtain ⟨c0, c1, c2, c3⟩ := k1.c4
 have K1 := hid k1
 clear k1 b2 b3 B1 C1 C2 HPT
 go_wp2_with (refine wpList_storeAgg rfl 99 _ _ rfl rfl W3.heap.size 99 _ #[.int .i64 d0, .int .i64 d1, .int .i64 d2, .int .i64 d3, .int .i64 d4, .int .i64 d5, .int .i64 d6, .int .i64 d7, .string ds, .bool false, .bool true, .int .i64 x0, .int .i64 x1, .int .i64 x2, .int .i64 x3, .int .i64 x4, .int .i64 x5, .int .i64 x6, .int .i64 x7] rfl rfl (Blk.new W3 _ _) rfl aggPlace (one_all rfl) ?_; intro W4 hB4 hF4; have HB4 := hid hB4; have HF4 := hid hF4; clear c0 c1 c2 c3; obtain ⟨c0, c1, c2, c3⟩ := ((K1.out.alloc _).off hF4 (by omega)).c4; obtain ⟨e0, e1, e2, e3, e4, e5, e6, e7, e8, e9, e10, e11, e12, e13, e14, e15, e16, e17, e18⟩ := hB4.c19; clear hB4 hF4)
 have p := Pk.start (L := (fun g => g = W1.heap.size ∨ g = W3.heap.size)) H.out (below_one (bal B3.out _) (by omega) HF4.out) (fun g hg => by have := HB4.out.lt; omega)
 have k1 := (K1.out.alloc _).off HF4.out (by omega)
 have k2 := HB4.out
 clear K1 HB4 HF4 H B3
 obtain ⟨ow, hq⟩ := p.pto
 refine (C3.out _ ow hq).mono ?_
 rintro e W5 ⟨rfl, b⟩
 have k1 := k1.up b
 have k2 := k2.up b
 have p := p.up b (L' := (fun g => g = W1.heap.size ∨ g = W3.heap.size)) (fun g => .inl)
 have l5 : W3.heap.size < W5.heap.size := k2.lt
 clear c0 c1 c2 c3 e0 e1 e2 e3 e4 e5 e6 e7 e8 e9 e10 e11 e12 e13 e14 e15 e16 e17 e18 b hq C3
 obtain ⟨c0, c1, c2, c3⟩ := k1.c4
 obtain ⟨e0, e1, e2, e3, e4, e5, e6, e7, e8, e9, e10, e11, e12, e13, e14, e15, e16, e17, e18⟩ := k2.c19
 have K1 := hid k1
 have K2 := hid k2
 have P := hid p
 clear k1 k2 p
 go_wp2_with (refine wpList_storeAgg rfl 99 _ _ rfl rfl W5.heap.size 99 _ #[.int .i64 g0, .int .i64 g1, .int .i64 g2, .int .i64 g3, .int .i64 g4, .int .i64 g5, .int .i64 g6, .int .i64 g7, .string es, .bool false, .bool true, .int .i64 y0, .int .i64 y1, .int .i64 y2, .int .i64 y3, .int .i64 y4, .int .i64 y5, .int .i64 y6, .int .i64 y7] rfl rfl (Blk.new W5 _ _) rfl aggPlace (one_all rfl) ?_; intro W6 hB6 hF6; have HB6 := hid hB6; have HF6 := hid hF6; clear c0 c1 c2 c3 e0 e1 e2 e3 e4 e5 e6 e7 e8 e9 e10 e11 e12 e13 e14 e15 e16 e17 e18; obtain ⟨c0, c1, c2, c3⟩ := ((K1.out.alloc _).off hF6 (by omega)).c4; obtain ⟨e0, e1, e2, e3, e4, e5, e6, e7, e8, e9, e10, e11, e12, e13, e14, e15, e16, e17, e18⟩ := ((K2.out.alloc _).off hF6 (by omega)).c19; obtain ⟨q0, q1, q2, q3, q4, q5, q6, q7, q8, q9, q10, q11, q12, q13, q14, q15, q16, q17, q18⟩ := hB6.c19; clear hB6 hF6)
 have bq := below_one (bal (Below.refl _ W5) _) (Nat.le_refl _) HF6.out
 have p := P.out.up bq (L' := (fun g => g = W1.heap.size ∨ g = W3.heap.size ∨ g = W5.heap.size)) (fun g hg => hg.elim (fun q => .inl (.inl q)) (fun q => q.elim (fun q => .inl (.inr q)) (fun q => .inr ⟨by omega, by subst q; exact HB6.out.lt⟩)))
 have k1 := (K1.out.alloc _).off HF6.out (by omega)
 have k2 := (K2.out.alloc _).off HF6.out (by omega)
 have k3 := HB6.out
 clear K1 K2 HB6 HF6 P bq
 have K1 := hid k1
 have K2 := hid k2
 have K3 := hid k3
 have P := hid p
 clear k1 k2 k3 p
 refine (C5.out _).mono ?_
 rintro e W10 ⟨rfl, b⟩
 have k1 := K1.out.up b
 have k2 := K2.out.up b
 have k3 := K3.out.up b
 have p := P.out.up b (L' := (fun g => g = W1.heap.size ∨ g = W3.heap.size ∨ g = W5.heap.size)) (fun g => .inl)
 clear c0 c1 c2 c3 e0 e1 e2 e3 e4 e5 e6 e7 e8 e9 e10 e11 e12 e13 e14 e15 e16 e17 e18 q0 q1 q2 q3 q4 q5 q6 q7 q8 q9 q10 q11 q12 q13 q14 q15 q16 q17 q18 K1 K2 K3 P b
 obtain ⟨c0, c1, c2, c3⟩ := k1.c4
 obtain ⟨e0, e1, e2, e3, e4, e5, e6, e7, e8, e9, e10, e11, e12, e13, e14, e15, e16, e17, e18⟩ := k2.c19
 obtain ⟨q0, q1, q2, q3, q4, q5, q6, q7, q8, q9, q10, q11, q12, q13, q14, q15, q16, q17, q18⟩ := k3.c19
 have K1 := hid k1
 have K2 := hid k2
 have K3 := hid k3
 have P := hid p
 clear k1 k2 k3 p
 go_wp2_with fail
 refine (C6.out _).mono ?_
 rintro e W11 ⟨rfl, b⟩
 have k1 := K1.out.up b
 have k2 := K2.out.up b
 have k3 := K3.out.up b
 have p := P.out.up b (L' := (fun g => g = W1.heap.size ∨ g = W3.heap.size ∨ g = W5.heap.size)) (fun g => .inl)
 clear c0 c1 c2 c3 e0 e1 e2 e3 e4 e5 e6 e7 e8 e9 e10 e11 e12 e13 e14 e15 e16 e17 e18 q0 q1 q2 q3 q4 q5 q6 q7 q8 q9 q10 q11 q12 q13 q14 q15 q16 q17 q18 K1 K2 K3 P b
 obtain ⟨c0, c1, c2, c3⟩ := k1.c4
 obtain ⟨e0, e1, e2, e3, e4, e5, e6, e7, e8, e9, e10, e11, e12, e13, e14, e15, e16, e17, e18⟩ := k2.c19
 obtain ⟨q0, q1, q2, q3, q4, q5, q6, q7, q8, q9, q10, q11, q12, q13, q14, q15, q16, q17, q18⟩ := k3.c19
 have K1 := hid k1
 have K2 := hid k2
 have K3 := hid k3
 have P := hid p
 clear k1 k2 k3 p
 go_wp2_with (refine wpList_loadAgg rfl 99 _ rfl W3.heap.size 99 _ rfl K2.out aggPlace ?_)
 refine (C7.out _).mono ?_
 rintro e W12 ⟨rfl, b⟩
 have k1 := K1.out.up b
 have k2 := K2.out.up b
 have k3 := K3.out.up b
 have p := P.out.up b (L' := (fun g => g = W1.heap.size ∨ g = W3.heap.size ∨ g = W5.heap.size)) (fun g => .inl)
 clear c0 c1 c2 c3 e0 e1 e2 e3 e4 e5 e6 e7 e8 e9 e10 e11 e12 e13 e14 e15 e16 e17 e18 q0 q1 q2 q3 q4 q5 q6 q7 q8 q9 q10 q11 q12 q13 q14 q15 q16 q17 q18 K1 K2 K3 P b
 obtain ⟨c0, c1, c2, c3⟩ := k1.c4
 obtain ⟨e0, e1, e2, e3, e4, e5, e6, e7, e8, e9, e10, e11, e12, e13, e14, e15, e16, e17, e18⟩ := k2.c19
 obtain ⟨q0, q1, q2, q3, q4, q5, q6, q7, q8, q9, q10, q11, q12, q13, q14, q15, q16, q17, q18⟩ := k3.c19
 have K1 := hid k1
 have K2 := hid k2
 have K3 := hid k3
 have P := hid p
 clear k1 k2 k3 p
 go_wp2_with (refine wpList_loadAgg_g rfl 99 _ rfl W5.heap.size 99 _ rfl K3.out aggPlace ?_)
 refine (C8.out _).mono ?_
 rintro e W13 ⟨rfl, b⟩
 have k1 := K1.out.up b
 have k2 := K2.out.up b
 have k3 := K3.out.up b
 have p := P.out.up b (L' := (fun g => g = W1.heap.size ∨ g = W3.heap.size ∨ g = W5.heap.size)) (fun g => .inl)
 clear c0 c1 c2 c3 e0 e1 e2 e3 e4 e5 e6 e7 e8 e9 e10 e11 e12 e13 e14 e15 e16 e17 e18 q0 q1 q2 q3 q4 q5 q6 q7 q8 q9 q10 q11 q12 q13 q14 q15 q16 q17 q18 K1 K2 K3 P b
 obtain ⟨c0, c1, c2, c3⟩ := k1.c4
 obtain ⟨e0, e1, e2, e3, e4, e5, e6, e7, e8, e9, e10, e11, e12, e13, e14, e15, e16, e17, e18⟩ := k2.c19
 obtain ⟨q0, q1, q2, q3, q4, q5, q6, q7, q8, q9, q10, q11, q12, q13, q14, q15, q16, q17, q18⟩ := k3.c19
 have K1 := hid k1
 have K2 := hid k2
 have K3 := hid k3
 have P := hid p
 clear k1 k2 k3 p
 cases st2
 ·skip
  go_wp2
  go_ret
  rw [show R = (t, 2) by rw [HR.out]; simp]
  exact ⟨rfl, P.out.done⟩
 ·skip
  go_wp2_with fail
  refine (P.out.call (fun own' hp => C9.out _ own' hp)).mono ?_
  rintro e Wz ⟨rfl, p, f⟩
  have Pz := hid p
  clear p f P c0 c1 c2 c3 e0 e1 e2 e3 e4 e5 e6 e7 e8 e9 e10 e11 e12 e13 e14 e15 e16 e17 e18 q0 q1 q2 q3 q4 q5 q6 q7 q8 q9 q10 q11 q12 q13 q14 q15 q16 q17 q18 K1 K2 K3
  go_wp2
  go_ret
  rw [show R = (t1, cz) by rw [HR.out]; simp]
  exact ⟨rfl, Pz.out.done⟩
end
section
open Go.RowKit Ino Go.Maps
open Pa (Blk strV)
variable {own : Nat → Prop} {t : T}
theorem wRename_fttx (A : Nat) (cwd r u s k g : Int) (p a : ByteArray) (hp : p.size ≤ maxLen) (ha : a.size ≤ maxLen) (w : World) (h : PTo w A own t) (hs : Sound t)
 (pp qq : Pla) (hpp : plaP t (placeP t cwd u g p.data.toList) = pp) (hqq : plaP t (placeP t cwd u g a.data.toList) = qq) (hns : pp.name.length ≤ 1000) (hna : qq.name.length ≤ 1000) (h1 : pp.err = 0) (h2 : pp.taken = true) (h3 : qq.err = 0) (h4 : pp.must = false) (h5 : qq.must = true) (h6 : qq.taken = true) (hx : ¬ (mayI pp.dir u g 2 = true ∧ mayI qq.dir u g 2 = true ∧ stickyA ⟨pp.dir, pp.name, pp.must, pp.taken, pp.entry⟩ u = true)) :
 Calls Tryz.prog 26 #[.pointer (some ⟨A, 0, none⟩), .int .i64 cwd, .agg #[.int .i64 r, .int .i64 u, .int .i64 s, .int .i64 k, .int .i64 g], .string p, .string a] w fun e w' =>
  e = .returned (.int .i64 ((renA t u g pp qq).2 : Int)) ∧ Pt w A own (renA t u g pp qq).1 w' := by
 have C1 := hid (fun W => wcallerOf_any A cwd r u s k g W)
 have C2 := hid (fun W (hq : PTo W A own t) => wlocate_any A cwd u g p hp W hq hs.sd)
 have C3 := hid (fun W own' (hq : PTo W A own' t) => wlocate_any A cwd u g a ha W hq hs.sd)
 have HPT := hid (fun W (hb : Below w.heap.size w W) => h.below hb)
 rw [hpp] at C2
 rw [hqq] at C3
 clear hpp hqq
 have hsz : (⟨pp.name.toArray⟩ : ByteArray).size ≤ maxLen := by show pp.name.length ≤ maxLen; unfold maxLen; omega
 have haz : (⟨qq.name.toArray⟩ : ByteArray).size ≤ maxLen := by show qq.name.length ≤ maxLen; unfold maxLen; omega
 have C4 := hid (fun W => wisDir_any pp.entry W)
 have C5 := hid (fun W => wmayI_any A cwd u g 2 pp.dir W)
 have C6 := hid (fun W => wmayI_any A cwd u g 2 qq.dir W)
 have C7 := hid (fun W => wkeeps_any A cwd u g ⟨pp.dir, pp.name, pp.must, pp.taken, pp.entry⟩ W)
 have C8 := hid (fun W => wkeeps_any A cwd u g ⟨qq.dir, qq.name, qq.must, qq.taken, qq.entry⟩ W)
 have C9 := hid (fun W own' (hq : PTo W A own' t) => pmove_any pp.dir.ino qq.dir.ino ⟨pp.name.toArray⟩ ⟨qq.name.toArray⟩ W hq hs hsz haz)
 have hR : renA t u g pp qq = if pp.err = 0 then
  if pp.taken = true then
   if qq.err = 0 then
    if (pp.must || qq.must) = true ∧ (pp.entry.kind == 1) = false then (t, 6)
    else if mayI pp.dir u g 2 = true ∧ mayI qq.dir u g 2 = true then
     if stickyA ⟨pp.dir, pp.name, pp.must, pp.taken, pp.entry⟩ u = true ∧ (qq.taken = true → stickyA ⟨qq.dir, qq.name, qq.must, qq.taken, qq.entry⟩ u = true) then moveP t pp.dir.ino pp.name qq.dir.ino qq.name else (t, 2)
    else (t, 4)
   else (t, qq.err)
  else (t, 3)
 else (t, pp.err) := rfl
 have e2 : (⟨pp.name.toArray⟩ : ByteArray).data.toList = pp.name := rfl
 have e2' : (⟨qq.name.toArray⟩ : ByteArray).data.toList = qq.name := rfl
 rw [e2, e2'] at C9
 simp only at C7 C8
 generalize renA t u g pp qq = R at hR ⊢
 generalize mayI pp.dir u g 2 = my at *
 generalize mayI qq.dir u g 2 = my2 at *
 generalize stickyA ⟨pp.dir, pp.name, pp.must, pp.taken, pp.entry⟩ u = st at *
 generalize stickyA ⟨qq.dir, qq.name, qq.must, qq.taken, qq.entry⟩ u = st2 at *
 generalize (pp.entry.kind == 1) = kd at *
 obtain ⟨t1, cz, hen⟩ : ∃ t1 cz, moveP t pp.dir.ino pp.name qq.dir.ino qq.name = (t1, cz) := ⟨_, _, rfl⟩
 rw [hen] at C9 hR
 obtain ⟨⟨d0, d1, d2, d3, d4, d5, d6, d7⟩, nm, mu, tk, ⟨x0, x1, x2, x3, x4, x5, x6, x7⟩, er⟩ := pp
 obtain ⟨⟨g0, g1, g2, g3, g4, g5, g6, g7⟩, nm2, mu2, tk2, ⟨y0, y1, y2, y3, y4, y5, y6, y7⟩, er2⟩ := qq
 simp only [plaV, plcC, strV] at C2 C3 C4 C5 C6 C7 C8 C9 hR
 simp only at h1 h2 h3 h4 h5 h6
 subst h1 h2 h3 h4 h5 h6
 have HR := hid hR
 have H := hid h
 clear hns hna hp ha h hs hR hsz haz e2 e2' hen
 generalize (⟨nm.toArray⟩ : ByteArray) = ds at *
 generalize (⟨nm2.toArray⟩ : ByteArray) = es at *
 go_enter Tryz.func26, Tryz.ntmps26
 go_wp2_with fail
 refine calls_world (fun W => Below w.heap.size w W) (by first | exact Below.refl _ _ | exact bel1 _ _) ?_
 rintro W b0
 refine (C1.out W).mono ?_
 rintro e W1 ⟨rfl, b1⟩
 have B1 := hid (bnext b0 b1)
 have l1 : w.heap.size ≤ W1.heap.size := B1.out.size
 clear b0 b1
 go_wp2_with fail
 refine calls_world (fun W => Blk W W1.heap.size 102 (calC A cwd u g) ∧ Below w.heap.size w W) ⟨Blk.new W1 _ _, bal B1.out _⟩ ?_
 rintro W2 ⟨k1, b2⟩
 refine (C2.out W2 (HPT.out _ b2)).mono ?_
 rintro e W3 ⟨rfl, b3⟩
 have k1 := k1.up b3
 have l3 : W1.heap.size < W3.heap.size := k1.lt
 have B3 := hid (bnext b2 b3)
 obtain ⟨c0, c1, c2, c3⟩ := k1.c4
 have K1 := hid k1
 clear k1 b2 b3 B1 C1 C2 HPT
 go_wp2_with (refine wpList_storeAgg rfl 99 _ _ rfl rfl W3.heap.size 99 _ #[.int .i64 d0, .int .i64 d1, .int .i64 d2, .int .i64 d3, .int .i64 d4, .int .i64 d5, .int .i64 d6, .int .i64 d7, .string ds, .bool false, .bool true, .int .i64 x0, .int .i64 x1, .int .i64 x2, .int .i64 x3, .int .i64 x4, .int .i64 x5, .int .i64 x6, .int .i64 x7] rfl rfl (Blk.new W3 _ _) rfl aggPlace (one_all rfl) ?_; intro W4 hB4 hF4; have HB4 := hid hB4; have HF4 := hid hF4; clear c0 c1 c2 c3; obtain ⟨c0, c1, c2, c3⟩ := ((K1.out.alloc _).off hF4 (by omega)).c4; obtain ⟨e0, e1, e2, e3, e4, e5, e6, e7, e8, e9, e10, e11, e12, e13, e14, e15, e16, e17, e18⟩ := hB4.c19; clear hB4 hF4)
 have p := Pk.start (L := (fun g => g = W1.heap.size ∨ g = W3.heap.size)) H.out (below_one (bal B3.out _) (by omega) HF4.out) (fun g hg => by have := HB4.out.lt; omega)
 have k1 := (K1.out.alloc _).off HF4.out (by omega)
 have k2 := HB4.out
 clear K1 HB4 HF4 H B3
 obtain ⟨ow, hq⟩ := p.pto
 refine (C3.out _ ow hq).mono ?_
 rintro e W5 ⟨rfl, b⟩
 have k1 := k1.up b
 have k2 := k2.up b
 have p := p.up b (L' := (fun g => g = W1.heap.size ∨ g = W3.heap.size)) (fun g => .inl)
 have l5 : W3.heap.size < W5.heap.size := k2.lt
 clear c0 c1 c2 c3 e0 e1 e2 e3 e4 e5 e6 e7 e8 e9 e10 e11 e12 e13 e14 e15 e16 e17 e18 b hq C3
 obtain ⟨c0, c1, c2, c3⟩ := k1.c4
 obtain ⟨e0, e1, e2, e3, e4, e5, e6, e7, e8, e9, e10, e11, e12, e13, e14, e15, e16, e17, e18⟩ := k2.c19
 have K1 := hid k1
 have K2 := hid k2
 have P := hid p
 clear k1 k2 p
 go_wp2_with (refine wpList_storeAgg rfl 99 _ _ rfl rfl W5.heap.size 99 _ #[.int .i64 g0, .int .i64 g1, .int .i64 g2, .int .i64 g3, .int .i64 g4, .int .i64 g5, .int .i64 g6, .int .i64 g7, .string es, .bool true, .bool true, .int .i64 y0, .int .i64 y1, .int .i64 y2, .int .i64 y3, .int .i64 y4, .int .i64 y5, .int .i64 y6, .int .i64 y7] rfl rfl (Blk.new W5 _ _) rfl aggPlace (one_all rfl) ?_; intro W6 hB6 hF6; have HB6 := hid hB6; have HF6 := hid hF6; clear c0 c1 c2 c3 e0 e1 e2 e3 e4 e5 e6 e7 e8 e9 e10 e11 e12 e13 e14 e15 e16 e17 e18; obtain ⟨c0, c1, c2, c3⟩ := ((K1.out.alloc _).off hF6 (by omega)).c4; obtain ⟨e0, e1, e2, e3, e4, e5, e6, e7, e8, e9, e10, e11, e12, e13, e14, e15, e16, e17, e18⟩ := ((K2.out.alloc _).off hF6 (by omega)).c19; obtain ⟨q0, q1, q2, q3, q4, q5, q6, q7, q8, q9, q10, q11, q12, q13, q14, q15, q16, q17, q18⟩ := hB6.c19; clear hB6 hF6)
 have bq := below_one (bal (Below.refl _ W5) _) (Nat.le_refl _) HF6.out
 have p := P.out.up bq (L' := (fun g => g = W1.heap.size ∨ g = W3.heap.size ∨ g = W5.heap.size)) (fun g hg => hg.elim (fun q => .inl (.inl q)) (fun q => q.elim (fun q => .inl (.inr q)) (fun q => .inr ⟨by omega, by subst q; exact HB6.out.lt⟩)))
 have k1 := (K1.out.alloc _).off HF6.out (by omega)
 have k2 := (K2.out.alloc _).off HF6.out (by omega)
 have k3 := HB6.out
 clear K1 K2 HB6 HF6 P bq
 have K1 := hid k1
 have K2 := hid k2
 have K3 := hid k3
 have P := hid p
 clear k1 k2 k3 p
 refine (C4.out _).mono ?_
 rintro e W10 ⟨rfl, b⟩
 have k1 := K1.out.up b
 have k2 := K2.out.up b
 have k3 := K3.out.up b
 have p := P.out.up b (L' := (fun g => g = W1.heap.size ∨ g = W3.heap.size ∨ g = W5.heap.size)) (fun g => .inl)
 clear c0 c1 c2 c3 e0 e1 e2 e3 e4 e5 e6 e7 e8 e9 e10 e11 e12 e13 e14 e15 e16 e17 e18 q0 q1 q2 q3 q4 q5 q6 q7 q8 q9 q10 q11 q12 q13 q14 q15 q16 q17 q18 K1 K2 K3 P b
 obtain ⟨c0, c1, c2, c3⟩ := k1.c4
 obtain ⟨e0, e1, e2, e3, e4, e5, e6, e7, e8, e9, e10, e11, e12, e13, e14, e15, e16, e17, e18⟩ := k2.c19
 obtain ⟨q0, q1, q2, q3, q4, q5, q6, q7, q8, q9, q10, q11, q12, q13, q14, q15, q16, q17, q18⟩ := k3.c19
 have K1 := hid k1
 have K2 := hid k2
 have K3 := hid k3
 have P := hid p
 clear k1 k2 k3 p
 cases kd
 ·skip
  go_wp2
  go_ret
  rw [show R = (t, 6) by rw [HR.out]; simp]
  exact ⟨rfl, P.out.done⟩
 ·skip
  go_wp2_with fail
  refine (C5.out _).mono ?_
  rintro e W11 ⟨rfl, b⟩
  have k1 := K1.out.up b
  have k2 := K2.out.up b
  have k3 := K3.out.up b
  have p := P.out.up b (L' := (fun g => g = W1.heap.size ∨ g = W3.heap.size ∨ g = W5.heap.size)) (fun g => .inl)
  clear c0 c1 c2 c3 e0 e1 e2 e3 e4 e5 e6 e7 e8 e9 e10 e11 e12 e13 e14 e15 e16 e17 e18 q0 q1 q2 q3 q4 q5 q6 q7 q8 q9 q10 q11 q12 q13 q14 q15 q16 q17 q18 K1 K2 K3 P b
  obtain ⟨c0, c1, c2, c3⟩ := k1.c4
  obtain ⟨e0, e1, e2, e3, e4, e5, e6, e7, e8, e9, e10, e11, e12, e13, e14, e15, e16, e17, e18⟩ := k2.c19
  obtain ⟨q0, q1, q2, q3, q4, q5, q6, q7, q8, q9, q10, q11, q12, q13, q14, q15, q16, q17, q18⟩ := k3.c19
  have K1 := hid k1
  have K2 := hid k2
  have K3 := hid k3
  have P := hid p
  clear k1 k2 k3 p
  cases my
  ·skip
   go_wp2
   go_ret
   rw [show R = (t, 4) by rw [HR.out]; simp]
   exact ⟨rfl, P.out.done⟩
  ·skip
   go_wp2_with fail
   refine (C6.out _).mono ?_
   rintro e W12 ⟨rfl, b⟩
   have k1 := K1.out.up b
   have k2 := K2.out.up b
   have k3 := K3.out.up b
   have p := P.out.up b (L' := (fun g => g = W1.heap.size ∨ g = W3.heap.size ∨ g = W5.heap.size)) (fun g => .inl)
   clear c0 c1 c2 c3 e0 e1 e2 e3 e4 e5 e6 e7 e8 e9 e10 e11 e12 e13 e14 e15 e16 e17 e18 q0 q1 q2 q3 q4 q5 q6 q7 q8 q9 q10 q11 q12 q13 q14 q15 q16 q17 q18 K1 K2 K3 P b
   obtain ⟨c0, c1, c2, c3⟩ := k1.c4
   obtain ⟨e0, e1, e2, e3, e4, e5, e6, e7, e8, e9, e10, e11, e12, e13, e14, e15, e16, e17, e18⟩ := k2.c19
   obtain ⟨q0, q1, q2, q3, q4, q5, q6, q7, q8, q9, q10, q11, q12, q13, q14, q15, q16, q17, q18⟩ := k3.c19
   have K1 := hid k1
   have K2 := hid k2
   have K3 := hid k3
   have P := hid p
   clear k1 k2 k3 p
   cases my2
   ·skip
    go_wp2
    go_ret
    rw [show R = (t, 4) by rw [HR.out]; simp]
    exact ⟨rfl, P.out.done⟩
   ·skip
    cases st
    ·skip
     go_wp2_with (refine wpList_loadAgg rfl 99 _ rfl W3.heap.size 99 _ rfl K2.out aggPlace ?_)
     refine (C7.out _).mono ?_
     rintro e W13 ⟨rfl, b⟩
     have k1 := K1.out.up b
     have k2 := K2.out.up b
     have k3 := K3.out.up b
     have p := P.out.up b (L' := (fun g => g = W1.heap.size ∨ g = W3.heap.size ∨ g = W5.heap.size)) (fun g => .inl)
     clear c0 c1 c2 c3 e0 e1 e2 e3 e4 e5 e6 e7 e8 e9 e10 e11 e12 e13 e14 e15 e16 e17 e18 q0 q1 q2 q3 q4 q5 q6 q7 q8 q9 q10 q11 q12 q13 q14 q15 q16 q17 q18 K1 K2 K3 P b
     obtain ⟨c0, c1, c2, c3⟩ := k1.c4
     obtain ⟨e0, e1, e2, e3, e4, e5, e6, e7, e8, e9, e10, e11, e12, e13, e14, e15, e16, e17, e18⟩ := k2.c19
     obtain ⟨q0, q1, q2, q3, q4, q5, q6, q7, q8, q9, q10, q11, q12, q13, q14, q15, q16, q17, q18⟩ := k3.c19
     have K1 := hid k1
     have K2 := hid k2
     have K3 := hid k3
     have P := hid p
     clear k1 k2 k3 p
     go_wp2
     go_ret
     rw [show R = (t, 2) by rw [HR.out]; simp]
     exact ⟨rfl, P.out.done⟩
    ·exact (hx (by simp)).elim
theorem wRename_ftty (A : Nat) (cwd r u s k g : Int) (p a : ByteArray) (hp : p.size ≤ maxLen) (ha : a.size ≤ maxLen) (w : World) (h : PTo w A own t) (hs : Sound t)
 (pp qq : Pla) (hpp : plaP t (placeP t cwd u g p.data.toList) = pp) (hqq : plaP t (placeP t cwd u g a.data.toList) = qq) (hns : pp.name.length ≤ 1000) (hna : qq.name.length ≤ 1000) (h1 : pp.err = 0) (h2 : pp.taken = true) (h3 : qq.err = 0) (h4 : pp.must = false) (h5 : qq.must = true) (h6 : qq.taken = true) (hy1 : mayI pp.dir u g 2 = true) (hy2 : mayI qq.dir u g 2 = true) (hy3 : stickyA ⟨pp.dir, pp.name, pp.must, pp.taken, pp.entry⟩ u = true) :
 Calls Tryz.prog 26 #[.pointer (some ⟨A, 0, none⟩), .int .i64 cwd, .agg #[.int .i64 r, .int .i64 u, .int .i64 s, .int .i64 k, .int .i64 g], .string p, .string a] w fun e w' =>
  e = .returned (.int .i64 ((renA t u g pp qq).2 : Int)) ∧ Pt w A own (renA t u g pp qq).1 w' := by
 have C1 := hid (fun W => wcallerOf_any A cwd r u s k g W)
 have C2 := hid (fun W (hq : PTo W A own t) => wlocate_any A cwd u g p hp W hq hs.sd)
 have C3 := hid (fun W own' (hq : PTo W A own' t) => wlocate_any A cwd u g a ha W hq hs.sd)
 have HPT := hid (fun W (hb : Below w.heap.size w W) => h.below hb)
 rw [hpp] at C2
 rw [hqq] at C3
 clear hpp hqq
 have hsz : (⟨pp.name.toArray⟩ : ByteArray).size ≤ maxLen := by show pp.name.length ≤ maxLen; unfold maxLen; omega
 have haz : (⟨qq.name.toArray⟩ : ByteArray).size ≤ maxLen := by show qq.name.length ≤ maxLen; unfold maxLen; omega
 have C4 := hid (fun W => wisDir_any pp.entry W)
 have C5 := hid (fun W => wmayI_any A cwd u g 2 pp.dir W)
 have C6 := hid (fun W => wmayI_any A cwd u g 2 qq.dir W)
 have C7 := hid (fun W => wkeeps_any A cwd u g ⟨pp.dir, pp.name, pp.must, pp.taken, pp.entry⟩ W)
 have C8 := hid (fun W => wkeeps_any A cwd u g ⟨qq.dir, qq.name, qq.must, qq.taken, qq.entry⟩ W)
 have C9 := hid (fun W own' (hq : PTo W A own' t) => pmove_any pp.dir.ino qq.dir.ino ⟨pp.name.toArray⟩ ⟨qq.name.toArray⟩ W hq hs hsz haz)
 have hR : renA t u g pp qq = if pp.err = 0 then
  if pp.taken = true then
   if qq.err = 0 then
    if (pp.must || qq.must) = true ∧ (pp.entry.kind == 1) = false then (t, 6)
    else if mayI pp.dir u g 2 = true ∧ mayI qq.dir u g 2 = true then
     if stickyA ⟨pp.dir, pp.name, pp.must, pp.taken, pp.entry⟩ u = true ∧ (qq.taken = true → stickyA ⟨qq.dir, qq.name, qq.must, qq.taken, qq.entry⟩ u = true) then moveP t pp.dir.ino pp.name qq.dir.ino qq.name else (t, 2)
    else (t, 4)
   else (t, qq.err)
  else (t, 3)
 else (t, pp.err) := rfl
 have e2 : (⟨pp.name.toArray⟩ : ByteArray).data.toList = pp.name := rfl
 have e2' : (⟨qq.name.toArray⟩ : ByteArray).data.toList = qq.name := rfl
 rw [e2, e2'] at C9
 simp only at C7 C8
 generalize renA t u g pp qq = R at hR ⊢
 generalize mayI pp.dir u g 2 = my at *
 generalize mayI qq.dir u g 2 = my2 at *
 generalize stickyA ⟨pp.dir, pp.name, pp.must, pp.taken, pp.entry⟩ u = st at *
 generalize stickyA ⟨qq.dir, qq.name, qq.must, qq.taken, qq.entry⟩ u = st2 at *
 generalize (pp.entry.kind == 1) = kd at *
 obtain ⟨t1, cz, hen⟩ : ∃ t1 cz, moveP t pp.dir.ino pp.name qq.dir.ino qq.name = (t1, cz) := ⟨_, _, rfl⟩
 rw [hen] at C9 hR
 obtain ⟨⟨d0, d1, d2, d3, d4, d5, d6, d7⟩, nm, mu, tk, ⟨x0, x1, x2, x3, x4, x5, x6, x7⟩, er⟩ := pp
 obtain ⟨⟨g0, g1, g2, g3, g4, g5, g6, g7⟩, nm2, mu2, tk2, ⟨y0, y1, y2, y3, y4, y5, y6, y7⟩, er2⟩ := qq
 simp only [plaV, plcC, strV] at C2 C3 C4 C5 C6 C7 C8 C9 hR
 simp only at h1 h2 h3 h4 h5 h6
 subst h1 h2 h3 h4 h5 h6
 subst hy1 hy2 hy3
 have HR := hid hR
 have H := hid h
 clear hns hna hp ha h hs hR hsz haz e2 e2' hen
 generalize (⟨nm.toArray⟩ : ByteArray) = ds at *
 generalize (⟨nm2.toArray⟩ : ByteArray) = es at *
 go_enter Tryz.func26, Tryz.ntmps26
 go_wp2_with fail
 refine calls_world (fun W => Below w.heap.size w W) (by first | exact Below.refl _ _ | exact bel1 _ _) ?_
 rintro W b0
 refine (C1.out W).mono ?_
 rintro e W1 ⟨rfl, b1⟩
 have B1 := hid (bnext b0 b1)
 have l1 : w.heap.size ≤ W1.heap.size := B1.out.size
 clear b0 b1
 go_wp2_with fail
 refine calls_world (fun W => Blk W W1.heap.size 102 (calC A cwd u g) ∧ Below w.heap.size w W) ⟨Blk.new W1 _ _, bal B1.out _⟩ ?_
 rintro W2 ⟨k1, b2⟩
 refine (C2.out W2 (HPT.out _ b2)).mono ?_
 rintro e W3 ⟨rfl, b3⟩
 have k1 := k1.up b3
 have l3 : W1.heap.size < W3.heap.size := k1.lt
 have B3 := hid (bnext b2 b3)
 obtain ⟨c0, c1, c2, c3⟩ := k1.c4
 have K1 := hid k1
 clear k1 b2 b3 B1 C1 C2 HPT
 go_wp2_with (refine wpList_storeAgg rfl 99 _ _ rfl rfl W3.heap.size 99 _ #[.int .i64 d0, .int .i64 d1, .int .i64 d2, .int .i64 d3, .int .i64 d4, .int .i64 d5, .int .i64 d6, .int .i64 d7, .string ds, .bool false, .bool true, .int .i64 x0, .int .i64 x1, .int .i64 x2, .int .i64 x3, .int .i64 x4, .int .i64 x5, .int .i64 x6, .int .i64 x7] rfl rfl (Blk.new W3 _ _) rfl aggPlace (one_all rfl) ?_; intro W4 hB4 hF4; have HB4 := hid hB4; have HF4 := hid hF4; clear c0 c1 c2 c3; obtain ⟨c0, c1, c2, c3⟩ := ((K1.out.alloc _).off hF4 (by omega)).c4; obtain ⟨e0, e1, e2, e3, e4, e5, e6, e7, e8, e9, e10, e11, e12, e13, e14, e15, e16, e17, e18⟩ := hB4.c19; clear hB4 hF4)
 have p := Pk.start (L := (fun g => g = W1.heap.size ∨ g = W3.heap.size)) H.out (below_one (bal B3.out _) (by omega) HF4.out) (fun g hg => by have := HB4.out.lt; omega)
 have k1 := (K1.out.alloc _).off HF4.out (by omega)
 have k2 := HB4.out
 clear K1 HB4 HF4 H B3
 obtain ⟨ow, hq⟩ := p.pto
 refine (C3.out _ ow hq).mono ?_
 rintro e W5 ⟨rfl, b⟩
 have k1 := k1.up b
 have k2 := k2.up b
 have p := p.up b (L' := (fun g => g = W1.heap.size ∨ g = W3.heap.size)) (fun g => .inl)
 have l5 : W3.heap.size < W5.heap.size := k2.lt
 clear c0 c1 c2 c3 e0 e1 e2 e3 e4 e5 e6 e7 e8 e9 e10 e11 e12 e13 e14 e15 e16 e17 e18 b hq C3
 obtain ⟨c0, c1, c2, c3⟩ := k1.c4
 obtain ⟨e0, e1, e2, e3, e4, e5, e6, e7, e8, e9, e10, e11, e12, e13, e14, e15, e16, e17, e18⟩ := k2.c19
 have K1 := hid k1
 have K2 := hid k2
 have P := hid p
 clear k1 k2 p
 go_wp2_with (refine wpList_storeAgg rfl 99 _ _ rfl rfl W5.heap.size 99 _ #[.int .i64 g0, .int .i64 g1, .int .i64 g2, .int .i64 g3, .int .i64 g4, .int .i64 g5, .int .i64 g6, .int .i64 g7, .string es, .bool true, .bool true, .int .i64 y0, .int .i64 y1, .int .i64 y2, .int .i64 y3, .int .i64 y4, .int .i64 y5, .int .i64 y6, .int .i64 y7] rfl rfl (Blk.new W5 _ _) rfl aggPlace (one_all rfl) ?_; intro W6 hB6 hF6; have HB6 := hid hB6; have HF6 := hid hF6; clear c0 c1 c2 c3 e0 e1 e2 e3 e4 e5 e6 e7 e8 e9 e10 e11 e12 e13 e14 e15 e16 e17 e18; obtain ⟨c0, c1, c2, c3⟩ := ((K1.out.alloc _).off hF6 (by omega)).c4; obtain ⟨e0, e1, e2, e3, e4, e5, e6, e7, e8, e9, e10, e11, e12, e13, e14, e15, e16, e17, e18⟩ := ((K2.out.alloc _).off hF6 (by omega)).c19; obtain ⟨q0, q1, q2, q3, q4, q5, q6, q7, q8, q9, q10, q11, q12, q13, q14, q15, q16, q17, q18⟩ := hB6.c19; clear hB6 hF6)
 have bq := below_one (bal (Below.refl _ W5) _) (Nat.le_refl _) HF6.out
 have p := P.out.up bq (L' := (fun g => g = W1.heap.size ∨ g = W3.heap.size ∨ g = W5.heap.size)) (fun g hg => hg.elim (fun q => .inl (.inl q)) (fun q => q.elim (fun q => .inl (.inr q)) (fun q => .inr ⟨by omega, by subst q; exact HB6.out.lt⟩)))
 have k1 := (K1.out.alloc _).off HF6.out (by omega)
 have k2 := (K2.out.alloc _).off HF6.out (by omega)
 have k3 := HB6.out
 clear K1 K2 HB6 HF6 P bq
 have K1 := hid k1
 have K2 := hid k2
 have K3 := hid k3
 have P := hid p
 clear k1 k2 k3 p
 refine (C4.out _).mono ?_
 rintro e W10 ⟨rfl, b⟩
 have k1 := K1.out.up b
 have k2 := K2.out.up b
 have k3 := K3.out.up b
 have p := P.out.up b (L' := (fun g => g = W1.heap.size ∨ g = W3.heap.size ∨ g = W5.heap.size)) (fun g => .inl)
 clear c0 c1 c2 c3 e0 e1 e2 e3 e4 e5 e6 e7 e8 e9 e10 e11 e12 e13 e14 e15 e16 e17 e18 q0 q1 q2 q3 q4 q5 q6 q7 q8 q9 q10 q11 q12 q13 q14 q15 q16 q17 q18 K1 K2 K3 P b
 obtain ⟨c0, c1, c2, c3⟩ := k1.c4
 obtain ⟨e0, e1, e2, e3, e4, e5, e6, e7, e8, e9, e10, e11, e12, e13, e14, e15, e16, e17, e18⟩ := k2.c19
 obtain ⟨q0, q1, q2, q3, q4, q5, q6, q7, q8, q9, q10, q11, q12, q13, q14, q15, q16, q17, q18⟩ := k3.c19
 have K1 := hid k1
 have K2 := hid k2
 have K3 := hid k3
 have P := hid p
 clear k1 k2 k3 p
 cases kd
 ·skip
  go_wp2
  go_ret
  rw [show R = (t, 6) by rw [HR.out]; simp]
  exact ⟨rfl, P.out.done⟩
 ·skip
  go_wp2_with fail
  refine (C5.out _).mono ?_
  rintro e W11 ⟨rfl, b⟩
  have k1 := K1.out.up b
  have k2 := K2.out.up b
  have k3 := K3.out.up b
  have p := P.out.up b (L' := (fun g => g = W1.heap.size ∨ g = W3.heap.size ∨ g = W5.heap.size)) (fun g => .inl)
  clear c0 c1 c2 c3 e0 e1 e2 e3 e4 e5 e6 e7 e8 e9 e10 e11 e12 e13 e14 e15 e16 e17 e18 q0 q1 q2 q3 q4 q5 q6 q7 q8 q9 q10 q11 q12 q13 q14 q15 q16 q17 q18 K1 K2 K3 P b
  obtain ⟨c0, c1, c2, c3⟩ := k1.c4
  obtain ⟨e0, e1, e2, e3, e4, e5, e6, e7, e8, e9, e10, e11, e12, e13, e14, e15, e16, e17, e18⟩ := k2.c19
  obtain ⟨q0, q1, q2, q3, q4, q5, q6, q7, q8, q9, q10, q11, q12, q13, q14, q15, q16, q17, q18⟩ := k3.c19
  have K1 := hid k1
  have K2 := hid k2
  have K3 := hid k3
  have P := hid p
  clear k1 k2 k3 p
  go_wp2_with fail
  refine (C6.out _).mono ?_
  rintro e W12 ⟨rfl, b⟩
  have k1 := K1.out.up b
  have k2 := K2.out.up b
  have k3 := K3.out.up b
  have p := P.out.up b (L' := (fun g => g = W1.heap.size ∨ g = W3.heap.size ∨ g = W5.heap.size)) (fun g => .inl)
  clear c0 c1 c2 c3 e0 e1 e2 e3 e4 e5 e6 e7 e8 e9 e10 e11 e12 e13 e14 e15 e16 e17 e18 q0 q1 q2 q3 q4 q5 q6 q7 q8 q9 q10 q11 q12 q13 q14 q15 q16 q17 q18 K1 K2 K3 P b
  obtain ⟨c0, c1, c2, c3⟩ := k1.c4
  obtain ⟨e0, e1, e2, e3, e4, e5, e6, e7, e8, e9, e10, e11, e12, e13, e14, e15, e16, e17, e18⟩ := k2.c19
  obtain ⟨q0, q1, q2, q3, q4, q5, q6, q7, q8, q9, q10, q11, q12, q13, q14, q15, q16, q17, q18⟩ := k3.c19
  have K1 := hid k1
  have K2 := hid k2
  have K3 := hid k3
  have P := hid p
  clear k1 k2 k3 p
  go_wp2_with (refine wpList_loadAgg rfl 99 _ rfl W3.heap.size 99 _ rfl K2.out aggPlace ?_)
  refine (C7.out _).mono ?_
  rintro e W13 ⟨rfl, b⟩
  have k1 := K1.out.up b
  have k2 := K2.out.up b
  have k3 := K3.out.up b
  have p := P.out.up b (L' := (fun g => g = W1.heap.size ∨ g = W3.heap.size ∨ g = W5.heap.size)) (fun g => .inl)
  clear c0 c1 c2 c3 e0 e1 e2 e3 e4 e5 e6 e7 e8 e9 e10 e11 e12 e13 e14 e15 e16 e17 e18 q0 q1 q2 q3 q4 q5 q6 q7 q8 q9 q10 q11 q12 q13 q14 q15 q16 q17 q18 K1 K2 K3 P b
  obtain ⟨c0, c1, c2, c3⟩ := k1.c4
  obtain ⟨e0, e1, e2, e3, e4, e5, e6, e7, e8, e9, e10, e11, e12, e13, e14, e15, e16, e17, e18⟩ := k2.c19
  obtain ⟨q0, q1, q2, q3, q4, q5, q6, q7, q8, q9, q10, q11, q12, q13, q14, q15, q16, q17, q18⟩ := k3.c19
  have K1 := hid k1
  have K2 := hid k2
  have K3 := hid k3
  have P := hid p
  clear k1 k2 k3 p
  go_wp2_with (refine wpList_loadAgg_g rfl 99 _ rfl W5.heap.size 99 _ rfl K3.out aggPlace ?_)
  refine (C8.out _).mono ?_
  rintro e W14 ⟨rfl, b⟩
  have k1 := K1.out.up b
  have k2 := K2.out.up b
  have k3 := K3.out.up b
  have p := P.out.up b (L' := (fun g => g = W1.heap.size ∨ g = W3.heap.size ∨ g = W5.heap.size)) (fun g => .inl)
  clear c0 c1 c2 c3 e0 e1 e2 e3 e4 e5 e6 e7 e8 e9 e10 e11 e12 e13 e14 e15 e16 e17 e18 q0 q1 q2 q3 q4 q5 q6 q7 q8 q9 q10 q11 q12 q13 q14 q15 q16 q17 q18 K1 K2 K3 P b
  obtain ⟨c0, c1, c2, c3⟩ := k1.c4
  obtain ⟨e0, e1, e2, e3, e4, e5, e6, e7, e8, e9, e10, e11, e12, e13, e14, e15, e16, e17, e18⟩ := k2.c19
  obtain ⟨q0, q1, q2, q3, q4, q5, q6, q7, q8, q9, q10, q11, q12, q13, q14, q15, q16, q17, q18⟩ := k3.c19
  have K1 := hid k1
  have K2 := hid k2
  have K3 := hid k3
  have P := hid p
  clear k1 k2 k3 p
  cases st2
  ·skip
   go_wp2
   go_ret
   rw [show R = (t, 2) by rw [HR.out]; simp]
   exact ⟨rfl, P.out.done⟩
  ·skip
   go_wp2_with fail
   refine (P.out.call (fun own' hp => C9.out _ own' hp)).mono ?_
   rintro e Wz ⟨rfl, p, f⟩
   have Pz := hid p
   clear p f P c0 c1 c2 c3 e0 e1 e2 e3 e4 e5 e6 e7 e8 e9 e10 e11 e12 e13 e14 e15 e16 e17 e18 q0 q1 q2 q3 q4 q5 q6 q7 q8 q9 q10 q11 q12 q13 q14 q15 q16 q17 q18 K1 K2 K3
   go_wp2
   go_ret
   rw [show R = (t1, cz) by rw [HR.out]; simp]
   exact ⟨rfl, Pz.out.done⟩
end
end Go.Proofs.YtlpececggkdhmaaGreat
