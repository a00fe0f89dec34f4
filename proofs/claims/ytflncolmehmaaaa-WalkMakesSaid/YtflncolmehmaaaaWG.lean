/- Contracts of package walk: isMode, keepsSticky, mayGive, openNew. -/
import Derived.Test.YtflncolmehmaaaaWF
namespace Go.Proofs.Ytflncolmehmaaaa
open Go.RowKit Ino Go.Maps
open Pa (Blk strV)
set_option linter.unusedVariables false
set_option linter.unusedSimpArgs false
variable {own : Nat → Prop} {t : T}

theorem wisMode_any (n : Int) (hn : wfI n) (w : World) : Calls Try.prog 53 #[.int .i64 n] w fun e w' => e = .returned (.bool (rMode n)) ∧ w = w' := by
  have C := Lib.hid (fun w => pright_any n hn w)
  generalize rMode n = b at *
  go_enter Try.func53, Try.ntmps53
  go_wp2_with (go_at_call 73; refine (C.out _).mono ?_; rintro e w' ⟨rfl, rfl⟩)
  go_ret
  exact ⟨rfl, rfl⟩
/-- the sticky rule, of a place. -/
def stickyA (p : PlA) (u : Int) : Bool := (bits .and .i64 p.dir.mode 512 == 0) || (u == 0 || (u == p.dir.owner || u == p.entry.owner))
set_option maxHeartbeats 4000000 in
set_option maxRecDepth 100000 in
theorem wkeeps_any (A : Nat) (cwd u g : Int) (p : PlA) (w : World) :
    Calls Try.prog 64 #[(.agg #[.pointer (some ⟨A, 0, none⟩), .int .i64 cwd, .int .i64 u, .int .i64 g]), .agg (plcC p.dir p.name p.must p.taken p.entry)] w fun e w' => e = .returned (.bool (stickyA p u)) ∧ Below w.heap.size w w' := by
  obtain ⟨⟨d0, d1, d2, d3, d4, d5, d6, d7⟩, nm, mu, tk, ⟨x0, x1, x2, x3, x4, x5, x6, x7⟩⟩ := p
  have hr : stickyA ⟨⟨d0, d1, d2, d3, d4, d5, d6, d7⟩, nm, mu, tk, ⟨x0, x1, x2, x3, x4, x5, x6, x7⟩⟩ u = ((bits .and .i64 d2 512 == 0) || (u == 0 || (u == d3 || u == x3))) := rfl
  generalize stickyA ⟨⟨d0, d1, d2, d3, d4, d5, d6, d7⟩, nm, mu, tk, ⟨x0, x1, x2, x3, x4, x5, x6, x7⟩⟩ u = r at hr ⊢
  have C0 := Lib.hid (fun w => wisZero_any A cwd u g w)
  have C1 := Lib.hid (fun w => wowns_any A cwd u g ⟨d0, d1, d2, d3, d4, d5, d6, d7⟩ w)
  have C2 := Lib.hid (fun w => wowns_any A cwd u g ⟨x0, x1, x2, x3, x4, x5, x6, x7⟩ w)
  simp only at C1 C2 ⊢
  have HR := Lib.hid hr
  clear hr
  unfold plcC strV
  simp only
  generalize (⟨nm.toArray⟩ : ByteArray) = ds at *
  cases hb : (bits .and .i64 d2 512 == 0)
  · rw [hb] at HR
    go_enter Try.func64, Try.ntmps64
    go_wp2_with fail
    refine calls_world (fun W => Blk W w.heap.size 92 (calC A cwd u g) ∧ Blk W (w.heap.size + 1) 95 #[.int .i64 d0, .int .i64 d1, .int .i64 d2, .int .i64 d3, .int .i64 d4, .int .i64 d5, .int .i64 d6, .int .i64 d7, .string ds, .bool mu, .bool tk, .int .i64 x0, .int .i64 x1, .int .i64 x2, .int .i64 x3, .int .i64 x4, .int .i64 x5, .int .i64 x6, .int .i64 x7] ∧ Below w.heap.size w W) ⟨(Blk.new w _ _).alloc _, blk1 w _ _ _, bel2 _ _ _⟩ ?_
    rintro W ⟨k1, k2, b1⟩
    refine (C0.out W).mono ?_
    rintro e W2 ⟨rfl, b2⟩
    have k1 := k1.up b2
    have k2 := k2.up b2
    have b1 := bnext b1 b2
    obtain ⟨c0, c1, c2, c3⟩ := k1.c4
    have K1 := Lib.hid k1
    have K2 := Lib.hid k2
    have B1 := Lib.hid b1
    clear k1 k2 b1 b2
    cases h0 : (u == 0)
    · rw [h0] at HR
      obtain ⟨e0, e1, e2, e3, e4, e5, e6, e7, e8, e9, e10, e11, e12, e13, e14, e15, e16, e17, e18⟩ := K2.out.c19
      go_wp2_with fail
      refine (C1.out _).mono ?_
      rintro e W3 ⟨rfl, b2⟩
      have k1 := K1.out.up b2
      have k2 := K2.out.up b2
      have b1 := bnext B1.out b2
      clear e0 e1 e2 e3 e4 e5 e6 e7 e8 e9 e10 e11 e12 e13 e14 e15 e16 e17 e18 c0 c1 c2 c3 K1 K2 B1 b2
      obtain ⟨c0, c1, c2, c3⟩ := k1.c4
      obtain ⟨e0, e1, e2, e3, e4, e5, e6, e7, e8, e9, e10, e11, e12, e13, e14, e15, e16, e17, e18⟩ := k2.c19
      have B1 := Lib.hid b1
      clear k1 k2 b1
      cases h1 : (u == d3)
      · rw [h1] at HR
        go_wp2_with fail
        refine (C2.out _).mono ?_
        rintro e W4 ⟨rfl, b2⟩
        have B2 := Lib.hid (bnext B1.out b2)
        clear b2 B1 e0 e1 e2 e3 e4 e5 e6 e7 e8 e9 e10 e11 e12 e13 e14 e15 e16 e17 e18 c0 c1 c2 c3
        go_wp2
        go_ret
        exact ⟨ret_bool (by rw [HR.out]; simp), B2.out⟩
      · rw [h1] at HR
        go_wp2
        go_ret
        exact ⟨ret_bool (by rw [HR.out]; rfl), B1.out⟩
    · rw [h0] at HR
      go_wp2
      go_ret
      exact ⟨ret_bool (by rw [HR.out]; rfl), B1.out⟩
  · rw [hb] at HR
    go_enter Try.func64, Try.ntmps64
    go_wp2
    go_ret
    exact ⟨ret_bool (by rw [HR.out]; rfl), bel2 _ _ _⟩
/-- who may give an inode away. -/
def giveA (a : Inf) (u g o k : Int) : Bool := (u == a.owner) && ((o == a.owner) && (k == g || k == a.group))
set_option maxHeartbeats 4000000 in
set_option maxRecDepth 100000 in
theorem wmayGive_any (A : Nat) (cwd u g : Int) (a : Inf) (o k : Int) (w : World) :
    Calls Try.prog 88 #[(.agg #[.pointer (some ⟨A, 0, none⟩), .int .i64 cwd, .int .i64 u, .int .i64 g]), (.agg #[.int .i64 a.ino, .int .i64 a.kind, .int .i64 a.mode, .int .i64 a.owner, .int .i64 a.group, .int .i64 a.links, .int .i64 a.size, .int .i64 a.tty]), .int .i64 o, .int .i64 k] w fun e w' => e = .returned (.bool (giveA a u g o k)) ∧ Below w.heap.size w w' := by
  have hr : giveA a u g o k = ((u == a.owner) && ((o == a.owner) && (k == g || k == a.group))) := rfl
  have C1 := Lib.hid (fun w => wowns_any A cwd u g a w)
  generalize giveA a u g o k = r at hr ⊢
  obtain ⟨d0, d1, d2, d3, d4, d5, d6, d7⟩ := a
  simp only at C1 hr ⊢
  have HR := Lib.hid hr
  clear hr
  go_enter Try.func88, Try.ntmps88
  go_wp2_with fail
  refine calls_world (fun W => Blk W w.heap.size 92 (calC A cwd u g) ∧ Blk W (w.heap.size + 1) 38 #[.int .i64 d0, .int .i64 d1, .int .i64 d2, .int .i64 d3, .int .i64 d4, .int .i64 d5, .int .i64 d6, .int .i64 d7] ∧ Below w.heap.size w W) ⟨(Blk.new w _ _).alloc _, blk1 w _ _ _, bel2 _ _ _⟩ ?_
  rintro W ⟨k1, k2, b1⟩
  refine (C1.out W).mono ?_
  rintro e W2 ⟨rfl, b2⟩
  have k1 := k1.up b2
  have k2 := k2.up b2
  have b1 := bnext b1 b2
  obtain ⟨c0, c1, c2, c3⟩ := k1.c4
  obtain ⟨e0, e1, e2, e3, e4, e5, e6, e7⟩ := k2.c8
  have B1 := Lib.hid b1
  clear k1 k2 b1 b2
  cases h0 : (u == d3)
  · rw [h0] at HR
    go_wp2
    go_ret
    exact ⟨ret_bool (by rw [HR.out]; rfl), B1.out⟩
  · rw [h0] at HR
    cases h1 : (o == d3)
    · rw [h1] at HR
      go_wp2
      go_ret
      exact ⟨ret_bool (by rw [HR.out]; rfl), B1.out⟩
    · rw [h1] at HR
      cases h2 : (k == g)
      · rw [h2] at HR
        go_wp2
        go_ret
        exact ⟨ret_bool (by rw [HR.out]; simp), B1.out⟩
      · rw [h2] at HR
        go_wp2
        go_ret
        exact ⟨ret_bool (by rw [HR.out]; rfl), B1.out⟩
/-- a file made where there is none. -/
noncomputable def newP (t : T) (u g : Int) (d : Nat) (p : PlA) (mode : Int) : T × Nat × Nat :=
  if p.must = true then (t, 0, 7) else if mayI p.dir u g 2 = true then createP t u g d p.name 0 mode else (t, 0, 4)
set_option maxHeartbeats 4000000 in
set_option maxRecDepth 100000 in
theorem wopenNew_any (A : Nat) (cwd u g : Int) (p : PlA) (mode : Int) (hm : wfI mode) (d : Nat) (hd : p.dir.ino = (d : Int)) (hns : p.name.length ≤ 1000) (w : World) (h : PTo w A own t) (hs : Sound t) (hb : ∀ k, (t k).holds ≤ 999999) :
    Calls Try.prog 61 #[(.agg #[.pointer (some ⟨A, 0, none⟩), .int .i64 cwd, .int .i64 u, .int .i64 g]), .agg (plcC p.dir p.name p.must p.taken p.entry), .int .i64 mode] w fun e w' => e = .returned (makeV (newP t u g d p mode).2) ∧ Pt w A own (newP t u g d p mode).1 w' := by
  have hR : newP t u g d p mode = if p.must = true then (t, 0, 7) else if mayI p.dir u g 2 = true then createP t u g d p.name 0 mode else (t, 0, 4) := rfl
  have C2 := Lib.hid (fun W own' (hp : PTo W A own' t) => wcreate_any A cwd u g p 0 mode hm d hd hns W hp hs hb)
  have C1 := Lib.hid (fun w => wmayI_any A cwd u g 2 p.dir w)
  generalize newP t u g d p mode = r at hR ⊢
  generalize createP t u g d p.name 0 mode = cr at *
  generalize mayI p.dir u g 2 = my at *
  obtain ⟨⟨d0, d1, d2, d3, d4, d5, d6, d7⟩, nm, mu, tk, ⟨x0, x1, x2, x3, x4, x5, x6, x7⟩⟩ := p
  simp only at C1 C2 hR hd ⊢
  clear hd hns hm
  unfold plcC strV at C2 ⊢
  simp only at C2 ⊢
  generalize (⟨nm.toArray⟩ : ByteArray) = ds at *
  have HR := Lib.hid hR
  have H := Lib.hid h
  clear hR h hs hb
  cases mu
  · rw [if_neg Bool.false_ne_true] at HR
    go_enter Try.func61, Try.ntmps61
    go_wp2_with fail
    refine calls_world (fun W => Blk W w.heap.size 92 (calC A cwd u g) ∧ Blk W (w.heap.size + 1) 95 #[.int .i64 d0, .int .i64 d1, .int .i64 d2, .int .i64 d3, .int .i64 d4, .int .i64 d5, .int .i64 d6, .int .i64 d7, .string ds, .bool false, .bool tk, .int .i64 x0, .int .i64 x1, .int .i64 x2, .int .i64 x3, .int .i64 x4, .int .i64 x5, .int .i64 x6, .int .i64 x7] ∧ Pk (fun g => g = w.heap.size ∨ g = w.heap.size + 1) w own A t W) ⟨(Blk.new w _ _).alloc _, blk1 w _ _ _, Pk.start H.out (bel2 _ _ _) (fun g hg => by simp; omega)⟩ ?_
    rintro W ⟨k1, k2, p1⟩
    refine (C1.out W).mono ?_
    rintro e W2 ⟨rfl, b2⟩
    have k1 := k1.up b2
    have k2 := k2.up b2
    have p2 := p1.up b2 (L' := fun g => g = w.heap.size ∨ g = w.heap.size + 1) (fun g => .inl)
    have K1 := Lib.hid k1
    have K2 := Lib.hid k2
    have P2 := Lib.hid p2
    obtain ⟨c0, c1, c2, c3⟩ := k1.c4
    clear k1 k2 p1 p2 b2 H
    cases my
    · rw [if_neg Bool.false_ne_true] at HR
      go_wp2
      go_ret2
      rw [HR.out]
      exact ⟨rfl, P2.out.done⟩
    · rw [if_pos rfl] at HR
      go_wp2_with (refine wpList_loadAgg rfl 95 _ rfl (w.heap.size + 1) 95 _ rfl K2.out aggPlace ?_)
      refine (P2.out.call (fun own' hp => C2.out W2 own' hp)).mono ?_
      rintro e W3 ⟨rfl, p3, f3⟩
      obtain ⟨t3, n3, c3'⟩ := cr
      simp only [makeV] at HR ⊢
      have P3 := Lib.hid p3
      clear p3 f3 P2 K1 K2 c0 c1 c2 c3
      go_wp2
      go_ret2
      rw [HR.out]
      exact ⟨rfl, P3.out.done⟩
  · rw [if_pos rfl] at HR
    go_enter Try.func61, Try.ntmps61
    go_wp2
    go_ret2
    rw [HR.out]
    exact ⟨rfl, (Pk.start (L := fun _ => False) H.out (bel2 _ _ _) (fun _ => False.elim)).done⟩
end Go.Proofs.Ytflncolmehmaaaa
