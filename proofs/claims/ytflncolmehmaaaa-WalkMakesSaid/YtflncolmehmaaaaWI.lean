/- Contracts of package walk: Mkdir. -/
import Derived.Test.YtflncolmehmaaaaWH
namespace Go.Proofs.Ytflncolmehmaaaa
open Go.RowKit Ino Go.Maps
open Pa (Blk strV)
set_option linter.unusedVariables false
set_option linter.unusedSimpArgs false
variable {own : Nat → Prop} {t : T}

/-- a directory made at a place. -/
noncomputable def mkdirA (t : T) (u g : Int) (d : Nat) (q : Pla) (mode : Int) : T × Nat :=
  if rMode mode = true then
    if q.err = 0 then
      if q.taken = true then (t, 5)
      else if mayI q.dir u g 2 = true then
        (if (createP t u g d q.name 1 mode).2.2 = 0 then ((dropP (createP t u g d q.name 1 mode).1 (createP t u g d q.name 1 mode).2.1).1, 0) else ((createP t u g d q.name 1 mode).1, (createP t u g d q.name 1 mode).2.2))
      else (t, 4)
    else (t, q.err)
  else (t, 1)
theorem mkdirA_eq (t : T) (u g : Int) (d : Nat) (q : Pla) (mode : Int) {t1 : T} {n c : Nat} (h : createP t u g d q.name 1 mode = (t1, n, c)) : mkdirA t u g d q mode = if rMode mode = true then
    if q.err = 0 then
      if q.taken = true then (t, 5)
      else if mayI q.dir u g 2 = true then
        (if c = 0 then ((dropP t1 n).1, 0) else (t1, c))
      else (t, 4)
    else (t, q.err)
  else (t, 1) := by
  unfold mkdirA
  rw [h]
set_option maxHeartbeats 4000000 in
set_option maxRecDepth 100000 in
theorem wMkdir_any (A : Nat) (cwd r u s k g : Int) (p : ByteArray) (hp : p.size ≤ maxLen) (mode : Int) (hm : wfI mode) (w : World) (h : PTo w A own t) (hs : Sound t) (hb : ∀ k, (t k).holds ≤ 999999)
    (d : Nat) (hd : (plaP t (placeP t cwd u g p.data.toList)).dir.ino = (d : Int)) (hns : (plaP t (placeP t cwd u g p.data.toList)).name.length ≤ 1000) :
    Calls Try.prog 17 #[.pointer (some ⟨A, 0, none⟩), .int .i64 cwd, .agg #[.int .i64 r, .int .i64 u, .int .i64 s, .int .i64 k, .int .i64 g], .string p, .int .i64 mode] w fun e w' =>
      e = .returned (.int .i64 ((mkdirA t u g d (plaP t (placeP t cwd u g p.data.toList)) mode).2 : Int)) ∧ Pt w A own (mkdirA t u g d (plaP t (placeP t cwd u g p.data.toList)) mode).1 w' := by
  have C0 := Lib.hid (fun W => wisMode_any mode hm W)
  have C1 := Lib.hid (fun W => wcallerOf_any A cwd r u s k g W)
  have C2 := Lib.hid (fun W (hq : PTo W A own t) => wlocate_any A cwd u g p hp W hq hs.sd)
  have HPT := Lib.hid (fun W (hb : Below w.heap.size w W) => h.below hb)
  generalize plaP t (placeP t cwd u g p.data.toList) = q at *
  have C3 := Lib.hid (fun W => wmayI_any A cwd u g 2 q.dir W)
  have C4 := Lib.hid (fun W own' (hq : PTo W A own' t) => wcreate_any A cwd u g ⟨q.dir, q.name, q.must, q.taken, q.entry⟩ 1 mode hm d hd hns W hq hs hb)
  obtain ⟨t1, n, c, hc⟩ : ∃ t1 n c, createP t u g d q.name 1 mode = (t1, n, c) := ⟨_, _, _, rfl⟩
  have s1 : Sound t1 := by have := sound_create hs u g d q.name 1 mode; rw [hc] at this; exact this
  have b1 : ∀ k, (t1 k).holds ≤ 1000000 := by have := HB.create (m := 999999) hb u g d q.name 1 mode; rw [hc] at this; exact this
  have C5 := Lib.hid (fun W own' (hq : PTo W A own' t1) => pdrop_any (n : Int) W hq s1 b1)
  have hR := mkdirA_eq t u g d q mode hc
  simp only at C4
  rw [hc] at C4
  simp only [makeV] at C4
  generalize mkdirA t u g d q mode = R at hR ⊢
  generalize mayI q.dir u g 2 = my at *
  obtain ⟨t2, ok, hdr⟩ : ∃ t2 ok, dropP t1 (n : Int) = (t2, ok) := ⟨_, _, rfl⟩
  rw [hdr] at C5
  have hdr' : (dropP t1 (n : Int)).1 = t2 := by rw [hdr]
  rw [hdr'] at hR
  simp only at C5
  obtain ⟨⟨d0, d1, d2, d3, d4, d5, d6, d7⟩, nm, mu, tk, ⟨x0, x1, x2, x3, x4, x5, x6, x7⟩, er⟩ := q
  simp only [plaV, plcC, strV] at C2 C3 C4 hR
  have HR := Lib.hid hR
  have H := Lib.hid h
  clear hd hns hp hm h hs hb hc s1 b1 hR hdr hdr'
  generalize (⟨nm.toArray⟩ : ByteArray) = ds at *
  cases hmo : rMode mode
  · rw [hmo] at C0 HR
    rw [if_neg Bool.false_ne_true] at HR
    go_enter Try.func17, Try.ntmps17
    go_wp2_with fail
    refine (C0.out _).mono ?_
    rintro e W ⟨rfl, rfl⟩
    go_wp2
    go_ret
    rw [HR.out]
    exact ⟨rfl, (Pk.start (L := fun _ => False) H.out (bel1 _ _) (fun _ => False.elim)).done⟩
  · rw [hmo] at C0 HR
    rw [if_pos rfl] at HR
    go_enter Try.func17, Try.ntmps17
    go_wp2_with fail
    refine (C0.out _).mono ?_
    rintro e W ⟨rfl, rfl⟩
    go_wp2_with fail
    refine calls_world (fun W => Below w.heap.size w W) (bel1 _ _) ?_
    rintro W b0
    refine (C1.out W).mono ?_
    rintro e W1 ⟨rfl, b1⟩
    have B1 := Lib.hid (bnext b0 b1)
    have l1 : w.heap.size ≤ W1.heap.size := B1.out.size
    clear b0 b1
    go_wp2_with fail
    refine calls_world (fun W => Blk W W1.heap.size 92 (calC A cwd u g) ∧ Below w.heap.size w W) ⟨Blk.new W1 _ _, bal B1.out _⟩ ?_
    rintro W2 ⟨k1, b2⟩
    refine (C2.out W2 (HPT.out _ b2)).mono ?_
    rintro e W3 ⟨rfl, b3⟩
    have k1 := k1.up b3
    have l3 : W1.heap.size < W3.heap.size := k1.lt
    have B3 := Lib.hid (bnext b2 b3)
    obtain ⟨c0, c1, c2, c3⟩ := k1.c4
    have K1 := Lib.hid k1
    clear k1 b2 b3 B1 C1 C0 C2 HPT
    by_cases he : er = 0
    · subst he
      rw [if_pos rfl] at HR
      cases tk
      · rw [if_neg Bool.false_ne_true] at HR
        go_wp2_with (refine wpList_storeAgg rfl 95 _ _ rfl rfl W3.heap.size 95 _ #[.int .i64 d0, .int .i64 d1, .int .i64 d2, .int .i64 d3, .int .i64 d4, .int .i64 d5, .int .i64 d6, .int .i64 d7, .string ds, .bool mu, .bool false, .int .i64 x0, .int .i64 x1, .int .i64 x2, .int .i64 x3, .int .i64 x4, .int .i64 x5, .int .i64 x6, .int .i64 x7] rfl rfl (Blk.new W3 _ _) rfl aggPlace (one_all rfl) ?_; intro W4 hB4 hF4; have HB4 := Lib.hid hB4; have HF4 := Lib.hid hF4; clear c0 c1 c2 c3; obtain ⟨c0, c1, c2, c3⟩ := ((K1.out.alloc _).off hF4 (by omega)).c4; obtain ⟨e0, e1, e2, e3, e4, e5, e6, e7, e8, e9, e10, e11, e12, e13, e14, e15, e16, e17, e18⟩ := hB4.c19; clear hB4 hF4)
        have k1 := (K1.out.alloc _).off HF4.out (by omega)
        have k2 := HB4.out
        have p1 : Pk (fun g => g = W1.heap.size ∨ g = W3.heap.size) w own A t W4 := Pk.start H.out (below_one (bal B3.out _) (by omega) HF4.out) (fun g hg => by have := k2.lt; omega)
        clear HB4 HF4 e0 e1 e2 e3 e4 e5 e6 e7 e8 e9 e10 e11 e12 e13 e14 e15 e16 e17 e18
        refine (C3.out W4).mono ?_
        rintro e W5 ⟨rfl, b5⟩
        have k1 := k1.up b5
        have k2 := k2.up b5
        have p2 := p1.up b5 (L' := fun g => g = W1.heap.size ∨ g = W3.heap.size) (fun g => .inl)
        obtain ⟨c0', c1', c2', c3'⟩ := k1.c4
        have K2 := Lib.hid k2
        have P2 := Lib.hid p2
        clear k1 k2 p1 p2 b5 H K1 B3 c0 c1 c2 c3 C3
        cases my
        · rw [if_neg Bool.false_ne_true] at HR
          go_wp2
          go_ret
          rw [HR.out]
          exact ⟨rfl, P2.out.done⟩
        · rw [if_pos rfl] at HR
          go_wp2_with (refine wpList_loadAgg rfl 95 _ rfl W3.heap.size 95 _ rfl K2.out aggPlace ?_)
          refine (P2.out.call (fun own' hp => C4.out W5 own' hp)).mono ?_
          rintro e W6 ⟨rfl, p3, f3⟩
          have P3 := Lib.hid p3
          clear p3 f3 P2 K2 c0' c1' c2' c3' C4
          by_cases hc : c = 0
          · subst hc
            rw [if_pos rfl] at HR
            go_wp2_with fail
            refine (P3.out.call (fun own' hp => C5.out W6 own' hp)).mono ?_
            rintro e W7 ⟨rfl, p4, f4⟩
            have P4 := Lib.hid p4
            clear p4 f4 P3 C5
            go_wp2
            go_ret
            rw [HR.out]
            exact ⟨rfl, P4.out.done⟩
          · have he2 : ((c : Int) == 0) = false := by simp; omega
            have he3 : ((c : Int) != 0) = true := by simp; omega
            rw [if_neg hc] at HR
            go_wp2
            go_ret
            rw [HR.out]
            exact ⟨rfl, P3.out.done⟩
      · rw [if_pos rfl] at HR
        go_wp2_with (refine wpList_storeAgg rfl 95 _ _ rfl rfl W3.heap.size 95 _ #[.int .i64 d0, .int .i64 d1, .int .i64 d2, .int .i64 d3, .int .i64 d4, .int .i64 d5, .int .i64 d6, .int .i64 d7, .string ds, .bool mu, .bool true, .int .i64 x0, .int .i64 x1, .int .i64 x2, .int .i64 x3, .int .i64 x4, .int .i64 x5, .int .i64 x6, .int .i64 x7] rfl rfl (Blk.new W3 _ _) rfl aggPlace (one_all rfl) ?_; intro W4 hB4 hF4; have HB4 := Lib.hid hB4; have HF4 := Lib.hid hF4; have e10 : W4.cell? ⟨W3.heap.size, 10, none⟩ = some (.bool true) := hB4.cell 10; clear hB4 hF4)
        go_ret
        rw [HR.out]
        exact ⟨rfl, (Pk.start (L := fun _ => False) H.out (below_one (bal B3.out _) (by omega) HF4.out) (fun _ => False.elim)).done⟩
    · have he2 : ((er : Int) == 0) = false := by simp; omega
      have he3 : ((er : Int) != 0) = true := by simp; omega
      rw [if_neg he] at HR
      go_wp2_with (refine wpList_storeAgg rfl 95 _ _ rfl rfl W3.heap.size 95 _ #[.int .i64 d0, .int .i64 d1, .int .i64 d2, .int .i64 d3, .int .i64 d4, .int .i64 d5, .int .i64 d6, .int .i64 d7, .string ds, .bool mu, .bool tk, .int .i64 x0, .int .i64 x1, .int .i64 x2, .int .i64 x3, .int .i64 x4, .int .i64 x5, .int .i64 x6, .int .i64 x7] rfl rfl (Blk.new W3 _ _) rfl aggPlace (one_all rfl) ?_; intro W4 hB4 hF4; have HB4 := Lib.hid hB4; have HF4 := Lib.hid hF4; have e10 : W4.cell? ⟨W3.heap.size, 10, none⟩ = some (.bool tk) := hB4.cell 10; clear hB4 hF4)
      go_ret
      rw [HR.out]
      exact ⟨rfl, (Pk.start (L := fun _ => False) H.out (below_one (bal B3.out _) (by omega) HF4.out) (fun _ => False.elim)).done⟩
end Go.Proofs.Ytflncolmehmaaaa
