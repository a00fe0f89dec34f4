/- Contracts of package walk: Link. -/
import Derived.Test.YtflncolmehmaaaaWI
namespace Go.Proofs.Ytflncolmehmaaaa
open Go.RowKit Ino Go.Maps
open Pa (Blk strV)
set_option linter.unusedVariables false
set_option linter.unusedSimpArgs false
variable {own : Nat → Prop} {t : T}

/-- a link made at a place. -/
noncomputable def linkA (t : T) (u g : Int) (n : Inf × Nat) (q : Pla) : T × Nat :=
  if n.2 = 0 then
    if (n.1.kind == 1) = true then (t, 7)
    else if q.err = 0 then
      if q.taken = true then (t, 5)
      else if q.must = true then (t, 6)
      else if mayI q.dir u g 2 = true then enterP t q.dir.ino q.name n.1.ino
      else (t, 4)
    else (t, q.err)
  else (t, n.2)
set_option maxHeartbeats 4000000 in
set_option maxRecDepth 100000 in
theorem wLink_any (A : Nat) (cwd r u s k g : Int) (p a : ByteArray) (hp : p.size ≤ maxLen) (ha : a.size ≤ maxLen) (w : World) (h : PTo w A own t) (hsd : Sd t)
    (hns : (plaP t (placeP t cwd u g a.data.toList)).name.length ≤ 1000) :
    Calls Try.prog 21 #[.pointer (some ⟨A, 0, none⟩), .int .i64 cwd, .agg #[.int .i64 r, .int .i64 u, .int .i64 s, .int .i64 k, .int .i64 g], .string p, .string a] w fun e w' =>
      e = .returned (.int .i64 ((linkA t u g (toldI t (findP t cwd u g p.data.toList)) (plaP t (placeP t cwd u g a.data.toList))).2 : Int)) ∧ Pt w A own (linkA t u g (toldI t (findP t cwd u g p.data.toList)) (plaP t (placeP t cwd u g a.data.toList))).1 w' := by
  have C1 := Lib.hid (fun W => wcallerOf_any A cwd r u s k g W)
  have C2 := Lib.hid (fun W (hq : PTo W A own t) => wfind_any A cwd u g p hp W hq hsd)
  have C3 := Lib.hid (fun W (hq : PTo W A own t) => wlocate_any A cwd u g a ha W hq hsd)
  have HPT := Lib.hid (fun W (hb : Below w.heap.size w W) => h.below hb)
  generalize plaP t (placeP t cwd u g a.data.toList) = q at *
  generalize toldI t (findP t cwd u g p.data.toList) = n at *
  have hsz : (⟨q.name.toArray⟩ : ByteArray).size ≤ maxLen := by show q.name.length ≤ maxLen; unfold maxLen; omega
  have C4 := Lib.hid (fun W => wisDir_any n.1 W)
  have C5 := Lib.hid (fun W => wmayI_any A cwd u g 2 q.dir W)
  have C6 := Lib.hid (fun W own' (hq : PTo W A own' t) => penter_any q.dir.ino n.1.ino ⟨q.name.toArray⟩ W hq hsd hsz)
  have hR : linkA t u g n q = if n.2 = 0 then
    if (n.1.kind == 1) = true then (t, 7)
    else if q.err = 0 then
      if q.taken = true then (t, 5)
      else if q.must = true then (t, 6)
      else if mayI q.dir u g 2 = true then enterP t q.dir.ino q.name n.1.ino
      else (t, 4)
    else (t, q.err)
  else (t, n.2) := rfl
  have e2 : (⟨q.name.toArray⟩ : ByteArray).data.toList = q.name := rfl
  rw [e2] at C6
  generalize linkA t u g n q = R at hR ⊢
  generalize mayI q.dir u g 2 = my at *
  obtain ⟨t1, c1, hen⟩ : ∃ t1 c1, enterP t q.dir.ino q.name n.1.ino = (t1, c1) := ⟨_, _, rfl⟩
  rw [hen] at C6 hR
  obtain ⟨⟨d0, d1, d2, d3, d4, d5, d6, d7⟩, nm, mu, tk, ⟨x0, x1, x2, x3, x4, x5, x6, x7⟩, er⟩ := q
  obtain ⟨⟨f0, f1, f2, f3, f4, f5, f6, f7⟩, fe⟩ := n
  simp only [plaV, plcC, strV, ansV, infAg, infC] at C2 C3 C4 C5 C6 hR
  have HR := Lib.hid hR
  have H := Lib.hid h
  clear hns hp ha h hsd hR hsz e2 hen
  generalize (⟨nm.toArray⟩ : ByteArray) = ds at *
  go_enter Try.func21, Try.ntmps21
  go_wp2_with fail
  refine calls_world (fun W => Below w.heap.size w W) (by first | exact Below.refl _ _ | exact bel1 _ _) ?_
  rintro W b0
  refine (C1.out W).mono ?_
  rintro e W1 ⟨rfl, b1⟩
  have B1 := Lib.hid (bnext b0 b1)
  have l1 : w.heap.size ≤ W1.heap.size := B1.out.size
  clear b0 b1
  go_wp2_with fail
  refine calls_world (fun W => Blk W W1.heap.size 92 (calC A cwd u g) ∧ Below w.heap.size w W) ⟨Blk.new W1 _ _, bal B1.out _⟩ ?_
  rintro W2 ⟨k1, b2⟩
  refine (C2.out W2 (HPT.out _ b2)).mono ?_
  rintro e W3 ⟨rfl, b3⟩
  have k1 := k1.up b3
  have l3 : W1.heap.size < W3.heap.size := k1.lt
  have B3 := Lib.hid (bnext b2 b3)
  have K1 := Lib.hid k1
  clear k1 b2 b3 B1 C1 C2
  by_cases hfe : fe = 0
  · subst hfe
    rw [if_pos rfl] at HR
    go_wp2_with fail
    refine calls_world (fun W => Blk W W1.heap.size 92 (calC A cwd u g) ∧ Blk W W3.heap.size 38 #[.int .i64 f0, .int .i64 f1, .int .i64 f2, .int .i64 f3, .int .i64 f4, .int .i64 f5, .int .i64 f6, .int .i64 f7] ∧ Below w.heap.size w W) ⟨K1.out.alloc _, Blk.new W3 _ _, bal B3.out _⟩ ?_
    rintro W4 ⟨k1, k2, b4⟩
    refine (C4.out W4).mono ?_
    rintro e W5 ⟨rfl, b5⟩
    have k1 := k1.up b5
    have k2 := k2.up b5
    have B5 := Lib.hid (bnext b4 b5)
    obtain ⟨c0, c1', c2, c3⟩ := k1.c4
    have K1 := Lib.hid k1
    have K2 := Lib.hid k2
    clear k1 k2 b4 b5 B3 C4
    cases hk : (f1 == 1)
    · rw [hk] at HR
      rw [if_neg Bool.false_ne_true] at HR
      go_wp2_with fail
      refine (C3.out W5 (HPT.out _ B5.out)).mono ?_
      rintro e W7 ⟨rfl, b7⟩
      have k1 := K1.out.up b7
      have k2 := K2.out.up b7
      have l7 : W3.heap.size < W7.heap.size := k2.lt
      have B7 := Lib.hid (bnext B5.out b7)
      clear c0 c1' c2 c3 K1 K2 B5 b7 C3 HPT
      obtain ⟨c0, c1, c2, c3⟩ := k1.c4
      obtain ⟨i0, i1, i2, i3, i4, i5, i6, i7⟩ := k2.c8
      have K1 := Lib.hid k1
      have K2 := Lib.hid k2
      clear k1 k2
      by_cases he : er = 0
      · subst he
        rw [if_pos rfl] at HR
        cases tk
        · rw [if_neg Bool.false_ne_true] at HR
          cases mu
          · rw [if_neg Bool.false_ne_true] at HR
            go_wp2_with (refine wpList_storeAgg rfl 95 _ _ rfl rfl W7.heap.size 95 _ #[.int .i64 d0, .int .i64 d1, .int .i64 d2, .int .i64 d3, .int .i64 d4, .int .i64 d5, .int .i64 d6, .int .i64 d7, .string ds, .bool false, .bool false, .int .i64 x0, .int .i64 x1, .int .i64 x2, .int .i64 x3, .int .i64 x4, .int .i64 x5, .int .i64 x6, .int .i64 x7] rfl rfl (Blk.new W7 _ _) rfl aggPlace (one_all rfl) ?_; intro W8 hB4 hF4; have HB4 := Lib.hid hB4; have HF4 := Lib.hid hF4; clear c0 c1 c2 c3 i0 i1 i2 i3 i4 i5 i6 i7; obtain ⟨c0, c1, c2, c3⟩ := ((K1.out.alloc _).off hF4 (by omega)).c4; obtain ⟨i0, i1, i2, i3, i4, i5, i6, i7⟩ := ((K2.out.alloc _).off hF4 (by omega)).c8; obtain ⟨e0, e1, e2, e3, e4, e5, e6, e7, e8, e9, e10, e11, e12, e13, e14, e15, e16, e17, e18⟩ := hB4.c19; clear hB4 hF4)
            have k1 := (K1.out.alloc _).off HF4.out (by omega)
            have k2 := (K2.out.alloc _).off HF4.out (by omega)
            have k3 := HB4.out
            have p1 : Pk (fun g => g = W1.heap.size ∨ g = W3.heap.size ∨ g = W7.heap.size) w own A t W8 := Pk.start H.out (below_one (bal B7.out _) (by omega) HF4.out) (fun g hg => by have := k3.lt; omega)
            clear HB4 HF4 e0 e1 e2 e3 e4 e5 e6 e7 e8 e9 e10 e11 e12 e13 e14 e15 e16 e17 e18 c0 c1 c2 c3 i0 i1 i2 i3 i4 i5 i6 i7
            refine (C5.out W8).mono ?_
            rintro e W9 ⟨rfl, b9⟩
            have k1 := k1.up b9
            have k2 := k2.up b9
            have k3 := k3.up b9
            have p2 := p1.up b9 (L' := fun g => g = W1.heap.size ∨ g = W3.heap.size ∨ g = W7.heap.size) (fun g => .inl)
            obtain ⟨i0, i1, i2, i3, i4, i5, i6, i7⟩ := k2.c8
            have e0 := k3.cell 0
            have e8 := k3.cell 8
            simp only [List.getElem?_toArray, List.getElem?_cons_zero, List.getElem?_cons_succ] at e0 e8
            have P2 := Lib.hid p2
            clear k1 k2 k3 p1 p2 b9 H K1 K2 B7 C5
            cases my
            · rw [if_neg Bool.false_ne_true] at HR
              go_wp2
              go_ret
              rw [HR.out]
              exact ⟨rfl, P2.out.done⟩
            · rw [if_pos rfl] at HR
              go_wp2_with fail
              refine (P2.out.call (fun own' hp => C6.out W9 own' hp)).mono ?_
              rintro e W10 ⟨rfl, p3, f3⟩
              have P3 := Lib.hid p3
              clear p3 f3 P2 C6 e0 e8 i0 i1 i2 i3 i4 i5 i6 i7
              go_wp2
              go_ret
              rw [HR.out]
              exact ⟨rfl, P3.out.done⟩
          · rw [if_pos rfl] at HR
            go_wp2_with (refine wpList_storeAgg rfl 95 _ _ rfl rfl W7.heap.size 95 _ #[.int .i64 d0, .int .i64 d1, .int .i64 d2, .int .i64 d3, .int .i64 d4, .int .i64 d5, .int .i64 d6, .int .i64 d7, .string ds, .bool true, .bool false, .int .i64 x0, .int .i64 x1, .int .i64 x2, .int .i64 x3, .int .i64 x4, .int .i64 x5, .int .i64 x6, .int .i64 x7] rfl rfl (Blk.new W7 _ _) rfl aggPlace (one_all rfl) ?_; intro W8 hB4 hF4; have HB4 := Lib.hid hB4; have HF4 := Lib.hid hF4; clear c0 c1 c2 c3 i0 i1 i2 i3 i4 i5 i6 i7; obtain ⟨c0, c1, c2, c3⟩ := ((K1.out.alloc _).off hF4 (by omega)).c4; obtain ⟨i0, i1, i2, i3, i4, i5, i6, i7⟩ := ((K2.out.alloc _).off hF4 (by omega)).c8; obtain ⟨e0, e1, e2, e3, e4, e5, e6, e7, e8, e9, e10, e11, e12, e13, e14, e15, e16, e17, e18⟩ := hB4.c19; clear hB4 hF4)
            go_ret
            rw [HR.out]
            exact ⟨rfl, (Pk.start (L := fun _ => False) H.out (below_one (bal B7.out _) (by omega) HF4.out) (fun _ => False.elim)).done⟩
        · rw [if_pos rfl] at HR
          go_wp2_with (refine wpList_storeAgg rfl 95 _ _ rfl rfl W7.heap.size 95 _ #[.int .i64 d0, .int .i64 d1, .int .i64 d2, .int .i64 d3, .int .i64 d4, .int .i64 d5, .int .i64 d6, .int .i64 d7, .string ds, .bool mu, .bool true, .int .i64 x0, .int .i64 x1, .int .i64 x2, .int .i64 x3, .int .i64 x4, .int .i64 x5, .int .i64 x6, .int .i64 x7] rfl rfl (Blk.new W7 _ _) rfl aggPlace (one_all rfl) ?_; intro W8 hB4 hF4; have HB4 := Lib.hid hB4; have HF4 := Lib.hid hF4; clear c0 c1 c2 c3 i0 i1 i2 i3 i4 i5 i6 i7; obtain ⟨c0, c1, c2, c3⟩ := ((K1.out.alloc _).off hF4 (by omega)).c4; obtain ⟨i0, i1, i2, i3, i4, i5, i6, i7⟩ := ((K2.out.alloc _).off hF4 (by omega)).c8; obtain ⟨e0, e1, e2, e3, e4, e5, e6, e7, e8, e9, e10, e11, e12, e13, e14, e15, e16, e17, e18⟩ := hB4.c19; clear hB4 hF4)
          go_ret
          rw [HR.out]
          exact ⟨rfl, (Pk.start (L := fun _ => False) H.out (below_one (bal B7.out _) (by omega) HF4.out) (fun _ => False.elim)).done⟩
      · have he2 : ((er : Int) == 0) = false := by simp; omega
        have he3 : ((er : Int) != 0) = true := by simp; omega
        rw [if_neg he] at HR
        go_wp2_with (refine wpList_storeAgg rfl 95 _ _ rfl rfl W7.heap.size 95 _ #[.int .i64 d0, .int .i64 d1, .int .i64 d2, .int .i64 d3, .int .i64 d4, .int .i64 d5, .int .i64 d6, .int .i64 d7, .string ds, .bool mu, .bool tk, .int .i64 x0, .int .i64 x1, .int .i64 x2, .int .i64 x3, .int .i64 x4, .int .i64 x5, .int .i64 x6, .int .i64 x7] rfl rfl (Blk.new W7 _ _) rfl aggPlace (one_all rfl) ?_; intro W8 hB4 hF4; have HB4 := Lib.hid hB4; have HF4 := Lib.hid hF4; clear c0 c1 c2 c3 i0 i1 i2 i3 i4 i5 i6 i7; obtain ⟨c0, c1, c2, c3⟩ := ((K1.out.alloc _).off hF4 (by omega)).c4; obtain ⟨i0, i1, i2, i3, i4, i5, i6, i7⟩ := ((K2.out.alloc _).off hF4 (by omega)).c8; obtain ⟨e0, e1, e2, e3, e4, e5, e6, e7, e8, e9, e10, e11, e12, e13, e14, e15, e16, e17, e18⟩ := hB4.c19; clear hB4 hF4)
        go_ret
        rw [HR.out]
        exact ⟨rfl, (Pk.start (L := fun _ => False) H.out (below_one (bal B7.out _) (by omega) HF4.out) (fun _ => False.elim)).done⟩
    · rw [hk] at HR
      rw [if_pos rfl] at HR
      go_wp2
      go_ret
      rw [HR.out]
      exact ⟨rfl, (Pk.start (L := fun _ => False) H.out B5.out (fun _ => False.elim)).done⟩
  · have he2 : ((fe : Int) == 0) = false := by simp; omega
    have he3 : ((fe : Int) != 0) = true := by simp; omega
    rw [if_neg hfe] at HR
    go_wp2
    go_ret
    rw [HR.out]
    exact ⟨rfl, (Pk.start (L := fun _ => False) H.out (bal B3.out _) (fun _ => False.elim)).done⟩
end Go.Proofs.Ytflncolmehmaaaa
