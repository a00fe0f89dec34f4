/- Contracts of package walk: Remove. -/
import Derived.Test.YtflncolmehmaaaaWJ
namespace Go.Proofs.Ytflncolmehmaaaa
open Go.RowKit Ino Go.Maps
open Pa (Blk strV)
set_option linter.unusedVariables false
set_option linter.unusedSimpArgs false
variable {own : Nat → Prop} {t : T}

/-- an entry removed at a place. -/
noncomputable def removeA (t : T) (u g : Int) (dir : Bool) (q : Pla) : T × Nat :=
  if q.err = 0 then
    if q.taken = true then
      if (dir || q.must) = true ∧ (q.entry.kind == 1) = false then (t, 6)
      else if dir = false ∧ (q.entry.kind == 1) = true then (t, 7)
      else if mayI q.dir u g 2 = true then
        if stickyA ⟨q.dir, q.name, q.must, q.taken, q.entry⟩ u = true then removeP t q.dir.ino q.name else (t, 2)
      else (t, 4)
    else (t, 3)
  else (t, q.err)
set_option maxHeartbeats 4000000 in
set_option maxRecDepth 100000 in
theorem wRemove_any (A : Nat) (cwd r u s k g : Int) (p : ByteArray) (hp : p.size ≤ maxLen) (dir : Bool) (w : World) (h : PTo w A own t) (hs : Sound t)
    (hns : (plaP t (placeP t cwd u g p.data.toList)).name.length ≤ 1000) :
    Calls Try.prog 22 #[.pointer (some ⟨A, 0, none⟩), .int .i64 cwd, .agg #[.int .i64 r, .int .i64 u, .int .i64 s, .int .i64 k, .int .i64 g], .string p, .bool dir] w fun e w' =>
      e = .returned (.int .i64 ((removeA t u g dir (plaP t (placeP t cwd u g p.data.toList))).2 : Int)) ∧ Pt w A own (removeA t u g dir (plaP t (placeP t cwd u g p.data.toList))).1 w' := by
  have C1 := Lib.hid (fun W => wcallerOf_any A cwd r u s k g W)
  have C2 := Lib.hid (fun W (hq : PTo W A own t) => wlocate_any A cwd u g p hp W hq hs.sd)
  have HPT := Lib.hid (fun W (hb : Below w.heap.size w W) => h.below hb)
  generalize plaP t (placeP t cwd u g p.data.toList) = q at *
  have hsz : (⟨q.name.toArray⟩ : ByteArray).size ≤ maxLen := by show q.name.length ≤ maxLen; unfold maxLen; omega
  have C4 := Lib.hid (fun W => wisDir_any q.entry W)
  have C5 := Lib.hid (fun W => wmayI_any A cwd u g 2 q.dir W)
  have C7 := Lib.hid (fun W => wkeeps_any A cwd u g ⟨q.dir, q.name, q.must, q.taken, q.entry⟩ W)
  have C6 := Lib.hid (fun W own' (hq : PTo W A own' t) => premoveE_any q.dir.ino ⟨q.name.toArray⟩ W hq hs hsz)
  have hR : removeA t u g dir q = if q.err = 0 then
    if q.taken = true then
      if (dir || q.must) = true ∧ (q.entry.kind == 1) = false then (t, 6)
      else if dir = false ∧ (q.entry.kind == 1) = true then (t, 7)
      else if mayI q.dir u g 2 = true then
        if stickyA ⟨q.dir, q.name, q.must, q.taken, q.entry⟩ u = true then removeP t q.dir.ino q.name else (t, 2)
      else (t, 4)
    else (t, 3)
  else (t, q.err) := rfl
  have e2 : (⟨q.name.toArray⟩ : ByteArray).data.toList = q.name := rfl
  rw [e2] at C6
  simp only at C7
  generalize removeA t u g dir q = R at hR ⊢
  generalize mayI q.dir u g 2 = my at *
  generalize stickyA ⟨q.dir, q.name, q.must, q.taken, q.entry⟩ u = st at *
  generalize (q.entry.kind == 1) = kd at *
  obtain ⟨t1, c1, hen⟩ : ∃ t1 cz, removeP t q.dir.ino q.name = (t1, cz) := ⟨_, _, rfl⟩
  rw [hen] at C6 hR
  obtain ⟨⟨d0, d1, d2, d3, d4, d5, d6, d7⟩, nm, mu, tk, ⟨x0, x1, x2, x3, x4, x5, x6, x7⟩, er⟩ := q
  simp only [plaV, plcC, strV] at C2 C4 C5 C6 C7 hR
  have HR := Lib.hid hR
  have H := Lib.hid h
  clear hns hp h hs hR hsz e2 hen
  generalize (⟨nm.toArray⟩ : ByteArray) = ds at *
  go_enter Try.func22, Try.ntmps22
  go_wp2_with fail
  refine calls_world (fun W => Below w.heap.size w W) (by first | exact Below.refl _ _ | exact bel1 _ _) ?_
  rintro W b0
  refine (C1.out W).mono ?_
  rintro e W1 ⟨rfl, b1⟩
  have B1 := Lib.hid (bnext b0 b1)
  have l1 : w.heap.size ≤ W1.heap.size := B1.out.size
  clear b0 b1
  go_wp2_with fail
  refine calls_world (fun W => Blk W W1.heap.size 92 (calC A cwd u g) ∧ Below w.heap.size w W) ⟨Blk.new W1 _ _, bal B1.out _⟩ ?_
  rintro W2 ⟨k1, b2⟩
  refine (C2.out W2 (HPT.out _ b2)).mono ?_
  rintro e W3 ⟨rfl, b3⟩
  have k1 := k1.up b3
  have l3 : W1.heap.size < W3.heap.size := k1.lt
  have B3 := Lib.hid (bnext b2 b3)
  obtain ⟨c0, c1, c2, c3⟩ := k1.c4
  have K1 := Lib.hid k1
  clear k1 b2 b3 B1 C1 C2 HPT
  by_cases he : er = 0
  · subst he
    cases tk
    · go_wp2_with (refine wpList_storeAgg rfl 95 _ _ rfl rfl W3.heap.size 95 _ #[.int .i64 d0, .int .i64 d1, .int .i64 d2, .int .i64 d3, .int .i64 d4, .int .i64 d5, .int .i64 d6, .int .i64 d7, .string ds, .bool mu, .bool false, .int .i64 x0, .int .i64 x1, .int .i64 x2, .int .i64 x3, .int .i64 x4, .int .i64 x5, .int .i64 x6, .int .i64 x7] rfl rfl (Blk.new W3 _ _) rfl aggPlace (one_all rfl) ?_; intro W4 hB4 hF4; have HB4 := Lib.hid hB4; have HF4 := Lib.hid hF4; clear c0 c1 c2 c3; obtain ⟨c0, c1, c2, c3⟩ := ((K1.out.alloc _).off hF4 (by omega)).c4; obtain ⟨e0, e1, e2, e3, e4, e5, e6, e7, e8, e9, e10, e11, e12, e13, e14, e15, e16, e17, e18⟩ := hB4.c19; clear hB4 hF4)
      go_ret
      rw [show R = (t, 3) by rw [HR.out]; simp]
      exact ⟨rfl, (Pk.start (L := fun _ => False) H.out (below_one (bal B3.out _) (by omega) HF4.out) (fun _ => False.elim)).done⟩
    · cases dir
      · cases mu
        · skip
          go_wp2_with (refine wpList_storeAgg rfl 95 _ _ rfl rfl W3.heap.size 95 _ #[.int .i64 d0, .int .i64 d1, .int .i64 d2, .int .i64 d3, .int .i64 d4, .int .i64 d5, .int .i64 d6, .int .i64 d7, .string ds, .bool false, .bool true, .int .i64 x0, .int .i64 x1, .int .i64 x2, .int .i64 x3, .int .i64 x4, .int .i64 x5, .int .i64 x6, .int .i64 x7] rfl rfl (Blk.new W3 _ _) rfl aggPlace (one_all rfl) ?_; intro W4 hB4 hF4; have HB4 := Lib.hid hB4; have HF4 := Lib.hid hF4; clear c0 c1 c2 c3; obtain ⟨c0, c1, c2, c3⟩ := ((K1.out.alloc _).off hF4 (by omega)).c4; obtain ⟨e0, e1, e2, e3, e4, e5, e6, e7, e8, e9, e10, e11, e12, e13, e14, e15, e16, e17, e18⟩ := hB4.c19; clear hB4 hF4)
          have p := Pk.start (L := (fun g => g = W1.heap.size ∨ g = W3.heap.size)) H.out (below_one (bal B3.out _) (by omega) HF4.out) (fun g hg => by have := HB4.out.lt; omega)
          have k1 := (K1.out.alloc _).off HF4.out (by omega)
          have k2 := HB4.out
          clear K1 HB4 HF4 H B3
          have K1 := Lib.hid k1
          have K2 := Lib.hid k2
          have P := Lib.hid p
          clear k1 k2 p
          refine (C4.out _).mono ?_
          rintro e W5 ⟨rfl, b⟩
          have k1 := K1.out.up b
          have k2 := K2.out.up b
          have p := P.out.up b (L' := (fun g => g = W1.heap.size ∨ g = W3.heap.size)) (fun g => .inl)
          clear c0 c1 c2 c3 e0 e1 e2 e3 e4 e5 e6 e7 e8 e9 e10 e11 e12 e13 e14 e15 e16 e17 e18 K1 K2 P b
          obtain ⟨c0, c1, c2, c3⟩ := k1.c4
          obtain ⟨e0, e1, e2, e3, e4, e5, e6, e7, e8, e9, e10, e11, e12, e13, e14, e15, e16, e17, e18⟩ := k2.c19
          have K1 := Lib.hid k1
          have K2 := Lib.hid k2
          have P := Lib.hid p
          clear k1 k2 p
          cases kd
          · skip
            go_wp2_with fail
            refine (C5.out _).mono ?_
            rintro e W6 ⟨rfl, b⟩
            have k1 := K1.out.up b
            have k2 := K2.out.up b
            have p := P.out.up b (L' := (fun g => g = W1.heap.size ∨ g = W3.heap.size)) (fun g => .inl)
            clear c0 c1 c2 c3 e0 e1 e2 e3 e4 e5 e6 e7 e8 e9 e10 e11 e12 e13 e14 e15 e16 e17 e18 K1 K2 P b
            obtain ⟨c0, c1, c2, c3⟩ := k1.c4
            obtain ⟨e0, e1, e2, e3, e4, e5, e6, e7, e8, e9, e10, e11, e12, e13, e14, e15, e16, e17, e18⟩ := k2.c19
            have K1 := Lib.hid k1
            have K2 := Lib.hid k2
            have P := Lib.hid p
            clear k1 k2 p
            cases my
            · skip
              go_wp2
              go_ret
              rw [show R = (t, 4) by rw [HR.out]; simp]
              exact ⟨rfl, P.out.done⟩
            · skip
              go_wp2_with (refine wpList_loadAgg rfl 95 _ rfl W3.heap.size 95 _ rfl K2.out aggPlace ?_)
              refine (C7.out _).mono ?_
              rintro e W7 ⟨rfl, b⟩
              have k1 := K1.out.up b
              have k2 := K2.out.up b
              have p := P.out.up b (L' := (fun g => g = W1.heap.size ∨ g = W3.heap.size)) (fun g => .inl)
              clear c0 c1 c2 c3 e0 e1 e2 e3 e4 e5 e6 e7 e8 e9 e10 e11 e12 e13 e14 e15 e16 e17 e18 K1 K2 P b
              obtain ⟨c0, c1, c2, c3⟩ := k1.c4
              obtain ⟨e0, e1, e2, e3, e4, e5, e6, e7, e8, e9, e10, e11, e12, e13, e14, e15, e16, e17, e18⟩ := k2.c19
              have K1 := Lib.hid k1
              have K2 := Lib.hid k2
              have P := Lib.hid p
              clear k1 k2 p
              cases st
              · skip
                go_wp2
                go_ret
                rw [show R = (t, 2) by rw [HR.out]; simp]
                exact ⟨rfl, P.out.done⟩
              · skip
                go_wp2_with fail
                refine (P.out.call (fun own' hp => C6.out _ own' hp)).mono ?_
                rintro e Wz ⟨rfl, p, f⟩
                have Pz := Lib.hid p
                clear p f P c0 c1 c2 c3 e0 e1 e2 e3 e4 e5 e6 e7 e8 e9 e10 e11 e12 e13 e14 e15 e16 e17 e18 K1 K2
                go_wp2
                go_ret
                rw [show R = (t1, c1) by rw [HR.out]; simp]
                exact ⟨rfl, Pz.out.done⟩
          · skip
            go_wp2
            go_ret
            rw [show R = (t, 7) by rw [HR.out]; simp]
            exact ⟨rfl, P.out.done⟩
        · skip
          go_wp2_with (refine wpList_storeAgg rfl 95 _ _ rfl rfl W3.heap.size 95 _ #[.int .i64 d0, .int .i64 d1, .int .i64 d2, .int .i64 d3, .int .i64 d4, .int .i64 d5, .int .i64 d6, .int .i64 d7, .string ds, .bool true, .bool true, .int .i64 x0, .int .i64 x1, .int .i64 x2, .int .i64 x3, .int .i64 x4, .int .i64 x5, .int .i64 x6, .int .i64 x7] rfl rfl (Blk.new W3 _ _) rfl aggPlace (one_all rfl) ?_; intro W4 hB4 hF4; have HB4 := Lib.hid hB4; have HF4 := Lib.hid hF4; clear c0 c1 c2 c3; obtain ⟨c0, c1, c2, c3⟩ := ((K1.out.alloc _).off hF4 (by omega)).c4; obtain ⟨e0, e1, e2, e3, e4, e5, e6, e7, e8, e9, e10, e11, e12, e13, e14, e15, e16, e17, e18⟩ := hB4.c19; clear hB4 hF4)
          have p := Pk.start (L := (fun g => g = W1.heap.size ∨ g = W3.heap.size)) H.out (below_one (bal B3.out _) (by omega) HF4.out) (fun g hg => by have := HB4.out.lt; omega)
          have k1 := (K1.out.alloc _).off HF4.out (by omega)
          have k2 := HB4.out
          clear K1 HB4 HF4 H B3
          have K1 := Lib.hid k1
          have K2 := Lib.hid k2
          have P := Lib.hid p
          clear k1 k2 p
          refine (C4.out _).mono ?_
          rintro e W8 ⟨rfl, b⟩
          have k1 := K1.out.up b
          have k2 := K2.out.up b
          have p := P.out.up b (L' := (fun g => g = W1.heap.size ∨ g = W3.heap.size)) (fun g => .inl)
          clear c0 c1 c2 c3 e0 e1 e2 e3 e4 e5 e6 e7 e8 e9 e10 e11 e12 e13 e14 e15 e16 e17 e18 K1 K2 P b
          obtain ⟨c0, c1, c2, c3⟩ := k1.c4
          obtain ⟨e0, e1, e2, e3, e4, e5, e6, e7, e8, e9, e10, e11, e12, e13, e14, e15, e16, e17, e18⟩ := k2.c19
          have K1 := Lib.hid k1
          have K2 := Lib.hid k2
          have P := Lib.hid p
          clear k1 k2 p
          cases kd
          · skip
            go_wp2
            go_ret
            rw [show R = (t, 6) by rw [HR.out]; simp]
            exact ⟨rfl, P.out.done⟩
          · skip
            go_wp2_with fail
            refine (C4.out _).mono ?_
            rintro e W9 ⟨rfl, b⟩
            have k1 := K1.out.up b
            have k2 := K2.out.up b
            have p := P.out.up b (L' := (fun g => g = W1.heap.size ∨ g = W3.heap.size)) (fun g => .inl)
            clear c0 c1 c2 c3 e0 e1 e2 e3 e4 e5 e6 e7 e8 e9 e10 e11 e12 e13 e14 e15 e16 e17 e18 K1 K2 P b
            obtain ⟨c0, c1, c2, c3⟩ := k1.c4
            obtain ⟨e0, e1, e2, e3, e4, e5, e6, e7, e8, e9, e10, e11, e12, e13, e14, e15, e16, e17, e18⟩ := k2.c19
            have K1 := Lib.hid k1
            have K2 := Lib.hid k2
            have P := Lib.hid p
            clear k1 k2 p
            go_wp2
            go_ret
            rw [show R = (t, 7) by rw [HR.out]; simp]
            exact ⟨rfl, P.out.done⟩
      · skip
        go_wp2_with (refine wpList_storeAgg rfl 95 _ _ rfl rfl W3.heap.size 95 _ #[.int .i64 d0, .int .i64 d1, .int .i64 d2, .int .i64 d3, .int .i64 d4, .int .i64 d5, .int .i64 d6, .int .i64 d7, .string ds, .bool mu, .bool true, .int .i64 x0, .int .i64 x1, .int .i64 x2, .int .i64 x3, .int .i64 x4, .int .i64 x5, .int .i64 x6, .int .i64 x7] rfl rfl (Blk.new W3 _ _) rfl aggPlace (one_all rfl) ?_; intro W4 hB4 hF4; have HB4 := Lib.hid hB4; have HF4 := Lib.hid hF4; clear c0 c1 c2 c3; obtain ⟨c0, c1, c2, c3⟩ := ((K1.out.alloc _).off hF4 (by omega)).c4; obtain ⟨e0, e1, e2, e3, e4, e5, e6, e7, e8, e9, e10, e11, e12, e13, e14, e15, e16, e17, e18⟩ := hB4.c19; clear hB4 hF4)
        have p := Pk.start (L := (fun g => g = W1.heap.size ∨ g = W3.heap.size)) H.out (below_one (bal B3.out _) (by omega) HF4.out) (fun g hg => by have := HB4.out.lt; omega)
        have k1 := (K1.out.alloc _).off HF4.out (by omega)
        have k2 := HB4.out
        clear K1 HB4 HF4 H B3
        have K1 := Lib.hid k1
        have K2 := Lib.hid k2
        have P := Lib.hid p
        clear k1 k2 p
        refine (C4.out _).mono ?_
        rintro e W10 ⟨rfl, b⟩
        have k1 := K1.out.up b
        have k2 := K2.out.up b
        have p := P.out.up b (L' := (fun g => g = W1.heap.size ∨ g = W3.heap.size)) (fun g => .inl)
        clear c0 c1 c2 c3 e0 e1 e2 e3 e4 e5 e6 e7 e8 e9 e10 e11 e12 e13 e14 e15 e16 e17 e18 K1 K2 P b
        obtain ⟨c0, c1, c2, c3⟩ := k1.c4
        obtain ⟨e0, e1, e2, e3, e4, e5, e6, e7, e8, e9, e10, e11, e12, e13, e14, e15, e16, e17, e18⟩ := k2.c19
        have K1 := Lib.hid k1
        have K2 := Lib.hid k2
        have P := Lib.hid p
        clear k1 k2 p
        cases kd
        · skip
          go_wp2
          go_ret
          rw [show R = (t, 6) by rw [HR.out]; simp]
          exact ⟨rfl, P.out.done⟩
        · skip
          go_wp2_with fail
          refine (C5.out _).mono ?_
          rintro e W11 ⟨rfl, b⟩
          have k1 := K1.out.up b
          have k2 := K2.out.up b
          have p := P.out.up b (L' := (fun g => g = W1.heap.size ∨ g = W3.heap.size)) (fun g => .inl)
          clear c0 c1 c2 c3 e0 e1 e2 e3 e4 e5 e6 e7 e8 e9 e10 e11 e12 e13 e14 e15 e16 e17 e18 K1 K2 P b
          obtain ⟨c0, c1, c2, c3⟩ := k1.c4
          obtain ⟨e0, e1, e2, e3, e4, e5, e6, e7, e8, e9, e10, e11, e12, e13, e14, e15, e16, e17, e18⟩ := k2.c19
          have K1 := Lib.hid k1
          have K2 := Lib.hid k2
          have P := Lib.hid p
          clear k1 k2 p
          cases my
          · skip
            go_wp2
            go_ret
            rw [show R = (t, 4) by rw [HR.out]; simp]
            exact ⟨rfl, P.out.done⟩
          · skip
            go_wp2_with (refine wpList_loadAgg rfl 95 _ rfl W3.heap.size 95 _ rfl K2.out aggPlace ?_)
            refine (C7.out _).mono ?_
            rintro e W12 ⟨rfl, b⟩
            have k1 := K1.out.up b
            have k2 := K2.out.up b
            have p := P.out.up b (L' := (fun g => g = W1.heap.size ∨ g = W3.heap.size)) (fun g => .inl)
            clear c0 c1 c2 c3 e0 e1 e2 e3 e4 e5 e6 e7 e8 e9 e10 e11 e12 e13 e14 e15 e16 e17 e18 K1 K2 P b
            obtain ⟨c0, c1, c2, c3⟩ := k1.c4
            obtain ⟨e0, e1, e2, e3, e4, e5, e6, e7, e8, e9, e10, e11, e12, e13, e14, e15, e16, e17, e18⟩ := k2.c19
            have K1 := Lib.hid k1
            have K2 := Lib.hid k2
            have P := Lib.hid p
            clear k1 k2 p
            cases st
            · skip
              go_wp2
              go_ret
              rw [show R = (t, 2) by rw [HR.out]; simp]
              exact ⟨rfl, P.out.done⟩
            · skip
              go_wp2_with fail
              refine (P.out.call (fun own' hp => C6.out _ own' hp)).mono ?_
              rintro e Wz ⟨rfl, p, f⟩
              have Pz := Lib.hid p
              clear p f P c0 c1 c2 c3 e0 e1 e2 e3 e4 e5 e6 e7 e8 e9 e10 e11 e12 e13 e14 e15 e16 e17 e18 K1 K2
              go_wp2
              go_ret
              rw [show R = (t1, c1) by rw [HR.out]; simp]
              exact ⟨rfl, Pz.out.done⟩
  · have he2 : ((er : Int) == 0) = false := by simp; omega
    have he3 : ((er : Int) != 0) = true := by simp; omega
    go_wp2_with (refine wpList_storeAgg rfl 95 _ _ rfl rfl W3.heap.size 95 _ #[.int .i64 d0, .int .i64 d1, .int .i64 d2, .int .i64 d3, .int .i64 d4, .int .i64 d5, .int .i64 d6, .int .i64 d7, .string ds, .bool mu, .bool tk, .int .i64 x0, .int .i64 x1, .int .i64 x2, .int .i64 x3, .int .i64 x4, .int .i64 x5, .int .i64 x6, .int .i64 x7] rfl rfl (Blk.new W3 _ _) rfl aggPlace (one_all rfl) ?_; intro W4 hB4 hF4; have HB4 := Lib.hid hB4; have HF4 := Lib.hid hF4; clear c0 c1 c2 c3; obtain ⟨c0, c1, c2, c3⟩ := ((K1.out.alloc _).off hF4 (by omega)).c4; obtain ⟨e0, e1, e2, e3, e4, e5, e6, e7, e8, e9, e10, e11, e12, e13, e14, e15, e16, e17, e18⟩ := hB4.c19; clear hB4 hF4)
    go_ret
    rw [show R = (t, er) by rw [HR.out]; simp [he]]
    exact ⟨rfl, (Pk.start (L := fun _ => False) H.out (below_one (bal B3.out _) (by omega) HF4.out) (fun _ => False.elim)).done⟩
end Go.Proofs.Ytflncolmehmaaaa
