/- Contracts of package walk: clearSetUser, openOld. -/
import Derived.Test.YtflncolmehmaaaaWL
namespace Go.Proofs.Ytflncolmehmaaaa
open Go.RowKit Ino Go.Maps
open Pa (Blk strV)
set_option linter.unusedVariables false
set_option linter.unusedSimpArgs false
variable {own : Nat → Prop} {t : T}

/-- set-user-id taken away, by what was told of the inode. -/
def clearA (t : T) (n : Inf) : T := (setP t n.ino (rOk (bits .andNot .i64 n.mode 2048) n.owner n.group) (bits .andNot .i64 n.mode 2048) n.owner n.group).1
set_option maxHeartbeats 4000000 in
theorem wclear_any (A : Nat) (n : Inf) (w : World) (h : PTo w A own t) (hm : wfI (bits .andNot .i64 n.mode 2048)) :
    Calls Try.prog 63 #[.pointer (some ⟨A, 0, none⟩), (.agg #[.int .i64 n.ino, .int .i64 n.kind, .int .i64 n.mode, .int .i64 n.owner, .int .i64 n.group, .int .i64 n.links, .int .i64 n.size, .int .i64 n.tty])] w fun e w' => e = .returned (.tuple #[]) ∧ Pt w A own (clearA t n) w' := by
  have C6 := Lib.hid (fun W own' (hq : PTo W A own' t) => pset_any n.ino (bits .andNot .i64 n.mode 2048) n.owner n.group hm W hq)
  have hR : clearA t n = (setP t n.ino (rOk (bits .andNot .i64 n.mode 2048) n.owner n.group) (bits .andNot .i64 n.mode 2048) n.owner n.group).1 := rfl
  generalize clearA t n = R at hR ⊢
  obtain ⟨t1, c1, hen⟩ : ∃ t1 c1, setP t n.ino (rOk (bits .andNot .i64 n.mode 2048) n.owner n.group) (bits .andNot .i64 n.mode 2048) n.owner n.group = (t1, c1) := ⟨_, _, rfl⟩
  rw [hen] at C6 hR
  obtain ⟨f0, f1, f2, f3, f4, f5, f6, f7⟩ := n
  simp only at C6 hR ⊢
  subst hR
  have H := Lib.hid h
  clear h hen hm
  go_enter Try.func63, Try.ntmps63
  go_wp2_with fail
  refine calls_world (fun W => Pk (fun g => False) w own A t W) (Pk.start H.out (bel1 _ _) (fun _ => False.elim)) ?_
  rintro W p1
  refine (p1.call (fun own' hp => C6.out W own' hp)).mono ?_
  rintro e W2 ⟨rfl, p2, f2⟩
  have P2 := Lib.hid p2
  clear p1 p2 f2 C6
  go_wp2
  exact bodyPost_end (v := .tuple #[]) (by simp [results, Try.results63, go_sem]) rfl ⟨rfl, P2.out.done⟩
/-- what is there, opened. -/
def oldA (t : T) (u g : Int) (n : Inf) (x : Nat) (want : Int) (empty : Bool) : T × Nat × Nat :=
  if (bits .and .i64 want 2 != 0) = true ∧ (n.kind == 1) = true then (t, 0, 7)
  else if mayI n u g want = true then
    (if empty = true ∧ (bits .and .i64 want 2 != 0) = true ∧ (n.kind == 0) = true then (clearA (cutP (holdP t x).1 x).1 n, x, 0) else ((holdP t x).1, x, 0))
  else (t, 0, 4)
set_option maxHeartbeats 4000000 in
set_option maxRecDepth 100000 in
theorem wopenOld_any (A : Nat) (cwd u g : Int) (n : Inf) (x : Nat) (hx : n.ino = (x : Int)) (want : Int) (mk al em en : Bool) (mode : Int) (w : World) (h : PTo w A own t) (hb : ∀ k, (t k).holds ≤ 1000000) (hs : Sd (holdP t (x : Int)).1) (hm : wfI (bits .andNot .i64 n.mode 2048)) :
    Calls Try.prog 60 #[(.agg #[.pointer (some ⟨A, 0, none⟩), .int .i64 cwd, .int .i64 u, .int .i64 g]), (.agg #[.int .i64 n.ino, .int .i64 n.kind, .int .i64 n.mode, .int .i64 n.owner, .int .i64 n.group, .int .i64 n.links, .int .i64 n.size, .int .i64 n.tty]), .agg #[.int .i64 want, .bool mk, .bool al, .bool em, .bool en, .int .i64 mode]] w fun e w' => e = .returned (makeV (oldA t u g n x want em).2) ∧ Pt w A own (oldA t u g n x want em).1 w' := by
  have C1 := Lib.hid (fun W => wisDir_any n W)
  have C2 := Lib.hid (fun W => wmayI_any A cwd u g want n W)
  have C3 := Lib.hid (fun W own' (hq : PTo W A own' t) => phold_any (x : Int) W hq hb)
  have C4 := Lib.hid (fun W own' (hq : PTo W A own' (holdP t (x : Int)).1) => pcut_any (x : Int) W hq hs)
  have C5 := Lib.hid (fun W own' (hq : PTo W A own' (cutP (holdP t (x : Int)).1 (x : Int)).1) => wclear_any A n W hq hm)
  have hR : oldA t u g n x want em = if (bits .and .i64 want 2 != 0) = true ∧ (n.kind == 1) = true then (t, 0, 7)
    else if mayI n u g want = true then
      (if em = true ∧ (bits .and .i64 want 2 != 0) = true ∧ (n.kind == 0) = true then (clearA (cutP (holdP t x).1 x).1 n, x, 0) else ((holdP t x).1, x, 0))
    else (t, 0, 4) := rfl
  generalize oldA t u g n x want em = R at hR ⊢
  generalize mayI n u g want = my at *
  generalize clearA (cutP (holdP t (x : Int)).1 (x : Int)).1 n = t3 at *
  generalize cutP (holdP t (x : Int)).1 (x : Int) = c2 at *
  generalize holdP t (x : Int) = c1 at *
  obtain ⟨t1, ok1⟩ := c1
  obtain ⟨t2, ok2⟩ := c2
  obtain ⟨f0, f1, f2, f3, f4, f5, f6, f7⟩ := n
  simp only at C1 C2 C3 C4 C5 hR hx ⊢
  subst hx
  have HR := Lib.hid hR
  have H := Lib.hid h
  clear h hb hs hm hR
  have key : ∀ wr : Bool, (bits .and .i64 want 2 != 0) = wr → Calls Try.prog 60 #[(.agg #[.pointer (some ⟨A, 0, none⟩), .int .i64 cwd, .int .i64 u, .int .i64 g]), .agg #[.int .i64 (x : Int), .int .i64 f1, .int .i64 f2, .int .i64 f3, .int .i64 f4, .int .i64 f5, .int .i64 f6, .int .i64 f7], .agg #[.int .i64 want, .bool mk, .bool al, .bool em, .bool en, .int .i64 mode]] w fun e w' => e = .returned (makeV R.2) ∧ Pt w A own R.1 w' := by
    intro wr hw
    rw [hw] at HR
    cases wr
    · go_enter Try.func60, Try.ntmps60
      go_wp2_with fail
      refine calls_world (fun W => Blk W w.heap.size 92 (calC A cwd u g) ∧ Blk W (w.heap.size + 1) 38 #[.int .i64 (x : Int), .int .i64 f1, .int .i64 f2, .int .i64 f3, .int .i64 f4, .int .i64 f5, .int .i64 f6, .int .i64 f7] ∧ Blk W (w.heap.size + 1 + 1) 52 #[.int .i64 want, .bool mk, .bool al, .bool em, .bool en, .int .i64 mode] ∧ Pk (fun g => g = w.heap.size ∨ g = w.heap.size + 1 ∨ g = w.heap.size + 1 + 1) w own A t W) ⟨((Blk.new w _ _).alloc _).alloc _, (blk1 w _ _ _).alloc _, blk2 w _ _ _ _, Pk.start H.out (bel3 _ _ _ _) (fun y hy => by simp; omega)⟩ ?_
      rintro W4 ⟨k1, k2, k3, p⟩
      have K1 := Lib.hid k1
      have K2 := Lib.hid k2
      have K3 := Lib.hid k3
      have P := Lib.hid p
      clear k1 k2 k3 p H
      refine (C2.out _).mono ?_
      rintro e W ⟨rfl, b⟩
      have k1 := K1.out.up b
      have k2 := K2.out.up b
      have k3 := K3.out.up b
      have p := P.out.up b (L' := (fun g => g = w.heap.size ∨ g = w.heap.size + 1 ∨ g = w.heap.size + 1 + 1)) (fun g => .inl)
      clear K1 K2 K3 P b 
      obtain ⟨c0, c1, c2, c3⟩ := k1.c4
      obtain ⟨i0, i1, i2, i3, i4, i5, i6, i7⟩ := k2.c8
      have j0 := k3.cell 0
      have j1 := k3.cell 1
      have j2 := k3.cell 2
      have j3 := k3.cell 3
      have j4 := k3.cell 4
      have j5 := k3.cell 5
      simp only [List.getElem?_toArray, List.getElem?_cons_zero, List.getElem?_cons_succ] at j0 j1 j2 j3 j4 j5
      have K1 := Lib.hid k1
      have K2 := Lib.hid k2
      have K3 := Lib.hid k3
      have P := Lib.hid p
      clear k1 k2 k3 p
      cases my
      · skip
        go_wp2
        go_ret2
        rw [show R = (t, 0, 4) by rw [HR.out]; simp]
        exact ⟨rfl, P.out.done⟩
      · skip
        go_wp2_with fail
        refine (P.out.call (fun own' hp => C3.out _ own' hp)).mono ?_
        rintro e W ⟨rfl, p, f⟩
        have k1 := Pk.blk K1.out f (.inl rfl)
        have k2 := Pk.blk K2.out f (.inr (.inl rfl))
        have k3 := Pk.blk K3.out f (.inr (.inr rfl))
        clear K1 K2 K3 P f c0 c1 c2 c3 i0 i1 i2 i3 i4 i5 i6 i7 j0 j1 j2 j3 j4 j5
        obtain ⟨c0, c1, c2, c3⟩ := k1.c4
        obtain ⟨i0, i1, i2, i3, i4, i5, i6, i7⟩ := k2.c8
        have j0 := k3.cell 0
        have j1 := k3.cell 1
        have j2 := k3.cell 2
        have j3 := k3.cell 3
        have j4 := k3.cell 4
        have j5 := k3.cell 5
        simp only [List.getElem?_toArray, List.getElem?_cons_zero, List.getElem?_cons_succ] at j0 j1 j2 j3 j4 j5
        have K1 := Lib.hid k1
        have K2 := Lib.hid k2
        have K3 := Lib.hid k3
        have P := Lib.hid p
        clear k1 k2 k3 p
        cases em
        all_goals
          go_wp2
          go_ret2
          rw [show R = (t1, x, 0) by rw [HR.out]; simp]
          exact ⟨rfl, P.out.done⟩
    · go_enter Try.func60, Try.ntmps60
      go_wp2_with fail
      refine calls_world (fun W => Blk W w.heap.size 92 (calC A cwd u g) ∧ Blk W (w.heap.size + 1) 38 #[.int .i64 (x : Int), .int .i64 f1, .int .i64 f2, .int .i64 f3, .int .i64 f4, .int .i64 f5, .int .i64 f6, .int .i64 f7] ∧ Blk W (w.heap.size + 1 + 1) 52 #[.int .i64 want, .bool mk, .bool al, .bool em, .bool en, .int .i64 mode] ∧ Pk (fun g => g = w.heap.size ∨ g = w.heap.size + 1 ∨ g = w.heap.size + 1 + 1) w own A t W) ⟨((Blk.new w _ _).alloc _).alloc _, (blk1 w _ _ _).alloc _, blk2 w _ _ _ _, Pk.start H.out (bel3 _ _ _ _) (fun y hy => by simp; omega)⟩ ?_
      rintro W4 ⟨k1, k2, k3, p⟩
      have K1 := Lib.hid k1
      have K2 := Lib.hid k2
      have K3 := Lib.hid k3
      have P := Lib.hid p
      clear k1 k2 k3 p H
      refine (C1.out _).mono ?_
      rintro e W ⟨rfl, b⟩
      have k1 := K1.out.up b
      have k2 := K2.out.up b
      have k3 := K3.out.up b
      have p := P.out.up b (L' := (fun g => g = w.heap.size ∨ g = w.heap.size + 1 ∨ g = w.heap.size + 1 + 1)) (fun g => .inl)
      clear K1 K2 K3 P b 
      obtain ⟨c0, c1, c2, c3⟩ := k1.c4
      obtain ⟨i0, i1, i2, i3, i4, i5, i6, i7⟩ := k2.c8
      have j0 := k3.cell 0
      have j1 := k3.cell 1
      have j2 := k3.cell 2
      have j3 := k3.cell 3
      have j4 := k3.cell 4
      have j5 := k3.cell 5
      simp only [List.getElem?_toArray, List.getElem?_cons_zero, List.getElem?_cons_succ] at j0 j1 j2 j3 j4 j5
      have K1 := Lib.hid k1
      have K2 := Lib.hid k2
      have K3 := Lib.hid k3
      have P := Lib.hid p
      clear k1 k2 k3 p
      generalize hk : (f1 == 1) = kd at *
      cases kd
      · skip
        go_wp2_with fail
        refine (C2.out _).mono ?_
        rintro e W ⟨rfl, b⟩
        have k1 := K1.out.up b
        have k2 := K2.out.up b
        have k3 := K3.out.up b
        have p := P.out.up b (L' := (fun g => g = w.heap.size ∨ g = w.heap.size + 1 ∨ g = w.heap.size + 1 + 1)) (fun g => .inl)
        clear K1 K2 K3 P b c0 c1 c2 c3 i0 i1 i2 i3 i4 i5 i6 i7 j0 j1 j2 j3 j4 j5
        obtain ⟨c0, c1, c2, c3⟩ := k1.c4
        obtain ⟨i0, i1, i2, i3, i4, i5, i6, i7⟩ := k2.c8
        have j0 := k3.cell 0
        have j1 := k3.cell 1
        have j2 := k3.cell 2
        have j3 := k3.cell 3
        have j4 := k3.cell 4
        have j5 := k3.cell 5
        simp only [List.getElem?_toArray, List.getElem?_cons_zero, List.getElem?_cons_succ] at j0 j1 j2 j3 j4 j5
        have K1 := Lib.hid k1
        have K2 := Lib.hid k2
        have K3 := Lib.hid k3
        have P := Lib.hid p
        clear k1 k2 k3 p
        cases my
        · skip
          go_wp2
          go_ret2
          rw [show R = (t, 0, 4) by rw [HR.out]; simp]
          exact ⟨rfl, P.out.done⟩
        · skip
          go_wp2_with fail
          refine (P.out.call (fun own' hp => C3.out _ own' hp)).mono ?_
          rintro e W ⟨rfl, p, f⟩
          have k1 := Pk.blk K1.out f (.inl rfl)
          have k2 := Pk.blk K2.out f (.inr (.inl rfl))
          have k3 := Pk.blk K3.out f (.inr (.inr rfl))
          clear K1 K2 K3 P f c0 c1 c2 c3 i0 i1 i2 i3 i4 i5 i6 i7 j0 j1 j2 j3 j4 j5
          obtain ⟨c0, c1, c2, c3⟩ := k1.c4
          obtain ⟨i0, i1, i2, i3, i4, i5, i6, i7⟩ := k2.c8
          have j0 := k3.cell 0
          have j1 := k3.cell 1
          have j2 := k3.cell 2
          have j3 := k3.cell 3
          have j4 := k3.cell 4
          have j5 := k3.cell 5
          simp only [List.getElem?_toArray, List.getElem?_cons_zero, List.getElem?_cons_succ] at j0 j1 j2 j3 j4 j5
          have K1 := Lib.hid k1
          have K2 := Lib.hid k2
          have K3 := Lib.hid k3
          have P := Lib.hid p
          clear k1 k2 k3 p
          cases em
          · skip
            go_wp2
            go_ret2
            rw [show R = (t1, x, 0) by rw [HR.out]; simp]
            exact ⟨rfl, P.out.done⟩
          · generalize hf : (f1 == 0) = z at *
            cases z
            · skip
              go_wp2
              go_ret2
              rw [show R = (t1, x, 0) by rw [HR.out]; simp]
              exact ⟨rfl, P.out.done⟩
            · skip
              go_wp2_with fail
              refine (P.out.call (fun own' hp => C4.out _ own' hp)).mono ?_
              rintro e W ⟨rfl, p, f⟩
              have k1 := Pk.blk K1.out f (.inl rfl)
              have k2 := Pk.blk K2.out f (.inr (.inl rfl))
              have k3 := Pk.blk K3.out f (.inr (.inr rfl))
              clear K1 K2 K3 P f c0 c1 c2 c3 i0 i1 i2 i3 i4 i5 i6 i7 j0 j1 j2 j3 j4 j5
              obtain ⟨c0, c1, c2, c3⟩ := k1.c4
              obtain ⟨i0, i1, i2, i3, i4, i5, i6, i7⟩ := k2.c8
              have j0 := k3.cell 0
              have j1 := k3.cell 1
              have j2 := k3.cell 2
              have j3 := k3.cell 3
              have j4 := k3.cell 4
              have j5 := k3.cell 5
              simp only [List.getElem?_toArray, List.getElem?_cons_zero, List.getElem?_cons_succ] at j0 j1 j2 j3 j4 j5
              have K1 := Lib.hid k1
              have K2 := Lib.hid k2
              have K3 := Lib.hid k3
              have P := Lib.hid p
              clear k1 k2 k3 p
              go_wp2_with fail
              refine (P.out.call (fun own' hp => C5.out _ own' hp)).mono ?_
              rintro e W ⟨rfl, p, f⟩
              have k1 := Pk.blk K1.out f (.inl rfl)
              have k2 := Pk.blk K2.out f (.inr (.inl rfl))
              have k3 := Pk.blk K3.out f (.inr (.inr rfl))
              clear K1 K2 K3 P f c0 c1 c2 c3 i0 i1 i2 i3 i4 i5 i6 i7 j0 j1 j2 j3 j4 j5
              obtain ⟨c0, c1, c2, c3⟩ := k1.c4
              obtain ⟨i0, i1, i2, i3, i4, i5, i6, i7⟩ := k2.c8
              have j0 := k3.cell 0
              have j1 := k3.cell 1
              have j2 := k3.cell 2
              have j3 := k3.cell 3
              have j4 := k3.cell 4
              have j5 := k3.cell 5
              simp only [List.getElem?_toArray, List.getElem?_cons_zero, List.getElem?_cons_succ] at j0 j1 j2 j3 j4 j5
              have K1 := Lib.hid k1
              have K2 := Lib.hid k2
              have K3 := Lib.hid k3
              have P := Lib.hid p
              clear k1 k2 k3 p
              go_wp2
              go_ret2
              rw [show R = (t3, x, 0) by rw [HR.out]; simp]
              exact ⟨rfl, P.out.done⟩
      · skip
        go_wp2
        go_ret2
        rw [show R = (t, 0, 7) by rw [HR.out]; simp]
        exact ⟨rfl, P.out.done⟩
  exact key _ rfl
end Go.Proofs.Ytflncolmehmaaaa
