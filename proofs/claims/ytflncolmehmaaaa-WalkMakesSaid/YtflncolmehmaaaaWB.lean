/- Contracts of package walk: mayLook, look. -/
import Derived.Test.YtflncolmehmaaaaM30
namespace Go.Proofs.Ytflncolmehmaaaa
open Go.RowKit Ino Go.Maps
open Pa (Blk)
set_option linter.unusedVariables false
set_option linter.unusedSimpArgs false

theorem wmayI_any (A : Nat) (cwd u g want : Int) (a : Inf) (w : World) :
    Calls Try.prog 56 #[(.agg #[.pointer (some ⟨A, 0, none⟩), .int .i64 cwd, .int .i64 u, .int .i64 g]), (.agg #[.int .i64 a.ino, .int .i64 a.kind, .int .i64 a.mode, .int .i64 a.owner, .int .i64 a.group, .int .i64 a.links, .int .i64 a.size, .int .i64 a.tty]), .int .i64 want] w fun e w' => e = .returned (.bool (mayI a u g want)) ∧ Below w.heap.size w w' := wmay_any A cwd u g want a w
set_option maxHeartbeats 1000000 in
theorem wmayLook_any (A : Nat) (cwd u g : Int) (a : Inf) (w : World) :
    Calls Try.prog 92 #[(.agg #[.pointer (some ⟨A, 0, none⟩), .int .i64 cwd, .int .i64 u, .int .i64 g]), (.agg #[.int .i64 a.ino, .int .i64 a.kind, .int .i64 a.mode, .int .i64 a.owner, .int .i64 a.group, .int .i64 a.links, .int .i64 a.size, .int .i64 a.tty])] w fun e w' => e = .returned (.int .i64 (lookX a u g)) ∧ Below w.heap.size w w' := by
  have C1 := Lib.hid (fun w => wisDir_any a w)
  have C2 := Lib.hid (fun w => wmayI_any A cwd u g 1 a w)
  have hL : lookX a u g = if (a.kind == 1) = true then (if mayI a u g 1 = true then 0 else 4) else 6 := by unfold lookX; simp
  generalize lookX a u g = r at *
  generalize mayI a u g 1 = m at *
  have HL := Lib.hid hL
  clear hL
  obtain ⟨a0, a1, a2, a3, a4, a5, a6, a7⟩ := a
  simp only at C1 C2 HL ⊢
  cases hk : (a1 == 1)
  · rw [hk] at C1 HL
    have hr : r = 6 := HL.out
    subst hr
    clear hk HL
    go_enter Try.func92, Try.ntmps92
    go_wp2_with fail
    refine (C1.out _).mono ?_
    rintro e w2 ⟨rfl, b2⟩
    go_wp2
    go_ret
    exact ⟨rfl, (bel2 _ _ _).trans (b2.mono (bel2 _ _ _).size)⟩
  · rw [hk] at C1 HL
    clear hk
    go_enter Try.func92, Try.ntmps92
    go_wp2_with fail
    refine calls_world (fun W => Blk W w.heap.size 92 (calC A cwd u g) ∧ Blk W (w.heap.size + 1) 38 #[.int .i64 a0, .int .i64 a1, .int .i64 a2, .int .i64 a3, .int .i64 a4, .int .i64 a5, .int .i64 a6, .int .i64 a7] ∧ Below w.heap.size w W) ⟨(Blk.new w _ _).alloc _, by have := Blk.new (w.alloc (.cells (calC A cwd u g) 92)) 38 #[.int .i64 a0, .int .i64 a1, .int .i64 a2, .int .i64 a3, .int .i64 a4, .int .i64 a5, .int .i64 a6, .int .i64 a7]; rwa [World.size_alloc] at this, bel2 _ _ _⟩ ?_
    rintro W ⟨k1, k2, b1⟩
    refine (C1.out _).mono ?_
    rintro e w2 ⟨rfl, b2⟩
    have k3 := k1.up b2
    have k4 := k2.up b2
    have b3 := bnext b1 b2
    clear k1 k2 b1 b2
    obtain ⟨c0, c1, c2, c3⟩ := k3.c4
    obtain ⟨d0, d1, d2, d3, d4, d5, d6, d7⟩ := k4.c8
    have B3 := Lib.hid b3
    clear k3 k4 b3
    go_wp2_with fail
    refine (C2.out _).mono ?_
    rintro e w3 ⟨rfl, b4⟩
    have B4 := Lib.hid (bnext B3.out b4)
    clear b4
    cases m
    · have hr : r = 4 := HL.out
      subst hr
      clear HL
      go_wp2
      go_ret
      exact ⟨rfl, B4.out⟩
    · have hr : r = 0 := HL.out
      subst hr
      clear HL
      go_wp2
      go_ret
      exact ⟨rfl, B4.out⟩
/-- where the tree is, what it owns aside. -/
def Tr (A : Nat) (own : Nat → Prop) (t : T) (W : World) : Prop := PTo W A own t
def lookJ (t : T) (a : Inf) (n : Bs) : Inf × Bool := lookI t a.ino n
set_option maxHeartbeats 1000000 in
theorem wlook_any {own : Nat → Prop} {t : T} (A : Nat) (cwd u g : Int) (a : Inf) (s : ByteArray) (hs : s.size ≤ maxLen) (w : World) (h : PTo w A own t) (hsd : Sd t) :
    Calls Try.prog 93 #[(.agg #[.pointer (some ⟨A, 0, none⟩), .int .i64 cwd, .int .i64 u, .int .i64 g]), (.agg #[.int .i64 a.ino, .int .i64 a.kind, .int .i64 a.mode, .int .i64 a.owner, .int .i64 a.group, .int .i64 a.links, .int .i64 a.size, .int .i64 a.tty]), .string s] w fun e w' => e = .returned (infV (lookI t a.ino s.data.toList)) ∧ Below w.heap.size w w' := by
  have C1 := Lib.hid (fun w (hw : PTo w A own t) => plook_any a.ino s w hw hsd hs)
  have hL : lookI t a.ino s.data.toList = if (lookP t a.ino s.data.toList).2 = true then statP t (lookP t a.ino s.data.toList).1 else (noInf, false) := rfl
  have C2 := Lib.hid (fun w (hw : PTo w A own t) => pstat_any (lookP t a.ino s.data.toList).1 w hw hsd)
  generalize lookI t a.ino s.data.toList = r at hL ⊢
  generalize lookP t a.ino s.data.toList = q at *
  obtain ⟨x, ok⟩ := q
  obtain ⟨a0, a1, a2, a3, a4, a5, a6, a7⟩ := a
  have HL := Lib.hid hL
  simp only [lookV] at C1 C2 HL
  have H := Lib.hid h
  clear hL h
  have HN : ∀ W, Below w.heap.size w W → PTo W A own t := fun W hb => H.out.below hb
  have HN' := Lib.hid HN
  clear HN
  go_enter Try.func93, Try.ntmps93
  go_wp2_with fail
  refine calls_world (fun W => Blk W w.heap.size 92 (calC A cwd u g) ∧ Blk W (w.heap.size + 1) 38 #[.int .i64 a0, .int .i64 a1, .int .i64 a2, .int .i64 a3, .int .i64 a4, .int .i64 a5, .int .i64 a6, .int .i64 a7] ∧ Blk W (w.heap.size + 1 + 1) 38 (infC noInf) ∧ Below w.heap.size w W) ⟨((Blk.new w _ _).alloc _).alloc _, (blk1 w _ _ _).alloc _, blk2 w _ _ _ _, bel3 _ _ _ _⟩ ?_
  rintro W ⟨k1, k2, k3, b1⟩
  obtain ⟨c0, c1, c2, c3⟩ := k1.c4
  obtain ⟨d0, d1, d2, d3, d4, d5, d6, d7⟩ := k2.c8
  obtain ⟨r0, r1, r2, r3, r4, r5, r6, r7⟩ := k3.c8
  obtain ⟨f0, f1, f2, f3, f4, f5, f6, f7⟩ := k3.f8
  refine (C1.out W (HN'.out W b1)).mono ?_
  rintro e w' ⟨rfl, rfl⟩
  have K3 := Lib.hid k3
  have B1 := Lib.hid b1
  clear k1 k2 k3 b1
  cases ok
  · rw [if_neg Bool.false_ne_true] at HL
    go_wp2
    rw [HL.out]
    exact bodyPost_ret (res8 Try.f93 6 7 rfl (set8 K3.out _ _ _ _ _ _ _ _) _ rfl rfl) rfl ⟨rfl, bel8 B1.out (by omega) _ _ _ _ _ _ _ _⟩
  · rw [if_pos rfl] at HL
    go_wp2_with fail
    refine (C2.out W (HN'.out W B1.out)).mono ?_
    rintro e w2 ⟨rfl, b2⟩
    rw [← HL.out]
    have k4 := K3.out.up b2
    have b3 := bnext B1.out b2
    obtain ⟨r0, r1, r2, r3, r4, r5, r6, r7⟩ := k4.c8
    obtain ⟨f0, f1, f2, f3, f4, f5, f6, f7⟩ := k4.f8
    have K4 := Lib.hid k4
    have B4 := Lib.hid b3
    clear k4 b3 b2
    obtain ⟨⟨i0, i1, i2, i3, i4, i5, i6, i7⟩, ok2⟩ := r
    simp only [infV] at HL ⊢
    go_wp2
    exact bodyPost_ret (res8 Try.f93 6 7 rfl (set8 K4.out _ _ _ _ _ _ _ _) _ rfl rfl) rfl ⟨rfl, bel8 B4.out (by omega) _ _ _ _ _ _ _ _⟩
end Go.Proofs.Ytflncolmehmaaaa
