/- Contracts of package walk: Chown. -/
import Derived.Test.YtflncolmehmaaaaWK
namespace Go.Proofs.Ytflncolmehmaaaa
open Go.RowKit Ino Go.Maps
open Pa (Blk strV)
set_option linter.unusedVariables false
set_option linter.unusedSimpArgs false
variable {own : Nat → Prop} {t : T}

/-- an inode given away. -/
def chownA (t : T) (u g o k : Int) (n : Inf × Nat) : T × Nat :=
  if n.2 = 0 then
    if (u == 0) = true ∨ giveA n.1 u g o k = true then setP t n.1.ino (rOk (bits .andNot .i64 n.1.mode 2048) o k) (bits .andNot .i64 n.1.mode 2048) o k
    else (t, 2)
  else (t, n.2)
set_option maxHeartbeats 4000000 in
set_option maxRecDepth 100000 in
theorem wChown_any (A : Nat) (cwd r u s k g : Int) (p : ByteArray) (hp : p.size ≤ maxLen) (o x : Int) (w : World) (h : PTo w A own t) (hsd : Sd t)
    (hm : wfI (bits .andNot .i64 (toldI t (findP t cwd u g p.data.toList)).1.mode 2048)) :
    Calls Try.prog 50 #[.pointer (some ⟨A, 0, none⟩), .int .i64 cwd, .agg #[.int .i64 r, .int .i64 u, .int .i64 s, .int .i64 k, .int .i64 g], .string p, .int .i64 o, .int .i64 x] w fun e w' =>
      e = .returned (.int .i64 ((chownA t u g o x (toldI t (findP t cwd u g p.data.toList))).2 : Int)) ∧ Pt w A own (chownA t u g o x (toldI t (findP t cwd u g p.data.toList))).1 w' := by
  have C1 := Lib.hid (fun W => wcallerOf_any A cwd r u s k g W)
  have C2 := Lib.hid (fun W (hq : PTo W A own t) => wfind_any A cwd u g p hp W hq hsd)
  have HPT := Lib.hid (fun W (hb : Below w.heap.size w W) => h.below hb)
  generalize toldI t (findP t cwd u g p.data.toList) = n at *
  have C3 := Lib.hid (fun W => wisZero_any A cwd u g W)
  have C4 := Lib.hid (fun W => wmayGive_any A cwd u g n.1 o x W)
  have C6 := Lib.hid (fun W own' (hq : PTo W A own' t) => pset_any n.1.ino (bits .andNot .i64 n.1.mode 2048) o x hm W hq)
  have hR : chownA t u g o x n = if n.2 = 0 then
    if (u == 0) = true ∨ giveA n.1 u g o x = true then setP t n.1.ino (rOk (bits .andNot .i64 n.1.mode 2048) o x) (bits .andNot .i64 n.1.mode 2048) o x
    else (t, 2)
  else (t, n.2) := rfl
  generalize chownA t u g o x n = R at hR ⊢
  generalize giveA n.1 u g o x = gv at *
  obtain ⟨t1, c1, hen⟩ : ∃ t1 c1, setP t n.1.ino (rOk (bits .andNot .i64 n.1.mode 2048) o x) (bits .andNot .i64 n.1.mode 2048) o x = (t1, c1) := ⟨_, _, rfl⟩
  rw [hen] at C6 hR
  obtain ⟨⟨f0, f1, f2, f3, f4, f5, f6, f7⟩, fe⟩ := n
  simp only [ansV, infAg, infC] at C2 C4 C6 hR
  have HR := Lib.hid hR
  have H := Lib.hid h
  clear hp h hsd hR hen hm
  go_enter Try.func50, Try.ntmps50
  go_wp2_with fail
  refine calls_world (fun W => Below w.heap.size w W) (by first | exact Below.refl _ _ | exact bel1 _ _) ?_
  rintro W b0
  refine (C1.out W).mono ?_
  rintro e W1 ⟨rfl, b1⟩
  have B1 := Lib.hid (bnext b0 b1)
  have l1 : w.heap.size ≤ W1.heap.size := B1.out.size
  clear b0 b1
  go_wp2_with fail
  refine calls_world (fun W => Blk W W1.heap.size 92 (calC A cwd u g) ∧ Below w.heap.size w W) ⟨Blk.new W1 _ _, bal B1.out _⟩ ?_
  rintro W2 ⟨k1, b2⟩
  refine (C2.out W2 (HPT.out _ b2)).mono ?_
  rintro e W3 ⟨rfl, b3⟩
  have k1 := k1.up b3
  have l3 : W1.heap.size < W3.heap.size := k1.lt
  have B3 := Lib.hid (bnext b2 b3)
  have K1 := Lib.hid k1
  obtain ⟨c0, c1', c2, c3⟩ := k1.c4
  clear k1 b2 b3 B1 C1 C2
  by_cases hfe : fe = 0
  · subst hfe
    rw [if_pos rfl] at HR
    go_wp2_with fail
    refine calls_world (fun W => Blk W W1.heap.size 92 (calC A cwd u g) ∧ Blk W W3.heap.size 38 #[.int .i64 f0, .int .i64 f1, .int .i64 f2, .int .i64 f3, .int .i64 f4, .int .i64 f5, .int .i64 f6, .int .i64 f7] ∧ Pk (fun g => g = W1.heap.size ∨ g = W3.heap.size) w own A t W) ⟨K1.out.alloc _, Blk.new W3 _ _, Pk.start H.out (bal B3.out _) (fun g hg => by
      have hz := (Blk.new W3 38 #[.int .i64 f0, .int .i64 f1, .int .i64 f2, .int .i64 f3, .int .i64 f4, .int .i64 f5, .int .i64 f6, .int .i64 f7]).lt
      omega)⟩ ?_
    rintro W4 ⟨k1, k2, p1⟩
    refine (C3.out W4).mono ?_
    rintro e W5 ⟨rfl, b5⟩
    have k1 := k1.up b5
    have k2 := k2.up b5
    have p2 := p1.up b5 (L' := fun g => g = W1.heap.size ∨ g = W3.heap.size) (fun g => .inl)
    clear c0 c1' c2 c3 p1 b5 K1 B3 H HPT C3
    obtain ⟨c0, c1', c2, c3⟩ := k1.c4
    obtain ⟨i0, i1, i2, i3, i4, i5, i6, i7⟩ := k2.c8
    have K1 := Lib.hid k1
    have K2 := Lib.hid k2
    have P2 := Lib.hid p2
    clear k1 k2 p2
    generalize (u == 0) = z at *
    cases z
    · go_wp2_with fail
      refine (C4.out W5).mono ?_
      rintro e W6 ⟨rfl, b6⟩
      have k2 := K2.out.up b6
      have P3 := Lib.hid (P2.out.up b6 (L' := fun g => g = W1.heap.size ∨ g = W3.heap.size) (fun g => .inl))
      clear c0 c1' c2 c3 i0 i1 i2 i3 i4 i5 i6 i7 K1 K2 P2 b6 C4
      obtain ⟨i0, i1, i2, i3, i4, i5, i6, i7⟩ := k2.c8
      clear k2
      cases gv
      · go_wp2
        go_ret
        rw [show R = (t, 2) by rw [HR.out]; simp]
        exact ⟨rfl, P3.out.done⟩
      · go_wp2_with fail
        refine (P3.out.call (fun own' hp => C6.out W6 own' hp)).mono ?_
        rintro e W7 ⟨rfl, p4, f4⟩
        have P4 := Lib.hid p4
        clear p4 f4 P3 C6 i0 i1 i2 i3 i4 i5 i6 i7
        go_wp2
        go_ret
        rw [show R = (t1, c1) by rw [HR.out]; simp]
        exact ⟨rfl, P4.out.done⟩
    · go_wp2_with fail
      refine (P2.out.call (fun own' hp => C6.out W5 own' hp)).mono ?_
      rintro e W7 ⟨rfl, p4, f4⟩
      have P4 := Lib.hid p4
      clear p4 f4 P2 C6 i0 i1 i2 i3 i4 i5 i6 i7 K1 K2 c0 c1' c2 c3
      go_wp2
      go_ret
      rw [show R = (t1, c1) by rw [HR.out]; simp]
      exact ⟨rfl, P4.out.done⟩
  · have he2 : ((fe : Int) == 0) = false := by simp; omega
    have he3 : ((fe : Int) != 0) = true := by simp; omega
    rw [if_neg hfe] at HR
    go_wp2
    go_ret
    rw [HR.out]
    exact ⟨rfl, (Pk.start (L := fun _ => False) H.out (bal B3.out _) (fun _ => False.elim)).done⟩
end Go.Proofs.Ytflncolmehmaaaa
