import Derived.OwnWalk
import Derived.Test.YtlpececggkdhmaaGreatN1
import Derived.Test.YtlpececggkdhmaaGreatN5
open Go.Lib (hid)
set_option linter.unusedVariables false
set_option linter.unusedSimpArgs false
set_option maxHeartbeats 4000000
set_option maxRecDepth 100000
namespace Go.Proofs.YtlpececggkdhmaaGreat
section
open Go.RowKit Ino Go.Maps
open Pa (Blk strV)
variable {own : Nat → Prop} {t : T}
def chmodA (t : T) (u m : Int) (n : Inf × Nat) : T × Nat :=
 if n.2 = 0 then
  if (u == 0) = true ∨ (u == n.1.owner) = true then setP t n.1.ino (rOk m n.1.owner n.1.group) m n.1.owner n.1.group
  else (t, 2)
 else (t, n.2)
theorem wChmod_any (A : Nat) (cwd r u s k g : Int) (p : ByteArray) (hp : p.size ≤ maxLen) (m : Int) (w : World) (h : PTo w A own t) (hsd : Sd t)
 (hm : wfI m) :
 Calls Tryz.prog 28 #[.pointer (some ⟨A, 0, none⟩), .int .i64 cwd, .agg #[.int .i64 r, .int .i64 u, .int .i64 s, .int .i64 k, .int .i64 g], .string p, .int .i64 m] w fun e w' =>
  e = .returned (.int .i64 ((chmodA t u m (toldI t (findP t cwd u g p.data.toList))).2 : Int)) ∧ Pt w A own (chmodA t u m (toldI t (findP t cwd u g p.data.toList))).1 w' := by
 have C1 := hid (fun W => wcallerOf_any A cwd r u s k g W)
 have C2 := hid (fun W (hq : PTo W A own t) => wfind_any A cwd u g p hp W hq hsd)
 have HPT := hid (fun W (hb : Below w.heap.size w W) => h.below hb)
 generalize toldI t (findP t cwd u g p.data.toList) = n at *
 have C3 := hid (fun W => wisZero_any A cwd u g W)
 have C4 := hid (fun W => wowns_any A cwd u g n.1 W)
 have C6 := hid (fun W own' (hq : PTo W A own' t) => pset_any n.1.ino m n.1.owner n.1.group hm W hq)
 have hR : chmodA t u m n = if n.2 = 0 then
  if (u == 0) = true ∨ (u == n.1.owner) = true then setP t n.1.ino (rOk m n.1.owner n.1.group) m n.1.owner n.1.group
  else (t, 2)
 else (t, n.2) := rfl
 generalize chmodA t u m n = R at hR ⊢
 generalize (u == n.1.owner) = gv at *
 obtain ⟨t1, c1, hen⟩ : ∃ t1 c1, setP t n.1.ino (rOk m n.1.owner n.1.group) m n.1.owner n.1.group = (t1, c1) := ⟨_, _, rfl⟩
 rw [hen] at C6 hR
 obtain ⟨⟨f0, f1, f2, f3, f4, f5, f6, f7⟩, fe⟩ := n
 simp only [ansV, infAg, infC] at C2 C4 C6 hR
 have HR := hid hR
 have H := hid h
 clear hp h hsd hR hen hm
 go_enter Tryz.func28, Tryz.ntmps28
 go_wp2_with fail
 refine calls_world (fun W => Below w.heap.size w W) (by first | exact Below.refl _ _ | exact bel1 _ _) ?_
 rintro W b0
 refine (C1.out W).mono ?_
 rintro e W1 ⟨rfl, b1⟩
 have B1 := hid (bnext b0 b1)
 have l1 : w.heap.size ≤ W1.heap.size := B1.out.size
 clear b0 b1
 go_wp2_with fail
 refine calls_world (fun W => Blk W W1.heap.size 102 (calC A cwd u g) ∧ Below w.heap.size w W) ⟨Blk.new W1 _ _, bal B1.out _⟩ ?_
 rintro W2 ⟨k1, b2⟩
 refine (C2.out W2 (HPT.out _ b2)).mono ?_
 rintro e W3 ⟨rfl, b3⟩
 have k1 := k1.up b3
 have l3 : W1.heap.size < W3.heap.size := k1.lt
 have B3 := hid (bnext b2 b3)
 have K1 := hid k1
 obtain ⟨c0, c1', c2, c3⟩ := k1.c4
 clear k1 b2 b3 B1 C1 C2
 by_cases hfe : fe = 0
 ·subst hfe
  rw [if_pos rfl] at HR
  go_wp2_with fail
  refine calls_world (fun W => Blk W W1.heap.size 102 (calC A cwd u g) ∧ Blk W W3.heap.size 50 #[.int .i64 f0, .int .i64 f1, .int .i64 f2, .int .i64 f3, .int .i64 f4, .int .i64 f5, .int .i64 f6, .int .i64 f7] ∧ Pk (fun g => g = W1.heap.size ∨ g = W3.heap.size) w own A t W) ⟨K1.out.alloc _, Blk.new W3 _ _, Pk.start H.out (bal B3.out _) (fun g hg => by
   have hz := (Blk.new W3 50 #[.int .i64 f0, .int .i64 f1, .int .i64 f2, .int .i64 f3, .int .i64 f4, .int .i64 f5, .int .i64 f6, .int .i64 f7]).lt
   omega)⟩ ?_
  rintro W4 ⟨k1, k2, p1⟩
  refine (C3.out W4).mono ?_
  rintro e W5 ⟨rfl, b5⟩
  have k1 := k1.up b5
  have k2 := k2.up b5
  have p2 := p1.up b5 (L' := fun g => g = W1.heap.size ∨ g = W3.heap.size) (fun g => .inl)
  clear c0 c1' c2 c3 p1 b5 K1 B3 H HPT C3
  obtain ⟨c0, c1', c2, c3⟩ := k1.c4
  obtain ⟨i0, i1, i2, i3, i4, i5, i6, i7⟩ := k2.c8
  have K1 := hid k1
  have K2 := hid k2
  have P2 := hid p2
  clear k1 k2 p2
  generalize (u == 0) = z at *
  cases z
  ·go_wp2_with fail
   refine (C4.out W5).mono ?_
   rintro e W6 ⟨rfl, b6⟩
   have k2 := K2.out.up b6
   have P3 := hid (P2.out.up b6 (L' := fun g => g = W1.heap.size ∨ g = W3.heap.size) (fun g => .inl))
   clear c0 c1' c2 c3 i0 i1 i2 i3 i4 i5 i6 i7 K1 K2 P2 b6 C4
   obtain ⟨i0, i1, i2, i3, i4, i5, i6, i7⟩ := k2.c8
   clear k2
   cases gv
   ·go_wp2
    go_ret
    rw [show R = (t, 2) by rw [HR.out]; simp]
    exact ⟨rfl, P3.out.done⟩
   ·go_wp2_with fail
    refine (P3.out.call (fun own' hp => C6.out W6 own' hp)).mono ?_
    rintro e W7 ⟨rfl, p4, f4⟩
    have P4 := hid p4
    clear p4 f4 P3 C6 i0 i1 i2 i3 i4 i5 i6 i7
    go_wp2
    go_ret
    rw [show R = (t1, c1) by rw [HR.out]; simp]
    exact ⟨rfl, P4.out.done⟩
  ·go_wp2_with fail
   refine (P2.out.call (fun own' hp => C6.out W5 own' hp)).mono ?_
   rintro e W7 ⟨rfl, p4, f4⟩
   have P4 := hid p4
   clear p4 f4 P2 C6 i0 i1 i2 i3 i4 i5 i6 i7 K1 K2 c0 c1' c2 c3
   go_wp2
   go_ret
   rw [show R = (t1, c1) by rw [HR.out]; simp]
   exact ⟨rfl, P4.out.done⟩
 ·have he2 : ((fe : Int) == 0) = false := by simp; omega
  have he3 : ((fe : Int) != 0) = true := by simp; omega
  rw [if_neg hfe] at HR
  go_wp2
  go_ret
  rw [HR.out]
  exact ⟨rfl, (Pk.start (L := fun _ => False) H.out (bal B3.out _) (fun _ => False.elim)).done⟩
end
section
open Go.RowKit Ino Go.Maps
open Pa (Blk strV)
variable {own : Nat → Prop} {t : T}
theorem wParent_any (A : Nat) (cwd r u s k g : Int) (p : ByteArray) (hp : p.size ≤ maxLen) (w : World) (h : PTo w A own t) (hsd : Sd t) :
 Calls Tryz.prog 16 #[.pointer (some ⟨A, 0, none⟩), .int .i64 cwd, .agg #[.int .i64 r, .int .i64 u, .int .i64 s, .int .i64 k, .int .i64 g], .string p] w fun e w' =>
  e = .returned (.tuple #[.int .i64 (plaP t (placeP t cwd u g p.data.toList)).dir.ino, .string ⟨(plaP t (placeP t cwd u g p.data.toList)).name.toArray⟩, .int .i64 ((plaP t (placeP t cwd u g p.data.toList)).err : Int)]) ∧ Below w.heap.size w w' := by
 have C1 := hid (fun W => wcallerOf_any A cwd r u s k g W)
 have C2 := hid (fun W (hq : PTo W A own t) => wlocate_any A cwd u g p hp W hq hsd)
 have HPT := hid (fun W (hb : Below w.heap.size w W) => h.below hb)
 generalize plaP t (placeP t cwd u g p.data.toList) = q at *
 obtain ⟨⟨d0, d1, d2, d3, d4, d5, d6, d7⟩, nm, mu, tk, ⟨x0, x1, x2, x3, x4, x5, x6, x7⟩, er⟩ := q
 simp only [plaV, plcC, strV] at C2 ⊢
 clear hp h hsd
 generalize (⟨nm.toArray⟩ : ByteArray) = ds at *
 go_enter Tryz.func16, Tryz.ntmps16
 go_wp2_with fail
 refine calls_world (fun W => Below w.heap.size w W) (by first | exact Below.refl _ _ | exact bel1 _ _) ?_
 rintro W b0
 refine (C1.out W).mono ?_
 rintro e W1 ⟨rfl, b1⟩
 have B1 := hid (bnext b0 b1)
 clear b0 b1
 go_wp2_with fail
 refine (C2.out W1 (HPT.out _ B1.out)).mono ?_
 rintro e W3 ⟨rfl, b3⟩
 have B3 := hid (bnext B1.out b3)
 have l3 : w.heap.size ≤ W3.heap.size := B3.out.size
 clear b3 B1 C1 C2
 go_wp2_with (refine wpList_storeAgg rfl 99 _ _ rfl rfl W3.heap.size 99 _ #[.int .i64 d0, .int .i64 d1, .int .i64 d2, .int .i64 d3, .int .i64 d4, .int .i64 d5, .int .i64 d6, .int .i64 d7, .string ds, .bool mu, .bool tk, .int .i64 x0, .int .i64 x1, .int .i64 x2, .int .i64 x3, .int .i64 x4, .int .i64 x5, .int .i64 x6, .int .i64 x7] rfl rfl (Blk.new W3 _ _) rfl aggPlace (one_all rfl) ?_; intro W8 hB4 hF4; have HF4 := hid hF4; obtain ⟨e0, e1, e2, e3, e4, e5, e6, e7, e8, e9, e10, e11, e12, e13, e14, e15, e16, e17, e18⟩ := hB4.c19; clear hB4 hF4)
 go_quiet (fail)
 go_wp2
 go_ret3
 exact ⟨rfl, (below_one (bal B3.out _) l3 HF4.out).trans ⟨rfl, rfl, rfl, Nat.le_refl _, fun _ _ => rfl⟩⟩
end
section
open Go.RowKit Ino Go.Maps
open Pa (Blk)
variable {P : Program} {W W' : World} {G : Nat} {T : TypeId}
theorem wpList_loadAgg_g {w : World} {ops : Array Oper} {rest : List Oper} {o : Oper} {a : Act} {Q : Exit → Act → World → Prop} (hw : Region.wanted o (yielded ops a.tmps) = true) (ty : TypeId) (x : Operand) (ho : o.op = .load ty x)
 (G : Nat) (T : TypeId) (cs : Array Value) (hx : a.eval x = .pointer (some ⟨G, 0, none⟩)) (hb : Blk w G T cs) (ht : AggOf P ty cs.size)
 (h : wpList P ops Q rest (a.put o.dst (.agg cs)) w) : wpList P ops Q (o :: rest) a w := by
 refine wpList_step fun K hK => ?_
 rw [if_pos hw]
 have hl : (loadCells ⟨G, 0, none⟩ cs.size).run P w = .ok cs w := by
  have := run_loadCells_list (P := P) w ⟨G, 0, none⟩ cs.toList (fun j v hv => by
   rw [Addr.add_lit, Nat.zero_add, hb.cell j]
   simpa using hv)
  rw [Array.length_toList] at this
  exact this
 have hv : (loadVar ty ⟨G, 0, none⟩).run P w = .ok (.agg cs) w := by
  simp [loadVar, ht.1, ht.2, hl]
 unfold Oper.wp
 simp [execOp, ho, hx, Instr.loadAt, Instr.sureAddr, hv, asAddr, Result.andThen]
 exact hK _ _ h
end
end Go.Proofs.YtlpececggkdhmaaGreat
