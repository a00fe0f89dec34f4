import Derived.Deep.RegionHeld3
import Derived.Test.YtlpececggkdhmaaGreatN20
import Derived.Test.YtlpececggkdhmaaGreatN21
import Derived.Test.YtlpececggkdhmaaGreatN22
import Derived.Test.YtlpececggkdhmaaGreatN23
open Go.Lib (hid)
set_option linter.unusedVariables false
set_option linter.unusedSimpArgs false
set_option maxHeartbeats 4000000
set_option maxRecDepth 100000
namespace Go.Proofs.YtlpececggkdhmaaGreat
section
open Go.RowKit Ino Go.Maps Pa
variable {w0 w : World} {A C B N : Nat} {t : T} {K : Nat → Prop}
theorem does7_put (cwd u g : Int) (s x : ByteArray) (m n a b : Int) (hs : s.size ≤ 1048576) (hx : x.size ≤ 5000) (hm : wfI m) (hb : -9223372036854775808 ≤ b ∧ b ≤ 9223372036854775807) (h : TW K w0 w A C B t t) (ht : Inv N t) (hN : N ≤ 999999) :
 Calls Tryz.prog 11 #[.pointer (some ⟨A, 0, none⟩), .pointer (some ⟨C, 0, none⟩), .agg #[.int .i64 10, .int .i64 cwd, .int .i64 u, .int .i64 g, .string s, .string x, .int .i64 m, .int .i64 n, .int .i64 a, .int .i64 b]] w fun e w' => e = .returned (.bool true) ∧ TW K w0 w' A C B (fputP t a b x.data.toList).1 (fputP t a b x.data.toList).1 := by
 have hz : s.size ≤ maxLen := by unfold maxLen; omega
 have hxz : x.size ≤ maxLen := by unfold maxLen; omega
 have hx6 : x.size ≤ 1000000 := by omega
 have hx7 : x.size ≤ 1048576 := by omega
 have HS := hid hs
 have HZ := hid hz
 have HXZ := hid hxz
 have HX6 := hid hx6
 have HX7 := hid hx7
 have HM := hid hm
 have HBB := hid hb
 have HT := hid ht
 have HN := hid hN
 clear hs hx hm hb ht hN hz hxz hx6 hx7
 go_enter Tryz.func11, Tryz.ntmps11
 go_wp2_with fail
 refine (who_any _ _ _).mono ?_
 rintro e W1 ⟨rfl, bw⟩
 have kb : Blk W1 w.heap.size 29 #[.int .i64 10, .int .i64 cwd, .int .i64 u, .int .i64 g, .string s, .string x, .int .i64 m, .int .i64 n, .int .i64 a, .int .i64 b] := Blk.up (Blk.new w _ _) bw
 have hG := kb.lt
 have k1 := kb.alloc (.cells #[.int .i64 u, .int .i64 u, .int .i64 u, .int .i64 g, .int .i64 g] 42)
 have k2 := Blk.new W1 42 #[.int .i64 u, .int .i64 u, .int .i64 u, .int .i64 g, .int .i64 g]
 have hbl : Below w.heap.size w (W1.alloc (.cells #[.int .i64 u, .int .i64 u, .int .i64 u, .int .i64 g, .int .i64 g] 42)) := bal (bnext (bel1 w _) bw) _
 obtain ⟨q0, q1, q2, q3, q4, q5, q6, q7, q8, q9⟩ := Blk.k10 k1
 obtain ⟨r0, r1, r2, r3, r4⟩ := Blk.k5 k2
 clear kb k1 k2 bw
 go_wp2_with fail
 generalize hw1 : W1.alloc (.cells #[.int .i64 u, .int .i64 u, .int .i64 u, .int .i64 g, .int .i64 g] 42) = w1 at *
 have hsz : W1.heap.size < w1.heap.size := by rw [← hw1]; simp
 have h1 := h.rebase hbl
 have hK : KN K w w1 w.heap.size := .inr ⟨Nat.le_refl _, by omega⟩
 have hJ : KN K w w1 W1.heap.size := .inr ⟨by omega, hsz⟩
 have HB := hid (fun w' u (h' : TW (KN K w w1) w1 w' A C B u u) => h'.unbase h hbl)
 clear hw1 hbl hsz h hG
 generalize w.heap.size = G at *
 generalize W1.heap.size = J at *
 generalize KN K w w1 = K1 at *
 go_region_held3 (fun w' => w'.cell? ⟨G, 8, none⟩ = some (.int .i64 a) ∧ w'.cell? ⟨G, 9, none⟩ = some (.int .i64 b) ∧ w'.cell? ⟨G, 5, none⟩ = some (.string x))
  (first | exact ⟨q8, q9, q5⟩ | exact ⟨p1.cell hK q8, p1.cell hK q9, p1.cell hK q5⟩ | exact ⟨p2.cell hK q8, p2.cell hK q9, p2.cell hK q5⟩)
  (first
    | (go_at_call 45; refine (p_fput h1.drew HT.out a b x HBB.out HX6.out).mono ?_; rintro e w2 ⟨rfl, p1⟩)
    | (go_at_call 46; refine (d_fput p1 HT.out a b x HBB.out HXZ.out).mono ?_; rintro e w3 ⟨rfl, p2⟩))
 go_wp2
 go_ret
 exact ⟨ret_bool (by simp), HB.out _ _ p2⟩
theorem does7_drop (kind : Int) (k1 : kind ≠ 1) (k2 : kind ≠ 2) (k3 : kind ≠ 3) (k4 : kind ≠ 4) (k5 : kind ≠ 5) (k6 : kind ≠ 6) (k7 : kind ≠ 7) (k8 : kind ≠ 8) (k9 : kind ≠ 9) (k10 : kind ≠ 10) (cwd u g : Int) (s x : ByteArray) (m n a b : Int) (hs : s.size ≤ 1048576) (hx : x.size ≤ 5000) (hm : wfI m) (hb : -9223372036854775808 ≤ b ∧ b ≤ 9223372036854775807) (h : TW K w0 w A C B t t) (ht : Inv N t) (hN : N ≤ 999999) :
 Calls Tryz.prog 11 #[.pointer (some ⟨A, 0, none⟩), .pointer (some ⟨C, 0, none⟩), .agg #[.int .i64 kind, .int .i64 cwd, .int .i64 u, .int .i64 g, .string s, .string x, .int .i64 m, .int .i64 n, .int .i64 a, .int .i64 b]] w fun e w' => e = .returned (.bool true) ∧ TW K w0 w' A C B (dropP t a).1 (dropP t a).1 := by
 have e1 : ((kind : Int) == 1) = false := beq_eq_false_iff_ne.2 k1
 have e2 : ((kind : Int) == 2) = false := beq_eq_false_iff_ne.2 k2
 have e3 : ((kind : Int) == 3) = false := beq_eq_false_iff_ne.2 k3
 have e4 : ((kind : Int) == 4) = false := beq_eq_false_iff_ne.2 k4
 have e5 : ((kind : Int) == 5) = false := beq_eq_false_iff_ne.2 k5
 have e6 : ((kind : Int) == 6) = false := beq_eq_false_iff_ne.2 k6
 have e7 : ((kind : Int) == 7) = false := beq_eq_false_iff_ne.2 k7
 have e8 : ((kind : Int) == 8) = false := beq_eq_false_iff_ne.2 k8
 have e9 : ((kind : Int) == 9) = false := beq_eq_false_iff_ne.2 k9
 have e10 : ((kind : Int) == 10) = false := beq_eq_false_iff_ne.2 k10
 clear k1 k2 k3 k4 k5 k6 k7 k8 k9 k10
 have hz : s.size ≤ maxLen := by unfold maxLen; omega
 have hxz : x.size ≤ maxLen := by unfold maxLen; omega
 have hx6 : x.size ≤ 1000000 := by omega
 have hx7 : x.size ≤ 1048576 := by omega
 have HS := hid hs
 have HZ := hid hz
 have HXZ := hid hxz
 have HX6 := hid hx6
 have HX7 := hid hx7
 have HM := hid hm
 have HBB := hid hb
 have HT := hid ht
 have HN := hid hN
 clear hs hx hm hb ht hN hz hxz hx6 hx7
 go_enter Tryz.func11, Tryz.ntmps11
 go_wp2_with fail
 refine (who_any _ _ _).mono ?_
 rintro e W1 ⟨rfl, bw⟩
 have kb : Blk W1 w.heap.size 29 #[.int .i64 kind, .int .i64 cwd, .int .i64 u, .int .i64 g, .string s, .string x, .int .i64 m, .int .i64 n, .int .i64 a, .int .i64 b] := Blk.up (Blk.new w _ _) bw
 have hG := kb.lt
 have k1 := kb.alloc (.cells #[.int .i64 u, .int .i64 u, .int .i64 u, .int .i64 g, .int .i64 g] 42)
 have k2 := Blk.new W1 42 #[.int .i64 u, .int .i64 u, .int .i64 u, .int .i64 g, .int .i64 g]
 have hbl : Below w.heap.size w (W1.alloc (.cells #[.int .i64 u, .int .i64 u, .int .i64 u, .int .i64 g, .int .i64 g] 42)) := bal (bnext (bel1 w _) bw) _
 obtain ⟨q0, q1, q2, q3, q4, q5, q6, q7, q8, q9⟩ := Blk.k10 k1
 obtain ⟨r0, r1, r2, r3, r4⟩ := Blk.k5 k2
 clear kb k1 k2 bw
 go_wp2_with fail
 generalize hw1 : W1.alloc (.cells #[.int .i64 u, .int .i64 u, .int .i64 u, .int .i64 g, .int .i64 g] 42) = w1 at *
 have hsz : W1.heap.size < w1.heap.size := by rw [← hw1]; simp
 have h1 := h.rebase hbl
 have hK : KN K w w1 w.heap.size := .inr ⟨Nat.le_refl _, by omega⟩
 have hJ : KN K w w1 W1.heap.size := .inr ⟨by omega, hsz⟩
 have HB := hid (fun w' u (h' : TW (KN K w w1) w1 w' A C B u u) => h'.unbase h hbl)
 clear hw1 hbl hsz h hG
 generalize w.heap.size = G at *
 generalize W1.heap.size = J at *
 generalize KN K w w1 = K1 at *
 go_region_held3 (fun w' => w'.cell? ⟨G, 8, none⟩ = some (.int .i64 a))
  (first | exact q8 | exact p1.cell hK q8 | exact p2.cell hK q8)
  (first
    | (go_at_call 47; refine (tp_drop h1.drew HT.out.s a (fun k => Nat.le_trans (HT.out.b k) (Nat.le_trans HN.out (by decide)))).mono ?_; rintro e w2 ⟨rfl, p1⟩)
    | (go_at_call 48; refine (td_drop p1 HT.out.s.sd a (fun k => Nat.le_trans (HT.out.b k) (Nat.le_trans HN.out (by decide)))).mono ?_; rintro e w3 ⟨rfl, p2⟩))
 go_wp2
 go_ret
 exact ⟨ret_bool (by simp), HB.out _ _ p2⟩
end
section
open Go.RowKit Ino Go.Maps Pa
variable {w0 w : World} {A C B N : Nat} {t : T} {K : Nat → Prop}
theorem does7_any (o : Op7) (ho : o.Ok) (h : TW K w0 w A C B t t) (ht : Inv N t) (hN : N ≤ 999999) :
 Calls Tryz.prog 11 #[.pointer (some ⟨A, 0, none⟩), .pointer (some ⟨C, 0, none⟩), o.val] w fun e w' => e = .returned (.bool true) ∧ TW K w0 w' A C B (o.step t) (o.step t) := by
 obtain ⟨hs, hx, hm, hb⟩ := ho
 obtain ⟨kind, cwd, u, g, s, x, m, n, a, b⟩ := o
 simp only at hs hx hm hb
 unfold Op7.step Op7.val
 simp only
 by_cases k1 : kind = 1
 ·rw [if_pos k1]; subst k1; exact does7_find cwd u g s x m n a b hs hx hm hb h ht hN
 rw [if_neg k1]
 by_cases k2 : kind = 2
 ·rw [if_pos k2]; subst k2; exact does7_parent cwd u g s x m n a b hs hx hm hb h ht hN
 rw [if_neg k2]
 by_cases k3 : kind = 3
 ·rw [if_pos k3]; subst k3; exact does7_open cwd u g s x m n a b hs hx hm hb h ht hN
 rw [if_neg k3]
 by_cases k4 : kind = 4
 ·rw [if_pos k4]; subst k4; exact does7_mkdir cwd u g s x m n a b hs hx hm hb h ht hN
 rw [if_neg k4]
 by_cases k5 : kind = 5
 ·rw [if_pos k5]; subst k5; exact does7_rm cwd u g s x m n a b hs hx hm hb h ht hN
 rw [if_neg k5]
 by_cases k6 : kind = 6
 ·rw [if_pos k6]; subst k6; exact does7_link cwd u g s x m n a b hs hx hm hb h ht hN
 rw [if_neg k6]
 by_cases k7 : kind = 7
 ·rw [if_pos k7]; subst k7; exact does7_ren cwd u g s x m n a b hs hx hm hb h ht hN
 rw [if_neg k7]
 by_cases k8 : kind = 8
 ·rw [if_pos k8]; subst k8; exact does7_chmod cwd u g s x m n a b hs hx hm hb h ht hN
 rw [if_neg k8]
 by_cases k9 : kind = 9
 ·rw [if_pos k9]; subst k9; exact does7_chown cwd u g s x m n a b hs hx hm hb h ht hN
 rw [if_neg k9]
 by_cases k10 : kind = 10
 ·rw [if_pos k10]; subst k10; exact does7_put cwd u g s x m n a b hs hx hm hb h ht hN
 rw [if_neg k10]
 exact does7_drop kind k1 k2 k3 k4 k5 k6 k7 k8 k9 k10 cwd u g s x m n a b hs hx hm hb h ht hN
end
end Go.Proofs.YtlpececggkdhmaaGreat
