import Derived.Deep.RegionHeld3
import Derived.Test.YtlpececggkdhmaaGreatN20
open Go.Lib (hid)
set_option linter.unusedVariables false
set_option linter.unusedSimpArgs false
set_option maxHeartbeats 4000000
set_option maxRecDepth 100000
namespace Go.Proofs.YtlpececggkdhmaaGreat
section
open Go.RowKit Ino Go.Maps Pa
variable {w0 w : World} {A C B N : Nat} {t : T} {K : Nat → Prop}
theorem does7_link (cwd u g : Int) (s x : ByteArray) (m n a b : Int) (hs : s.size ≤ 1048576) (hx : x.size ≤ 5000) (hm : wfI m) (hb : -9223372036854775808 ≤ b ∧ b ≤ 9223372036854775807) (h : TW K w0 w A C B t t) (ht : Inv N t) (hN : N ≤ 999999) :
 Calls Tryz.prog 11 #[.pointer (some ⟨A, 0, none⟩), .pointer (some ⟨C, 0, none⟩), .agg #[.int .i64 6, .int .i64 cwd, .int .i64 u, .int .i64 g, .string s, .string x, .int .i64 m, .int .i64 n, .int .i64 a, .int .i64 b]] w fun e w' => e = .returned (.bool true) ∧ TW K w0 w' A C B (linkP t cwd u g s.data.toList x.data.toList).1 (linkP t cwd u g s.data.toList x.data.toList).1 := by
 have hz : s.size ≤ maxLen := by unfold maxLen; omega
 have hxz : x.size ≤ maxLen := by unfold maxLen; omega
 have hx6 : x.size ≤ 1000000 := by omega
 have hx7 : x.size ≤ 1048576 := by omega
 have HS := hid hs
 have HZ := hid hz
 have HXZ := hid hxz
 have HX6 := hid hx6
 have HX7 := hid hx7
 have HM := hid hm
 have HBB := hid hb
 have HT := hid ht
 have HN := hid hN
 clear hs hx hm hb ht hN hz hxz hx6 hx7
 go_enter Tryz.func11, Tryz.ntmps11
 go_wp2_with fail
 refine (who_any _ _ _).mono ?_
 rintro e W1 ⟨rfl, bw⟩
 have kb : Blk W1 w.heap.size 29 #[.int .i64 6, .int .i64 cwd, .int .i64 u, .int .i64 g, .string s, .string x, .int .i64 m, .int .i64 n, .int .i64 a, .int .i64 b] := Blk.up (Blk.new w _ _) bw
 have hG := kb.lt
 have k1 := kb.alloc (.cells #[.int .i64 u, .int .i64 u, .int .i64 u, .int .i64 g, .int .i64 g] 42)
 have k2 := Blk.new W1 42 #[.int .i64 u, .int .i64 u, .int .i64 u, .int .i64 g, .int .i64 g]
 have hbl : Below w.heap.size w (W1.alloc (.cells #[.int .i64 u, .int .i64 u, .int .i64 u, .int .i64 g, .int .i64 g] 42)) := bal (bnext (bel1 w _) bw) _
 obtain ⟨q0, q1, q2, q3, q4, q5, q6, q7, q8, q9⟩ := Blk.k10 k1
 obtain ⟨r0, r1, r2, r3, r4⟩ := Blk.k5 k2
 clear kb k1 k2 bw
 go_wp2_with fail
 generalize hw1 : W1.alloc (.cells #[.int .i64 u, .int .i64 u, .int .i64 u, .int .i64 g, .int .i64 g] 42) = w1 at *
 have hsz : W1.heap.size < w1.heap.size := by rw [← hw1]; simp
 have h1 := h.rebase hbl
 have hK : KN K w w1 w.heap.size := .inr ⟨Nat.le_refl _, by omega⟩
 have hJ : KN K w w1 W1.heap.size := .inr ⟨by omega, hsz⟩
 have HB := hid (fun w' u (h' : TW (KN K w w1) w1 w' A C B u u) => h'.unbase h hbl)
 clear hw1 hbl hsz h hG
 generalize w.heap.size = G at *
 generalize W1.heap.size = J at *
 generalize KN K w w1 = K1 at *
 go_region_held3 (fun w' => w'.cell? ⟨G, 1, none⟩ = some (.int .i64 cwd) ∧ w'.cell? ⟨G, 4, none⟩ = some (.string s) ∧ w'.cell? ⟨G, 5, none⟩ = some (.string x) ∧ w'.cell? ⟨J, 0, none⟩ = some (.int .i64 u) ∧ w'.cell? ⟨J, 1, none⟩ = some (.int .i64 u) ∧ w'.cell? ⟨J, 2, none⟩ = some (.int .i64 u) ∧ w'.cell? ⟨J, 3, none⟩ = some (.int .i64 g) ∧ w'.cell? ⟨J, 4, none⟩ = some (.int .i64 g))
  (first | exact ⟨q1, q4, q5, r0, r1, r2, r3, r4⟩ | exact ⟨p1.cell hK q1, p1.cell hK q4, p1.cell hK q5, p1.cell hJ r0, p1.cell hJ r1, p1.cell hJ r2, p1.cell hJ r3, p1.cell hJ r4⟩ | exact ⟨p2.cell hK q1, p2.cell hK q4, p2.cell hK q5, p2.cell hJ r0, p2.cell hJ r1, p2.cell hJ r2, p2.cell hJ r3, p2.cell hJ r4⟩)
  (first
    | (go_at_call 25; refine (p_link h1.drew HT.out cwd u u u g g s x HZ.out HXZ.out).mono ?_; rintro e w2 ⟨rfl, p1⟩)
    | (go_at_call 41; refine (d_link p1 HT.out HN.out cwd u u u g g s x HS.out HX7.out).mono ?_; rintro e w3 ⟨rfl, p2⟩))
 go_wp2
 go_ret
 exact ⟨ret_bool (by simp), HB.out _ _ p2⟩
theorem does7_ren (cwd u g : Int) (s x : ByteArray) (m n a b : Int) (hs : s.size ≤ 1048576) (hx : x.size ≤ 5000) (hm : wfI m) (hb : -9223372036854775808 ≤ b ∧ b ≤ 9223372036854775807) (h : TW K w0 w A C B t t) (ht : Inv N t) (hN : N ≤ 999999) :
 Calls Tryz.prog 11 #[.pointer (some ⟨A, 0, none⟩), .pointer (some ⟨C, 0, none⟩), .agg #[.int .i64 7, .int .i64 cwd, .int .i64 u, .int .i64 g, .string s, .string x, .int .i64 m, .int .i64 n, .int .i64 a, .int .i64 b]] w fun e w' => e = .returned (.bool true) ∧ TW K w0 w' A C B (renP t cwd u g s.data.toList x.data.toList).1 (renP t cwd u g s.data.toList x.data.toList).1 := by
 have hz : s.size ≤ maxLen := by unfold maxLen; omega
 have hxz : x.size ≤ maxLen := by unfold maxLen; omega
 have hx6 : x.size ≤ 1000000 := by omega
 have hx7 : x.size ≤ 1048576 := by omega
 have HS := hid hs
 have HZ := hid hz
 have HXZ := hid hxz
 have HX6 := hid hx6
 have HX7 := hid hx7
 have HM := hid hm
 have HBB := hid hb
 have HT := hid ht
 have HN := hid hN
 clear hs hx hm hb ht hN hz hxz hx6 hx7
 go_enter Tryz.func11, Tryz.ntmps11
 go_wp2_with fail
 refine (who_any _ _ _).mono ?_
 rintro e W1 ⟨rfl, bw⟩
 have kb : Blk W1 w.heap.size 29 #[.int .i64 7, .int .i64 cwd, .int .i64 u, .int .i64 g, .string s, .string x, .int .i64 m, .int .i64 n, .int .i64 a, .int .i64 b] := Blk.up (Blk.new w _ _) bw
 have hG := kb.lt
 have k1 := kb.alloc (.cells #[.int .i64 u, .int .i64 u, .int .i64 u, .int .i64 g, .int .i64 g] 42)
 have k2 := Blk.new W1 42 #[.int .i64 u, .int .i64 u, .int .i64 u, .int .i64 g, .int .i64 g]
 have hbl : Below w.heap.size w (W1.alloc (.cells #[.int .i64 u, .int .i64 u, .int .i64 u, .int .i64 g, .int .i64 g] 42)) := bal (bnext (bel1 w _) bw) _
 obtain ⟨q0, q1, q2, q3, q4, q5, q6, q7, q8, q9⟩ := Blk.k10 k1
 obtain ⟨r0, r1, r2, r3, r4⟩ := Blk.k5 k2
 clear kb k1 k2 bw
 go_wp2_with fail
 generalize hw1 : W1.alloc (.cells #[.int .i64 u, .int .i64 u, .int .i64 u, .int .i64 g, .int .i64 g] 42) = w1 at *
 have hsz : W1.heap.size < w1.heap.size := by rw [← hw1]; simp
 have h1 := h.rebase hbl
 have hK : KN K w w1 w.heap.size := .inr ⟨Nat.le_refl _, by omega⟩
 have hJ : KN K w w1 W1.heap.size := .inr ⟨by omega, hsz⟩
 have HB := hid (fun w' u (h' : TW (KN K w w1) w1 w' A C B u u) => h'.unbase h hbl)
 clear hw1 hbl hsz h hG
 generalize w.heap.size = G at *
 generalize W1.heap.size = J at *
 generalize KN K w w1 = K1 at *
 go_region_held3 (fun w' => w'.cell? ⟨G, 1, none⟩ = some (.int .i64 cwd) ∧ w'.cell? ⟨G, 4, none⟩ = some (.string s) ∧ w'.cell? ⟨G, 5, none⟩ = some (.string x) ∧ w'.cell? ⟨J, 0, none⟩ = some (.int .i64 u) ∧ w'.cell? ⟨J, 1, none⟩ = some (.int .i64 u) ∧ w'.cell? ⟨J, 2, none⟩ = some (.int .i64 u) ∧ w'.cell? ⟨J, 3, none⟩ = some (.int .i64 g) ∧ w'.cell? ⟨J, 4, none⟩ = some (.int .i64 g))
  (first | exact ⟨q1, q4, q5, r0, r1, r2, r3, r4⟩ | exact ⟨p1.cell hK q1, p1.cell hK q4, p1.cell hK q5, p1.cell hJ r0, p1.cell hJ r1, p1.cell hJ r2, p1.cell hJ r3, p1.cell hJ r4⟩ | exact ⟨p2.cell hK q1, p2.cell hK q4, p2.cell hK q5, p2.cell hJ r0, p2.cell hJ r1, p2.cell hJ r2, p2.cell hJ r3, p2.cell hJ r4⟩)
  (first
    | (go_at_call 26; refine (p_ren h1.drew HT.out cwd u u u g g s x HZ.out HXZ.out).mono ?_; rintro e w2 ⟨rfl, p1⟩)
    | (go_at_call 42; refine (d_ren p1 HT.out HN.out cwd u u u g g s x HS.out HX7.out).mono ?_; rintro e w3 ⟨rfl, p2⟩))
 go_wp2
 go_ret
 exact ⟨ret_bool (by simp), HB.out _ _ p2⟩
end
end Go.Proofs.YtlpececggkdhmaaGreat
