/- Contracts of package walk's find and Find. -/
import Derived.Test.YtflncolmehmaaaaWC
import Derived.Test.YtflncolmehmaaaaM26
namespace Go.Proofs.Ytflncolmehmaaaa
open Go.RowKit Ino Go.Maps
open Pa (Blk strV split_any splE nam dirP absP splN splAbs splDir)
set_option linter.unusedVariables false
set_option linter.unusedSimpArgs false

theorem InNames.ofRow {W : World} {base : Nat} {v : Value} {l : List Bs} (h : W.ownsRow base 9 1 v l.length (l.map strV)) (hl : l.length ≤ 1000) (hn : ∀ n, n ∈ l → n.length ≤ 1000) : InNames W v l := by
  obtain ⟨a, cap, rfl⟩ := Pa.row_slice h
  refine ⟨a, cap, rfl, hl, fun j n hj => ⟨hn n (List.mem_of_getElem? hj), ?_⟩⟩
  have hjl := (List.getElem?_eq_some_iff.1 hj).1
  obtain ⟨g, rfl⟩ : ∃ g, a = some ⟨g, 0, none⟩ := by
    rcases h.2 with ⟨h1, h2⟩ | ⟨g, cap', cur, h1, _⟩
    · have : l.length = 0 := by first | exact h1 | exact h2 | (simpa using h1) | (simpa using h2)
      omega
    · cases h1; exact ⟨g, rfl⟩
  refine ⟨g, 0, rfl, ?_⟩
  rw [Nat.zero_add]
  have := h.cellAt j (by omega)
  rw [this, List.getElem?_map, hj]; rfl
theorem nam_small {s : Bs} (h : splE s = 0) : (nam s).length ≤ 1000 ∧ ∀ n, n ∈ nam s → n.length ≤ 1000 := by
  unfold splE at h
  by_cases h0 : s = []
  · rw [if_pos h0] at h; cases h
  rw [if_neg h0] at h
  by_cases h1 : 128 < s.length
  · rw [if_pos h1] at h; cases h
  rw [if_neg h1] at h
  by_cases h2 : Pa.anyLong s = true
  · rw [if_pos h2] at h; cases h
  refine ⟨by have := Pa.len_nam s; omega, fun n hn => ?_⟩
  have h3 : (nam s).any Pa.longN = false := by rw [Pa.any_nam]; simpa using h2
  have := List.any_eq_false.1 h3 n hn
  unfold Pa.longN at this
  simp at this
  omega
theorem told_find {t : T} (h : Sd t) (cwd u g : Int) (l : Bs) : toldI t (findP t cwd u g l) = if splE l = 0 then (if (resP t cwd u g (splAbs l) (splN l)).2 = 0 then (if splDir l = true ∧ (resP t cwd u g (splAbs l) (splN l)).1.kind ≠ 1 then (noInf, 6) else ((resP t cwd u g (splAbs l) (splN l)).1, 0)) else (noInf, (resP t cwd u g (splAbs l) (splN l)).2)) else (noInf, splE l) := by
  unfold findP
  by_cases h1 : splE l = 0
  · rw [if_pos h1, if_pos h1]
    have e1 : splAbs l = absP l := if_pos h1
    have e2 : splN l = nam l := if_pos h1
    have e3 : splDir l = dirP l := if_pos h1
    rw [e1, e2, e3, resP_eq h]
    generalize downP t cwd u g (absP l) (nam l) = d
    obtain ⟨x, er⟩ := d
    unfold toldI
    by_cases h2 : er = 0
    · subst h2
      simp only [if_true]
      show _ = if dirP l = true ∧ (t x).kind ≠ 1 then _ else _
      by_cases h3 : dirP l = true ∧ (t x).kind ≠ 1
      · rw [if_pos h3, if_pos h3]; rfl
      · rw [if_neg h3, if_neg h3]; rfl
    · simp only [if_neg h2]
  · rw [if_neg h1, if_neg h1]
    unfold toldI
    rw [if_neg (show ¬ ((0, splE l) : Nat × Nat).2 = 0 from h1)]
set_option maxHeartbeats 4000000 in
set_option maxRecDepth 100000 in
theorem wfind_any {own : Nat → Prop} {t : T} (A : Nat) (cwd u g : Int) (s : ByteArray) (hs : s.size ≤ maxLen) (w : World) (h : PTo w A own t) (hsd : Sd t) :
    Calls Try.prog 58 #[(.agg #[.pointer (some ⟨A, 0, none⟩), .int .i64 cwd, .int .i64 u, .int .i64 g]), .string s] w fun e w' => e = .returned (ansV (toldI t (findP t cwd u g s.data.toList))) ∧ Below w.heap.size w w' := by
  have hR := told_find hsd cwd u g s.data.toList
  generalize toldI t (findP t cwd u g s.data.toList) = r at hR ⊢
  have HPT := Lib.hid (fun W (hb : Below w.heap.size w W) => h.below hb)
  have C1 := Lib.hid (fun W => split_any s hs W)
  have hsm : splE s.data.toList = 0 → (splN s.data.toList).length ≤ 1000 ∧ ∀ n, n ∈ splN s.data.toList → n.length ≤ 1000 := fun h => by
    rw [show splN s.data.toList = nam s.data.toList from if_pos h]
    exact nam_small h
  unfold Pa.SplitPost Pa.splitV at C1
  generalize splE s.data.toList = er at *
  generalize splAbs s.data.toList = ab at *
  generalize splDir s.data.toList = dr at *
  generalize splN s.data.toList = nl at *
  have HSM := Lib.hid hsm
  have HR := Lib.hid hR
  clear hR hsm h
  go_enter Try.func58, Try.ntmps58
  go_wp2_with fail
  refine calls_world (fun W => Blk W w.heap.size 92 (calC A cwd u g) ∧ Blk W (w.heap.size + 1) 38 (infC noInf) ∧ Below w.heap.size w W) ⟨(Blk.new w _ _).alloc _, blk1 w _ _ _, bel2 _ _ _⟩ ?_
  rintro W ⟨k1, k2, b1⟩
  refine (C1.out W).mono ?_
  rintro e W2 ⟨v, rfl, hrow, b2⟩
  obtain ⟨pa, pc, rfl⟩ := Pa.row_slice hrow
  have k1 := k1.up b2
  have k2 := k2.up b2
  have b1 := bnext b1 b2
  have hz : w.heap.size + 1 < W2.heap.size := k2.lt
  have hz0 : w.heap.size < W2.heap.size := k1.lt
  obtain ⟨c0, c1, c2, c3⟩ := k1.c4
  obtain ⟨r0, r1, r2, r3, r4, r5, r6, r7⟩ := k2.c8
  obtain ⟨f0, f1, f2, f3, f4, f5, f6, f7⟩ := k2.f8
  have K1 := Lib.hid k1
  have K2 := Lib.hid k2
  have B1 := Lib.hid b1
  have HRow := Lib.hid hrow
  clear b2 C1 k1 k2 b1 hrow
  by_cases he : er = 0
  · subst he
    rw [if_pos rfl] at HR
    have HN := Lib.hid (InNames.ofRow HRow.out (HSM.out rfl).1 (HSM.out rfl).2)
    go_wp2_with fail
    obtain ⟨G2, hG2⟩ : ∃ G2, G2 = W2.heap.size := ⟨_, rfl⟩
    rw [← hG2]
    refine calls_world (fun W => Blk W w.heap.size 92 (calC A cwd u g) ∧ Blk W (w.heap.size + 1) 38 (infC noInf) ∧ Blk W G2 122 #[.bool ab, .slice pa nl.length pc, .bool dr] ∧ InNames W (.slice pa nl.length pc) nl ∧ Below w.heap.size w W) ⟨K1.out.alloc _, K2.out.alloc _, by rw [hG2]; exact Blk.new _ _ _, HN.out.up (bel1 _ _), bal B1.out _⟩ ?_
    rintro W3 ⟨k1, k2, k3, hn, b1⟩
    refine (wresolve_any A cwd u g ab _ nl W3 (HPT.out W3 b1) hsd hn).mono ?_
    rintro e W4 ⟨rfl, b2⟩
    have k1 := k1.up b2
    have k2 := k2.up b2
    have k3 := k3.up b2
    have b1 := bnext b1 b2
    clear K1 K2 B1 HN HRow b2 hn hz hz0 c0 c1 c2 c3 r0 r1 r2 r3 r4 r5 r6 r7 f0 f1 f2 f3 f4 f5 f6 f7 hG2
    have hz : w.heap.size + 1 < W4.heap.size := k2.lt
    have hz2 : G2 < W4.heap.size := k3.lt
    obtain ⟨p0, p1, p2⟩ := k3.c3
    obtain ⟨r0, r1, r2, r3, r4, r5, r6, r7⟩ := k2.c8
    obtain ⟨f0, f1, f2, f3, f4, f5, f6, f7⟩ := k2.f8
    have K2 := Lib.hid k2
    have B1 := Lib.hid b1
    clear k1 k2 k3 b1
    generalize resP t cwd u g ab nl = q at *
    obtain ⟨⟨q0, q1, q2, q3, q4, q5, q6, q7⟩, er⟩ := q
    simp only [ansV, infAg, infC] at HR ⊢
    by_cases her : er = 0
    · subst her
      rw [if_pos rfl] at HR
      cases dr
      · rw [if_neg (fun x => Bool.false_ne_true x.1)] at HR
        go_wp2
        rw [HR.out]
        exact bodyPost_ret (res8 Try.f58 4 5 rfl ((set8 K2.out _ _ _ _ _ _ _ _).alloc _) _ rfl rfl) rfl ⟨rfl, bal (bel8 B1.out (by omega) _ _ _ _ _ _ _ _) _⟩
      · have C2 := Lib.hid (fun w => wisDir_any ⟨q0, q1, q2, q3, q4, q5, q6, q7⟩ w)
        simp only at C2
        have HR2 := Lib.hid (show r = if (q1 == 1) = true then (⟨q0, q1, q2, q3, q4, q5, q6, q7⟩, 0) else (noInf, 6) by
          rw [HR.out]
          by_cases hq : q1 = 1
          · rw [if_neg (fun x => x.2 hq), if_pos (by simp [hq])]
          · rw [if_pos ⟨rfl, hq⟩, if_neg (by simp [hq])])
        clear HR
        cases hq : (q1 == 1)
        · rw [hq] at C2 HR2
          rw [if_neg Bool.false_ne_true] at HR2
          clear hq
          go_wp2_with fail
          obtain ⟨G3, hG3⟩ : ∃ G3, G3 = W4.heap.size := ⟨_, rfl⟩
          refine calls_world (fun W => Blk W (w.heap.size + 1) 38 (infC noInf) ∧ Below w.heap.size w W) ⟨K2.out.alloc _, bal B1.out _⟩ ?_
          rintro W5 ⟨k2, b1⟩
          refine (C2.out W5).mono ?_
          rintro e W6 ⟨rfl, b2⟩
          have k2 := k2.up b2
          have b1 := bnext b1 b2
          clear K2 B1 b2 r0 r1 r2 r3 r4 r5 r6 r7 f0 f1 f2 f3 f4 f5 f6 f7
          obtain ⟨r0, r1, r2, r3, r4, r5, r6, r7⟩ := k2.c8
          obtain ⟨f0, f1, f2, f3, f4, f5, f6, f7⟩ := k2.f8
          have K2 := Lib.hid k2
          have B1 := Lib.hid b1
          clear k2 b1
          go_wp2
          rw [HR2.out]
          exact bodyPost_ret (res8 Try.f58 4 5 rfl (set8 K2.out _ _ _ _ _ _ _ _) _ rfl rfl) rfl ⟨rfl, bel8 B1.out (by omega) _ _ _ _ _ _ _ _⟩
        · rw [hq] at C2 HR2
          rw [if_pos rfl] at HR2
          clear hq
          go_wp2_with fail
          obtain ⟨G3, hG3⟩ : ∃ G3, G3 = W4.heap.size := ⟨_, rfl⟩
          rw [← hG3]
          refine calls_world (fun W => Blk W (w.heap.size + 1) 38 (infC noInf) ∧ Blk W G3 38 (infC ⟨q0, q1, q2, q3, q4, q5, q6, q7⟩) ∧ Below w.heap.size w W) ⟨K2.out.alloc _, by rw [hG3]; exact Blk.new _ _ _, bal B1.out _⟩ ?_
          rintro W5 ⟨k2, k3, b1⟩
          refine (C2.out W5).mono ?_
          rintro e W6 ⟨rfl, b2⟩
          have k2 := k2.up b2
          have k3 := k3.up b2
          have b1 := bnext b1 b2
          have hz4 : w.heap.size + 1 < G3 := by omega
          clear K2 B1 b2 r0 r1 r2 r3 r4 r5 r6 r7 f0 f1 f2 f3 f4 f5 f6 f7 hG3
          obtain ⟨r0, r1, r2, r3, r4, r5, r6, r7⟩ := k2.c8
          obtain ⟨f0, f1, f2, f3, f4, f5, f6, f7⟩ := k2.f8
          obtain ⟨d0, d1, d2, d3, d4, d5, d6, d7⟩ := k3.c8
          have K2 := Lib.hid k2
          have B1 := Lib.hid b1
          clear k2 k3 b1
          go_wp2
          rw [HR2.out]
          exact bodyPost_ret (res8 Try.f58 4 5 rfl (set8 K2.out _ _ _ _ _ _ _ _) _ rfl rfl) rfl ⟨rfl, bel8 B1.out (by omega) _ _ _ _ _ _ _ _⟩
    · have her2 : ((er : Int) == 0) = false := by simp; omega
      have her3 : ((er : Int) != 0) = true := by simp; omega
      rw [if_neg her] at HR
      go_wp2
      rw [HR.out]
      exact bodyPost_ret (res8 Try.f58 4 5 rfl ((set8 K2.out _ _ _ _ _ _ _ _).alloc _) _ rfl rfl) rfl ⟨rfl, bal (bel8 B1.out (by omega) _ _ _ _ _ _ _ _) _⟩
  · have he2 : ((er : Int) == 0) = false := by simp; omega
    have he3 : ((er : Int) != 0) = true := by simp; omega
    rw [if_neg he] at HR
    go_wp2
    rw [HR.out]
    exact bodyPost_ret (res8 Try.f58 4 5 rfl ((set8 K2.out _ _ _ _ _ _ _ _).alloc _) _ rfl rfl) rfl ⟨rfl, bal (bel8 B1.out (by omega) _ _ _ _ _ _ _ _) _⟩
end Go.Proofs.Ytflncolmehmaaaa
