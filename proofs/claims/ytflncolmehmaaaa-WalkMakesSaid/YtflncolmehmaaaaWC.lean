/- Contract of package walk's resolve. -/
import Derived.Test.YtflncolmehmaaaaWB
namespace Go.Proofs.Ytflncolmehmaaaa
open Go.RowKit Ino Go.Maps
open Pa (Blk strV)
set_option linter.unusedVariables false
set_option linter.unusedSimpArgs false

/-- a slice that reads as these names. -/
def InNames (W : World) (v : Value) (l : List Bs) : Prop := ∃ p cap, v = .slice p l.length cap ∧ l.length ≤ 1000 ∧ ∀ (j : Nat) (n : Bs), l[j]? = some n → n.length ≤ 1000 ∧ ∃ g off, p = some ⟨g, off, none⟩ ∧ W.cell? ⟨g, off + j, none⟩ = some (strV n)
theorem InNames.up {W W' : World} {v : Value} {l : List Bs} (h : InNames W v l) (b : Below W.heap.size W W') : InNames W' v l := by
  obtain ⟨p, cap, h1, h2, h3⟩ := h
  refine ⟨p, cap, h1, h2, fun j n hj => ?_⟩
  obtain ⟨k0, g, off, k1, k2⟩ := h3 j n hj
  exact ⟨k0, g, off, k1, (b.cell (p := ⟨g, off + j, none⟩) (cell_lt k2)).trans k2⟩
/-- on the way. -/
def resRel (w : World) (t : T) (A : Nat) (cwd u g : Int) (l : List Bs) (r : Inf × Nat) (G2 : Nat) (iv : Value) (W : World) : Prop :=
  ∃ (k : Nat) (a : Inf), iv = .int .i64 k ∧ k ≤ l.length ∧ resI t u g a (l.drop k) = r ∧ Blk W w.heap.size 92 (calC A cwd u g) ∧ Blk W (w.heap.size + 1) 38 (infC noInf) ∧ Blk W G2 38 (infC a) ∧ Below w.heap.size w W
def infAg (a : Inf) : Value := .agg (infC a)
/-- an Info and an error, told. -/
def ansV (r : Inf × Nat) : Value := .tuple #[infAg r.1, .int .i64 r.2]
set_option maxHeartbeats 4000000 in
set_option maxRecDepth 100000 in
theorem wresolve_any {own : Nat → Prop} {t : T} (A : Nat) (cwd u g : Int) (abs : Bool) (v : Value) (l : List Bs) (w : World) (h : PTo w A own t) (hsd : Sd t) (hv : InNames w v l) :
    Calls Try.prog 91 #[(.agg #[.pointer (some ⟨A, 0, none⟩), .int .i64 cwd, .int .i64 u, .int .i64 g]), .bool abs, v] w fun e w' => e = .returned (ansV (resP t cwd u g abs l)) ∧ Below w.heap.size w w' := by
  obtain ⟨p, cap, rfl, hl, hn⟩ := hv
  have hP : resP t cwd u g abs l = if (statP t (startI cwd abs)).2 = true then resI t u g (statP t (startI cwd abs)).1 l else (noInf, 3) := rfl
  have C1 := Lib.hid (fun w (hw : PTo w A own t) => pstat_any (startI cwd abs) w hw hsd)
  have HPT := Lib.hid (fun W (hb : Below w.heap.size w W) => h.below hb)
  have HN := Lib.hid hn
  generalize resP t cwd u g abs l = r at hP ⊢
  have hst : startI cwd abs = if abs = true then 1 else cwd := rfl
  generalize statP t (startI cwd abs) = q at hP C1
  generalize startI cwd abs = st at *
  obtain ⟨⟨i0, i1, i2, i3, i4, i5, i6, i7⟩, ok⟩ := q
  simp only [infV] at C1
  have HP := Lib.hid hP
  have HST := Lib.hid hst
  clear hP h hn hst
  cases abs
  all_goals
    have hst2 := HST.out
    simp only [Bool.false_eq_true, if_false, if_true] at hst2
    obtain rfl := hst2.symm
    go_enter Try.func91, Try.ntmps91
    go_wp2_with fail
    refine calls_world (fun W => Blk W w.heap.size 92 (calC A cwd u g) ∧ Blk W (w.heap.size + 1) 38 (infC noInf) ∧ Below w.heap.size w W) ⟨(Blk.new w _ _).alloc _, blk1 w _ _ _, bel2 _ _ _⟩ ?_
    rintro W ⟨k1, k2, b1⟩
    refine (C1.out W (HPT.out W b1)).mono ?_
    rintro e W2 ⟨rfl, b2⟩
    have k1 := k1.up b2
    have k2 := k2.up b2
    have b1 := bnext b1 b2
    obtain ⟨c0, c1, c2, c3⟩ := k1.c4
    obtain ⟨r0, r1, r2, r3, r4, r5, r6, r7⟩ := k2.c8
    obtain ⟨f0, f1, f2, f3, f4, f5, f6, f7⟩ := k2.f8
    have hz : w.heap.size + 1 < W2.heap.size := k2.lt
    have K1 := Lib.hid k1
    have K2 := Lib.hid k2
    have B1 := Lib.hid b1
    clear b2 C1 k1 k2 b1
    cases ok
    · have hr : r = (noInf, 3) := HP.out
      subst hr
      clear HP HN
      go_wp2
      exact bodyPost_ret (res8 Try.f91 6 7 rfl ((set8 K2.out _ _ _ _ _ _ _ _).alloc _) _ rfl rfl) rfl ⟨rfl, bal (bel8 B1.out (by omega) _ _ _ _ _ _ _ _) _⟩
    · have hr : r = resI t u g ⟨i0, i1, i2, i3, i4, i5, i6, i7⟩ l := HP.out
      have HR := Lib.hid hr
      clear HP hr
      go_wp2
      obtain ⟨G2, hG2⟩ : ∃ G2, G2 = W2.heap.size := ⟨_, rfl⟩
      have J0 : resRel w t A cwd u g l r G2 (.int .i64 ((0 : Nat) : Int)) (W2.alloc (.cells (infC ⟨i0, i1, i2, i3, i4, i5, i6, i7⟩) 38)) :=
        ⟨0, _, rfl, Nat.zero_le _, HR.out.symm, K1.out.alloc _, K2.out.alloc _, by rw [hG2]; exact Blk.new _ _ _, B1.out.alloc (by omega) _⟩
      have hz2 : w.heap.size + 1 < G2 := by rw [hG2]; exact hz
      rw [← hG2]
      have J := Lib.hid J0
      clear HR K1 K2 B1 hz J0 hG2 c0 c1 c2 c3 r0 r1 r2 r3 r4 r5 r6 r7 f0 f1 f2 f3 f4 f5 f6 f7 HST
      go_loopw [29] (fun iv wr => resRel w t A cwd u g l r G2 iv wr) (fun iv _ => l.length - (intOf iv).toNat)
      case atStart => exact J.out
      case round =>
        obtain ⟨k, ⟨a0, a1, a2, a3, a4, a5, a6, a7⟩, rfl, hk, hr, k1, k2, k3, b1⟩ := hrel
        clear J
        obtain ⟨c0, c1, c2, c3⟩ := k1.c4
        obtain ⟨d0, d1, d2, d3, d4, d5, d6, d7⟩ := k3.c8
        have hG2 := k3.lt
        have K1 := Lib.hid k1
        have K2 := Lib.hid k2
        have K3 := Lib.hid k3
        have B1 := Lib.hid b1
        by_cases hlt : k < l.length
        · obtain ⟨n, hn⟩ : ∃ n, l[k]? = some n := ⟨_, List.getElem?_eq_getElem hlt⟩
          obtain ⟨hns, g0, o0, rfl, hc⟩ := HN.out k n hn
          have hg0 : g0 < w.heap.size := cell_lt hc
          have e0 : wr.cell? ⟨g0, o0 + k, none⟩ = some (strV n) := (b1.cell (p := ⟨g0, o0 + k, none⟩) hg0).trans hc
          unfold strV at e0
          have hd : l.drop k = n :: l.drop (k + 1) := by
            rw [List.drop_eq_getElem_cons hlt]
            rw [List.getElem?_eq_getElem hlt] at hn
            rw [Option.some.inj hn]
          rw [hd] at hr
          have hr2 : r = if lookX ⟨a0, a1, a2, a3, a4, a5, a6, a7⟩ u g = 0 then (if (lookI t a0 n).2 = true then resI t u g (lookI t a0 n).1 (l.drop (k + 1)) else (noInf, 3)) else (noInf, lookX ⟨a0, a1, a2, a3, a4, a5, a6, a7⟩ u g) := hr.symm
          have C2 := Lib.hid (fun w => wmayLook_any A cwd u g ⟨a0, a1, a2, a3, a4, a5, a6, a7⟩ w)
          have hsz : (⟨n.toArray⟩ : ByteArray).size ≤ maxLen := by show n.length ≤ maxLen; unfold maxLen; omega
          have C3 := Lib.hid (fun w (hw : PTo w A own t) => wlook_any A cwd u g ⟨a0, a1, a2, a3, a4, a5, a6, a7⟩ ⟨n.toArray⟩ hsz w hw hsd)
          have i1 : (0 : Int) ≤ (k : Int) := by omega
          have i2 : (k : Int) < l.length := by omega
          have HR := Lib.hid hr2
          clear hr hr2 hn hc hd k1 k2 k3 b1 hns hsz
          generalize lookX ⟨a0, a1, a2, a3, a4, a5, a6, a7⟩ u g = er at HR C2
          generalize hlk : lookI t a0 n = lk at HR
          have C3 : Hid (∀ w, PTo w A own t → Calls Try.prog 93 #[(.agg #[.pointer (some ⟨A, 0, none⟩), .int .i64 cwd, .int .i64 u, .int .i64 g]), (.agg #[.int .i64 a0, .int .i64 a1, .int .i64 a2, .int .i64 a3, .int .i64 a4, .int .i64 a5, .int .i64 a6, .int .i64 a7]), .string ⟨n.toArray⟩] w fun e w' => e = .returned (infV lk) ∧ Below w.heap.size w w') := Lib.hid (by rw [← hlk]; exact C3.out)
          clear hlk
          obtain ⟨⟨m0, m1, m2, m3, m4, m5, m6, m7⟩, ok⟩ := lk
          simp only [infV] at C3
          generalize (⟨n.toArray⟩ : ByteArray) = ns at *
          go_wp2_with fail
          refine (C2.out _).mono ?_
          rintro e w2 ⟨rfl, b2⟩
          have k1 := K1.out.up b2
          have k2 := K2.out.up b2
          have k3 := K3.out.up b2
          have b3 := bnext B1.out b2
          have hG3 : G2 < w2.heap.size := k3.lt
          clear b2 K1 K2 K3 B1 c0 c1 c2 c3 d0 d1 d2 d3 d4 d5 d6 d7 e0 C2
          obtain ⟨c0, c1, c2, c3⟩ := k1.c4
          obtain ⟨d0, d1, d2, d3, d4, d5, d6, d7⟩ := k3.c8
          obtain ⟨r0, r1, r2, r3, r4, r5, r6, r7⟩ := k2.c8
          obtain ⟨f0, f1, f2, f3, f4, f5, f6, f7⟩ := k2.f8
          have K1 := Lib.hid k1
          have K2 := Lib.hid k2
          have K3 := Lib.hid k3
          have B1 := Lib.hid b3
          clear k1 k2 k3 b3
          by_cases her : er = 0
          · subst her
            rw [if_pos rfl] at HR
            go_wp2_with fail
            refine (C3.out _ (HPT.out _ B1.out)).mono ?_
            rintro e w3 ⟨rfl, b2⟩
            have k1 := K1.out.up b2
            have k2 := K2.out.up b2
            have k3 := K3.out.up b2
            have b3 := bnext B1.out b2
            have hG4 : G2 < w3.heap.size := k3.lt
            clear b2 K1 K2 K3 B1 c0 c1 c2 c3 d0 d1 d2 d3 d4 d5 d6 d7 r0 r1 r2 r3 r4 r5 r6 r7 f0 f1 f2 f3 f4 f5 f6 f7
            obtain ⟨d0, d1, d2, d3, d4, d5, d6, d7⟩ := k3.c8
            obtain ⟨r0, r1, r2, r3, r4, r5, r6, r7⟩ := k2.c8
            obtain ⟨f0, f1, f2, f3, f4, f5, f6, f7⟩ := k2.f8
            obtain ⟨z0, z1, z2, z3, z4, z5, z6, z7⟩ := k3.f8
            have K1 := Lib.hid k1
            have K2 := Lib.hid k2
            have K3 := Lib.hid k3
            have B1 := Lib.hid b3
            clear k1 k2 k3 b3
            cases ok
            · rw [if_neg Bool.false_ne_true] at HR
              go_wp2
              rw [HR.out]
              exact bodyPost_ret (res8 Try.f91 6 7 rfl (set8 (far8 K2.out (by omega) _ _ _ _ _ _ _ _) _ _ _ _ _ _ _ _) _ rfl rfl) rfl ⟨rfl, bel8 (bel8 B1.out (by omega) _ _ _ _ _ _ _ _) (by omega) _ _ _ _ _ _ _ _⟩
            · rw [if_pos rfl] at HR
              go_wp2
              go_roundw
              case rel => exact ⟨k + 1, ⟨m0, m1, m2, m3, m4, m5, m6, m7⟩, by go_num, by omega, HR.out.symm, far8 K1.out (by omega) _ _ _ _ _ _ _ _, far8 K2.out (by omega) _ _ _ _ _ _ _ _, set8 K3.out _ _ _ _ _ _ _ _, bel8 B1.out (by omega) _ _ _ _ _ _ _ _⟩
              case measure => simp [intOf]; omega
          · have her2 : ((er : Int) == 0) = false := by simp; omega
            have her3 : ((er : Int) != 0) = true := by simp; omega
            rw [if_neg her] at HR
            go_wp2
            rw [HR.out]
            exact bodyPost_ret (res8 Try.f91 6 7 rfl (set8 K2.out _ _ _ _ _ _ _ _) _ rfl rfl) rfl ⟨rfl, bel8 B1.out (by omega) _ _ _ _ _ _ _ _⟩
        · obtain rfl : k = l.length := by omega
          rw [List.drop_length] at hr
          have hr2 : r = (⟨a0, a1, a2, a3, a4, a5, a6, a7⟩, 0) := hr.symm
          obtain ⟨r0, r1, r2, r3, r4, r5, r6, r7⟩ := k2.c8
          obtain ⟨f0, f1, f2, f3, f4, f5, f6, f7⟩ := k2.f8
          clear hr k1 k2 k3 b1 c0 c1 c2 c3
          subst hr2
          go_wp2
          exact bodyPost_ret (res8 Try.f91 6 7 rfl (set8 K2.out _ _ _ _ _ _ _ _) _ rfl rfl) rfl ⟨rfl, bel8 B1.out (by omega) _ _ _ _ _ _ _ _⟩
end Go.Proofs.Ytflncolmehmaaaa
