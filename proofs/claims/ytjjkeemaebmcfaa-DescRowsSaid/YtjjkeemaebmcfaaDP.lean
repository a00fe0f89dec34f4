/- The walk of DescRows. -/
import Derived.Test.YtjjkeemaebmcfaaDJ
namespace Go.Proofs.Ytjjkeemaebmcfaa
open Go.RowKit
set_option linter.unusedVariables false
set_option linter.unusedSimpArgs false
variable {w0 W W' : World}

theorem RowV.len {base : Nat} {o : Option (List Int)} {v : Value} (h : RowV W base o v) : (o.getD []).length ≤ 1000 ∨ ∃ l, o = some l := by
  rcases h with ⟨rfl, _⟩ | ⟨l, _, _, rfl, _⟩
  · exact .inl (by simp)
  · exact .inr ⟨l, rfl⟩
/-- what lies in memory: the row that was handed in, and a copy of it above. -/
structure RW (w0 W : World) (g0 o0 G cap : Nat) (l : List Int) : Prop where
  a : Rd W g0 o0 l
  o : OR W w0.heap.size G cap 20 l
  lt : g0 < w0.heap.size
  bel : Below w0.heap.size w0 W
variable {g0 o0 G cap : Nat} {l : List Int}
theorem RW.fr {S : Nat → Prop} (h : RW w0 W g0 o0 G cap l) (f : Fr S W W') (hs : ∀ g, S g → w0.heap.size ≤ g) (hG : ¬ S G) : RW w0 W' g0 o0 G cap l :=
  ⟨h.a.fr f (fun k => by have := hs _ k; have := h.lt; omega), h.o.fr f hG, h.lt, f.below h.bel (Nat.le_refl _) hs⟩
theorem RW.same (h : RW w0 W g0 o0 G cap l) (f : Fr (fun _ => False) W W') : RW w0 W' g0 o0 G cap l := h.fr f (fun _ => False.elim) id
/-- an answered row is set to 99 throughout: a loop's relation. -/
def nineRel (w0 : World) (g0 o0 G cap : Nat) (l : List Int) (b : Nat) (p : Option Addr) (k c : Nat) (iv : Value) (W : World) : Prop :=
  ∃ (j : Nat) (o : Option (List Int)), iv = .int .i64 j ∧ j ≤ k ∧ (o.getD []).length = k ∧ RowV W b o (.slice p k c) ∧ RW w0 W g0 o0 G cap l
theorem RowV.form {b : Nat} {o : Option (List Int)} {v : Value} (h : RowV W b o v) : ∃ p k c, v = .slice p k c ∧ (o.getD []).length = k := by
  rcases h with ⟨rfl, rfl⟩ | ⟨m, H, c, rfl, rfl, _⟩
  · exact ⟨_, _, _, rfl, rfl⟩
  · exact ⟨_, _, _, rfl, rfl⟩
theorem RowV.at {b : Nat} {o : Option (List Int)} {p : Option Addr} {k c j : Nat} (h : RowV W b o (.slice p k c)) (hj : j < k) : ∃ H x, p = some ⟨H, 0, none⟩ ∧ b ≤ H ∧ W.cell? ⟨H, j, none⟩ = some (cI x) ∧ W.frozen? ⟨H, j, none⟩ = false ∧
    ∀ y, ∃ o', (o'.getD []).length = k ∧ RowV (W.setCell ⟨H, j, none⟩ (cI y)) b o' (.slice p k c) := by
  rcases h with ⟨_, h2⟩ | ⟨m, H, c2, rfl, h2, h3⟩
  · cases h2; omega
  · cases h2
    have hjm : j < m.length := hj
    have hc := h3.rd j (m[j]) (List.getElem?_eq_getElem hjm)
    rw [Nat.zero_add] at hc
    refine ⟨H, _, rfl, h3.form.1, hc, h3.frozen j, fun y => ⟨some (m.set j y), by simp, .inr ⟨m.set j y, H, c, rfl, by rw [List.length_set], ?_⟩⟩⟩
    rw [List.length_set]
    exact h3.set j y
theorem putO_len {x f : Int} {m : List Int} (hl : l.length = 20) (h : putO l x f = some m) : m.length = 20 := by
  unfold putO at h
  split at h
  · cases h; simpa using hl
  · cases h
theorem closeO_len {f : Int} {m : List Int} (hl : l.length = 20) (h : closeO l f = some m) : m.length = 20 := by
  unfold closeO at h
  split at h
  · cases h; simpa using hl
  · cases h
theorem toO_len {x f : Int} {m : List Int} (hl : l.length = 20) (h : toO l x f = some m) : m.length = 20 := by
  unfold toO at h
  split at h
  · cases h; simpa using hl
  · cases h
theorem getD_len {o : Option (List Int)} (h : ∀ m, o = some m → m.length = 20) : (o.getD []).length ≤ 20 := by
  cases o with
  | none => simp
  | some m => rw [Option.getD_some, h m rfl]; exact Nat.le_refl _
theorem RowV.fr {S : Nat → Prop} {b : Nat} {o : Option (List Int)} {v : Value} (h : RowV W b o v) (f : Fr S W W') (hs : ∀ g, S g → g < b) : RowV W' b o v := by
  rcases h with h | ⟨m, H, c, h1, h2, h3⟩
  · exact .inl h
  · exact .inr ⟨m, H, c, h1, h2, h3.fr f fun k => by have := hs _ k; have := h3.form.1; omega⟩
theorem rw_put (x f : Int) (h : RW w0 W g0 o0 G cap l) : Calls Try.prog 23 #[.slice (some ⟨G, 0, none⟩) 20 cap, .int .i64 x, .int .i64 f] W fun r w' => ∃ v, r = .returned (.tuple #[v, .int .i64 (putX l f : Nat), .int .i64 (putE l f)]) ∧ RowV w' W.heap.size (putO l x f) v ∧ RW w0 w' g0 o0 G cap l ∧ Fr (fun _ => False) W w' :=
  (pput_any l G 0 20 cap x f h.o.1 (by decide) W h.o.rd).mono fun r w' ⟨v, h1, h2, h3⟩ => ⟨v, h1, h2, h.same h3, h3⟩
theorem rr_put (c0 : Nat) (x f : Int) (h : RW w0 W g0 o0 G cap l) : Calls Try.prog 24 #[.slice (some ⟨g0, o0, none⟩) 20 c0, .int .i64 x, .int .i64 f] W fun r w' => ∃ v, r = .returned (.tuple #[v, .int .i64 (putX l f : Nat), .int .i64 (putE l f)]) ∧ RowV w' W.heap.size (putO l x f) v ∧ RW w0 w' g0 o0 G cap l ∧ Fr (fun _ => False) W w' :=
  (rput_any l g0 o0 20 c0 x f h.o.1 (by decide) W h.a).mono fun r w' ⟨v, h1, h2, h3⟩ => ⟨v, h1, h2, h.same h3, h3⟩
theorem rw_close (f : Int) (h : RW w0 W g0 o0 G cap l) : Calls Try.prog 26 #[.slice (some ⟨G, 0, none⟩) 20 cap, .int .i64 f] W fun r w' => ∃ v, r = .returned (.tuple #[v, .int .i64 (atA l f), .bool (atB l f)]) ∧ RowV w' W.heap.size (closeO l f) v ∧ RW w0 w' g0 o0 G cap l ∧ Fr (fun _ => False) W w' :=
  (pclose_any l G 0 20 cap f h.o.1 (by decide) W h.o.rd).mono fun r w' ⟨v, h1, h2, h3⟩ => ⟨v, h1, h2, h.same h3, h3⟩
theorem rr_close (c0 : Nat) (f : Int) (h : RW w0 W g0 o0 G cap l) : Calls Try.prog 27 #[.slice (some ⟨g0, o0, none⟩) 20 c0, .int .i64 f] W fun r w' => ∃ v, r = .returned (.tuple #[v, .int .i64 (atA l f), .bool (atB l f)]) ∧ RowV w' W.heap.size (closeO l f) v ∧ RW w0 w' g0 o0 G cap l ∧ Fr (fun _ => False) W w' :=
  (rclose_any l g0 o0 20 c0 f h.o.1 (by decide) W h.a).mono fun r w' ⟨v, h1, h2, h3⟩ => ⟨v, h1, h2, h.same h3, h3⟩
theorem rw_to (f t : Int) (h : RW w0 W g0 o0 G cap l) : Calls Try.prog 28 #[.slice (some ⟨G, 0, none⟩) 20 cap, .int .i64 f, .int .i64 t] W fun r w' => ∃ v, r = .returned (.tuple #[v, .int .i64 (toW l f t), .int .i64 (toE l f t)]) ∧ RowV w' W.heap.size (toO l f t) v ∧ RW w0 w' g0 o0 G cap l ∧ Fr (fun _ => False) W w' :=
  (pto_any l G 0 20 cap f t h.o.1 (by decide) W h.o.rd).mono fun r w' ⟨v, h1, h2, h3⟩ => ⟨v, h1, h2, h.same h3, h3⟩
theorem rr_to (c0 : Nat) (f t : Int) (h : RW w0 W g0 o0 G cap l) : Calls Try.prog 29 #[.slice (some ⟨g0, o0, none⟩) 20 c0, .int .i64 f, .int .i64 t] W fun r w' => ∃ v, r = .returned (.tuple #[v, .int .i64 (toW l f t), .int .i64 (toE l f t)]) ∧ RowV w' W.heap.size (toO l f t) v ∧ RW w0 w' g0 o0 G cap l ∧ Fr (fun _ => False) W w' :=
  (rto_any l g0 o0 20 c0 f t h.o.1 (by decide) W h.a).mono fun r w' ⟨v, h1, h2, h3⟩ => ⟨v, h1, h2, h.same h3, h3⟩
theorem rw_at (f : Int) (h : RW w0 W g0 o0 G cap l) : Calls Try.prog 30 #[.slice (some ⟨G, 0, none⟩) 20 cap, .int .i64 f] W fun r w' => r = .returned (.tuple #[.int .i64 (atA l f), .bool (atB l f)]) ∧ RW w0 w' g0 o0 G cap l :=
  (pat_any l G 0 20 cap f h.o.1 (by decide) W h.o.rd).mono fun r w' ⟨h1, h2⟩ => ⟨h1, h.same h2⟩
theorem rr_at (c0 : Nat) (f : Int) (h : RW w0 W g0 o0 G cap l) : Calls Try.prog 31 #[.slice (some ⟨g0, o0, none⟩) 20 c0, .int .i64 f] W fun r w' => r = .returned (.tuple #[.int .i64 (atA l f), .bool (atB l f)]) ∧ RW w0 w' g0 o0 G cap l :=
  (rat_any l g0 o0 20 c0 f h.o.1 (by decide) W h.a).mono fun r w' ⟨h1, h2⟩ => ⟨h1, h.same h2⟩
theorem rw_same {b b' : Nat} {o : Option (List Int)} {u v : Value} (h : RW w0 W g0 o0 G cap l) (hu : RowV W b o u) (hv : RowV W b' o v) (ho : (o.getD []).length ≤ 20) : Calls Try.prog 25 #[u, v] W fun r w' => r = .returned (.bool true) ∧ RowV w' b o u ∧ RW w0 w' g0 o0 G cap l :=
  (same_any u v _ _ (by omega) (by omega) W hu.sl hv.sl).mono fun r w' ⟨h1, h2⟩ => ⟨by rw [h1, decide_eq_true rfl], hu.fr h2 (fun _ => False.elim), h.same h2⟩
theorem rw_last {c0 : Nat} (h : RW w0 W g0 o0 G cap l) (hl : l.length = 20) : Calls Try.prog 25 #[.slice (some ⟨G, 0, none⟩) 20 cap, .slice (some ⟨g0, o0, none⟩) 20 c0] W fun r w' => r = .returned (.bool true) ∧ Below w0.heap.size w0 w' :=
  (same_read l l G 0 cap g0 o0 c0 20 hl hl (by decide) W h.o.rd h.a).mono fun r w' ⟨h1, h2⟩ => ⟨by rw [h1, decide_eq_true rfl], (h.same h2).bel⟩
set_option maxHeartbeats 4000000 in
set_option maxRecDepth 100000 in
theorem rows_any (p0 : Option Addr) (n0 c0 : Nat) (z0 : List Int) (n fd to : Int) (w : World) (h0 : InInts w p0 n0 z0) (l0 : n0 ≤ maxLen) :
    Calls Try.prog 4 #[.slice p0 n0 c0, .int .i64 n, .int .i64 fd, .int .i64 to] w fun r w' => r = .returned (.bool true) ∧ Below w.heap.size w w' := by
  have H0 := Lib.hid h0
  clear h0
  cases hp : plainB z0
  · have HP := fun W (h : InInts W p0 n0 z0) => plain_any p0 n0 c0 z0 W h l0
    rw [hp] at HP
    have H1 := Lib.hid (fun W (b : Below w.heap.size w W) => (show InInts W p0 n0 z0 from ⟨H0.out.1, fun j z hj => by
      obtain ⟨g, off, h1, h2, h3⟩ := H0.out.2 j z hj
      exact ⟨g, off, h1, (b.cell (p := ⟨g, off + j, none⟩) (cell_lt h2)).trans h2, h3⟩⟩))
    clear hp l0
    go_enter Try.func4, Try.ntmps4
    go_wp2_with fail
    refine (shown_any w).mono ?_
    rintro r w1 ⟨rfl, b1⟩
    go_wp2_with fail
    refine (HP _ (H1.out _ b1)).mono ?_
    rintro r w2 ⟨rfl, rfl⟩
    go_wp2
    go_ret
    exact ⟨rfl, b1⟩
  · have HP := fun W (h : InInts W p0 n0 z0) => plain_any p0 n0 c0 z0 W h l0
    rw [hp] at HP
    have hl : z0.length = 20 := by
      unfold plainB at hp
      simp only [Bool.and_eq_true, decide_eq_true_eq] at hp
      exact hp.2
    have hn0 : n0 = 20 := H0.out.1.symm.trans hl
    subst hn0
    obtain ⟨g0, o0, rfl, hc0, _⟩ := H0.out.2 0 (z0[0]'(by omega)) (List.getElem?_eq_getElem _)
    have H1 := Lib.hid (fun W (b : Below w.heap.size w W) => (show InInts W (some ⟨g0, o0, none⟩) 20 z0 from ⟨H0.out.1, fun j z hj => by
      obtain ⟨g, off, h1, h2, h3⟩ := H0.out.2 j z hj
      exact ⟨g, off, h1, (b.cell (p := ⟨g, off + j, none⟩) (cell_lt h2)).trans h2, h3⟩⟩))
    have H2 := Lib.hid (fun W (b : Below w.heap.size w W) => (show Rd W g0 o0 z0 from fun j z hj => by
      obtain ⟨g, off, h1, h2, h3⟩ := (H1.out W b).2 j z hj
      cases h1
      exact h2))
    have hg0 : g0 < w.heap.size := cell_lt hc0
    clear hp l0 hc0
    go_enter Try.func4, Try.ntmps4
    go_wp2_with fail
    refine (shown_any w).mono ?_
    rintro r w1 ⟨rfl, b1⟩
    go_wp2_with fail
    refine (HP _ (H1.out _ b1)).mono ?_
    rintro r w2 ⟨rfl, rfl⟩
    have R1 := Lib.hid (H2.out _ b1)
    have B1 := Lib.hid b1
    clear b1 HP
    go_wp2_with (refine wpList_own rfl _ _ rfl z0 g0 o0 20 c0 hl (by decide) (by decide) rfl rfl rfl R1.out ?_; intro G cap w' hO hF; have h3 := Lib.hid (show RW w w' g0 o0 G cap z0 from ⟨R1.out.fr hF id, hO.weak B1.out.size, hg0, hF.below B1.out (Nat.le_refl _) fun _ => False.elim⟩); clear hO hF)
    go_wp2_with fail
    refine (rw_put n to h3.out).mono ?_
    rintro r x1 ⟨v1, rfl, u1, k1, f1⟩
    have hbw : w.heap.size ≤ w'.heap.size := h3.out.bel.size
    have hGb : G < w'.heap.size := h3.out.o.form.2.1
    generalize w'.heap.size = bb at u1 hbw hGb
    have K1 := Lib.hid k1
    clear h3 k1
    go_wp2_with fail
    refine (rr_put c0 n to K1.out).mono ?_
    rintro r x2 ⟨v2, rfl, u2, k2, f2⟩
    replace u1 := u1.fr f2 (fun _ => False.elim)
    have hlen := getD_len (o := putO z0 n to) (fun m hm => putO_len hl hm)
    have K2 := Lib.hid k2
    clear f1 f2 K1 k2
    generalize putX z0 to = A5 at *
    generalize putE z0 to = A6 at *
    generalize putO z0 n to = O1 at *
    go_wp2_with fail
    refine (rw_same K2.out u1 u2 hlen).mono ?_
    rintro r x3 ⟨rfl, u3, k3⟩
    clear u1 u2 K2
    obtain ⟨p, k, c, rfl, hk⟩ := u3.form
    have hk20 : k ≤ 20 := by omega
    clear hlen
    have START := Lib.hid (show nineRel w g0 o0 G cap z0 bb p k c (.int .i64 0) x3 from ⟨0, _, rfl, Nat.zero_le _, hk, u3, k3⟩)
    clear u3 k3 hk
    go_wp2
    go_loopw [19] (fun iv wr => nineRel w g0 o0 G cap z0 bb p k c iv wr) (fun iv _ => k - (intOf iv).toNat)
    case atStart => exact START.out
    case round =>
      clear START
      obtain ⟨j, o, rfl, hj, ho, hu, hr⟩ := hrel
      have HR := Lib.hid hr
      clear hr
      by_cases hlt : j < k
      · obtain ⟨H, x, rfl, hH, hc, hf, hs⟩ := hu.at hlt
        obtain ⟨o', ho', hu'⟩ := hs 99
        have HU := Lib.hid hu'
        have HR2 := Lib.hid (HR.out.fr (Fr.one wr H j (cI 99)) (fun g hg => by subst hg; omega) (by omega))
        clear hu hs hu' HR
        go_wp2
        go_roundw
        case rel => exact ⟨j + 1, o', by go_num, by omega, ho', HU.out, HR2.out⟩
        case measure => simp [intOf]; omega
      · clear hu
        have hjk : j = k := by omega
        go_wp2_with fail
        refine (rw_close fd HR.out).mono ?_
        rintro r x1 ⟨v1, rfl, u1, k1, f1⟩
        have hbw : w.heap.size ≤ wr.heap.size := HR.out.bel.size
        have hGb : G < wr.heap.size := HR.out.o.form.2.1
        generalize wr.heap.size = bb at u1 hbw hGb
        have K1 := Lib.hid k1
        clear HR k1
        go_wp2_with fail
        refine (rr_close c0 fd K1.out).mono ?_
        rintro r x2 ⟨v2, rfl, u2, k2, f2⟩
        replace u1 := u1.fr f2 (fun _ => False.elim)
        have hlen := getD_len (o := closeO z0 fd) (fun m hm => closeO_len hl hm)
        have K2 := Lib.hid k2
        clear f1 f2 K1 k2
        generalize closeO z0 fd = O2 at *
        go_wp2_with fail
        refine (rw_same K2.out u1 u2 hlen).mono ?_
        rintro r x3 ⟨rfl, u3, k3⟩
        clear u1 u2 K2
        obtain ⟨p, k, c, rfl, hk⟩ := u3.form
        have hk20 : k ≤ 20 := by omega
        clear hlen
        have START := Lib.hid (show nineRel w g0 o0 G cap z0 bb p k c (.int .i64 0) x3 from ⟨0, _, rfl, Nat.zero_le _, hk, u3, k3⟩)
        clear u3 k3 hk
        go_wp2
        go_loopw [27] (fun iv wr => nineRel w g0 o0 G cap z0 bb p k c iv wr) (fun iv _ => k - (intOf iv).toNat)
        case atStart => exact START.out
        case round =>
          clear START
          obtain ⟨j, o, rfl, hj, ho, hu, hr⟩ := hrel
          have HR := Lib.hid hr
          clear hr
          by_cases hlt : j < k
          · obtain ⟨H, x, rfl, hH, hc, hf, hs⟩ := hu.at hlt
            obtain ⟨o', ho', hu'⟩ := hs 99
            have HU := Lib.hid hu'
            have HR2 := Lib.hid (HR.out.fr (Fr.one wr H j (cI 99)) (fun g hg => by subst hg; omega) (by omega))
            clear hu hs hu' HR
            go_wp2
            go_roundw
            case rel => exact ⟨j + 1, o', by go_num, by omega, ho', HU.out, HR2.out⟩
            case measure => simp [intOf]; omega
          · clear hu
            have hjk : j = k := by omega
            go_wp2_with fail
            refine (rw_to fd to HR.out).mono ?_
            rintro r x1 ⟨v1, rfl, u1, k1, f1⟩
            have hbw : w.heap.size ≤ wr.heap.size := HR.out.bel.size
            have hGb : G < wr.heap.size := HR.out.o.form.2.1
            generalize wr.heap.size = bb at u1 hbw hGb
            have K1 := Lib.hid k1
            clear HR k1
            go_wp2_with fail
            refine (rr_to c0 fd to K1.out).mono ?_
            rintro r x2 ⟨v2, rfl, u2, k2, f2⟩
            replace u1 := u1.fr f2 (fun _ => False.elim)
            have hlen := getD_len (o := toO z0 fd to) (fun m hm => toO_len hl hm)
            have K2 := Lib.hid k2
            clear f1 f2 K1 k2
            generalize toW z0 fd to = A3 at *
            generalize toE z0 fd to = A4 at *
            generalize toO z0 fd to = O3 at *
            go_wp2_with fail
            refine (rw_same K2.out u1 u2 hlen).mono ?_
            rintro r x3 ⟨rfl, u3, k3⟩
            clear u1 u2 K2
            obtain ⟨p, k, c, rfl, hk⟩ := u3.form
            have hk20 : k ≤ 20 := by omega
            clear hlen
            have START := Lib.hid (show nineRel w g0 o0 G cap z0 bb p k c (.int .i64 0) x3 from ⟨0, _, rfl, Nat.zero_le _, hk, u3, k3⟩)
            clear u3 k3 hk
            go_wp2
            go_loopw [35] (fun iv wr => nineRel w g0 o0 G cap z0 bb p k c iv wr) (fun iv _ => k - (intOf iv).toNat)
            case atStart => exact START.out
            case round =>
              clear START
              obtain ⟨j, o, rfl, hj, ho, hu, hr⟩ := hrel
              have HR := Lib.hid hr
              clear hr
              by_cases hlt : j < k
              · obtain ⟨H, x, rfl, hH, hc, hf, hs⟩ := hu.at hlt
                obtain ⟨o', ho', hu'⟩ := hs 99
                have HU := Lib.hid hu'
                have HR2 := Lib.hid (HR.out.fr (Fr.one wr H j (cI 99)) (fun g hg => by subst hg; omega) (by omega))
                clear hu hs hu' HR
                go_wp2
                go_roundw
                case rel => exact ⟨j + 1, o', by go_num, by omega, ho', HU.out, HR2.out⟩
                case measure => simp [intOf]; omega
              · clear hu
                have hjk : j = k := by omega
                go_wp2_with fail
                refine (rw_at fd HR.out).mono ?_
                rintro r x7 ⟨rfl, k7⟩
                have K7 := Lib.hid k7
                clear k7 HR
                go_wp2_with fail
                refine (rr_at c0 fd K7.out).mono ?_
                rintro r x8 ⟨rfl, k8⟩
                have K8 := Lib.hid k8
                clear k8 K7
                go_wp2_with fail
                refine (rw_last K8.out hl).mono ?_
                rintro r x9 ⟨rfl, b9⟩
                clear K8
                generalize atA z0 fd = A1 at *
                generalize atB z0 fd = A2 at *
                go_wp2
                go_ret
                exact ⟨rfl, b9⟩
theorem rows_law (p0 : Option Addr) (n0 c0 : Nat) (z0 : List Int) (n fd to : Int) (w : World) (h0 : InInts w p0 n0 z0) (l0 : n0 ≤ maxLen) (h1 : (Lit.int .i64 n).wf = true) (h2 : (Lit.int .i64 fd).wf = true) (h3 : (Lit.int .i64 to).wf = true) :
    Calls Try.prog 4 #[.slice p0 n0 c0, .int .i64 n, .int .i64 fd, .int .i64 to] w fun r w' => r = .returned (.bool true) ∧ Below w.heap.size w w' := rows_any p0 n0 c0 z0 n fd to w h0 l0
end Go.Proofs.Ytjjkeemaebmcfaa
