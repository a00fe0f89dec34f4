/- The document's reader: row. -/
import Derived.Test.YtbmnngliapmgfaaGreatDoorCS
import Derived.Test.YtbmnngliapmgfaaGreatDoorCE
namespace Go.Proofs.YtbmnngliapmgfaaGreatDoor
open Go.RowKit
set_option linter.unusedVariables false
set_option linter.unusedSimpArgs false
theorem rrow_ten {B p : Nat} {s : ByteArray} {gv : Value} {g : List (Bs × Bs)} {d : Nat} (hone : CC4 39 B p s gv g d .un) : CCr B p s gv g d 10 .un := by
  intro W k sv o err c hI
  have HN := Lib.hid (hone W k sv o err c hI)
  clear hI hone
  go_enter Tryz.func28, Tryz.ntmps28
  go_wp2_with (first | (go_at_call 39; (with_reducible refine HN.out.mono ?_); rintro e w1 ⟨v, k1, d1, sv1, o1, form1, err1, R1, rfl, h⟩; have H1 := Lib.hid h; clear h))
  go_ret
  exact ⟨v, k1, d1, sv1, o1, form1, err1, R1, rfl, H1.out⟩
def rowRel (W : World) (B p : Nat) (s : ByteArray) (k d : Nat) (gv : Value) (g : List (Bs × Bs)) (o : Own) (err : Int) (c : Bool) (n : Nat) (av : Value) (wr : World) : Prop :=
  ∃ (a : Int) (k1 d1 : Nat) (sv1 : Value) (o1 : Own) (form1 : Bool) (err1 : Int), av = .int .i64 a ∧ I64 a ∧ IV wr B p s k1 d1 gv g sv1 o1 form1 err1 ∧ Fr (fun q => p ≤ q) W wr ∧ k ≤ k1 ∧ o1.length + k ≤ o.length + k1 ∧
    ((form1 = true ∧ PR (.lev n) d (tokX (s.data.toList.drop k)) none ∧ d ≤ d1 ∧ d1 + d ≤ 51) ∨
     (form1 = false ∧ d1 = d ∧ ∃ l, evC g l (o, err) c = (a, (o1, err1)) ∧ ∀ R, PR (.more n l) d (tokX (s.data.toList.drop k1)) R → PR (.lev n) d (tokX (s.data.toList.drop k)) R))
theorem row_start {W w' : World} {B p : Nat} {s : ByteArray} {k d : Nat} {gv : Value} {g : List (Bs × Bs)} {o : Own} {err : Int} {c : Bool} {n : Nat} {v : Int} {k' d' : Nat} {sv' : Value} {o' : Own} {form' : Bool} {err' : Int} {R : Option (Nd × List Bs)}
    (h : I64 v ∧ IV w' B p s k' d' gv g sv' o' form' err' ∧ Fr (fun q => p ≤ q) W w' ∧ k ≤ k' ∧ o'.length + k ≤ o.length + k' ∧ PR (opK n) d (tokX (s.data.toList.drop k)) R ∧ RR g d d' (tokX (s.data.toList.drop k')) o err c v o' form' err' R) :
    rowRel W B p s k d gv g o err c n (.int .i64 v) w' := by
  obtain ⟨h1, h2, h3, h4, h5, h6, h7⟩ := h
  refine ⟨v, k', d', sv', o', form', err', rfl, h1, h2, h3, h4, h5, ?_⟩
  rcases R with _ | ⟨l, r⟩
  · obtain ⟨rfl, h8, h9⟩ := h7
    exact .inl ⟨rfl, PR.level_none h6, h8, h9⟩
  · obtain ⟨rfl, rfl, rfl, h9⟩ := h7
    exact .inr ⟨rfl, rfl, l, h9, fun R hR => PR.level h6 hR⟩
theorem row_end {W w' : World} {B p : Nat} {s : ByteArray} {k d : Nat} {gv : Value} {g : List (Bs × Bs)} {o : Own} {err : Int} {c : Bool} {n : Nat} {av : Value}
    (h : rowRel W B p s k d gv g o err c n av w') (hstop : ∀ (k1 d1 : Nat) (sv1 : Value) (o1 : Own) (err1 : Int), IV w' B p s k1 d1 gv g sv1 o1 false err1 → ∀ t r, tokX (s.data.toList.drop k1) = t :: r → (lev n).contains t = false) :
    rdPost W B p s k d gv g o err c (.lev n) (.returned av) w' := by
  obtain ⟨a, k1, d1, sv1, o1, form1, err1, rfl, h1, h2, h3, h4, h5, h6⟩ := h
  rcases h6 with ⟨rfl, q1, q2, q3⟩ | ⟨rfl, rfl, l, q1, q2⟩
  · exact ⟨a, k1, d1, sv1, o1, true, err1, none, rfl, h1, h2, h3, h4, h5, q1, rfl, q2, q3⟩
  · exact ⟨a, k1, d1, sv1, o1, false, err1, some (l, tokX (s.data.toList.drop k1)), rfl, h1, h2, h3, h4, h5, q2 _ (PR.more_end l (hstop _ _ _ _ _ h2)), rfl, rfl, rfl, q1⟩
theorem lev_head {x : Bs} (hx : trimB x = x) {n : Nat} {t : Bs} {r : List Bs} (h : tokX x = t :: r) (hc : (lev n).contains t = true) : sgR x = t ∧ sgR x ≠ [] := by
  obtain ⟨o1, o2, o3⟩ := lev_op hc
  rcases tk_any hx with ⟨_, e, _, _⟩ | ⟨q, e, _, _, _, _⟩ | ⟨_, q, e, _⟩ | ⟨_, _, q, _, e, _⟩ | ⟨_, _, _, e, _⟩
  · rw [e] at h; cases h
  · rw [e] at h; cases h; exact ⟨rfl, q⟩
  · rw [e] at h; cases h; rw [o2] at q; cases q
  · rw [e] at h; cases h; rw [o1] at q; cases q
  · rw [e] at h; cases h; exact absurd rfl o3
theorem lev_stop {x : Bs} (hx : trimB x = x) {n : Nat} (h : sgR x = [] ∨ (lev n).contains (sgR x) = false) : ∀ t r, tokX x = t :: r → (lev n).contains t = false := by
  intro t r e
  cases hc : (lev n).contains t with
  | false => rfl
  | true =>
    obtain ⟨q1, q2⟩ := lev_head hx e hc
    rcases h with h | h
    · exact absurd h q2
    · rw [q1, hc] at h; cases h
theorem IV.step0 {W W' : World} {B p : Nat} {s : ByteArray} {k d : Nat} {gv : Value} {g : List (Bs × Bs)} {sv : Value} {o : Own} {form : Bool} {err : Int} (h : IV W B p s k d gv g sv o form err) (f : Fr (fun _ => False) W W') : IV W' B p s k d gv g sv o form err :=
  ⟨h.1.fr f id, h.2.1.fr f (fun _ _ q => q), h.2.2.1, h.2.2.2.1.fr f (fun _ _ q => q), h.2.2.2.2⟩
theorem row_next {W w7 : World} {B p : Nat} {s : ByteArray} {k k2 j5 k6 d d6 : Nat} {gv sv6 : Value} {g : List (Bs × Bs)} {o o2 o6 : Own} {err err2 err6 err7 : Int} {c c' form6 : Bool} {n : Nat} {a b v' : Int} {sg : Bs} {R6 : Option (Nd × List Bs)}
    (hF : Fr (fun q => p ≤ q) W w7) (hV : I64 v') (hI7 : IV w7 B p s k6 d6 gv g sv6 o6 form6 err7) (hk : k ≤ k6) (ho : o6.length + k ≤ o.length + k6)
    (hl : ∃ l, evC g l (o, err) c = (a, (o2, err2)) ∧ ∀ R, PR (.more n l) d (tokX (s.data.toList.drop k2)) R → PR (.lev n) d (tokX (s.data.toList.drop k)) R)
    (hT : tokX (s.data.toList.drop k2) = sg :: tokX (s.data.toList.drop j5)) (hB : (lev n).contains sg = true) (hP : PR (opK n) d (tokX (s.data.toList.drop j5)) R6)
    (hR : RR g d d6 (tokX (s.data.toList.drop k6)) o2 err2 c' b o6 form6 err6 R6)
    (hev : ∀ l x, evC g l (o, err) c = (a, (o2, err2)) → evC g x (o2, err2) c' = (b, (o6, err6)) → evC g (.bin sg l x) (o, err) c = (v', (o6, err7))) :
    rowRel W B p s k d gv g o err c n (.int .i64 v') w7 := by
  obtain ⟨l, q1, q2⟩ := hl
  rw [hT] at q2
  refine ⟨v', k6, d6, sv6, o6, form6, err7, rfl, hV, hI7, hF, hk, ho, ?_⟩
  rcases R6 with _ | ⟨x, r2⟩
  · obtain ⟨rfl, h8, h9⟩ := hR
    exact .inl ⟨rfl, q2 _ (PR.more_none l hB hP), h8, h9⟩
  · obtain ⟨rfl, rfl, rfl, h9⟩ := hR
    exact .inr ⟨rfl, rfl, _, hev l x q1 h9, fun R hR => q2 R (PR.more hB hP hR)⟩
set_option maxRecDepth 100000 in
set_option maxHeartbeats 16000000 in
theorem rrow_of {B p : Nat} {s : ByteArray} {gv : Value} {g : List (Bs × Bs)} {d n : Nat} (hs : s.size ≤ 256) (hd : d ≤ 25) (hn : n ≤ 9)
    (hnx : ∀ z : Int, z = (n : Int) + 1 → CCr B p s gv g d z (opK n)) : ∀ z : Int, z = (n : Int) → CCr B p s gv g d z (.lev n) := by
  intro z hz W k sv o err c hI
  have H0 := Lib.hid hI
  have HX := Lib.hid hnx
  have HX1 := Lib.hid (hnx ((n : Int) + 1) rfl W k sv o err c hI)
  have HZ := Lib.hid hz
  have hz9 : 0 ≤ z ∧ z ≤ 9 := by omega
  rw [← hz] at HX1
  clear hI hnx hz
  go_enter Tryz.func28, Tryz.ntmps28
  go_wp2_with (first | (go_at_call 28; (with_reducible refine HX1.out.mono ?_); rintro e w1 ⟨v, k1, d1, sv1, o1, form1, err1, R1, rfl, h⟩; have H1 := Lib.hid (row_start h); clear h))
  go_loopw [7] (fun av wr => rowRel W B p s k d gv g o err c n av wr) (fun av wr => s.size - atOf wr p)
  case atStart => exact H1.out
  case round =>
    obtain ⟨a, k2, d2, sv2, o2, form2, err2, rfl, ha, hI, hF, hk2, ho2, hR⟩ := hrel
    obtain ⟨c0, c1, c2, c3, c4, c5, c6, fz⟩ := hI.1.cells
    have HA := Lib.hid ha
    have HI := Lib.hid hI
    have HF := Lib.hid hF
    have HR := Lib.hid hR
    have hk2s := hI.2.2.2.2.2.2.1
    have HSG := Lib.hid (rsign_any wr p s k2 d2 gv sv2 form2 err2 hk2s hs hI.1)
    clear ha hI hF hR c0 c1 c2 c3 c4 c6 fz HX1 H1
    cases form2 with
    | true =>
      go_wp2
      go_ret
      rcases HR.out with ⟨_, q1, q2, q3⟩ | ⟨q, _⟩
      · exact ⟨a, k2, d2, sv2, o2, true, err2, none, rfl, HA.out, HI.out, HF.out, hk2, ho2, q1, rfl, q2, q3⟩
      · cases q
    | false =>
      obtain ⟨hd2, HL⟩ : d2 = d ∧ Hid (∃ l, evC g l (o, err) c = (a, (o2, err2)) ∧ ∀ R, PR (.more n l) d (tokX (s.data.toList.drop k2)) R → PR (.lev n) d (tokX (s.data.toList.drop k)) R) := by
        rcases HR.out with ⟨q, _⟩ | ⟨_, q1, q2⟩
        · cases q
        · exact ⟨q1, Lib.hid q2⟩
      subst hd2
      clear HR
      go_upto_region 6 with (first
        | (go_at_call 15; (with_reducible refine HSG.out.mono ?_); rintro e w2 ⟨j, rfl, hR, hF, hkj, hj, ht⟩
           have HXX := Lib.hid ht
           clear ht
           generalize hsg : sgR (s.data.toList.drop j) = sg
           have HSGX := Lib.hid hsg
           clear hsg))
      have HI3 := Lib.hid (HI.out.step hF hR hj hkj)
      have HF3 := Lib.hid hF
      have hxx : trimB (s.data.toList.drop j) = s.data.toList.drop j := by rw [HXX.out, trim_trim]
      have HXT := Lib.hid hxx
      have HT := Lib.hid (show tokX (s.data.toList.drop k2) = tokX (s.data.toList.drop j) by rw [HXX.out, tokX_trim])
      have HAM : Hid (∀ w : World, Calls Tryz.prog 40 #[.int .i64 z, .string (st sg)] w fun e w' => e = .returned (.bool ((lev n).contains sg)) ∧ Fr (fun _ => False) w w') := Lib.hid (fun w => by have := ramong_any n hn sg w; rwa [← HZ.out] at this)
      clear hR hF hxx HXX HSG c5
      have e0 : ((st sg).toList == []) = decide (sg = []) := by rw [st_dec]
      by_cases hsg0 : sg = []
      · have e1 : decide (sg = []) = true := decide_eq_true hsg0
        have HS0 := Lib.hid hsg0
        clear hsg0
        generalize st sg = y at *
        go_wp2
        go_ret
        obtain ⟨l, q1, q2⟩ := HL.out
        refine ⟨a, j, d2, sv2, o2, false, err2, some (l, tokX (s.data.toList.drop j)), rfl, HA.out, HI3.out, HF.out.trans HF3.out.up, by omega, by omega, q2 _ ?_, rfl, rfl, rfl, q1⟩
        rw [HT.out]
        exact PR.more_end l (lev_stop HXT.out (.inl (by rw [HSGX.out, HS0.out])))
      · have e1 : decide (sg = []) = false := decide_eq_false hsg0
        obtain ⟨b, hb⟩ : ∃ b, (lev n).contains sg = b := ⟨_, rfl⟩
        rw [hb] at HAM
        have HB := Lib.hid hb
        have HS0 := Lib.hid hsg0
        have hsz := st_size sg
        clear hsg0 hb
        cases b with
        | false =>
          clear hsz
          generalize st sg = y at *
          go_wp2_with (first | (go_at_call 40; (with_reducible refine (HAM.out _).mono ?_); rintro e w4 ⟨rfl, hF⟩; have HF4 := Lib.hid hF; clear hF))
          go_ret
          obtain ⟨l, q1, q2⟩ := HL.out
          refine ⟨a, j, d2, sv2, o2, false, err2, some (l, tokX (s.data.toList.drop j)), rfl, HA.out, HI3.out.step0 HF4.out, (HF.out.trans HF3.out.up).trans (HF4.out.mono fun _ _ q => q.elim), by omega, by omega, q2 _ ?_, rfl, rfl, rfl, q1⟩
          rw [HT.out]
          exact PR.more_end l (lev_stop HXT.out (.inr (by rw [HSGX.out, HB.out])))
        | true =>
          have hxs : sgR (s.data.toList.drop j) = sg := HSGX.out
          have htl := tail_sg HXT.out (by rw [hxs]; exact HS0.out)
          obtain ⟨_, _, _, _, _, _, hl1, hl3, hls⟩ := sg_head (x := s.data.toList.drop j) (by rw [hxs]; exact HS0.out)
          rw [hxs, List.drop_drop, ← hsz] at htl
          rw [hxs, ← hsz] at hl1 hl3 hls
          rw [List.length_drop, size_len] at hls
          have HTL := Lib.hid htl
          clear htl hxs hsz
          have hcase : n = 0 ∨ n = 1 ∨ 2 ≤ n := by omega
          rcases hcase with hn0 | hn1 | hn2
          · have HSV : Hid (sg = [124, 124]) := Lib.hid (by have := HB.out; rw [hn0] at this; simpa [lev, levL] using this)
            have HTR := Lib.hid rtruth_any
            have HXN := Lib.hid (HX.out 1 (by omega))
            have hz2 : (z == 0) = true := by have := HZ.out; simp; omega
            clear hn0
            generalize hy : st sg = y at *
            have HY := Lib.hid hy
            clear hy
            go_upto_region 8 with (first | (go_at_call 40; (with_reducible refine (HAM.out _).mono ?_); rintro e w4 ⟨rfl, hF⟩; have HF4 := Lib.hid hF; clear hF))
            have HI4 := Lib.hid (HI3.out.step0 HF4.out)
            obtain ⟨c0, c1, c2, c3, c4, c5, c6, fz⟩ := HI4.out.1.cells
            have f1 := fz 1
            clear c0 c2 c3 c4 c5 c6 fz
            have hcs : (c = true ∧ a = 0) ∨ (c = true ∧ ¬ a = 0) ∨ (c = false ∧ a = 0) ∨ (c = false ∧ ¬ a = 0) := by cases c <;> simp <;> omega
            rcases hcs with ⟨rfl, rfl⟩ | ⟨rfl, ha0⟩ | ⟨rfl, rfl⟩ | ⟨rfl, ha0⟩
            · go_upto_region 13 with (fail)
              have HI5 := Lib.hid (HI4.out.step (Fr.one _ p 1 (.int .i64 ((j : Int) + (y.size : Int)))) (HI4.out.1.setAtI _ (j + y.size) (by omega)) (by omega) (by omega))
              go_upto_region 14 with (first | (go_at_call 28; (with_reducible refine (HXN.out _ _ _ _ _ _ HI5.out).mono ?_); rintro e w6 ⟨b, k6, d6, sv6, o6, form6, err6, R6, rfl, hb, hI6, hF6, hk6, ho6, hP6, hR6⟩))
              have HI6 := Lib.hid hI6
              have HF6 := Lib.hid hF6
              have HP6 := Lib.hid hP6
              have HR6 := Lib.hid hR6
              have hk6s := hI6.2.2.2.2.2.2.1
              clear hI6 hF6 hP6 hR6 hb
              go_wp2_with (first | (go_at_call 25; (with_reducible refine (HTR.out _ _).mono ?_); rintro e w' ⟨rfl, rfl⟩))
              refine ⟨row_next ((((HF.out.trans HF3.out.up).trans (HF4.out.mono fun _ _ q => q.elim)).trans (Fr.one _ _ _ _).up).trans HF6.out) (i64_truth _) HI6.out (by omega) (by omega) HL.out (by rw [HT.out]; exact HTL.out) HB.out HP6.out HR6.out ?_, ?_⟩
              · intro l x e1 e2
                try rw [show (a != 0) = true by simp [ha0]] at e2
                try rw [show (a == 0) = false by simp [ha0]] at e2
                rw [HSV.out, evC, e1]
                dsimp only
                try simp only [show (a == 0) = false by simp [ha0], show (a != 0) = true by simp [ha0]]
                try rw [if_pos rfl]
                simp [e2, *]
              · rw [HI6.out.1.atOf, HI.out.1.atOf]; omega
            · go_upto_region 13 with (fail)
              have HI5 := Lib.hid (HI4.out.step (Fr.one _ p 1 (.int .i64 ((j : Int) + (y.size : Int)))) (HI4.out.1.setAtI _ (j + y.size) (by omega)) (by omega) (by omega))
              go_upto_region 14 with (first | (go_at_call 28; (with_reducible refine (HXN.out _ _ _ _ _ _ HI5.out).mono ?_); rintro e w6 ⟨b, k6, d6, sv6, o6, form6, err6, R6, rfl, hb, hI6, hF6, hk6, ho6, hP6, hR6⟩))
              have HI6 := Lib.hid hI6
              have HF6 := Lib.hid hF6
              have HP6 := Lib.hid hP6
              have HR6 := Lib.hid hR6
              have hk6s := hI6.2.2.2.2.2.2.1
              clear hI6 hF6 hP6 hR6 hb
              go_wp2_with (first | (go_at_call 25; (with_reducible refine (HTR.out _ _).mono ?_); rintro e w' ⟨rfl, rfl⟩))
              refine ⟨row_next ((((HF.out.trans HF3.out.up).trans (HF4.out.mono fun _ _ q => q.elim)).trans (Fr.one _ _ _ _).up).trans HF6.out) (i64_truth _) HI6.out (by omega) (by omega) HL.out (by rw [HT.out]; exact HTL.out) HB.out HP6.out HR6.out ?_, ?_⟩
              · intro l x e1 e2
                try rw [show (a != 0) = true by simp [ha0]] at e2
                try rw [show (a == 0) = false by simp [ha0]] at e2
                rw [HSV.out, evC, e1]
                dsimp only
                try simp only [show (a == 0) = false by simp [ha0], show (a != 0) = true by simp [ha0]]
                try rw [if_pos rfl]
                simp [e2, *]
              · rw [HI6.out.1.atOf, HI.out.1.atOf]; omega
            · go_upto_region 13 with (fail)
              have HI5 := Lib.hid (HI4.out.step (Fr.one _ p 1 (.int .i64 ((j : Int) + (y.size : Int)))) (HI4.out.1.setAtI _ (j + y.size) (by omega)) (by omega) (by omega))
              go_upto_region 14 with (first | (go_at_call 28; (with_reducible refine (HXN.out _ _ _ _ _ _ HI5.out).mono ?_); rintro e w6 ⟨b, k6, d6, sv6, o6, form6, err6, R6, rfl, hb, hI6, hF6, hk6, ho6, hP6, hR6⟩))
              have HI6 := Lib.hid hI6
              have HF6 := Lib.hid hF6
              have HP6 := Lib.hid hP6
              have HR6 := Lib.hid hR6
              have hk6s := hI6.2.2.2.2.2.2.1
              clear hI6 hF6 hP6 hR6 hb
              go_wp2_with (first | (go_at_call 25; (with_reducible refine (HTR.out _ _).mono ?_); rintro e w' ⟨rfl, rfl⟩))
              refine ⟨row_next ((((HF.out.trans HF3.out.up).trans (HF4.out.mono fun _ _ q => q.elim)).trans (Fr.one _ _ _ _).up).trans HF6.out) (i64_truth _) HI6.out (by omega) (by omega) HL.out (by rw [HT.out]; exact HTL.out) HB.out HP6.out HR6.out ?_, ?_⟩
              · intro l x e1 e2
                try rw [show (a != 0) = true by simp [ha0]] at e2
                try rw [show (a == 0) = false by simp [ha0]] at e2
                rw [HSV.out, evC, e1]
                dsimp only
                try simp only [show (a == 0) = false by simp [ha0], show (a != 0) = true by simp [ha0]]
                try rw [if_pos rfl]
                simp [e2, *]
              · rw [HI6.out.1.atOf, HI.out.1.atOf]; omega
            · go_upto_region 13 with (fail)
              have HI5 := Lib.hid (HI4.out.step (Fr.one _ p 1 (.int .i64 ((j : Int) + (y.size : Int)))) (HI4.out.1.setAtI _ (j + y.size) (by omega)) (by omega) (by omega))
              go_upto_region 14 with (first | (go_at_call 28; (with_reducible refine (HXN.out _ _ _ _ _ _ HI5.out).mono ?_); rintro e w6 ⟨b, k6, d6, sv6, o6, form6, err6, R6, rfl, hb, hI6, hF6, hk6, ho6, hP6, hR6⟩))
              have HI6 := Lib.hid hI6
              have HF6 := Lib.hid hF6
              have HP6 := Lib.hid hP6
              have HR6 := Lib.hid hR6
              have hk6s := hI6.2.2.2.2.2.2.1
              clear hI6 hF6 hP6 hR6 hb
              go_wp2_with (first | (go_at_call 25; (with_reducible refine (HTR.out _ _).mono ?_); rintro e w' ⟨rfl, rfl⟩))
              refine ⟨row_next ((((HF.out.trans HF3.out.up).trans (HF4.out.mono fun _ _ q => q.elim)).trans (Fr.one _ _ _ _).up).trans HF6.out) (i64_truth _) HI6.out (by omega) (by omega) HL.out (by rw [HT.out]; exact HTL.out) HB.out HP6.out HR6.out ?_, ?_⟩
              · intro l x e1 e2
                try rw [show (a != 0) = true by simp [ha0]] at e2
                try rw [show (a == 0) = false by simp [ha0]] at e2
                rw [HSV.out, evC, e1]
                dsimp only
                try simp only [show (a == 0) = false by simp [ha0], show (a != 0) = true by simp [ha0]]
                try rw [if_pos rfl]
                simp [e2, *]
              · rw [HI6.out.1.atOf, HI.out.1.atOf]; omega
          · have HSV : Hid (sg = [38, 38]) := Lib.hid (by have := HB.out; rw [hn1] at this; simpa [lev, levL] using this)
            have HTR := Lib.hid rtruth_any
            have HXN := Lib.hid (HX.out 2 (by omega))
            have hz2 : (z == 0) = false := by have := HZ.out; simp; omega
            have hz3 : (z == 1) = true := by have := HZ.out; simp; omega
            clear hn1
            generalize hy : st sg = y at *
            have HY := Lib.hid hy
            clear hy
            go_upto_region 8 with (first | (go_at_call 40; (with_reducible refine (HAM.out _).mono ?_); rintro e w4 ⟨rfl, hF⟩; have HF4 := Lib.hid hF; clear hF))
            have HI4 := Lib.hid (HI3.out.step0 HF4.out)
            obtain ⟨c0, c1, c2, c3, c4, c5, c6, fz⟩ := HI4.out.1.cells
            have f1 := fz 1
            clear c0 c2 c3 c4 c5 c6 fz
            have hcs : (c = true ∧ a = 0) ∨ (c = true ∧ ¬ a = 0) ∨ (c = false ∧ a = 0) ∨ (c = false ∧ ¬ a = 0) := by cases c <;> simp <;> omega
            rcases hcs with ⟨rfl, rfl⟩ | ⟨rfl, ha0⟩ | ⟨rfl, rfl⟩ | ⟨rfl, ha0⟩
            · go_upto_region 16 with (fail)
              have HI5 := Lib.hid (HI4.out.step (Fr.one _ p 1 (.int .i64 ((j : Int) + (y.size : Int)))) (HI4.out.1.setAtI _ (j + y.size) (by omega)) (by omega) (by omega))
              go_upto_region 17 with (first | (go_at_call 28; (with_reducible refine (HXN.out _ _ _ _ _ _ HI5.out).mono ?_); rintro e w6 ⟨b, k6, d6, sv6, o6, form6, err6, R6, rfl, hb, hI6, hF6, hk6, ho6, hP6, hR6⟩))
              have HI6 := Lib.hid hI6
              have HF6 := Lib.hid hF6
              have HP6 := Lib.hid hP6
              have HR6 := Lib.hid hR6
              have hk6s := hI6.2.2.2.2.2.2.1
              clear hI6 hF6 hP6 hR6 hb
              go_wp2_with (first | (go_at_call 25; (with_reducible refine (HTR.out _ _).mono ?_); rintro e w' ⟨rfl, rfl⟩))
              refine ⟨row_next ((((HF.out.trans HF3.out.up).trans (HF4.out.mono fun _ _ q => q.elim)).trans (Fr.one _ _ _ _).up).trans HF6.out) (i64_truth _) HI6.out (by omega) (by omega) HL.out (by rw [HT.out]; exact HTL.out) HB.out HP6.out HR6.out ?_, ?_⟩
              · intro l x e1 e2
                try rw [show (a != 0) = true by simp [ha0]] at e2
                try rw [show (a == 0) = false by simp [ha0]] at e2
                rw [HSV.out, evC, e1]
                dsimp only
                try simp only [show (a == 0) = false by simp [ha0], show (a != 0) = true by simp [ha0]]
                try rw [if_neg (by decide), if_pos rfl]
                simp [e2, *]
              · rw [HI6.out.1.atOf, HI.out.1.atOf]; omega
            · go_upto_region 16 with (fail)
              have HI5 := Lib.hid (HI4.out.step (Fr.one _ p 1 (.int .i64 ((j : Int) + (y.size : Int)))) (HI4.out.1.setAtI _ (j + y.size) (by omega)) (by omega) (by omega))
              go_upto_region 17 with (first | (go_at_call 28; (with_reducible refine (HXN.out _ _ _ _ _ _ HI5.out).mono ?_); rintro e w6 ⟨b, k6, d6, sv6, o6, form6, err6, R6, rfl, hb, hI6, hF6, hk6, ho6, hP6, hR6⟩))
              have HI6 := Lib.hid hI6
              have HF6 := Lib.hid hF6
              have HP6 := Lib.hid hP6
              have HR6 := Lib.hid hR6
              have hk6s := hI6.2.2.2.2.2.2.1
              clear hI6 hF6 hP6 hR6 hb
              go_wp2_with (first | (go_at_call 25; (with_reducible refine (HTR.out _ _).mono ?_); rintro e w' ⟨rfl, rfl⟩))
              refine ⟨row_next ((((HF.out.trans HF3.out.up).trans (HF4.out.mono fun _ _ q => q.elim)).trans (Fr.one _ _ _ _).up).trans HF6.out) (i64_truth _) HI6.out (by omega) (by omega) HL.out (by rw [HT.out]; exact HTL.out) HB.out HP6.out HR6.out ?_, ?_⟩
              · intro l x e1 e2
                try rw [show (a != 0) = true by simp [ha0]] at e2
                try rw [show (a == 0) = false by simp [ha0]] at e2
                rw [HSV.out, evC, e1]
                dsimp only
                try simp only [show (a == 0) = false by simp [ha0], show (a != 0) = true by simp [ha0]]
                try rw [if_neg (by decide), if_pos rfl]
                simp [e2, *]
              · rw [HI6.out.1.atOf, HI.out.1.atOf]; omega
            · go_upto_region 16 with (fail)
              have HI5 := Lib.hid (HI4.out.step (Fr.one _ p 1 (.int .i64 ((j : Int) + (y.size : Int)))) (HI4.out.1.setAtI _ (j + y.size) (by omega)) (by omega) (by omega))
              go_upto_region 17 with (first | (go_at_call 28; (with_reducible refine (HXN.out _ _ _ _ _ _ HI5.out).mono ?_); rintro e w6 ⟨b, k6, d6, sv6, o6, form6, err6, R6, rfl, hb, hI6, hF6, hk6, ho6, hP6, hR6⟩))
              have HI6 := Lib.hid hI6
              have HF6 := Lib.hid hF6
              have HP6 := Lib.hid hP6
              have HR6 := Lib.hid hR6
              have hk6s := hI6.2.2.2.2.2.2.1
              clear hI6 hF6 hP6 hR6 hb
              go_wp2_with (first | (go_at_call 25; (with_reducible refine (HTR.out _ _).mono ?_); rintro e w' ⟨rfl, rfl⟩))
              refine ⟨row_next ((((HF.out.trans HF3.out.up).trans (HF4.out.mono fun _ _ q => q.elim)).trans (Fr.one _ _ _ _).up).trans HF6.out) (i64_truth _) HI6.out (by omega) (by omega) HL.out (by rw [HT.out]; exact HTL.out) HB.out HP6.out HR6.out ?_, ?_⟩
              · intro l x e1 e2
                try rw [show (a != 0) = true by simp [ha0]] at e2
                try rw [show (a == 0) = false by simp [ha0]] at e2
                rw [HSV.out, evC, e1]
                dsimp only
                try simp only [show (a == 0) = false by simp [ha0], show (a != 0) = true by simp [ha0]]
                try rw [if_neg (by decide), if_pos rfl]
                simp [e2, *]
              · rw [HI6.out.1.atOf, HI.out.1.atOf]; omega
            · go_upto_region 16 with (fail)
              have HI5 := Lib.hid (HI4.out.step (Fr.one _ p 1 (.int .i64 ((j : Int) + (y.size : Int)))) (HI4.out.1.setAtI _ (j + y.size) (by omega)) (by omega) (by omega))
              go_upto_region 17 with (first | (go_at_call 28; (with_reducible refine (HXN.out _ _ _ _ _ _ HI5.out).mono ?_); rintro e w6 ⟨b, k6, d6, sv6, o6, form6, err6, R6, rfl, hb, hI6, hF6, hk6, ho6, hP6, hR6⟩))
              have HI6 := Lib.hid hI6
              have HF6 := Lib.hid hF6
              have HP6 := Lib.hid hP6
              have HR6 := Lib.hid hR6
              have hk6s := hI6.2.2.2.2.2.2.1
              clear hI6 hF6 hP6 hR6 hb
              go_wp2_with (first | (go_at_call 25; (with_reducible refine (HTR.out _ _).mono ?_); rintro e w' ⟨rfl, rfl⟩))
              refine ⟨row_next ((((HF.out.trans HF3.out.up).trans (HF4.out.mono fun _ _ q => q.elim)).trans (Fr.one _ _ _ _).up).trans HF6.out) (i64_truth _) HI6.out (by omega) (by omega) HL.out (by rw [HT.out]; exact HTL.out) HB.out HP6.out HR6.out ?_, ?_⟩
              · intro l x e1 e2
                try rw [show (a != 0) = true by simp [ha0]] at e2
                try rw [show (a == 0) = false by simp [ha0]] at e2
                rw [HSV.out, evC, e1]
                dsimp only
                try simp only [show (a == 0) = false by simp [ha0], show (a != 0) = true by simp [ha0]]
                try rw [if_neg (by decide), if_pos rfl]
                simp [e2, *]
              · rw [HI6.out.1.atOf, HI.out.1.atOf]; omega
          · have hz2 : (z == 0) = false := by have := HZ.out; simp; omega
            have hz3 : (z == 1) = false := by have := HZ.out; simp; omega
            have hops : sg ∈ opsL := by
              have hall : ∀ m, 2 ≤ m → m ≤ 9 → ((lev m).all fun u => opsL.contains u) = true := by
                intro m h1 h2
                match m, h1, h2 with
                | 2, _, _ | 3, _, _ | 4, _, _ | 5, _, _ | 6, _, _ | 7, _, _ | 8, _, _ | 9, _, _ => decide
              have := List.all_eq_true.1 (hall n hn2 hn) sg (by simpa using HB.out)
              simpa using this
            have HOPS := Lib.hid hops
            clear hops
            have HRK := Lib.hid (fun (W : World) (k d : Nat) (sv : Value) (form : Bool) (err b : Int) (hb : I64 b) (h : RD W p s k d gv sv form err) => rreckon_any W p s k d gv sv form err sg a b c HOPS.out HA.out hb h)
            generalize hy : st sg = y at *
            have HY := Lib.hid hy
            clear hy
            go_upto_region 8 with (first | (go_at_call 40; (with_reducible refine (HAM.out _).mono ?_); rintro e w4 ⟨rfl, hF⟩; have HF4 := Lib.hid hF; clear hF))
            have HI4 := Lib.hid (HI3.out.step0 HF4.out)
            obtain ⟨c0, c1, c2, c3, c4, c5, c6, fz⟩ := HI4.out.1.cells
            have f1 := fz 1
            clear c0 c2 c3 c4 c5 c6 fz
            go_upto_region 10 with (fail)
            have HI5 := Lib.hid (HI4.out.step (Fr.one _ p 1 (.int .i64 ((j : Int) + (y.size : Int)))) (HI4.out.1.setAtI _ (j + y.size) (by omega)) (by omega) (by omega))
            have HX2 := Lib.hid (HX.out (z + 1) (by rw [HZ.out]) _ _ _ _ _ c HI5.out)
            go_upto_region 11 with (first | (go_at_call 28; (with_reducible refine HX2.out.mono ?_); rintro e w6 ⟨b, k6, d6, sv6, o6, form6, err6, R6, rfl, hb, hI6, hF6, hk6, ho6, hP6, hR6⟩))
            have HI6 := Lib.hid hI6
            have HF6 := Lib.hid hF6
            have HP6 := Lib.hid hP6
            have HR6 := Lib.hid hR6
            have HRK2 := Lib.hid (HRK.out w6 k6 d6 sv6 form6 err6 b hb hI6.1)
            have hk6s := hI6.2.2.2.2.2.2.1
            clear hI6 hF6 hP6 hR6 hb
            go_wp2_with (first | (go_at_call 16; (with_reducible refine HRK2.out.mono ?_); rintro e w7 ⟨rfl, hR7, hF7⟩; have HR7 := Lib.hid hR7; have HF7 := Lib.hid hF7; clear hR7 hF7))
            have HI7 := Lib.hid (HI6.out.step HF7.out HR7.out hk6s (Nat.le_refl _))
            refine ⟨row_next ((((HF.out.trans HF3.out.up).trans (HF4.out.mono fun _ _ q => q.elim)).trans (Fr.one _ _ _ _).up).trans (HF6.out.trans HF7.out.up)) (i64_op sg HA.out) HI7.out (by omega) (by omega) HL.out (by rw [HT.out]; exact HTL.out) HB.out HP6.out HR6.out ?_, ?_⟩
            · intro l x e1 e2
              have n1 : ¬ sg = [124, 124] := fun e => by have := HOPS.out; rw [e] at this; exact absurd this (by decide)
              have n2 : ¬ sg = [38, 38] := fun e => by have := HOPS.out; rw [e] at this; exact absurd this (by decide)
              rw [evC, e1]
              dsimp only
              rw [if_neg n1, if_neg n2, e2]
              dsimp only
              rw [bump_E]
            · rw [HI7.out.1.atOf, HI.out.1.atOf]; omega
end Go.Proofs.YtbmnngliapmgfaaGreatDoor
