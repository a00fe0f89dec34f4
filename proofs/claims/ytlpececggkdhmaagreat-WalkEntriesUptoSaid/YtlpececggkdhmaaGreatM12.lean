import Derived.Test.YtlpececggkdhmaaGreatM6
import Derived.Test.YtlpececggkdhmaaGreatM11
open Go.Lib (hid)
set_option linter.unusedVariables false
set_option linter.unusedSimpArgs false
set_option maxHeartbeats 2000000
set_option maxRecDepth 100000
namespace Go.Proofs.YtlpececggkdhmaaGreat
section
open Go.RowKit Ino Go.Maps
variable {A : Nat} {own : Nat → Prop} {t : T}
theorem PT.lay {w w4 : World} {nb mb : Nat → Nat} (h : PT w A nb mb t (links t)) (hs : Sd t) {i : Nat} (hi : (t i).is = false) (hi2 : i ≤ 200) {b mk : Nat} {n : Nod} (hb : w.heap.size ≤ b) (hmk : w.heap.size ≤ mk)
 (hbel : ∀ g, g < w.heap.size → w4.heap[g]? = w.heap[g]?) (h1 : n.is = true) (h2 : n.ents = []) (hrow : w4.rowIs b 110 10 (nodeF n 0 mk)) (hm : n.kind = 1 → EMap w4 mk []) :
 PT (w4.setCell ⟨A, i, none⟩ (.pointer (some ⟨b, 0, none⟩))) A (fun j => if j = i then b else nb j) (fun j => if j = i then mk else mb j) (upd t i n) (links (upd t i n)) := by
 have ht := hs.none_ i hi
 have hl : ∀ j, links (upd t i n) j = links t j := fun j => links_upd_same t i n j (by rw [h2, ht]; rfl)
 have hbA : b ≠ A := by have := h.ltA; omega
 have his : ∀ j, (upd t i n j).is = true → j = i ∨ (j ≠ i ∧ (t j).is = true) := fun j hj => by
  by_cases e : j = i
  ·exact .inl e
  ·rw [upd_other _ _ e] at hj; exact .inr ⟨e, hj⟩
 have hik : ∀ j, (upd t i n j).kind = 1 → j = i ∨ (j ≠ i ∧ (t j).kind = 1) := fun j hj => by
  by_cases e : j = i
  ·exact .inl e
  ·rw [upd_other _ _ e] at hj; exact .inr ⟨e, hj⟩
 refine ⟨?_, fun j hj => ?_, fun j hj => ?_, fun x y hx hy e => ?_, fun x y hx hy e => ?_⟩
 ·refine ((h.row.of_block (hbel A h.ltA)).set i _).congr fun j _ => ?_
  by_cases e : j = i
  ·rw [if_pos e, e, upd_same]; unfold ptrV; rw [h1, if_pos rfl, if_pos rfl]
  ·rw [if_neg e, upd_other _ _ e, if_neg e]
 ·rcases his j hj with e | ⟨e, hj2⟩
  ·subst e
   rw [upd_same, if_pos rfl, if_pos rfl, hl, hs.links_none hi]
   exact hrow.setOther (a := ⟨A, j, none⟩) hbA _
  ·rw [upd_other _ _ e, if_neg e, if_neg e, hl]
   exact ((h.node j hj2).of_block (hbel _ (h.ltN hj2))).setOther (a := ⟨A, i, none⟩) (h.nbA hj2) _
 ·rcases hik j hj with e | ⟨e, hj2⟩
  ·subst e
   rw [upd_same] at hj
   rw [upd_same, if_pos rfl, h2]
   exact (hm hj).of_block (Below.heap_setCell _ _ _ _ (by have := h.ltA; show mk ≠ A; omega))
  ·rw [upd_other _ _ e, if_neg e]
   exact ((h.maps j hj2).of_block (hbel _ (h.ltM hj2))).of_block (Below.heap_setCell _ _ _ _ (h.mbA hj2))
 ·rcases his x hx with ex | ⟨ex, hx2⟩ <;> rcases his y hy with ey | ⟨ey, hy2⟩
  ·rw [ex, ey]
  ·rw [if_pos ex, if_neg ey] at e
   have := h.ltN hy2
   omega
  ·rw [if_neg ex, if_pos ey] at e
   have := h.ltN hx2
   omega
  ·rw [if_neg ex, if_neg ey] at e
   exact h.inj x y hx2 hy2 e
 ·rcases hik x hx with ex | ⟨ex, hx2⟩ <;> rcases hik y hy with ey | ⟨ey, hy2⟩
  ·rw [ex, ey]
  ·rw [if_pos ex, if_neg ey] at e
   have := h.ltM hy2
   omega
  ·rw [if_neg ex, if_pos ey] at e
   have := h.ltM hx2
   omega
  ·rw [if_neg ex, if_neg ey] at e
   exact h.injM x y hx2 hy2 e
theorem make_end {w w2 W5 : World} {nb mb : Nat → Nat} (hP : PT w2 A nb mb t (links t)) (hO : ∀ g, Tb A nb mb t g → own g) (hs : Sd t) {i : Nat} (hi : (t i).is = false) (hi2 : i ≤ 200) {b mk : Nat} {n : Nod} (hB : Below w.heap.size w w2)
 (hb : w2.heap.size ≤ b) (hmk : w2.heap.size ≤ mk) (hbel : Below w2.heap.size w2 W5) (h1 : n.is = true) (h2 : n.ents = []) (hrow : W5.rowIs b 110 10 (nodeF n 0 mk)) (hm : n.kind = 1 → EMap W5 mk []) :
 Pt w A own (upd t i n) (W5.setCell ⟨A, i, none⟩ (.pointer (some ⟨b, 0, none⟩))) := by
 have hsz := hB.size
 refine ⟨fun g => own g ∨ w.heap.size ≤ g, ⟨_, _, hP.lay hs hi hi2 hb hmk (fun g hg => hbel.block g hg) h1 h2 hrow hm, fun g hg => ?_⟩, fun _ => .inl, fun _ => id, ?_⟩
 ·rcases hg with rfl | ⟨j, hj, rfl⟩ | ⟨j, hj, rfl⟩
  ·exact .inl (hO _ (.inl rfl))
  ·by_cases e : j = i
   ·show own (if j = i then b else nb j) ∨ w.heap.size ≤ (if j = i then b else nb j)
    rw [if_pos e]; exact .inr (by omega)
   ·show own (if j = i then b else nb j) ∨ w.heap.size ≤ (if j = i then b else nb j)
    rw [if_neg e]
    rw [upd_other _ _ e] at hj
    exact .inl (hO _ (.inr (.inl ⟨j, hj, rfl⟩)))
  ·by_cases e : j = i
   ·show own (if j = i then mk else mb j) ∨ w.heap.size ≤ (if j = i then mk else mb j)
    rw [if_pos e]; exact .inr (by omega)
   ·show own (if j = i then mk else mb j) ∨ w.heap.size ≤ (if j = i then mk else mb j)
    rw [if_neg e]
    rw [upd_other _ _ e] at hj
    exact .inl (hO _ (.inr (.inr ⟨j, hj, rfl⟩)))
 ·exact (Fr.of_below (hB.trans (hbel.mono hsz))).setCell (p := ⟨A, i, none⟩) (.inl (hO _ (.inl rfl))) _
theorem rMake_at (kind m o g tty : Int) (hk : kind = 0 ∨ kind = 1 ∨ kind = 2) : rMake kind m o g tty = (rOk m o g && (decide (kind ≠ 2) || decide (0 ≤ tty ∧ tty < 4))) := by
 unfold rMake rOk
 rw [decide_eq_true (show 0 ≤ kind ∧ kind ≤ 2 by omega), Bool.true_and]
 cases rMode m <;> cases rId o <;> cases rId g <;> rfl
theorem makeP_no (t : T) (kind m o g tty : Int) {ok : Bool} (h : ok = false) : makeP t ok kind m o g tty = (t, 0, 1) := by
 unfold makeP; rw [h]; rfl
theorem makeP_yes (t : T) (kind m o g tty : Int) {ok : Bool} (h : ok = true) : makeP t ok kind m o g tty = match freeP t with | none => (t, 0, 9) | some i => (upd t i (madeN kind m o g tty i), i, 0) := by
 unfold makeP; rw [h, if_pos rfl]; cases freeP t <;> rfl
theorem pmake_any (kind m o g tty : Int) (hm : wfI m) (w : World) (h : PTo w A own t) (hs : Sd t) :
 Calls Tryz.prog 112 #[.pointer (some ⟨A, 0, none⟩), .int .i64 kind, .int .i64 m, .int .i64 o, .int .i64 g, .int .i64 tty] w fun e w' =>
  e = .returned (makeV (makeP t (rMake kind m o g tty) kind m o g tty).2) ∧ Pt w A own (makeP t (rMake kind m o g tty) kind m o g tty).1 w' := by
 have H := hid h
 have hB1 : Below w.heap.size w (w.alloc (rRow m o g)) := (Below.refl _ w).alloc (Nat.le_refl _) _
 have hv := fun w => valid_any m o g hm w
 have hK := fun w => isKind_any kind w
 have hT := fun w => isTty_any tty w
 by_cases hk : kind = 0 ∨ kind = 1 ∨ kind = 2
 ·rw [decide_eq_true hk] at hK
  have hre := rMake_at kind m o g tty hk
  generalize hmk : makeP t (rMake kind m o g tty) kind m o g tty = r
  obtain ⟨ok, hok⟩ : ∃ ok, rOk m o g = ok := ⟨_, rfl⟩
  rw [hok] at hv hre
  have HV := hid hv
  have HK := hid hK
  have HB1 := hid hB1
  clear hv hK hB1
  cases ok
  ·have Hr := hid (show r = (t, 0, 1) by rw [← hmk]; exact makeP_no _ _ _ _ _ _ (by rw [hre]; rfl))
   clear hmk hre hok hk hT
   go_enter Tryz.func112, Tryz.ntmps112
   go_wp2_with (first
    | (go_at_call 135; refine (HK.out _).mono ?_; rintro e w' ⟨rfl, rfl⟩)
    | (go_at_call 32; refine (HV.out _).mono ?_; rintro e w2 ⟨rfl, hb⟩))
   go_ret2
   exact ⟨by rw [Hr.out]; rfl, by rw [Hr.out]; exact Pt.below H.out (HB1.out.trans (hb.mono (by simp)))⟩
  ·obtain ⟨yt, hyt⟩ : ∃ yt, decide (0 ≤ tty ∧ tty < 4) = yt := ⟨_, rfl⟩
   rw [hyt] at hT hre
   have HT := hid hT
   clear hT hyt
   by_cases hbad : kind = 2 ∧ yt = false
   ·obtain ⟨hk2, rfl⟩ := hbad
    subst hk2
    have Hr := hid (show r = (t, 0, 1) by rw [← hmk]; exact makeP_no _ _ _ _ _ _ (by rw [hre]; rfl))
    clear hmk hre hok hk
    go_enter Tryz.func112, Tryz.ntmps112
    go_wp2_with (first
     | (go_at_call 135; refine (HK.out _).mono ?_; rintro e w' ⟨rfl, rfl⟩)
     | (go_at_call 136; refine (HT.out _).mono ?_; rintro e w' ⟨rfl, rfl⟩)
     | (go_at_call 32; refine (HV.out _).mono ?_; rintro e w2 ⟨rfl, hb⟩))
    go_ret2
    exact ⟨by rw [Hr.out]; rfl, by rw [Hr.out]; exact Pt.below H.out (HB1.out.trans (hb.mono (by simp)))⟩
   ·have hmk2 := makeP_yes t kind m o g tty (ok := rMake kind m o g tty) (by
     rw [hre, Bool.true_and]
     by_cases e : kind = 2
     ·cases yt
      ·exact absurd ⟨e, rfl⟩ hbad
      ·exact Bool.or_true _
     ·rw [decide_eq_true e]; rfl)
    rw [hmk] at hmk2
    obtain ⟨nb, mb, hP, hO⟩ := h
    obtain ⟨fp, hfp⟩ : ∃ fp, freeP t = fp := ⟨_, rfl⟩
    have hfree := fun w' (h' : PT w' A nb mb t (links t)) => free_any w' h'
    rw [hfp] at hfree hmk2
    have HP := hid hP
    have HO := hid hO
    have Hs := hid hs
    clear hmk hre hok hP hO hs
    cases fp with
    | none =>
     have Hr := hid (show r = (t, 0, 9) from hmk2)
     have HF := hid (show ∀ w', PT w' A nb mb t (links t) → Calls Tryz.prog 137 #[.pointer (some ⟨A, 0, none⟩)] w' fun e w'' => e = .returned (.tuple #[.int .i64 0, .bool false]) ∧ w' = w'' from hfree)
     clear hmk2 hfp hfree
     by_cases hk2 : kind = 2
     ·have hyt : yt = true := by cases yt <;> simp_all
      subst hyt
      subst hk2
      clear hbad hk
      go_enter Tryz.func112, Tryz.ntmps112
      go_wp2_with (first
       | (go_at_call 135; refine (HK.out _).mono ?_; rintro e w' ⟨rfl, rfl⟩)
       | (go_at_call 136; refine (HT.out _).mono ?_; rintro e w' ⟨rfl, rfl⟩)
       | (go_at_call 137; refine (HF.out w2 (HP.out.below (HB1.out.trans (hb.mono (by simp))))).mono ?_; rintro e w' ⟨rfl, rfl⟩)
       | (go_at_call 32; refine (HV.out _).mono ?_; rintro e w2 ⟨rfl, hb⟩))
      go_ret2
      exact ⟨by rw [Hr.out]; rfl, by rw [Hr.out]; exact Pt.below H.out (HB1.out.trans (hb.mono (by simp)))⟩
     ·clear hbad
      go_enter Tryz.func112, Tryz.ntmps112
      go_wp2_with (first
       | (go_at_call 135; refine (HK.out _).mono ?_; rintro e w' ⟨rfl, rfl⟩)
       | (go_at_call 137; refine (HF.out w2 (HP.out.below (HB1.out.trans (hb.mono (by simp))))).mono ?_; rintro e w' ⟨rfl, rfl⟩)
       | (go_at_call 32; refine (HV.out _).mono ?_; rintro e w2 ⟨rfl, hb⟩))
      go_ret2
      exact ⟨by rw [Hr.out]; rfl, by rw [Hr.out]; exact Pt.below H.out (HB1.out.trans (hb.mono (by simp)))⟩
    | some i =>
     have Hr := hid (show r = (upd t i (madeN kind m o g tty i), i, 0) from hmk2)
     have HF := hid (show ∀ w', PT w' A nb mb t (links t) → Calls Tryz.prog 137 #[.pointer (some ⟨A, 0, none⟩)] w' fun e w'' => e = .returned (.tuple #[.int .i64 i, .bool true]) ∧ w' = w'' from hfree)
     obtain ⟨i1, i2, i3, _⟩ := freeUp_some hfp
     have Hi3 := hid i3
     have hi8 : (0 : Int) ≤ (i : Int) := by omega
     have hi9 : (i : Int) < 201 := by omega
     clear hmk2 hfp hfree i3
     by_cases hk2 : kind = 2
     ·have hyt : yt = true := by cases yt <;> simp_all
      subst hyt
      subst hk2
      clear hbad hk
      go_enter Tryz.func112, Tryz.ntmps112
      go_wp2_with (first
       | (go_at_call 135; refine (HK.out _).mono ?_; rintro e w' ⟨rfl, rfl⟩)
       | (go_at_call 136; refine (HT.out _).mono ?_; rintro e w' ⟨rfl, rfl⟩)
       | (go_at_call 137; refine (HF.out w2 (HP.out.below (HB1.out.trans (hb.mono (by simp))))).mono ?_; rintro e w' ⟨rfl, rfl⟩; obtain ⟨r0, r1, r2, hb2⟩ := rights_at w m o g hb; have HB2 := hid hb2; clear hb hb2)
       | (go_at_call 33; refine (newInode_any i 2 m o g _).mono ?_; rintro e w4 ⟨b, mk, rfl, hb1, hb2, hrow, hmm, hbel⟩; have f5 := hrow.frozen 5; have f9 := hrow.frozen 9; have c5 := hrow.cell (i := 5) (by decide); have c9 := hrow.cell (i := 9) (by decide); have hP2 := HP.out.below HB2.out; have hAb : A ≠ b := (by have := hP2.ltA; omega); have hA4 := hP2.below hbel; have cA := hA4.get (i := i) (by omega); have fA := hA4.frozenA i; have HP2 := hid hP2; clear hP2 hA4)
       | (go_at_call 32; refine (HV.out _).mono ?_; rintro e w2 ⟨rfl, hb⟩))
      go_ret2
      refine ⟨by rw [Hr.out]; rfl, ?_⟩
      rw [Hr.out]
      refine make_end HP2.out HO.out Hs.out Hi3.out (by omega) HB2.out hb1 hb2 ((hbel.setCell (p := ⟨b, 9, none⟩) hb1 _).setCell (p := ⟨b, 5, none⟩) hb1 _) rfl rfl (mk := mk) ?_ (fun e => absurd (show (2 : Int) = 1 from e) (by decide))
      refine ((hrow.set 9 (.int .i64 tty)).set 5 (.int .i64 1)).congr fun j hj => ?_
      match j, hj with
      | 0, _ | 1, _ | 2, _ | 3, _ | 4, _ | 5, _ | 6, _ | 7, _ | 8, _ | 9, _ => rfl
     ·clear hbad
      go_enter Tryz.func112, Tryz.ntmps112
      go_wp2_with (first
       | (go_at_call 135; refine (HK.out _).mono ?_; rintro e w' ⟨rfl, rfl⟩)
       | (go_at_call 137; refine (HF.out w2 (HP.out.below (HB1.out.trans (hb.mono (by simp))))).mono ?_; rintro e w' ⟨rfl, rfl⟩; obtain ⟨r0, r1, r2, hb2⟩ := rights_at w m o g hb; have HB2 := hid hb2; clear hb hb2)
       | (go_at_call 33; refine (newInode_any i kind m o g _).mono ?_; rintro e w4 ⟨b, mk, rfl, hb1, hb2, hrow, hmm, hbel⟩; have f5 := hrow.frozen 5; have c5 := hrow.cell (i := 5) (by decide); have hP2 := HP.out.below HB2.out; have hAb : A ≠ b := (by have := hP2.ltA; omega); have hA4 := hP2.below hbel; have cA := hA4.get (i := i) (by omega); have fA := hA4.frozenA i; have HP2 := hid hP2; clear hP2 hA4)
       | (go_at_call 32; refine (HV.out _).mono ?_; rintro e w2 ⟨rfl, hb⟩))
      go_ret2
      refine ⟨by rw [Hr.out]; rfl, ?_⟩
      rw [Hr.out]
      have e5 : (⟨b, 5, none⟩ : Addr).block = b := rfl
      refine make_end HP2.out HO.out Hs.out Hi3.out (by omega) HB2.out hb1 hb2 (hbel.setCell (p := ⟨b, 5, none⟩) hb1 _) rfl rfl (mk := mk) ?_ (fun e => (hmm e).of_block (Below.heap_setCell _ _ _ _ (row_ne_map hrow (hmm e)).symm))
      have ht : (madeN kind m o g tty i).tty = 0 := if_neg hk2
      refine (hrow.set 5 (.int .i64 1)).congr fun j hj => ?_
      match j, hj with
      | 0, _ | 1, _ | 2, _ | 3, _ | 4, _ | 5, _ | 6, _ | 7, _ | 8, _ => rfl
      | 9, _ => show Value.int .i64 0 = Value.int .i64 (madeN kind m o g tty i).tty; rw [ht]
 ·rw [decide_eq_false hk] at hK
  have Hr := hid (show makeP t (rMake kind m o g tty) kind m o g tty = (t, 0, 1) from makeP_no _ _ _ _ _ _ (by unfold rMake; rw [decide_eq_false (by omega)]; rfl))
  have HK := hid hK
  clear hK hv hk h hT
  go_enter Tryz.func112, Tryz.ntmps112
  go_wp2_with (go_at_call 135; refine (HK.out _).mono ?_; rintro e w' ⟨rfl, rfl⟩)
  go_ret2
  exact ⟨by rw [Hr.out]; rfl, by rw [Hr.out]; exact Pt.below H.out hB1⟩
end
section
open Go.RowKit Ino Go.Maps
variable {A : Nat} {own : Nat → Prop} {t : T}
noncomputable def ht (t : T) (ha : Acyc t) (y : Nat) : Nat := (least (fun n => Fix t (iter t n y)) (ha y)).choose
theorem ht_step {t : T} (ha : Acyc t) {y : Nat} (hy : ¬ Fix t y) : ht t ha (par t y) < ht t ha y := by
 obtain ⟨h1, h2⟩ := (least (fun n => Fix t (iter t n y)) (ha y)).choose_spec
 obtain ⟨k1, k2⟩ := (least (fun n => Fix t (iter t n (par t y))) (ha (par t y))).choose_spec
 have e1 : (least (fun n => Fix t (iter t n y)) (ha y)).choose = ht t ha y := rfl
 have e2 : (least (fun n => Fix t (iter t n (par t y))) (ha (par t y))).choose = ht t ha (par t y) := rfl
 rw [e1] at h1 h2
 rw [e2] at k1 k2
 generalize ht t ha y = n at *
 generalize ht t ha (par t y) = m at *
 cases n with
 | zero => exact absurd h1 hy
 | succ n =>
  by_cases h : m ≤ n
  ·omega
  ·exact absurd h1 (k2 n (by omega))
def upRel (t : T) (x : Nat) (b : Bool) (dv : Value) : Prop := ∃ y : Nat, dv = .int .i64 y ∧ (t y).kind = 1 ∧ (b = true ↔ Within t y x)
theorem contains_any {nb mb : Nat → Nat} {lk : Nat → Nat} (x d : Nat) (b : Bool) (w : World) (h : PT w A nb mb t lk) (hs : Sd t) (hd : (t d).kind = 1) (hb : b = true ↔ Within t d x) :
 Calls Tryz.prog 116 #[.pointer (some ⟨A, 0, none⟩), .int .i64 x, .int .i64 d] w fun e w' => e = .returned (.bool b) ∧ w = w' := by
 have H := hid h
 have Hs := hid hs
 have Hd := hid hd
 have Hb := hid hb
 clear h hs hd hb
 go_enter Tryz.func116, Tryz.ntmps116
 go_wp2
 go_loop [2] (fun dv => upRel t x b dv) (fun dv => ht t Hs.out.acyc (intOf dv).toNat)
 case atStart => exact ⟨d, rfl, Hd.out, Hb.out⟩
 case round =>
  obtain ⟨y, rfl, hk, hb⟩ := hrel
  have hy := Hs.out.kind_is (x := y) (by omega)
  have hr := Hs.out.range y hy
  have c0 := H.out.get (i := y) (by omega)
  unfold ptrV at c0
  rw [hy, if_pos rfl] at c0
  obtain ⟨-, -, -, -, -, -, -, -, c8, -⟩ := H.out.cells hy
  have Hk := hid hk
  have Hbb := hid hb
  have Hup := hid (Hs.out.up hk)
  clear hk hb hy
  by_cases e : y = x
  ·subst e
   have hb : b = true := Hbb.out.2 ⟨0, rfl⟩
   subst hb
   go_wp2
   go_ret
   exact ⟨rfl, rfl⟩
  ·have e1 : ((y : Int) != (x : Int)) = true := by simp; omega
   by_cases hf : (t y).parent = y
   ·have hb : b = false := by
     cases b
     ·rfl
     ·obtain ⟨n, hn⟩ := Hbb.out.1 rfl
      rw [iter_fix hf n] at hn
      exact absurd hn e
    subst hb
    rw [hf] at c8
    clear hf
    go_wp2
    go_ret
    exact ⟨rfl, rfl⟩
   ·have e2 : (((t y).parent : Int) == (y : Int)) = false := by simp; omega
    have Hf := hid hf
    have Hn := hid (show b = true ↔ Within t (t y).parent x by
     rw [Hbb.out, within_step]
     constructor
     ·rintro (h | h)
      ·exact absurd h e
      ·exact h
     ·exact .inr)
    clear hf
    go_wp2
    go_round
    case rel => exact ⟨(t y).parent, rfl, Hup.out, Hn.out⟩
    case measure => exact ht_step Hs.out.acyc Hf.out
end
end Go.Proofs.YtlpececggkdhmaaGreat
