import Derived.Test.YtlpececggkdhmaaGreatM5
import Derived.Test.YtlpececggkdhmaaGreatM6
import Derived.Test.YtlpececggkdhmaaGreatM14
open Go.Lib (hid)
open List renaming setIfInBounds_toArray → jA, set_cons_zero → jB, set_cons_succ → jC, getElem?_toArray → jD, getElem?_cons_succ → jE, getElem?_cons_zero → jF
set_option linter.unusedVariables false
set_option linter.unusedSimpArgs false
namespace Go.Proofs.YtlpececggkdhmaaGreat
section
open Go.RowKit Ino
def hup (t : T) (x h : Nat) : T := upd t x { t x with holds := h }
theorem hup_ents (t : T) (x h i : Nat) : (hup t x h i).ents = (t i).ents := by
 unfold hup
 by_cases e : i = x
 ·subst e; rw [upd_same]
 ·rw [upd_other _ _ e]
theorem hup_kind (t : T) (x h i : Nat) : (hup t x h i).kind = (t i).kind := by
 unfold hup
 by_cases e : i = x
 ·subst e; rw [upd_same]
 ·rw [upd_other _ _ e]
theorem hup_holds (t : T) (x h : Nat) : (hup t x h x).holds = h := by
 unfold hup; rw [upd_same]
theorem hup_setEnts (t : T) (x h d : Nat) (l : List (Bs × Nat)) : setEnts (hup t x h) d l = hup (setEnts t d l) x h := by
 funext j
 unfold hup setEnts
 by_cases e : j = x
 ·subst e
  rw [upd_same]
  by_cases e2 : j = d
  ·subst e2; rw [upd_same, upd_same, upd_same]
  ·rw [upd_other _ _ e2, upd_same, upd_other _ _ e2]
 ·rw [upd_other _ _ e]
  by_cases e2 : j = d
  ·subst e2; rw [upd_same, upd_same, upd_other _ _ e]
  ·rw [upd_other _ _ e2, upd_other _ _ e2, upd_other _ _ e]
theorem hup_setPar (t : T) (x h y p : Nat) : setPar (hup t x h) y p = hup (setPar t y p) x h := by
 funext j
 have hk := hup_kind t x h j
 unfold setPar
 rw [hk]
 unfold hup
 by_cases e : j = x
 ·subst e
  rw [upd_same, upd_same]
  by_cases e2 : j = y ∧ (t j).kind = 1
  ·(try dsimp only); simp only [if_pos e2]
  ·(try dsimp only); simp only [if_neg e2]
 ·rw [upd_other _ _ e, upd_other _ _ e]
theorem hup_back (t : T) (x h k : Nat) (hk : (t x).holds = k) : hup (hup t x h) x k = t := by
 funext j
 unfold hup
 by_cases e : j = x
 ·subst e; rw [upd_same, upd_same, ← hk]
 ·rw [upd_other _ _ e, upd_other _ _ e]
theorem Rt.then {w w1 w2 : World} {A B : Nat} {own own1 : Nat → Prop} {t : T} (h1 : ∀ g, own g → own1 g) (h2 : ∀ g, own1 g → own g ∨ w.heap.size ≤ g) (F : Fr (· = B) w w1) (k : Rt w1 A B own1 t w2) : Rt w A B own t w2 := by
 obtain ⟨own2, R, k1, k2, G⟩ := k
 refine ⟨own2, R, fun g hg => k1 g (h1 g hg), fun g hg => ?_, F.trans G⟩
 rcases k2 g hg with h | h
 ·exact h2 g h
 ·exact .inr (Nat.le_trans F.size h)
theorem laid_holds (u : T) (d to j : Nat) (l m : List (Bs × Nat)) : (setEnts (setEnts u d l) to m j).holds = (u j).holds := by
 unfold setEnts
 by_cases e : j = to
 ·subst e
  rw [upd_same]
  by_cases e2 : j = d
  ·subst e2; rw [upd_same]
  ·rw [upd_other _ _ e2]
 ·rw [upd_other _ _ e]
  by_cases e2 : j = d
  ·subst e2; rw [upd_same]
  ·rw [upd_other _ _ e2]
theorem mv_end0 {u : T} {d to x k h : Nat} {n nm : Bs} (hk : (u x).kind ≠ 1) (hh : (u x).holds = h) : hup (hup (setEnts (setEnts u d (erE (u d).ents n)) to ((setEnts u d (erE (u d).ents n) to).ents ++ [(nm, x)])) x k) x h = mv u d n to nm x := by
 rw [hup_back _ _ _ _ (by rw [laid_holds]; exact hh), ← mv_laid, setPar_not _ _ _ (by rw [setEnts_kind, setEnts_kind]; exact hk)]
theorem mv_end1 {u : T} {d to x k h : Nat} {n nm : Bs} (hh : (u x).holds = h) : hup (setPar (hup (setEnts (setEnts u d (erE (u d).ents n)) to ((setEnts u d (erE (u d).ents n) to).ents ++ [(nm, x)])) x k) x to) x h = mv u d n to nm x := by
 rw [hup_setPar, mv_laid, hup_back _ _ _ _ (by rw [mv_holds]; exact hh)]
theorem rem_laid0 {t : T} {d x : Nat} {n : Bs} (hk : (t x).kind ≠ 1) : setEnts t d (erE (t d).ents n) = rem t d n x := by
 unfold rem; rw [setPar_not]; rw [setEnts_kind]; exact hk
theorem rem_laid1 (t : T) (d x : Nat) (n : Bs) : setEnts (setPar t x x) d (erE (t d).ents n) = rem t d n x := by
 funext j
 unfold rem setEnts
 by_cases hj : j = d
 ·subst hj
  rw [upd_same]
  unfold setPar
  by_cases e : j = x ∧ (t j).kind = 1
  ·rw [if_pos e, if_pos (by rw [upd_same]; exact e), upd_same]
  ·rw [if_neg e, if_neg (by rw [upd_same]; exact e), upd_same]
 ·rw [upd_other _ _ hj]
  unfold setPar
  rw [upd_other _ _ hj]
theorem rem_find {t : T} {d to x y : Nat} {n nm : Bs} (hf : findE (t d).ents n = some x) (hg : findE (t to).ents nm = some y) (hne : y ≠ x) : findE (rem t to nm y d).ents n = some x := by
 rw [rem_ents]
 split
 ·rename_i e
  rw [erE_other ?_, ← e]
  ·exact hf
  ·rintro rfl
   rw [e, hg] at hf
   exact hne (by cases hf; rfl)
 ·exact hf
theorem rem_len {t : T} {to y : Nat} {nm : Bs} (h : ∀ i, (t i).ents.length ≤ 40) (i : Nat) : (rem t to nm y i).ents.length ≤ 40 := by
 rw [rem_ents]
 split
 ·have := erE_le (t to).ents nm
  have := h to
  omega
 ·exact h i
end
section
open Go.RowKit Ino
attribute [local go_sem ↓] Go.wp_at_zero Go.wp_at_succ
open Classical in
set_option maxHeartbeats 8000000 in
set_option maxRecDepth 100000 in
theorem move_any {A B : Nat} {own : Nat → Prop} {t : T} (dir tt : Int) (s a : ByteArray) (w : World) (h : RT w A B own t) (hs : Sound t) (hsz : s.size ≤ maxLen) (haz : a.size ≤ maxLen) (hb : ∀ k, (t k).holds ≤ 1000000) :
 Calls Tryz.prog 93 #[.pointer (some ⟨A, 0, none⟩), .int .i64 dir, .string s, .int .i64 tt, .string a] w fun e w' => e = .returned (.int .i64 (moveP t dir s.data.toList tt a.data.toList).2) ∧ Rt w A B own (moveP t dir s.data.toList tt a.data.toList).1 w' := by
 have htop := h.top
 have hc1 := is_any dir w h
 have hc2 := is_any tt w h
 have H := hid h
 obtain ⟨b1, e1⟩ : ∃ b, isI t dir = b := ⟨_, rfl⟩
 obtain ⟨b2, e2⟩ : ∃ b, isI t tt = b := ⟨_, rfl⟩
 rw [e1] at hc1
 rw [e2] at hc2
 have Hi1 := hid (fun _ : Unit => hc1)
 have Hi2 := hid (fun _ : Unit => hc2)
 clear hc1 hc2
 cases b1
 ·have Hr := hid (moveP_none (n := s.data.toList) (nm := a.data.toList) (to := tt) (.inl e1))
  clear h e1 e2 hs
  cases b2
  all_goals
   go_enter Tryz.func93, Tryz.ntmps93
   go_wp2_with (first | (go_at_call 99; (with_reducible refine (Hi1.out ()).mono ?_); rintro e w' ⟨rfl, rfl⟩) | (go_at_call 99; (with_reducible refine (Hi2.out ()).mono ?_); rintro e w' ⟨rfl, rfl⟩))
   go_ret
   exact ⟨ret_int (by rw [Hr.out]; rfl), by rw [Hr.out]; exact Rt.refl H.out⟩
 cases b2
 ·have Hr := hid (moveP_none (n := s.data.toList) (nm := a.data.toList) (dir := dir) (.inr e2))
  clear h e1 e2 hs
  go_enter Tryz.func93, Tryz.ntmps93
  go_wp2_with (first | (go_at_call 99; (with_reducible refine (Hi1.out ()).mono ?_); rintro e w' ⟨rfl, rfl⟩) | (go_at_call 99; (with_reducible refine (Hi2.out ()).mono ?_); rintro e w' ⟨rfl, rfl⟩))
  go_ret
  exact ⟨ret_int (by rw [Hr.out]; rfl), by rw [Hr.out]; exact Rt.refl H.out⟩
 obtain ⟨d, rfl, hd1, hd2, hdi⟩ := isI_nat e1
 obtain ⟨to, rfl, ht1, ht2, hti⟩ := isI_nat e2
 have Hre := hid (moveP_at (n := s.data.toList) (nm := a.data.toList) e1 e2)
 generalize moveP t (d : Int) s.data.toList (to : Int) a.data.toList = r at Hre ⊢
 obtain ⟨p, cap, -, c1, -, -, -, -, -, -, -, c9, hl1, hl2, he⟩ := h.cells d hd2
 obtain ⟨pt, capt, -, k1, -, -, -, -, -, -, -, k9, ml1, ml2, me⟩ := h.cells to ht2
 have Hnm := hid (name_any a haz w)
 have Hat1 := hid (fun _ : Unit => at_any d s w h hd2 (hs.sd.len d))
 have Hat2 := hid (fun _ : Unit => at_any to a w h ht2 (hs.sd.len to))
 have hlen := hs.sd.len to
 have Hs := hid hs
 clear e1 e2
 cases kq : ((t d).kind == 1)
 ·have kq' : ((t d).kind != 1) = true := by rw [bne, kq]; rfl
  have Hr := hid (show r = (t, 6) by rw [Hre.out, if_neg (fun h => ne_of_beq_false kq h.1)])
  clear h he me hs
  go_enter Tryz.func93, Tryz.ntmps93
  go_wp2_with (first | (go_at_call 99; (with_reducible refine (Hi1.out ()).mono ?_); rintro e w' ⟨rfl, rfl⟩) | (go_at_call 99; (with_reducible refine (Hi2.out ()).mono ?_); rintro e w' ⟨rfl, rfl⟩))
  go_ret
  exact ⟨ret_int (by rw [Hr.out]; rfl), by rw [Hr.out]; exact Rt.refl H.out⟩
 have kq' : ((t d).kind != 1) = false := by rw [bne, kq]; rfl
 cases mq : ((t to).kind == 1)
 ·have mq' : ((t to).kind != 1) = true := by rw [bne, mq]; rfl
  have Hr := hid (show r = (t, 6) by rw [Hre.out, if_neg (fun h => ne_of_beq_false mq h.2)])
  clear h he me hs
  go_enter Tryz.func93, Tryz.ntmps93
  go_wp2_with (first | (go_at_call 99; (with_reducible refine (Hi1.out ()).mono ?_); rintro e w' ⟨rfl, rfl⟩) | (go_at_call 99; (with_reducible refine (Hi2.out ()).mono ?_); rintro e w' ⟨rfl, rfl⟩))
  go_ret
  exact ⟨ret_int (by rw [Hr.out]; rfl), by rw [Hr.out]; exact Rt.refl H.out⟩
 have mq' : ((t to).kind != 1) = false := by rw [bne, mq]; rfl
 have Kd := hid (eq_of_beq kq)
 have Kt := hid (eq_of_beq mq)
 have hre1 := Hre.out
 rw [if_pos ⟨Kd.out, Kt.out⟩] at hre1
 obtain ⟨f1, f2⟩ := atE_find (t d).ents s.data.toList
 have hat := Hat1.out ()
 cases ha : atE (t d).ents s.data.toList with
 | none =>
  rw [f1.1 ha] at hre1
  have Hr := hid (show r = (t, 3) from hre1)
  rw [show atI (t d).ents s.data.toList = -1 by unfold atI; rw [ha]] at hat
  have Hat1 := hid (fun _ : Unit => hat)
  clear he me hs h f1 f2 ha hat hre1
  go_enter Tryz.func93, Tryz.ntmps93
  go_wp2_with (first | (go_at_call 99; (with_reducible refine (Hi1.out ()).mono ?_); rintro e w' ⟨rfl, rfl⟩) | (go_at_call 99; (with_reducible refine (Hi2.out ()).mono ?_); rintro e w' ⟨rfl, rfl⟩) | (go_at_call 121; (with_reducible refine (Hat1.out ()).mono ?_); rintro e w' ⟨rfl, rfl⟩))
  go_ret
  exact ⟨ret_int (by rw [Hr.out]; rfl), by rw [Hr.out]; exact Rt.refl H.out⟩
 | some k =>
 obtain ⟨x, fx, lx, hk, her⟩ := f2 k ha
 rw [show atI (t d).ents s.data.toList = (k : Int) by unfold atI; rw [ha]] at hat
 rw [fx] at hre1
 have Hat1 := hid (fun _ : Unit => hat)
 have Hre := hid (show r = if nameOk a.data.toList = true then
  if Within t to x ∧ (t x).kind = 1 then (t, 8)
  else if findE (t to).ents a.data.toList = some x then (t, 0)
  else if barE t d to a.data.toList x ≠ 0 then (t, barE t d to a.data.toList x)
  else (goneP (movedT t d s.data.toList to a.data.toList x), 0)
  else (t, 1) from hre1)
 clear hre1 hat f1 f2 ha
 have Fx := hid fx
 cases hn : nameOk a.data.toList
 ·have Hr := hid (show r = (t, 1) by rw [Hre.out, hn]; rfl)
  have hn1 := Hnm.out
  rw [hn] at hn1
  have Hnm := hid hn1
  clear he me hs h hn hn1
  go_enter Tryz.func93, Tryz.ntmps93
  go_wp2_with (first | (go_at_call 99; (with_reducible refine (Hi1.out ()).mono ?_); rintro e w' ⟨rfl, rfl⟩) | (go_at_call 99; (with_reducible refine (Hi2.out ()).mono ?_); rintro e w' ⟨rfl, rfl⟩) | (go_at_call 121; (with_reducible refine (Hat1.out ()).mono ?_); rintro e w' ⟨rfl, rfl⟩) | (go_at_call 125; refine Hnm.out.mono ?_; rintro e w' ⟨rfl, rfl⟩))
  go_ret
  exact ⟨ret_int (by rw [Hr.out]; rfl), by rw [Hr.out]; exact Rt.refl H.out⟩
 have hn1 := Hnm.out
 rw [hn] at hn1
 have Hnm := hid hn1
 have hre2 := Hre.out
 rw [if_pos hn] at hre2
 have Hre := hid hre2
 have Hn := hid hn
 clear hre2 hn hn1
 have hxi := hs.sd.tgt d _ (findE_mem fx)
 have hx := hs.sd.range x hxi
 obtain ⟨g, off, hp, -, -, -, v0, v1⟩ := he k _ lx
 simp only at v0 v1
 subst hp
 obtain ⟨px, capx, -, x1, -, -, -, -, x6, x7, -, x9, -, -, -⟩ := h.cells x hx.2
 unfold maxLen at hl2 ml2
 have hkx : (k : Int) < ((t d).ents.length : Int) := by omega
 clear he lx fx
 by_cases hw : Within t to x
 ·have hxk := hs.sd.within_dir Kt.out hw
  have Hwi := hid (within_any to x true w h hs.sd Kt.out ⟨fun _ => hw, fun _ => rfl⟩)
  have Hr := hid (show r = (t, 8) by rw [Hre.out, if_pos ⟨hw, hxk⟩])
  have q1 : ((t x).kind == 1) = true := by rw [hxk]; rfl
  clear h me hs hw hxk
  go_enter Tryz.func93, Tryz.ntmps93
  go_wp2_with (first | (go_at_call 99; (with_reducible refine (Hi1.out ()).mono ?_); rintro e w' ⟨rfl, rfl⟩) | (go_at_call 99; (with_reducible refine (Hi2.out ()).mono ?_); rintro e w' ⟨rfl, rfl⟩) | (go_at_call 121; (with_reducible refine (Hat1.out ()).mono ?_); rintro e w' ⟨rfl, rfl⟩) | (go_at_call 125; refine Hnm.out.mono ?_; rintro e w' ⟨rfl, rfl⟩) | (go_at_call 126; refine Hwi.out.mono ?_; rintro e w' ⟨rfl, rfl⟩))
  go_ret
  exact ⟨ret_int (by rw [Hr.out]; rfl), by rw [Hr.out]; exact Rt.refl H.out⟩
 have Hwi := hid (within_any to x false w h hs.sd Kt.out ⟨fun e => absurd e Bool.false_ne_true, fun e => absurd e hw⟩)
 have hre2 := Hre.out
 rw [if_neg (show ¬ (Within t to x ∧ (t x).kind = 1) from fun h => hw h.1)] at hre2
 have Hre := hid hre2
 clear hre2
 obtain ⟨f1, f2⟩ := atE_find (t to).ents a.data.toList
 have hat := Hat2.out ()
 cases ha : atE (t to).ents a.data.toList with
 | some j =>
  obtain ⟨y, fy, ly, hj, hery⟩ := f2 j ha
  rw [show atI (t to).ents a.data.toList = (j : Int) by unfold atI; rw [ha]] at hat
  have Hat2 := hid (fun _ : Unit => hat)
  obtain ⟨g2, off2, hp2, -, -, hg2B, u0, u1⟩ := me j _ ly
  simp only at u0 u1
  subst hp2
  have hyi := hs.sd.tgt to _ (findE_mem fy)
  have hy := hs.sd.range y hyi
  obtain ⟨py, capy, -, y1, -, -, -, -, -, y7, -, y9, yl1, -, -⟩ := h.cells y hy.2
  have hjx : (j : Int) < ((t to).ents.length : Int) := by omega
  clear hat f1 f2 ha me ly
  by_cases hyx : y = x
  ·subst hyx
   have Hr := hid (show r = (t, 0) by rw [Hre.out, if_pos fy])
   clear h hs
   cases qx : ((t y).kind == 1)
   all_goals
    go_enter Tryz.func93, Tryz.ntmps93
    go_wp2_with (first | (go_at_call 99; (with_reducible refine (Hi1.out ()).mono ?_); rintro e w' ⟨rfl, rfl⟩) | (go_at_call 99; (with_reducible refine (Hi2.out ()).mono ?_); rintro e w' ⟨rfl, rfl⟩) | (go_at_call 121; (with_reducible refine (Hat1.out ()).mono ?_); rintro e w' ⟨rfl, rfl⟩) | (go_at_call 125; refine Hnm.out.mono ?_; rintro e w' ⟨rfl, rfl⟩) | (go_at_call 126; refine Hwi.out.mono ?_; rintro e w' ⟨rfl, rfl⟩) | (go_at_call 121; (with_reducible refine (Hat2.out ()).mono ?_); rintro e w' ⟨rfl, rfl⟩))
    go_ret
    exact ⟨ret_int (by rw [Hr.out]; rfl), by rw [Hr.out]; exact Rt.refl H.out⟩
  have hyx' : ((y : Int) == (x : Int)) = false := by rw [beq_eq_false_iff_ne]; omega
  have hre2 := Hre.out
  rw [if_neg (by rw [fy]; intro e; cases e; exact hyx rfl)] at hre2
  have Hre := hid hre2
  have hth : barE t d to a.data.toList x = if ((t x).kind = 1) ≠ ((t y).kind = 1) then 7 else if (t y).ents ≠ [] then 8 else 0 := by
   have : barE t d to a.data.toList x = thereE t to a.data.toList x := by unfold barE; rw [fy]
   rw [this]; unfold thereE; rw [fy]
  have Fy := hid fy
  have Hery := hid hery
  clear hre2 fy hery
  cases qx : ((t x).kind == 1)
  ·cases qy : ((t y).kind == 1)
   ·skip
    rw [if_neg (fun e => e (propext ⟨fun h => absurd h (ne_of_beq_false qx), fun h => absurd h (ne_of_beq_false qy)⟩))] at hth
    by_cases h0 : 0 < (t y).ents.length
    ·rw [if_pos (show (t y).ents ≠ [] from fun e => by rw [e] at h0; exact absurd h0 (by decide))] at hth
     have Hr := hid (show r = (t, 8) by rw [Hre.out, hth, if_pos (by decide)])
     have HD := hid H.out.drew
     clear h hs hth
     go_enter Tryz.func93, Tryz.ntmps93
     go_wp2_with (first | (go_at_call 99; (with_reducible refine (Hi1.out ()).mono ?_); rintro e w' ⟨rfl, rfl⟩) | (go_at_call 99; (with_reducible refine (Hi2.out ()).mono ?_); rintro e w' ⟨rfl, rfl⟩) | (go_at_call 121; (with_reducible refine (Hat1.out ()).mono ?_); rintro e w' ⟨rfl, rfl⟩) | (go_at_call 125; refine Hnm.out.mono ?_; rintro e w' ⟨rfl, rfl⟩) | (go_at_call 126; refine Hwi.out.mono ?_; rintro e w' ⟨rfl, rfl⟩) | (go_at_call 121; (with_reducible refine (Hat2.out ()).mono ?_); rintro e w' ⟨rfl, rfl⟩))
     go_region
     go_wp2
     go_ret
     exact ⟨ret_int (by rw [Hr.out]; rfl), by rw [Hr.out]; exact ⟨own, HD.out, fun _ => id, fun _ => .inl, (Fr.refl _ _).drew⟩⟩
    rw [if_neg (show ¬ (t y).ents ≠ [] from fun e => e (List.length_eq_zero_iff.1 (by omega)))] at hth
    have Hr := hid (show r = (goneP (mv (rem t to a.data.toList y) d s.data.toList to a.data.toList x), 0) by rw [Hre.out, hth, if_neg (fun h => h rfl), movedT_eq, Fy.out])
    have Hsd := hid (show Sd (mv (rem t to a.data.toList y) d s.data.toList to a.data.toList x) by
     have := sd_moved hs.sd hdi hti Kt.out Fx.out Hn.out (fun h => hw h.2) (by rw [Fy.out]; intro e; cases e; exact hyx rfl) (fun h => by rw [Fy.out] at h; cases h.1)
     rw [movedT_eq, Fy.out] at this
     exact this)
    have hbx := hb x
    have R0 := h.setHolds x ((t x).holds + 1) hx.2
    obtain ⟨W1, hW1⟩ : ∃ W1, (w.setCell ⟨B, x * 10 + 6, none⟩ (.int .i64 (((t x).holds + 1 : Nat) : Int))).drew = W1 := ⟨_, rfl⟩
    have R0 := R0.drew
    rw [hW1] at R0
    have F1 : Fr (· = B) w W1 := by rw [← hW1]; exact ((Fr.refl _ w).setB _ _).drew
    have HW1 := hid (show (w.setCell ⟨B, x * 10 + 6, none⟩ (.int .i64 (((t x).holds : Int) + 1))).drew = W1 from hW1)
    have R0' : RT W1 A B own (hup t x ((t x).holds + 1)) := R0
    have hwo := without_any to j W1 R0' ht2 (by rw [hup_ents]; exact hs.sd.len to) (by rw [hup_ents]; exact hj)
    rw [hup_ents, ← Hery.out, hup_setEnts, rem_laid0 (x := y) (ne_of_beq_false qy)] at hwo
    have hfx6 := h.frozen (x * 10 + 6)
    have hfy7 := h.frozen (y * 10 + 7)
    have hlB0 := h.lt.2
    have hlG0 := cell_lt u1
    have hneB := h.ne
    have Hwo := hid hwo
    have F1' := hid F1
    have hdlen := rem_len (to := to) (y := y) (nm := a.data.toList) hs.sd.len d
    have hlenu := rem_len (to := to) (y := y) (nm := a.data.toList) hs.sd.len to
    have hfu := rem_find (d := d) (n := s.data.toList) Fx.out Fy.out hyx
    clear hW1 R0 R0' hwo F1 h hs hth hw
    go_enter Tryz.func93, Tryz.ntmps93
    go_wp2_with (first | (go_at_call 99; (with_reducible refine (Hi1.out ()).mono ?_); rintro e w' ⟨rfl, rfl⟩) | (go_at_call 99; (with_reducible refine (Hi2.out ()).mono ?_); rintro e w' ⟨rfl, rfl⟩) | (go_at_call 121; (with_reducible refine (Hat1.out ()).mono ?_); rintro e w' ⟨rfl, rfl⟩) | (go_at_call 125; refine Hnm.out.mono ?_; rintro e w' ⟨rfl, rfl⟩) | (go_at_call 126; refine Hwi.out.mono ?_; rintro e w' ⟨rfl, rfl⟩) | (go_at_call 121; (with_reducible refine (Hat2.out ()).mono ?_); rintro e w' ⟨rfl, rfl⟩))
    go_region
    go_wp2_with fail
    rw [HW1.out]
    refine Hwo.out.mono ?_
    rintro e w1 ⟨rfl, own1, R1, o1, o2, PF⟩
    have P1 := hid o1
    have P2 := hid o2
    replace PF := hid PF
    clear o1 o2
    have hat1 := at_any d s w1 R1 hd2 (by rw [hup_ents]; exact hdlen)
    rw [hup_ents] at hat1
    obtain ⟨f1, f2⟩ := atE_find (rem t to a.data.toList y d).ents s.data.toList
    obtain ⟨k', ha'⟩ : ∃ k', atE (rem t to a.data.toList y d).ents s.data.toList = some k' := by
     cases e : atE (rem t to a.data.toList y d).ents s.data.toList with
     | none => exact absurd ((f1.1 e).symm.trans hfu) (by simp)
     | some k' => exact ⟨k', rfl⟩
    obtain ⟨x', fx', -, hk', her'⟩ := f2 k' ha'
    rw [show atI (rem t to a.data.toList y d).ents s.data.toList = (k' : Int) by unfold atI; rw [ha']] at hat1
    have hwo := without_any d k' w1 R1 hd2 (by rw [hup_ents]; exact hdlen) (by rw [hup_ents]; exact hk')
    rw [hup_ents, ← her', hup_setEnts] at hwo
    have Hat3 := hid hat1
    have Hwo := hid hwo
    clear R1 hat1 hwo f1 f2 ha' fx' her' hfu
    go_wp2_with (first | (go_at_call 121; (with_reducible refine Hat3.out.mono ?_); rintro e w' ⟨rfl, rfl⟩))
    refine Hwo.out.mono ?_
    rintro e w2 ⟨rfl, own2, R2, o1, o2, F2⟩
    obtain ⟨p2, cap2, -, -, -, -, -, -, -, -, -, c92, hl12, hl22, he2⟩ := R2.cells to ht2
    rw [hup_ents] at c92 hl12 he2
    have N2 := hid (EntsAt.news he2)
    have top2 := R2.top
    have fz2 := R2.frozen (to * 10 + 9)
    obtain ⟨hlA, hlB⟩ := R2.lt
    have hne := R2.ne
    have i8 : (0 : Int) ≤ (to : Int) := by omega
    have i9 : (to : Int) < 201 := by omega
    have HR2 := hid R2
    have O1 := hid o1
    have O2 := hid o2
    have HF2 := hid F2
    unfold maxLen at hl22
    clear R2 he2 o1 o2 F2 Hi1 Hi2 Hnm Hat1 Hat2 Hat3 Hwo Hwi
    obtain ⟨U2, hU2⟩ : ∃ U2, setEnts (rem t to a.data.toList y) d (erE ((rem t to a.data.toList y) d).ents s.data.toList) = U2 := ⟨_, rfl⟩
    rw [hU2] at c92 hl12 N2 HR2
    have hl40 : (U2 to).ents.length ≤ 40 := by
     rw [← hU2, setEnts_ents]
     split
     ·have := erE_le ((rem t to a.data.toList y) d).ents s.data.toList
      omega
     ·exact hlenu
    have HU2 := hid hU2
    clear hU2
    generalize hll : (U2 to).ents = l at c92 hl12 N2 hl40
    have HLL := hid hll
    clear hll
    go_wp2_with fail
    refine regionU (fun w' => w'.cell? ⟨A, 0, none⟩ = some (.slice (some ⟨B, 0, none⟩) 201 201) ∧ w'.cell? ⟨B, to * 10 + 9, none⟩ = some (.slice p2 l.length cap2)) 22 (by kernel_rfl) (by exact ⟨top2, c92⟩) (fun hHeld => ?_)
    refine takeU (oi := ?oi1e) (v := ?v1e) 0 ?hi1e (by kernel_rfl) ?hQ1e ?hy1e (by assumption) ?h1e
    case hi1e => simp only [jD, jE, jF]; exact rfl
    case hQ1e => exact fun _ _ _ h => h
    case hy1e => (refine Or.inl ⟨by rfl, ?_⟩; intro w' hSw; (try dsimp only at hSw); obtain ⟨hS1, hS2⟩ := hSw; go_simp; (try with_reducible rfl))
    simp only [Act.put, jA, jB, jC]
    refine takeU (oi := ?oi2e) (v := ?v2e) 1 ?hi2e (by kernel_rfl) ?hQ2e ?hy2e (by assumption) ?h2e
    case hi2e => simp only [jD, jE, jF]; exact rfl
    case hQ2e => exact fun _ _ _ h => h
    case hy2e => (refine Or.inl ⟨by rfl, ?_⟩; intro w' hSw; (try dsimp only at hSw); obtain ⟨hS1, hS2⟩ := hSw; go_simp; (try with_reducible rfl))
    simp only [Act.put, jA, jB, jC]
    refine takeU (oi := ?oi3e) (v := ?v3e) 2 ?hi3e (by kernel_rfl) ?hQ3e ?hy3e (by assumption) ?h3e
    case hi3e => simp only [jD, jE, jF]; exact rfl
    case hQ3e => exact fun _ _ _ h => h
    case hy3e => (refine Or.inl ⟨by rfl, ?_⟩; intro w' hSw; (try dsimp only at hSw); obtain ⟨hS1, hS2⟩ := hSw; go_simp; (try with_reducible rfl))
    simp only [Act.put, jA, jB, jC]
    refine takeU (oi := ?oi4e) (v := ?v4e) 3 ?hi4e (by kernel_rfl) ?hQ4e ?hy4e (by assumption) ?h4e
    case hi4e => simp only [jD, jE, jF]; exact rfl
    case hQ4e => exact fun _ _ _ h => h
    case hy4e => (refine Or.inl ⟨by rfl, ?_⟩; intro w' hSw; (try dsimp only at hSw); obtain ⟨hS1, hS2⟩ := hSw; go_simp; (try with_reducible rfl))
    simp only [Act.put, jA, jB, jC]
    refine takeU (oi := ?oi5e) (v := ?v5e) 4 ?hi5e (by kernel_rfl) ?hQ5e ?hy5e (by assumption) ?h5e
    case hi5e => simp only [jD, jE, jF]; exact rfl
    case hQ5e => exact fun _ _ _ h => h
    case hy5e => (refine Or.inl ⟨by rfl, ?_⟩; intro w' hSw; (try dsimp only at hSw); obtain ⟨hS1, hS2⟩ := hSw; go_simp; (try with_reducible rfl))
    simp only [Act.put, jA, jB, jC]
    refine takeU (oi := ?oi6e) (v := ?v6e) 6 ?hi6e (by kernel_rfl) ?hQ6e ?hy6e (by assumption) ?h6e
    case hi6e => simp only [jD, jE, jF]; exact rfl
    case hQ6e => exact fun _ _ _ h => h
    case hy6e => (refine Or.inl ⟨by rfl, ?_⟩; intro w' hSw; (try dsimp only at hSw); obtain ⟨hS1, hS2⟩ := hSw; go_simp; (try with_reducible rfl))
    simp only [Act.put, jA, jB, jC]
    refine takeU (oi := ?oi7e) (v := ?v7e) 7 ?hi7e (by kernel_rfl) ?hQ7e ?hy7e (by assumption) ?h7e
    case hi7e => simp only [jD, jE, jF]; exact rfl
    case hQ7e => exact fun _ _ _ h => h
    case hy7e => (refine Or.inl ⟨by rfl, ?_⟩; intro w' hSw; (try dsimp only at hSw); obtain ⟨hS1, hS2⟩ := hSw; go_simp; (try with_reducible rfl))
    simp only [Act.put, jA, jB, jC]
    refine takeU (oi := ?oi8e) (v := ?v8e) 8 ?hi8e (by kernel_rfl) ?hQ8e ?hy8e (by assumption) ?h8e
    case hi8e => simp only [jD, jE, jF]; exact rfl
    case hQ8e => exact fun _ _ _ h => h
    case hy8e => (refine Or.inl ⟨by rfl, ?_⟩; intro w' hSw; (try dsimp only at hSw); obtain ⟨hS1, hS2⟩ := hSw; go_simp; (try with_reducible rfl))
    simp only [Act.put, jA, jB, jC]
    refine takeU (oi := ?oi9e) (v := ?v9e) 9 ?hi9e (by kernel_rfl) ?hQ9e ?hy9e (by assumption) ?h9e
    case hi9e => simp only [jD, jE, jF]; exact rfl
    case hQ9e => exact fun _ _ _ h => h
    case hy9e => (refine Or.inl ⟨by rfl, ?_⟩; intro w' hSw; (try dsimp only at hSw); obtain ⟨hS1, hS2⟩ := hSw; go_simp; (try with_reducible rfl))
    simp only [Act.put, jA, jB, jC]
    refine takeU (oi := ?oi10e) (v := ?v10e) 10 ?hi10e (by kernel_rfl) ?hQ10e ?hy10e (by assumption) ?h10e
    case hi10e => simp only [jD, jE, jF]; exact rfl
    case hQ10e => exact fun _ _ _ h => h
    case hy10e => (refine Or.inl ⟨by rfl, ?_⟩; intro w' hSw; (try dsimp only at hSw); obtain ⟨hS1, hS2⟩ := hSw; go_simp; (try with_reducible rfl))
    simp only [Act.put, jA, jB, jC]
    refine takeU (oi := ?oi11e) (v := ?v11e) 11 ?hi11e (by kernel_rfl) ?hQ11e ?hy11e (by assumption) ?h11e
    case hi11e => simp only [jD, jE, jF]; exact rfl
    case hQ11e => exact fun _ _ _ h => h
    case hy11e => (refine Or.inl ⟨by rfl, ?_⟩; intro w' hSw; (try dsimp only at hSw); obtain ⟨hS1, hS2⟩ := hSw; go_simp; (try with_reducible rfl))
    simp only [Act.put, jA, jB, jC]
    refine takeU (oi := ?oi12e) (v := ?v12e) 12 ?hi12e (by kernel_rfl) ?hQ12e ?hy12e (by assumption) ?h12e
    case hi12e => simp only [jD, jE, jF]; exact rfl
    case hQ12e => exact fun _ _ _ h => h
    case hy12e => (refine Or.inl ⟨by rfl, ?_⟩; intro w' hSw; (try dsimp only at hSw); obtain ⟨hS1, hS2⟩ := hSw; go_simp; (try with_reducible rfl))
    simp only [Act.put, jA, jB, jC]
    refine takeU (oi := ?oi13e) (v := ?v13e) 13 ?hi13e (by kernel_rfl) ?hQ13e ?hy13e (by assumption) ?h13e
    case hi13e => simp only [jD, jE, jF]; exact rfl
    case hQ13e => exact fun _ _ _ h => h
    case hy13e => (refine Or.inl ⟨by rfl, ?_⟩; intro w' hSw; (try dsimp only at hSw); obtain ⟨hS1, hS2⟩ := hSw; go_simp; (try with_reducible rfl))
    simp only [Act.put, jA, jB, jC]
    refine takeU (oi := ?oi14e) (v := ?v14e) 15 ?hi14e (by kernel_rfl) ?hQ14e ?hy14e (by assumption) ?h14e
    case hi14e => simp only [jD, jE, jF]; exact rfl
    case hQ14e => exact fun _ _ _ h => h
    case hy14e => (refine Or.inl ⟨by rfl, ?_⟩; intro w' hSw; (try dsimp only at hSw); obtain ⟨hS1, hS2⟩ := hSw; go_simp; (try with_reducible rfl))
    simp only [Act.put, jA, jB, jC]
    refine takeU (oi := ?oi15e) (v := ?v15e) 16 ?hi15e (by kernel_rfl) ?hQ15e ?hy15e (by assumption) ?h15e
    case hi15e => simp only [jD, jE, jF]; exact rfl
    case hQ15e => exact fun _ _ _ h => h
    case hy15e => (refine Or.inl ⟨by rfl, ?_⟩; intro w' hSw; (try dsimp only at hSw); obtain ⟨hS1, hS2⟩ := hSw; go_simp; (try with_reducible rfl))
    simp only [Act.put, jA, jB, jC]
    refine takeU (oi := ?oi16e) (v := ?v16e) 17 ?hi16e (by kernel_rfl) ?hQ16e ?hy16e (by assumption) ?h16e
    case hi16e => simp only [jD, jE, jF]; exact rfl
    case hQ16e => exact fun _ _ _ h => h
    case hy16e => (refine Or.inl ⟨by rfl, ?_⟩; intro w' hSw; (try dsimp only at hSw); obtain ⟨hS1, hS2⟩ := hSw; go_simp; (try with_reducible rfl))
    simp only [Act.put, jA, jB, jC]
    refine readyU [5, 18] (by kernel_rfl) (by simp) ?_
    refine EachU.cons (o := ?o17e) ?ho17e (fun K hK => ?_) ?_
    case ho17e => simp only [jD, jE, jF]; exact rfl
    ·skip
     go_simp
     refine hK.out _ _ (fun _ => ⟨((Fr.refl (fun _ => False) w2).alloc _).cell top2 id, ((Fr.refl (fun _ => False) w2).alloc _).cell c92 id⟩) (fun hH => ?_)
     replace hHeld := hH (by decide)
     clear hH
     clear hK K
     (try simp only [Act.put, jA, jB, jC])
     refine readyU [14, 18] (by kernel_rfl) (by simp) ?_
     refine EachU.cons (o := ?o18e) ?ho18e (fun K hK => ?_) ?_
     case ho18e => simp only [jD, jE, jF]; exact rfl
     ·skip
      refine step_append_any (by rfl) _ _ (by rfl) (by rfl) w2.heap.size w2.heap.size 0 0 [] (by simp [Act.eval, Act.put]) ((World.ownsRow_made w2 #[] 0 (Nat.le_refl _) (by decide) rfl).drew) p2 l.length cap2 (by simp [Act.eval, Act.put]) (entC l) (N2.out.fr ((Fr.refl (fun _ => False) w2).alloc _).drew fun _ _ _ => id) (by decide) (by omega) (by simp; try omega) ?_
      intro g3 cap3 w3 hown3 hgrow3 hat3 hlt3
      simp only [Nat.zero_add, List.nil_append] at hown3 ⊢
      have hF3 : Fr (fun _ => False) w2 w3 := ((Fr.refl (fun _ => False) w2).alloc _).drew.into hgrow3 (by omega)
      have hb3 := (hown3.lt g3 rfl).1
      have ht3 := hF3.cell top2 id
      have c93 := hF3.cell c92 id
      have hlA3 := cell_lt ht3
      have hlB3 := cell_lt c93
      refine hK.out _ _ (fun _ => ⟨ht3, c93⟩) (fun hH => ?_)
      replace hHeld := hH (by decide)
      clear hH
      clear hK K
      (try simp only [Act.put, jA, jB, jC])
      refine readyU [18] (by kernel_rfl) (by simp) ?_
      refine EachU.cons (o := ?o19e) ?ho19e (fun K hK => ?_) ?_
      case ho19e => simp only [jD, jE, jF]; exact rfl
      rotate_left
      ·exact EachU.nil
      go_simp
      refine hK.out _ _ (fun _ => ⟨(hF3.alloc _).cell top2 id, (hF3.alloc _).cell c92 id⟩) (fun hH => ?_)
      replace hHeld := hH (by decide)
      clear hH
      clear hK K
      (try simp only [Act.put, jA, jB, jC])
      refine readyU [19] (by kernel_rfl) (by simp) ?_
      refine EachU.cons (o := ?o20e) ?ho20e (fun K hK => ?_) ?_
      case ho20e => simp only [jD, jE, jF]; exact rfl
      rotate_left
      ·exact EachU.nil
      refine step_append_any (by rfl) _ _ (by rfl) (by rfl) w2.heap.size g3 l.length cap3 (entC l) (by simp [Act.eval, Act.put]) (hown3.alloc _) (some ⟨w3.heap.size, 0, none⟩) 1 1 (by simp [Act.eval, Act.put]) [.string a, .int .i64 x] (news_one w3 a x) (by omega) (by decide) (by have := hF3.size; simp; omega) ?_
      intro g5 cap5 w5 hown5 hgrow5 hat5 hlt5
      have hF5 : Fr (fun _ => False) w2 w5 := (hF3.alloc _).into hgrow5 hb3
      have hz5 := hF5.frozen c92 fz2 id
      have hc5 := hF5.cell c92 id
      have ht5 := hF5.cell top2 id
      refine hK.out _ _ (fun _ => ⟨ht5, hc5⟩) (fun hH => ?_)
      replace hHeld := hH (by decide)
      clear hH
      clear hK K
      (try simp only [Act.put, jA, jB, jC])
      refine readyU [20] (by kernel_rfl) (by simp) ?_
      refine EachU.cons (o := ?o21e) ?ho21e (fun K hK => ?_) ?_
      case ho21e => simp only [jD, jE, jF]; exact rfl
      rotate_left
      ·exact EachU.nil
      go_simp
      refine hK.out _ _ (fun _ => ⟨ht5, hc5⟩) (fun hH => ?_)
      replace hHeld := hH (by decide)
      clear hH
      clear hK K
      (try simp only [Act.put, jA, jB, jC])
      refine readyU [21] (by kernel_rfl) (by simp) ?_
      refine EachU.cons (o := ?o22e) ?ho22e (fun K hK => ?_) ?_
      case ho22e => simp only [jD, jE, jF]; exact rfl
      rotate_left
      ·exact EachU.nil
      go_simp
      refine hK.out _ _ (fun _ => ⟨ht5, hc5⟩) (fun hH => ?_)
      replace hHeld := hH (by decide)
      clear hH
      clear hK K
      (try simp only [Act.put, jA, jB, jC])
      refine readyU [22] (by kernel_rfl) (by simp) ?_
      refine EachU.cons (o := ?o23e) ?ho23e (fun K hK => ?_) ?_
      case ho23e => simp only [jD, jE, jF]; exact rfl
      rotate_left
      ·exact EachU.nil
      go_simp
      refine hK.out _ _ (fun h => absurd rfl h) (fun hHeld => ?_)
      clear hK K
      (try simp only [Act.put, jA, jB, jC])
      refine doneU (by kernel_rfl) ?_ _
      have hp := pushed (d := to) (x := x) HR2.out ht2 hF5 hown5
      rw [hup_setEnts] at hp
      obtain ⟨own3, R3, q1, q2, F3⟩ := hp
      generalize w5.setCell _ _ = W3 at R3 F3 ⊢
      have top3 := R3.top
      obtain ⟨_, _, -, z1, -, -, -, -, z6, z7, -⟩ := R3.cells x hx.2
      rw [hup_kind, setEnts_kind, ← HU2.out, setEnts_kind, rem_kind] at z1
      rw [hup_holds] at z6
      have z6a : W3.cell? ⟨B, x * 10 + 6, none⟩ = some (.int .i64 (((t x).holds : Int) + 1)) := z6
      have zf6 := R3.frozen (x * 10 + 6)
      have zf7 := R3.frozen (x * 10 + 7)
      have R4 := R3.setHolds x (t x).holds hx.2
      have e := mv_end0 (u := (rem t to a.data.toList y)) (d := d) (to := to) (x := x) (k := (t x).holds + 1) (h := (t x).holds) (n := s.data.toList) (nm := a.data.toList) (by rw [rem_kind]; exact ne_of_beq_false qx) (rem_holds _ _ _ _ _)
      rw [HU2.out, HLL.out] at e
      have R4' : RT (W3.setCell ⟨B, x * 10 + 6, none⟩ (.int .i64 (t x).holds)) A B own3 (mv (rem t to a.data.toList y) d s.data.toList to a.data.toList x) := by rw [← e]; exact R4
      have HF3 := hid (F3.setB (x * 10 + 6) (.int .i64 (t x).holds))
      have Hg := hid (gone_any _ R4' Hsd.out)
      have HQ1 := hid q1
      have HQ2 := hid q2
      clear R3 R4 R4' F3 e q1 q2 z6
      go_wp2_with (go_at_call 100; refine Hg.out.mono ?_; rintro e w4 ⟨rfl, R5, F5⟩)
      go_ret
      refine ⟨ret_int (by rw [Hr.out]; rfl), ?_⟩
      rw [Hr.out]
      exact Rt.then (fun _ => id) (fun _ => .inl) F1'.out (Rt.then P1.out P2.out PF.out (Rt.then O1.out O2.out HF2.out ⟨own3, R5, HQ1.out, HQ2.out, HF3.out.trans F5⟩))
     refine EachU.cons (o := ?o24e) ?ho24e (fun K hK => ?_) ?_
     case ho24e => simp only [jD, jE, jF]; exact rfl
     rotate_left
     ·exact EachU.nil
     go_simp
     refine hK.out _ _ (fun _ => ⟨(((Fr.refl (fun _ => False) w2).alloc _).alloc _).cell top2 id, (((Fr.refl (fun _ => False) w2).alloc _).alloc _).cell c92 id⟩) (fun hH => ?_)
     replace hHeld := hH (by decide)
     clear hH
     clear hK K
     (try simp only [Act.put, jA, jB, jC])
     refine readyU [14] (by kernel_rfl) (by simp) ?_
     refine EachU.cons (o := ?o25e) ?ho25e (fun K hK => ?_) ?_
     case ho25e => simp only [jD, jE, jF]; exact rfl
     rotate_left
     ·exact EachU.nil
     refine step_append_any (by rfl) _ _ (by rfl) (by rfl) w2.heap.size w2.heap.size 0 0 [] (by simp [Act.eval, Act.put]) (((World.ownsRow_made w2 #[] 0 (Nat.le_refl _) (by decide) rfl).alloc _).drew) p2 l.length cap2 (by simp [Act.eval, Act.put]) (entC l) (N2.out.fr (((Fr.refl (fun _ => False) w2).alloc _).alloc _).drew fun _ _ _ => id) (by decide) (by omega) (by simp; try omega) ?_
     intro g3 cap3 w3 hown3 hgrow3 hat3 hlt3
     simp only [Nat.zero_add, List.nil_append] at hown3 ⊢
     have hF3 : Fr (fun _ => False) w2 w3 := (((Fr.refl (fun _ => False) w2).alloc _).alloc _).drew.into hgrow3 (by omega)
     have hb3 := (hown3.lt g3 rfl).1
     have hN3 : News w3 (some ⟨w2.heap.size + 1, 0, none⟩) 1 [.string a, .int .i64 x] := (news_one2 w2 _ a x).drew.fr (Fr.of_grown hgrow3) (fun g off e => by cases e; simp)
     have ht3 := hF3.cell top2 id
     have c93 := hF3.cell c92 id
     have hlA3 := cell_lt ht3
     have hlB3 := cell_lt c93
     refine hK.out _ _ (fun _ => ⟨ht3, c93⟩) (fun hH => ?_)
     replace hHeld := hH (by decide)
     clear hH
     clear hK K
     (try simp only [Act.put, jA, jB, jC])
     refine readyU [19] (by kernel_rfl) (by simp) ?_
     refine EachU.cons (o := ?o26e) ?ho26e (fun K hK => ?_) ?_
     case ho26e => simp only [jD, jE, jF]; exact rfl
     rotate_left
     ·exact EachU.nil
     refine step_append_any (by rfl) _ _ (by rfl) (by rfl) w2.heap.size g3 l.length cap3 (entC l) (by simp [Act.eval, Act.put]) hown3 _ 1 1 (by simp [Act.eval, Act.put]) [.string a, .int .i64 x] hN3 (by omega) (by decide) hF3.size ?_
     intro g5 cap5 w5 hown5 hgrow5 hat5 hlt5
     have hF5 : Fr (fun _ => False) w2 w5 := hF3.into hgrow5 hb3
     have hz5 := hF5.frozen c92 fz2 id
     have hc5 := hF5.cell c92 id
     have ht5 := hF5.cell top2 id
     refine hK.out _ _ (fun _ => ⟨ht5, hc5⟩) (fun hH => ?_)
     replace hHeld := hH (by decide)
     clear hH
     clear hK K
     (try simp only [Act.put, jA, jB, jC])
     refine readyU [20] (by kernel_rfl) (by simp) ?_
     refine EachU.cons (o := ?o27e) ?ho27e (fun K hK => ?_) ?_
     case ho27e => simp only [jD, jE, jF]; exact rfl
     rotate_left
     ·exact EachU.nil
     go_simp
     refine hK.out _ _ (fun _ => ⟨ht5, hc5⟩) (fun hH => ?_)
     replace hHeld := hH (by decide)
     clear hH
     clear hK K
     (try simp only [Act.put, jA, jB, jC])
     refine readyU [21] (by kernel_rfl) (by simp) ?_
     refine EachU.cons (o := ?o28e) ?ho28e (fun K hK => ?_) ?_
     case ho28e => simp only [jD, jE, jF]; exact rfl
     rotate_left
     ·exact EachU.nil
     go_simp
     refine hK.out _ _ (fun _ => ⟨ht5, hc5⟩) (fun hH => ?_)
     replace hHeld := hH (by decide)
     clear hH
     clear hK K
     (try simp only [Act.put, jA, jB, jC])
     refine readyU [22] (by kernel_rfl) (by simp) ?_
     refine EachU.cons (o := ?o29e) ?ho29e (fun K hK => ?_) ?_
     case ho29e => simp only [jD, jE, jF]; exact rfl
     rotate_left
     ·exact EachU.nil
     go_simp
     refine hK.out _ _ (fun h => absurd rfl h) (fun hHeld => ?_)
     clear hK K
     (try simp only [Act.put, jA, jB, jC])
     refine doneU (by kernel_rfl) ?_ _
     have hp := pushed (d := to) (x := x) HR2.out ht2 hF5 hown5
     rw [hup_setEnts] at hp
     obtain ⟨own3, R3, q1, q2, F3⟩ := hp
     generalize w5.setCell _ _ = W3 at R3 F3 ⊢
     have top3 := R3.top
     obtain ⟨_, _, -, z1, -, -, -, -, z6, z7, -⟩ := R3.cells x hx.2
     rw [hup_kind, setEnts_kind, ← HU2.out, setEnts_kind, rem_kind] at z1
     rw [hup_holds] at z6
     have z6a : W3.cell? ⟨B, x * 10 + 6, none⟩ = some (.int .i64 (((t x).holds : Int) + 1)) := z6
     have zf6 := R3.frozen (x * 10 + 6)
     have zf7 := R3.frozen (x * 10 + 7)
     have R4 := R3.setHolds x (t x).holds hx.2
     have e := mv_end0 (u := (rem t to a.data.toList y)) (d := d) (to := to) (x := x) (k := (t x).holds + 1) (h := (t x).holds) (n := s.data.toList) (nm := a.data.toList) (by rw [rem_kind]; exact ne_of_beq_false qx) (rem_holds _ _ _ _ _)
     rw [HU2.out, HLL.out] at e
     have R4' : RT (W3.setCell ⟨B, x * 10 + 6, none⟩ (.int .i64 (t x).holds)) A B own3 (mv (rem t to a.data.toList y) d s.data.toList to a.data.toList x) := by rw [← e]; exact R4
     have HF3 := hid (F3.setB (x * 10 + 6) (.int .i64 (t x).holds))
     have Hg := hid (gone_any _ R4' Hsd.out)
     have HQ1 := hid q1
     have HQ2 := hid q2
     clear R3 R4 R4' F3 e q1 q2 z6
     go_wp2_with (go_at_call 100; refine Hg.out.mono ?_; rintro e w4 ⟨rfl, R5, F5⟩)
     go_ret
     refine ⟨ret_int (by rw [Hr.out]; rfl), ?_⟩
     rw [Hr.out]
     exact Rt.then (fun _ => id) (fun _ => .inl) F1'.out (Rt.then P1.out P2.out PF.out (Rt.then O1.out O2.out HF2.out ⟨own3, R5, HQ1.out, HQ2.out, HF3.out.trans F5⟩))
    refine EachU.cons (o := ?o30e) ?ho30e (fun K hK => ?_) ?_
    case ho30e => simp only [jD, jE, jF]; exact rfl
    rotate_left
    ·exact EachU.nil
    go_simp
    refine hK.out _ _ (fun _ => ⟨((Fr.refl (fun _ => False) w2).alloc _).cell top2 id, ((Fr.refl (fun _ => False) w2).alloc _).cell c92 id⟩) (fun hH => ?_)
    replace hHeld := hH (by decide)
    clear hH
    clear hK K
    (try simp only [Act.put, jA, jB, jC])
    refine readyU [5] (by kernel_rfl) (by simp) ?_
    refine EachU.cons (o := ?o31e) ?ho31e (fun K hK => ?_) ?_
    case ho31e => simp only [jD, jE, jF]; exact rfl
    rotate_left
    ·exact EachU.nil
    go_simp
    refine hK.out _ _ (fun _ => ⟨(((Fr.refl (fun _ => False) w2).alloc _).alloc _).cell top2 id, (((Fr.refl (fun _ => False) w2).alloc _).alloc _).cell c92 id⟩) (fun hH => ?_)
    replace hHeld := hH (by decide)
    clear hH
    clear hK K
    (try simp only [Act.put, jA, jB, jC])
    refine readyU [14] (by kernel_rfl) (by simp) ?_
    refine EachU.cons (o := ?o32e) ?ho32e (fun K hK => ?_) ?_
    case ho32e => simp only [jD, jE, jF]; exact rfl
    rotate_left
    ·exact EachU.nil
    refine step_append_any (by rfl) _ _ (by rfl) (by rfl) w2.heap.size (w2.heap.size + 1) 0 0 [] (by simp [Act.eval, Act.put]) ((made2 w2 _).drew) p2 l.length cap2 (by simp [Act.eval, Act.put]) (entC l) (N2.out.fr (((Fr.refl (fun _ => False) w2).alloc _).alloc _).drew fun _ _ _ => id) (by decide) (by omega) (by simp; try omega) ?_
    intro g3 cap3 w3 hown3 hgrow3 hat3 hlt3
    simp only [Nat.zero_add, List.nil_append] at hown3 ⊢
    have hF3 : Fr (fun _ => False) w2 w3 := (((Fr.refl (fun _ => False) w2).alloc _).alloc _).drew.into hgrow3 (by omega)
    have hb3 := (hown3.lt g3 rfl).1
    have hN3 : News w3 (some ⟨w2.heap.size, 0, none⟩) 1 [.string a, .int .i64 x] := ((news_one w2 a x).fr ((Fr.refl (fun _ => False) _).alloc _) (fun _ _ _ => id)).drew.fr (Fr.of_grown hgrow3) (fun g off e => by cases e; simp)
    have ht3 := hF3.cell top2 id
    have c93 := hF3.cell c92 id
    have hlA3 := cell_lt ht3
    have hlB3 := cell_lt c93
    refine hK.out _ _ (fun _ => ⟨ht3, c93⟩) (fun hH => ?_)
    replace hHeld := hH (by decide)
    clear hH
    clear hK K
    (try simp only [Act.put, jA, jB, jC])
    refine readyU [19] (by kernel_rfl) (by simp) ?_
    refine EachU.cons (o := ?o33e) ?ho33e (fun K hK => ?_) ?_
    case ho33e => simp only [jD, jE, jF]; exact rfl
    rotate_left
    ·exact EachU.nil
    refine step_append_any (by rfl) _ _ (by rfl) (by rfl) w2.heap.size g3 l.length cap3 (entC l) (by simp [Act.eval, Act.put]) hown3 _ 1 1 (by simp [Act.eval, Act.put]) [.string a, .int .i64 x] hN3 (by omega) (by decide) hF3.size ?_
    intro g5 cap5 w5 hown5 hgrow5 hat5 hlt5
    have hF5 : Fr (fun _ => False) w2 w5 := hF3.into hgrow5 hb3
    have hz5 := hF5.frozen c92 fz2 id
    have hc5 := hF5.cell c92 id
    have ht5 := hF5.cell top2 id
    refine hK.out _ _ (fun _ => ⟨ht5, hc5⟩) (fun hH => ?_)
    replace hHeld := hH (by decide)
    clear hH
    clear hK K
    (try simp only [Act.put, jA, jB, jC])
    refine readyU [20] (by kernel_rfl) (by simp) ?_
    refine EachU.cons (o := ?o34e) ?ho34e (fun K hK => ?_) ?_
    case ho34e => simp only [jD, jE, jF]; exact rfl
    rotate_left
    ·exact EachU.nil
    go_simp
    refine hK.out _ _ (fun _ => ⟨ht5, hc5⟩) (fun hH => ?_)
    replace hHeld := hH (by decide)
    clear hH
    clear hK K
    (try simp only [Act.put, jA, jB, jC])
    refine readyU [21] (by kernel_rfl) (by simp) ?_
    refine EachU.cons (o := ?o35e) ?ho35e (fun K hK => ?_) ?_
    case ho35e => simp only [jD, jE, jF]; exact rfl
    rotate_left
    ·exact EachU.nil
    go_simp
    refine hK.out _ _ (fun _ => ⟨ht5, hc5⟩) (fun hH => ?_)
    replace hHeld := hH (by decide)
    clear hH
    clear hK K
    (try simp only [Act.put, jA, jB, jC])
    refine readyU [22] (by kernel_rfl) (by simp) ?_
    refine EachU.cons (o := ?o36e) ?ho36e (fun K hK => ?_) ?_
    case ho36e => simp only [jD, jE, jF]; exact rfl
    rotate_left
    ·exact EachU.nil
    go_simp
    refine hK.out _ _ (fun h => absurd rfl h) (fun hHeld => ?_)
    clear hK K
    (try simp only [Act.put, jA, jB, jC])
    refine doneU (by kernel_rfl) ?_ _
    have hp := pushed (d := to) (x := x) HR2.out ht2 hF5 hown5
    rw [hup_setEnts] at hp
    obtain ⟨own3, R3, q1, q2, F3⟩ := hp
    generalize w5.setCell _ _ = W3 at R3 F3 ⊢
    have top3 := R3.top
    obtain ⟨_, _, -, z1, -, -, -, -, z6, z7, -⟩ := R3.cells x hx.2
    rw [hup_kind, setEnts_kind, ← HU2.out, setEnts_kind, rem_kind] at z1
    rw [hup_holds] at z6
    have z6a : W3.cell? ⟨B, x * 10 + 6, none⟩ = some (.int .i64 (((t x).holds : Int) + 1)) := z6
    have zf6 := R3.frozen (x * 10 + 6)
    have zf7 := R3.frozen (x * 10 + 7)
    have R4 := R3.setHolds x (t x).holds hx.2
    have e := mv_end0 (u := (rem t to a.data.toList y)) (d := d) (to := to) (x := x) (k := (t x).holds + 1) (h := (t x).holds) (n := s.data.toList) (nm := a.data.toList) (by rw [rem_kind]; exact ne_of_beq_false qx) (rem_holds _ _ _ _ _)
    rw [HU2.out, HLL.out] at e
    have R4' : RT (W3.setCell ⟨B, x * 10 + 6, none⟩ (.int .i64 (t x).holds)) A B own3 (mv (rem t to a.data.toList y) d s.data.toList to a.data.toList x) := by rw [← e]; exact R4
    have HF3 := hid (F3.setB (x * 10 + 6) (.int .i64 (t x).holds))
    have Hg := hid (gone_any _ R4' Hsd.out)
    have HQ1 := hid q1
    have HQ2 := hid q2
    clear R3 R4 R4' F3 e q1 q2 z6
    go_wp2_with (go_at_call 100; refine Hg.out.mono ?_; rintro e w4 ⟨rfl, R5, F5⟩)
    go_ret
    refine ⟨ret_int (by rw [Hr.out]; rfl), ?_⟩
    rw [Hr.out]
    exact Rt.then (fun _ => id) (fun _ => .inl) F1'.out (Rt.then P1.out P2.out PF.out (Rt.then O1.out O2.out HF2.out ⟨own3, R5, HQ1.out, HQ2.out, HF3.out.trans F5⟩))
   ·skip
    rw [if_pos ((show ((t x).kind = 1) ≠ ((t y).kind = 1) from fun e => ne_of_beq_false qx (e.mpr (eq_of_beq qy))))] at hth
    have Hr := hid (show r = (t, 7) by rw [Hre.out, hth, if_pos (by decide)])
    have HD := hid H.out.drew
    clear h hs hth
    go_enter Tryz.func93, Tryz.ntmps93
    go_wp2_with (first | (go_at_call 99; (with_reducible refine (Hi1.out ()).mono ?_); rintro e w' ⟨rfl, rfl⟩) | (go_at_call 99; (with_reducible refine (Hi2.out ()).mono ?_); rintro e w' ⟨rfl, rfl⟩) | (go_at_call 121; (with_reducible refine (Hat1.out ()).mono ?_); rintro e w' ⟨rfl, rfl⟩) | (go_at_call 125; refine Hnm.out.mono ?_; rintro e w' ⟨rfl, rfl⟩) | (go_at_call 126; refine Hwi.out.mono ?_; rintro e w' ⟨rfl, rfl⟩) | (go_at_call 121; (with_reducible refine (Hat2.out ()).mono ?_); rintro e w' ⟨rfl, rfl⟩))
    go_region
    go_wp2
    go_ret
    exact ⟨ret_int (by rw [Hr.out]; rfl), by rw [Hr.out]; exact ⟨own, HD.out, fun _ => id, fun _ => .inl, (Fr.refl _ _).drew⟩⟩
  ·cases qy : ((t y).kind == 1)
   ·skip
    rw [if_pos ((show ((t x).kind = 1) ≠ ((t y).kind = 1) from fun e => ne_of_beq_false qy (e.mp (eq_of_beq qx))))] at hth
    have Hr := hid (show r = (t, 7) by rw [Hre.out, hth, if_pos (by decide)])
    have HD := hid H.out.drew
    clear h hs hth
    go_enter Tryz.func93, Tryz.ntmps93
    go_wp2_with (first | (go_at_call 99; (with_reducible refine (Hi1.out ()).mono ?_); rintro e w' ⟨rfl, rfl⟩) | (go_at_call 99; (with_reducible refine (Hi2.out ()).mono ?_); rintro e w' ⟨rfl, rfl⟩) | (go_at_call 121; (with_reducible refine (Hat1.out ()).mono ?_); rintro e w' ⟨rfl, rfl⟩) | (go_at_call 125; refine Hnm.out.mono ?_; rintro e w' ⟨rfl, rfl⟩) | (go_at_call 126; refine Hwi.out.mono ?_; rintro e w' ⟨rfl, rfl⟩) | (go_at_call 121; (with_reducible refine (Hat2.out ()).mono ?_); rintro e w' ⟨rfl, rfl⟩))
    go_region
    go_wp2
    go_ret
    exact ⟨ret_int (by rw [Hr.out]; rfl), by rw [Hr.out]; exact ⟨own, HD.out, fun _ => id, fun _ => .inl, (Fr.refl _ _).drew⟩⟩
   ·skip
    rw [if_neg (fun e => e (propext ⟨fun _ => eq_of_beq qy, fun _ => eq_of_beq qx⟩))] at hth
    by_cases h0 : 0 < (t y).ents.length
    ·rw [if_pos (show (t y).ents ≠ [] from fun e => by rw [e] at h0; exact absurd h0 (by decide))] at hth
     have Hr := hid (show r = (t, 8) by rw [Hre.out, hth, if_pos (by decide)])
     have HD := hid H.out.drew
     clear h hs hth
     go_enter Tryz.func93, Tryz.ntmps93
     go_wp2_with (first | (go_at_call 99; (with_reducible refine (Hi1.out ()).mono ?_); rintro e w' ⟨rfl, rfl⟩) | (go_at_call 99; (with_reducible refine (Hi2.out ()).mono ?_); rintro e w' ⟨rfl, rfl⟩) | (go_at_call 121; (with_reducible refine (Hat1.out ()).mono ?_); rintro e w' ⟨rfl, rfl⟩) | (go_at_call 125; refine Hnm.out.mono ?_; rintro e w' ⟨rfl, rfl⟩) | (go_at_call 126; refine Hwi.out.mono ?_; rintro e w' ⟨rfl, rfl⟩) | (go_at_call 121; (with_reducible refine (Hat2.out ()).mono ?_); rintro e w' ⟨rfl, rfl⟩))
     go_region
     go_wp2
     go_ret
     exact ⟨ret_int (by rw [Hr.out]; rfl), by rw [Hr.out]; exact ⟨own, HD.out, fun _ => id, fun _ => .inl, (Fr.refl _ _).drew⟩⟩
    rw [if_neg (show ¬ (t y).ents ≠ [] from fun e => e (List.length_eq_zero_iff.1 (by omega)))] at hth
    have Hr := hid (show r = (goneP (mv (rem t to a.data.toList y) d s.data.toList to a.data.toList x), 0) by rw [Hre.out, hth, if_neg (fun h => h rfl), movedT_eq, Fy.out])
    have Hsd := hid (show Sd (mv (rem t to a.data.toList y) d s.data.toList to a.data.toList x) by
     have := sd_moved hs.sd hdi hti Kt.out Fx.out Hn.out (fun h => hw h.2) (by rw [Fy.out]; intro e; cases e; exact hyx rfl) (fun h => by rw [Fy.out] at h; cases h.1)
     rw [movedT_eq, Fy.out] at this
     exact this)
    have hbx := hb x
    have R0 := h.setHolds x ((t x).holds + 1) hx.2
    have R00 := RT.setPar (t := hup t x ((t x).holds + 1)) R0 y y hy.2 (by rw [hup_kind]; exact eq_of_beq qy)
    obtain ⟨W1, hW1⟩ : ∃ W1, ((w.setCell ⟨B, x * 10 + 6, none⟩ (.int .i64 (((t x).holds + 1 : Nat) : Int))).setCell ⟨B, y * 10 + 7, none⟩ (.int .i64 y)).drew = W1 := ⟨_, rfl⟩
    have R00 := R00.drew
    rw [hW1] at R00
    have F1 : Fr (· = B) w W1 := by rw [← hW1]; exact (((Fr.refl _ w).setB _ _).setB _ _).drew
    have HW1 := hid (show ((w.setCell ⟨B, x * 10 + 6, none⟩ (.int .i64 (((t x).holds : Int) + 1))).setCell ⟨B, y * 10 + 7, none⟩ (.int .i64 y)).drew = W1 from hW1)
    have R0' : RT W1 A B own (hup (setPar t y y) x ((t x).holds + 1)) := by rw [← hup_setPar]; exact R00
    have hwo := without_any to j W1 R0' ht2 (by rw [hup_ents, setPar_ents]; exact hs.sd.len to) (by rw [hup_ents, setPar_ents]; exact hj)
    rw [hup_ents, setPar_ents, ← Hery.out, hup_setEnts, rem_laid1] at hwo
    clear R00
    have hfx6 := h.frozen (x * 10 + 6)
    have hfy7 := h.frozen (y * 10 + 7)
    have hlB0 := h.lt.2
    have hlG0 := cell_lt u1
    have hneB := h.ne
    have Hwo := hid hwo
    have F1' := hid F1
    have hdlen := rem_len (to := to) (y := y) (nm := a.data.toList) hs.sd.len d
    have hlenu := rem_len (to := to) (y := y) (nm := a.data.toList) hs.sd.len to
    have hfu := rem_find (d := d) (n := s.data.toList) Fx.out Fy.out hyx
    clear hW1 R0 R0' hwo F1 h hs hth hw
    go_enter Tryz.func93, Tryz.ntmps93
    go_wp2_with (first | (go_at_call 99; (with_reducible refine (Hi1.out ()).mono ?_); rintro e w' ⟨rfl, rfl⟩) | (go_at_call 99; (with_reducible refine (Hi2.out ()).mono ?_); rintro e w' ⟨rfl, rfl⟩) | (go_at_call 121; (with_reducible refine (Hat1.out ()).mono ?_); rintro e w' ⟨rfl, rfl⟩) | (go_at_call 125; refine Hnm.out.mono ?_; rintro e w' ⟨rfl, rfl⟩) | (go_at_call 126; refine Hwi.out.mono ?_; rintro e w' ⟨rfl, rfl⟩) | (go_at_call 121; (with_reducible refine (Hat2.out ()).mono ?_); rintro e w' ⟨rfl, rfl⟩))
    go_region
    go_wp2_with fail
    rw [HW1.out]
    refine Hwo.out.mono ?_
    rintro e w1 ⟨rfl, own1, R1, o1, o2, PF⟩
    have P1 := hid o1
    have P2 := hid o2
    replace PF := hid PF
    clear o1 o2
    have hat1 := at_any d s w1 R1 hd2 (by rw [hup_ents]; exact hdlen)
    rw [hup_ents] at hat1
    obtain ⟨f1, f2⟩ := atE_find (rem t to a.data.toList y d).ents s.data.toList
    obtain ⟨k', ha'⟩ : ∃ k', atE (rem t to a.data.toList y d).ents s.data.toList = some k' := by
     cases e : atE (rem t to a.data.toList y d).ents s.data.toList with
     | none => exact absurd ((f1.1 e).symm.trans hfu) (by simp)
     | some k' => exact ⟨k', rfl⟩
    obtain ⟨x', fx', -, hk', her'⟩ := f2 k' ha'
    rw [show atI (rem t to a.data.toList y d).ents s.data.toList = (k' : Int) by unfold atI; rw [ha']] at hat1
    have hwo := without_any d k' w1 R1 hd2 (by rw [hup_ents]; exact hdlen) (by rw [hup_ents]; exact hk')
    rw [hup_ents, ← her', hup_setEnts] at hwo
    have Hat3 := hid hat1
    have Hwo := hid hwo
    clear R1 hat1 hwo f1 f2 ha' fx' her' hfu
    go_wp2_with (first | (go_at_call 121; (with_reducible refine Hat3.out.mono ?_); rintro e w' ⟨rfl, rfl⟩))
    refine Hwo.out.mono ?_
    rintro e w2 ⟨rfl, own2, R2, o1, o2, F2⟩
    obtain ⟨p2, cap2, -, -, -, -, -, -, -, -, -, c92, hl12, hl22, he2⟩ := R2.cells to ht2
    rw [hup_ents] at c92 hl12 he2
    have N2 := hid (EntsAt.news he2)
    have top2 := R2.top
    have fz2 := R2.frozen (to * 10 + 9)
    obtain ⟨hlA, hlB⟩ := R2.lt
    have hne := R2.ne
    have i8 : (0 : Int) ≤ (to : Int) := by omega
    have i9 : (to : Int) < 201 := by omega
    have HR2 := hid R2
    have O1 := hid o1
    have O2 := hid o2
    have HF2 := hid F2
    unfold maxLen at hl22
    clear R2 he2 o1 o2 F2 Hi1 Hi2 Hnm Hat1 Hat2 Hat3 Hwo Hwi
    obtain ⟨U2, hU2⟩ : ∃ U2, setEnts (rem t to a.data.toList y) d (erE ((rem t to a.data.toList y) d).ents s.data.toList) = U2 := ⟨_, rfl⟩
    rw [hU2] at c92 hl12 N2 HR2
    have hl40 : (U2 to).ents.length ≤ 40 := by
     rw [← hU2, setEnts_ents]
     split
     ·have := erE_le ((rem t to a.data.toList y) d).ents s.data.toList
      omega
     ·exact hlenu
    have HU2 := hid hU2
    clear hU2
    generalize hll : (U2 to).ents = l at c92 hl12 N2 hl40
    have HLL := hid hll
    clear hll
    go_wp2_with fail
    refine regionU (fun w' => w'.cell? ⟨A, 0, none⟩ = some (.slice (some ⟨B, 0, none⟩) 201 201) ∧ w'.cell? ⟨B, to * 10 + 9, none⟩ = some (.slice p2 l.length cap2)) 22 (by kernel_rfl) (by exact ⟨top2, c92⟩) (fun hHeld => ?_)
    refine takeU (oi := ?oi1f) (v := ?v1f) 0 ?hi1f (by kernel_rfl) ?hQ1f ?hy1f (by assumption) ?h1f
    case hi1f => simp only [jD, jE, jF]; exact rfl
    case hQ1f => exact fun _ _ _ h => h
    case hy1f => (refine Or.inl ⟨by rfl, ?_⟩; intro w' hSw; (try dsimp only at hSw); obtain ⟨hS1, hS2⟩ := hSw; go_simp; (try with_reducible rfl))
    simp only [Act.put, jA, jB, jC]
    refine takeU (oi := ?oi2f) (v := ?v2f) 1 ?hi2f (by kernel_rfl) ?hQ2f ?hy2f (by assumption) ?h2f
    case hi2f => simp only [jD, jE, jF]; exact rfl
    case hQ2f => exact fun _ _ _ h => h
    case hy2f => (refine Or.inl ⟨by rfl, ?_⟩; intro w' hSw; (try dsimp only at hSw); obtain ⟨hS1, hS2⟩ := hSw; go_simp; (try with_reducible rfl))
    simp only [Act.put, jA, jB, jC]
    refine takeU (oi := ?oi3f) (v := ?v3f) 2 ?hi3f (by kernel_rfl) ?hQ3f ?hy3f (by assumption) ?h3f
    case hi3f => simp only [jD, jE, jF]; exact rfl
    case hQ3f => exact fun _ _ _ h => h
    case hy3f => (refine Or.inl ⟨by rfl, ?_⟩; intro w' hSw; (try dsimp only at hSw); obtain ⟨hS1, hS2⟩ := hSw; go_simp; (try with_reducible rfl))
    simp only [Act.put, jA, jB, jC]
    refine takeU (oi := ?oi4f) (v := ?v4f) 3 ?hi4f (by kernel_rfl) ?hQ4f ?hy4f (by assumption) ?h4f
    case hi4f => simp only [jD, jE, jF]; exact rfl
    case hQ4f => exact fun _ _ _ h => h
    case hy4f => (refine Or.inl ⟨by rfl, ?_⟩; intro w' hSw; (try dsimp only at hSw); obtain ⟨hS1, hS2⟩ := hSw; go_simp; (try with_reducible rfl))
    simp only [Act.put, jA, jB, jC]
    refine takeU (oi := ?oi5f) (v := ?v5f) 4 ?hi5f (by kernel_rfl) ?hQ5f ?hy5f (by assumption) ?h5f
    case hi5f => simp only [jD, jE, jF]; exact rfl
    case hQ5f => exact fun _ _ _ h => h
    case hy5f => (refine Or.inl ⟨by rfl, ?_⟩; intro w' hSw; (try dsimp only at hSw); obtain ⟨hS1, hS2⟩ := hSw; go_simp; (try with_reducible rfl))
    simp only [Act.put, jA, jB, jC]
    refine takeU (oi := ?oi6f) (v := ?v6f) 6 ?hi6f (by kernel_rfl) ?hQ6f ?hy6f (by assumption) ?h6f
    case hi6f => simp only [jD, jE, jF]; exact rfl
    case hQ6f => exact fun _ _ _ h => h
    case hy6f => (refine Or.inl ⟨by rfl, ?_⟩; intro w' hSw; (try dsimp only at hSw); obtain ⟨hS1, hS2⟩ := hSw; go_simp; (try with_reducible rfl))
    simp only [Act.put, jA, jB, jC]
    refine takeU (oi := ?oi7f) (v := ?v7f) 7 ?hi7f (by kernel_rfl) ?hQ7f ?hy7f (by assumption) ?h7f
    case hi7f => simp only [jD, jE, jF]; exact rfl
    case hQ7f => exact fun _ _ _ h => h
    case hy7f => (refine Or.inl ⟨by rfl, ?_⟩; intro w' hSw; (try dsimp only at hSw); obtain ⟨hS1, hS2⟩ := hSw; go_simp; (try with_reducible rfl))
    simp only [Act.put, jA, jB, jC]
    refine takeU (oi := ?oi8f) (v := ?v8f) 8 ?hi8f (by kernel_rfl) ?hQ8f ?hy8f (by assumption) ?h8f
    case hi8f => simp only [jD, jE, jF]; exact rfl
    case hQ8f => exact fun _ _ _ h => h
    case hy8f => (refine Or.inl ⟨by rfl, ?_⟩; intro w' hSw; (try dsimp only at hSw); obtain ⟨hS1, hS2⟩ := hSw; go_simp; (try with_reducible rfl))
    simp only [Act.put, jA, jB, jC]
    refine takeU (oi := ?oi9f) (v := ?v9f) 9 ?hi9f (by kernel_rfl) ?hQ9f ?hy9f (by assumption) ?h9f
    case hi9f => simp only [jD, jE, jF]; exact rfl
    case hQ9f => exact fun _ _ _ h => h
    case hy9f => (refine Or.inl ⟨by rfl, ?_⟩; intro w' hSw; (try dsimp only at hSw); obtain ⟨hS1, hS2⟩ := hSw; go_simp; (try with_reducible rfl))
    simp only [Act.put, jA, jB, jC]
    refine takeU (oi := ?oi10f) (v := ?v10f) 10 ?hi10f (by kernel_rfl) ?hQ10f ?hy10f (by assumption) ?h10f
    case hi10f => simp only [jD, jE, jF]; exact rfl
    case hQ10f => exact fun _ _ _ h => h
    case hy10f => (refine Or.inl ⟨by rfl, ?_⟩; intro w' hSw; (try dsimp only at hSw); obtain ⟨hS1, hS2⟩ := hSw; go_simp; (try with_reducible rfl))
    simp only [Act.put, jA, jB, jC]
    refine takeU (oi := ?oi11f) (v := ?v11f) 11 ?hi11f (by kernel_rfl) ?hQ11f ?hy11f (by assumption) ?h11f
    case hi11f => simp only [jD, jE, jF]; exact rfl
    case hQ11f => exact fun _ _ _ h => h
    case hy11f => (refine Or.inl ⟨by rfl, ?_⟩; intro w' hSw; (try dsimp only at hSw); obtain ⟨hS1, hS2⟩ := hSw; go_simp; (try with_reducible rfl))
    simp only [Act.put, jA, jB, jC]
    refine takeU (oi := ?oi12f) (v := ?v12f) 12 ?hi12f (by kernel_rfl) ?hQ12f ?hy12f (by assumption) ?h12f
    case hi12f => simp only [jD, jE, jF]; exact rfl
    case hQ12f => exact fun _ _ _ h => h
    case hy12f => (refine Or.inl ⟨by rfl, ?_⟩; intro w' hSw; (try dsimp only at hSw); obtain ⟨hS1, hS2⟩ := hSw; go_simp; (try with_reducible rfl))
    simp only [Act.put, jA, jB, jC]
    refine takeU (oi := ?oi13f) (v := ?v13f) 13 ?hi13f (by kernel_rfl) ?hQ13f ?hy13f (by assumption) ?h13f
    case hi13f => simp only [jD, jE, jF]; exact rfl
    case hQ13f => exact fun _ _ _ h => h
    case hy13f => (refine Or.inl ⟨by rfl, ?_⟩; intro w' hSw; (try dsimp only at hSw); obtain ⟨hS1, hS2⟩ := hSw; go_simp; (try with_reducible rfl))
    simp only [Act.put, jA, jB, jC]
    refine takeU (oi := ?oi14f) (v := ?v14f) 15 ?hi14f (by kernel_rfl) ?hQ14f ?hy14f (by assumption) ?h14f
    case hi14f => simp only [jD, jE, jF]; exact rfl
    case hQ14f => exact fun _ _ _ h => h
    case hy14f => (refine Or.inl ⟨by rfl, ?_⟩; intro w' hSw; (try dsimp only at hSw); obtain ⟨hS1, hS2⟩ := hSw; go_simp; (try with_reducible rfl))
    simp only [Act.put, jA, jB, jC]
    refine takeU (oi := ?oi15f) (v := ?v15f) 16 ?hi15f (by kernel_rfl) ?hQ15f ?hy15f (by assumption) ?h15f
    case hi15f => simp only [jD, jE, jF]; exact rfl
    case hQ15f => exact fun _ _ _ h => h
    case hy15f => (refine Or.inl ⟨by rfl, ?_⟩; intro w' hSw; (try dsimp only at hSw); obtain ⟨hS1, hS2⟩ := hSw; go_simp; (try with_reducible rfl))
    simp only [Act.put, jA, jB, jC]
    refine takeU (oi := ?oi16f) (v := ?v16f) 17 ?hi16f (by kernel_rfl) ?hQ16f ?hy16f (by assumption) ?h16f
    case hi16f => simp only [jD, jE, jF]; exact rfl
    case hQ16f => exact fun _ _ _ h => h
    case hy16f => (refine Or.inl ⟨by rfl, ?_⟩; intro w' hSw; (try dsimp only at hSw); obtain ⟨hS1, hS2⟩ := hSw; go_simp; (try with_reducible rfl))
    simp only [Act.put, jA, jB, jC]
    refine readyU [5, 18] (by kernel_rfl) (by simp) ?_
    refine EachU.cons (o := ?o17f) ?ho17f (fun K hK => ?_) ?_
    case ho17f => simp only [jD, jE, jF]; exact rfl
    ·skip
     go_simp
     refine hK.out _ _ (fun _ => ⟨((Fr.refl (fun _ => False) w2).alloc _).cell top2 id, ((Fr.refl (fun _ => False) w2).alloc _).cell c92 id⟩) (fun hH => ?_)
     replace hHeld := hH (by decide)
     clear hH
     clear hK K
     (try simp only [Act.put, jA, jB, jC])
     refine readyU [14, 18] (by kernel_rfl) (by simp) ?_
     refine EachU.cons (o := ?o18f) ?ho18f (fun K hK => ?_) ?_
     case ho18f => simp only [jD, jE, jF]; exact rfl
     ·skip
      refine step_append_any (by rfl) _ _ (by rfl) (by rfl) w2.heap.size w2.heap.size 0 0 [] (by simp [Act.eval, Act.put]) ((World.ownsRow_made w2 #[] 0 (Nat.le_refl _) (by decide) rfl).drew) p2 l.length cap2 (by simp [Act.eval, Act.put]) (entC l) (N2.out.fr ((Fr.refl (fun _ => False) w2).alloc _).drew fun _ _ _ => id) (by decide) (by omega) (by simp; try omega) ?_
      intro g3 cap3 w3 hown3 hgrow3 hat3 hlt3
      simp only [Nat.zero_add, List.nil_append] at hown3 ⊢
      have hF3 : Fr (fun _ => False) w2 w3 := ((Fr.refl (fun _ => False) w2).alloc _).drew.into hgrow3 (by omega)
      have hb3 := (hown3.lt g3 rfl).1
      have ht3 := hF3.cell top2 id
      have c93 := hF3.cell c92 id
      have hlA3 := cell_lt ht3
      have hlB3 := cell_lt c93
      refine hK.out _ _ (fun _ => ⟨ht3, c93⟩) (fun hH => ?_)
      replace hHeld := hH (by decide)
      clear hH
      clear hK K
      (try simp only [Act.put, jA, jB, jC])
      refine readyU [18] (by kernel_rfl) (by simp) ?_
      refine EachU.cons (o := ?o19f) ?ho19f (fun K hK => ?_) ?_
      case ho19f => simp only [jD, jE, jF]; exact rfl
      rotate_left
      ·exact EachU.nil
      go_simp
      refine hK.out _ _ (fun _ => ⟨(hF3.alloc _).cell top2 id, (hF3.alloc _).cell c92 id⟩) (fun hH => ?_)
      replace hHeld := hH (by decide)
      clear hH
      clear hK K
      (try simp only [Act.put, jA, jB, jC])
      refine readyU [19] (by kernel_rfl) (by simp) ?_
      refine EachU.cons (o := ?o20f) ?ho20f (fun K hK => ?_) ?_
      case ho20f => simp only [jD, jE, jF]; exact rfl
      rotate_left
      ·exact EachU.nil
      refine step_append_any (by rfl) _ _ (by rfl) (by rfl) w2.heap.size g3 l.length cap3 (entC l) (by simp [Act.eval, Act.put]) (hown3.alloc _) (some ⟨w3.heap.size, 0, none⟩) 1 1 (by simp [Act.eval, Act.put]) [.string a, .int .i64 x] (news_one w3 a x) (by omega) (by decide) (by have := hF3.size; simp; omega) ?_
      intro g5 cap5 w5 hown5 hgrow5 hat5 hlt5
      have hF5 : Fr (fun _ => False) w2 w5 := (hF3.alloc _).into hgrow5 hb3
      have hz5 := hF5.frozen c92 fz2 id
      have hc5 := hF5.cell c92 id
      have ht5 := hF5.cell top2 id
      refine hK.out _ _ (fun _ => ⟨ht5, hc5⟩) (fun hH => ?_)
      replace hHeld := hH (by decide)
      clear hH
      clear hK K
      (try simp only [Act.put, jA, jB, jC])
      refine readyU [20] (by kernel_rfl) (by simp) ?_
      refine EachU.cons (o := ?o21f) ?ho21f (fun K hK => ?_) ?_
      case ho21f => simp only [jD, jE, jF]; exact rfl
      rotate_left
      ·exact EachU.nil
      go_simp
      refine hK.out _ _ (fun _ => ⟨ht5, hc5⟩) (fun hH => ?_)
      replace hHeld := hH (by decide)
      clear hH
      clear hK K
      (try simp only [Act.put, jA, jB, jC])
      refine readyU [21] (by kernel_rfl) (by simp) ?_
      refine EachU.cons (o := ?o22f) ?ho22f (fun K hK => ?_) ?_
      case ho22f => simp only [jD, jE, jF]; exact rfl
      rotate_left
      ·exact EachU.nil
      go_simp
      refine hK.out _ _ (fun _ => ⟨ht5, hc5⟩) (fun hH => ?_)
      replace hHeld := hH (by decide)
      clear hH
      clear hK K
      (try simp only [Act.put, jA, jB, jC])
      refine readyU [22] (by kernel_rfl) (by simp) ?_
      refine EachU.cons (o := ?o23f) ?ho23f (fun K hK => ?_) ?_
      case ho23f => simp only [jD, jE, jF]; exact rfl
      rotate_left
      ·exact EachU.nil
      go_simp
      refine hK.out _ _ (fun h => absurd rfl h) (fun hHeld => ?_)
      clear hK K
      (try simp only [Act.put, jA, jB, jC])
      refine doneU (by kernel_rfl) ?_ _
      have hp := pushed (d := to) (x := x) HR2.out ht2 hF5 hown5
      rw [hup_setEnts] at hp
      obtain ⟨own3, R3, q1, q2, F3⟩ := hp
      generalize w5.setCell _ _ = W3 at R3 F3 ⊢
      have top3 := R3.top
      obtain ⟨_, _, -, z1, -, -, -, -, z6, z7, -⟩ := R3.cells x hx.2
      rw [hup_kind, setEnts_kind, ← HU2.out, setEnts_kind, rem_kind] at z1
      rw [hup_holds] at z6
      have z6a : W3.cell? ⟨B, x * 10 + 6, none⟩ = some (.int .i64 (((t x).holds : Int) + 1)) := z6
      have zf6 := R3.frozen (x * 10 + 6)
      have zf7 := R3.frozen (x * 10 + 7)
      have Rp := R3.setPar x to hx.2 (by rw [hup_kind, setEnts_kind, ← HU2.out, setEnts_kind, rem_kind]; exact eq_of_beq qx)
      have R4 := Rp.setHolds x (t x).holds hx.2
      have e := mv_end1 (u := (rem t to a.data.toList y)) (d := d) (to := to) (x := x) (k := (t x).holds + 1) (h := (t x).holds) (n := s.data.toList) (nm := a.data.toList) (rem_holds _ _ _ _ _)
      rw [HU2.out, HLL.out] at e
      have R4' : RT ((W3.setCell ⟨B, x * 10 + 7, none⟩ (.int .i64 to)).setCell ⟨B, x * 10 + 6, none⟩ (.int .i64 (t x).holds)) A B own3 (mv (rem t to a.data.toList y) d s.data.toList to a.data.toList x) := by rw [← e]; exact R4
      have HF3 := hid ((F3.setB (x * 10 + 7) (.int .i64 to)).setB (x * 10 + 6) (.int .i64 (t x).holds))
      clear Rp
      have Hg := hid (gone_any _ R4' Hsd.out)
      have HQ1 := hid q1
      have HQ2 := hid q2
      clear R3 R4 R4' F3 e q1 q2 z6
      go_wp2_with (go_at_call 100; refine Hg.out.mono ?_; rintro e w4 ⟨rfl, R5, F5⟩)
      go_ret
      refine ⟨ret_int (by rw [Hr.out]; rfl), ?_⟩
      rw [Hr.out]
      exact Rt.then (fun _ => id) (fun _ => .inl) F1'.out (Rt.then P1.out P2.out PF.out (Rt.then O1.out O2.out HF2.out ⟨own3, R5, HQ1.out, HQ2.out, HF3.out.trans F5⟩))
     refine EachU.cons (o := ?o24f) ?ho24f (fun K hK => ?_) ?_
     case ho24f => simp only [jD, jE, jF]; exact rfl
     rotate_left
     ·exact EachU.nil
     go_simp
     refine hK.out _ _ (fun _ => ⟨(((Fr.refl (fun _ => False) w2).alloc _).alloc _).cell top2 id, (((Fr.refl (fun _ => False) w2).alloc _).alloc _).cell c92 id⟩) (fun hH => ?_)
     replace hHeld := hH (by decide)
     clear hH
     clear hK K
     (try simp only [Act.put, jA, jB, jC])
     refine readyU [14] (by kernel_rfl) (by simp) ?_
     refine EachU.cons (o := ?o25f) ?ho25f (fun K hK => ?_) ?_
     case ho25f => simp only [jD, jE, jF]; exact rfl
     rotate_left
     ·exact EachU.nil
     refine step_append_any (by rfl) _ _ (by rfl) (by rfl) w2.heap.size w2.heap.size 0 0 [] (by simp [Act.eval, Act.put]) (((World.ownsRow_made w2 #[] 0 (Nat.le_refl _) (by decide) rfl).alloc _).drew) p2 l.length cap2 (by simp [Act.eval, Act.put]) (entC l) (N2.out.fr (((Fr.refl (fun _ => False) w2).alloc _).alloc _).drew fun _ _ _ => id) (by decide) (by omega) (by simp; try omega) ?_
     intro g3 cap3 w3 hown3 hgrow3 hat3 hlt3
     simp only [Nat.zero_add, List.nil_append] at hown3 ⊢
     have hF3 : Fr (fun _ => False) w2 w3 := (((Fr.refl (fun _ => False) w2).alloc _).alloc _).drew.into hgrow3 (by omega)
     have hb3 := (hown3.lt g3 rfl).1
     have hN3 : News w3 (some ⟨w2.heap.size + 1, 0, none⟩) 1 [.string a, .int .i64 x] := (news_one2 w2 _ a x).drew.fr (Fr.of_grown hgrow3) (fun g off e => by cases e; simp)
     have ht3 := hF3.cell top2 id
     have c93 := hF3.cell c92 id
     have hlA3 := cell_lt ht3
     have hlB3 := cell_lt c93
     refine hK.out _ _ (fun _ => ⟨ht3, c93⟩) (fun hH => ?_)
     replace hHeld := hH (by decide)
     clear hH
     clear hK K
     (try simp only [Act.put, jA, jB, jC])
     refine readyU [19] (by kernel_rfl) (by simp) ?_
     refine EachU.cons (o := ?o26f) ?ho26f (fun K hK => ?_) ?_
     case ho26f => simp only [jD, jE, jF]; exact rfl
     rotate_left
     ·exact EachU.nil
     refine step_append_any (by rfl) _ _ (by rfl) (by rfl) w2.heap.size g3 l.length cap3 (entC l) (by simp [Act.eval, Act.put]) hown3 _ 1 1 (by simp [Act.eval, Act.put]) [.string a, .int .i64 x] hN3 (by omega) (by decide) hF3.size ?_
     intro g5 cap5 w5 hown5 hgrow5 hat5 hlt5
     have hF5 : Fr (fun _ => False) w2 w5 := hF3.into hgrow5 hb3
     have hz5 := hF5.frozen c92 fz2 id
     have hc5 := hF5.cell c92 id
     have ht5 := hF5.cell top2 id
     refine hK.out _ _ (fun _ => ⟨ht5, hc5⟩) (fun hH => ?_)
     replace hHeld := hH (by decide)
     clear hH
     clear hK K
     (try simp only [Act.put, jA, jB, jC])
     refine readyU [20] (by kernel_rfl) (by simp) ?_
     refine EachU.cons (o := ?o27f) ?ho27f (fun K hK => ?_) ?_
     case ho27f => simp only [jD, jE, jF]; exact rfl
     rotate_left
     ·exact EachU.nil
     go_simp
     refine hK.out _ _ (fun _ => ⟨ht5, hc5⟩) (fun hH => ?_)
     replace hHeld := hH (by decide)
     clear hH
     clear hK K
     (try simp only [Act.put, jA, jB, jC])
     refine readyU [21] (by kernel_rfl) (by simp) ?_
     refine EachU.cons (o := ?o28f) ?ho28f (fun K hK => ?_) ?_
     case ho28f => simp only [jD, jE, jF]; exact rfl
     rotate_left
     ·exact EachU.nil
     go_simp
     refine hK.out _ _ (fun _ => ⟨ht5, hc5⟩) (fun hH => ?_)
     replace hHeld := hH (by decide)
     clear hH
     clear hK K
     (try simp only [Act.put, jA, jB, jC])
     refine readyU [22] (by kernel_rfl) (by simp) ?_
     refine EachU.cons (o := ?o29f) ?ho29f (fun K hK => ?_) ?_
     case ho29f => simp only [jD, jE, jF]; exact rfl
     rotate_left
     ·exact EachU.nil
     go_simp
     refine hK.out _ _ (fun h => absurd rfl h) (fun hHeld => ?_)
     clear hK K
     (try simp only [Act.put, jA, jB, jC])
     refine doneU (by kernel_rfl) ?_ _
     have hp := pushed (d := to) (x := x) HR2.out ht2 hF5 hown5
     rw [hup_setEnts] at hp
     obtain ⟨own3, R3, q1, q2, F3⟩ := hp
     generalize w5.setCell _ _ = W3 at R3 F3 ⊢
     have top3 := R3.top
     obtain ⟨_, _, -, z1, -, -, -, -, z6, z7, -⟩ := R3.cells x hx.2
     rw [hup_kind, setEnts_kind, ← HU2.out, setEnts_kind, rem_kind] at z1
     rw [hup_holds] at z6
     have z6a : W3.cell? ⟨B, x * 10 + 6, none⟩ = some (.int .i64 (((t x).holds : Int) + 1)) := z6
     have zf6 := R3.frozen (x * 10 + 6)
     have zf7 := R3.frozen (x * 10 + 7)
     have Rp := R3.setPar x to hx.2 (by rw [hup_kind, setEnts_kind, ← HU2.out, setEnts_kind, rem_kind]; exact eq_of_beq qx)
     have R4 := Rp.setHolds x (t x).holds hx.2
     have e := mv_end1 (u := (rem t to a.data.toList y)) (d := d) (to := to) (x := x) (k := (t x).holds + 1) (h := (t x).holds) (n := s.data.toList) (nm := a.data.toList) (rem_holds _ _ _ _ _)
     rw [HU2.out, HLL.out] at e
     have R4' : RT ((W3.setCell ⟨B, x * 10 + 7, none⟩ (.int .i64 to)).setCell ⟨B, x * 10 + 6, none⟩ (.int .i64 (t x).holds)) A B own3 (mv (rem t to a.data.toList y) d s.data.toList to a.data.toList x) := by rw [← e]; exact R4
     have HF3 := hid ((F3.setB (x * 10 + 7) (.int .i64 to)).setB (x * 10 + 6) (.int .i64 (t x).holds))
     clear Rp
     have Hg := hid (gone_any _ R4' Hsd.out)
     have HQ1 := hid q1
     have HQ2 := hid q2
     clear R3 R4 R4' F3 e q1 q2 z6
     go_wp2_with (go_at_call 100; refine Hg.out.mono ?_; rintro e w4 ⟨rfl, R5, F5⟩)
     go_ret
     refine ⟨ret_int (by rw [Hr.out]; rfl), ?_⟩
     rw [Hr.out]
     exact Rt.then (fun _ => id) (fun _ => .inl) F1'.out (Rt.then P1.out P2.out PF.out (Rt.then O1.out O2.out HF2.out ⟨own3, R5, HQ1.out, HQ2.out, HF3.out.trans F5⟩))
    refine EachU.cons (o := ?o30f) ?ho30f (fun K hK => ?_) ?_
    case ho30f => simp only [jD, jE, jF]; exact rfl
    rotate_left
    ·exact EachU.nil
    go_simp
    refine hK.out _ _ (fun _ => ⟨((Fr.refl (fun _ => False) w2).alloc _).cell top2 id, ((Fr.refl (fun _ => False) w2).alloc _).cell c92 id⟩) (fun hH => ?_)
    replace hHeld := hH (by decide)
    clear hH
    clear hK K
    (try simp only [Act.put, jA, jB, jC])
    refine readyU [5] (by kernel_rfl) (by simp) ?_
    refine EachU.cons (o := ?o31f) ?ho31f (fun K hK => ?_) ?_
    case ho31f => simp only [jD, jE, jF]; exact rfl
    rotate_left
    ·exact EachU.nil
    go_simp
    refine hK.out _ _ (fun _ => ⟨(((Fr.refl (fun _ => False) w2).alloc _).alloc _).cell top2 id, (((Fr.refl (fun _ => False) w2).alloc _).alloc _).cell c92 id⟩) (fun hH => ?_)
    replace hHeld := hH (by decide)
    clear hH
    clear hK K
    (try simp only [Act.put, jA, jB, jC])
    refine readyU [14] (by kernel_rfl) (by simp) ?_
    refine EachU.cons (o := ?o32f) ?ho32f (fun K hK => ?_) ?_
    case ho32f => simp only [jD, jE, jF]; exact rfl
    rotate_left
    ·exact EachU.nil
    refine step_append_any (by rfl) _ _ (by rfl) (by rfl) w2.heap.size (w2.heap.size + 1) 0 0 [] (by simp [Act.eval, Act.put]) ((made2 w2 _).drew) p2 l.length cap2 (by simp [Act.eval, Act.put]) (entC l) (N2.out.fr (((Fr.refl (fun _ => False) w2).alloc _).alloc _).drew fun _ _ _ => id) (by decide) (by omega) (by simp; try omega) ?_
    intro g3 cap3 w3 hown3 hgrow3 hat3 hlt3
    simp only [Nat.zero_add, List.nil_append] at hown3 ⊢
    have hF3 : Fr (fun _ => False) w2 w3 := (((Fr.refl (fun _ => False) w2).alloc _).alloc _).drew.into hgrow3 (by omega)
    have hb3 := (hown3.lt g3 rfl).1
    have hN3 : News w3 (some ⟨w2.heap.size, 0, none⟩) 1 [.string a, .int .i64 x] := ((news_one w2 a x).fr ((Fr.refl (fun _ => False) _).alloc _) (fun _ _ _ => id)).drew.fr (Fr.of_grown hgrow3) (fun g off e => by cases e; simp)
    have ht3 := hF3.cell top2 id
    have c93 := hF3.cell c92 id
    have hlA3 := cell_lt ht3
    have hlB3 := cell_lt c93
    refine hK.out _ _ (fun _ => ⟨ht3, c93⟩) (fun hH => ?_)
    replace hHeld := hH (by decide)
    clear hH
    clear hK K
    (try simp only [Act.put, jA, jB, jC])
    refine readyU [19] (by kernel_rfl) (by simp) ?_
    refine EachU.cons (o := ?o33f) ?ho33f (fun K hK => ?_) ?_
    case ho33f => simp only [jD, jE, jF]; exact rfl
    rotate_left
    ·exact EachU.nil
    refine step_append_any (by rfl) _ _ (by rfl) (by rfl) w2.heap.size g3 l.length cap3 (entC l) (by simp [Act.eval, Act.put]) hown3 _ 1 1 (by simp [Act.eval, Act.put]) [.string a, .int .i64 x] hN3 (by omega) (by decide) hF3.size ?_
    intro g5 cap5 w5 hown5 hgrow5 hat5 hlt5
    have hF5 : Fr (fun _ => False) w2 w5 := hF3.into hgrow5 hb3
    have hz5 := hF5.frozen c92 fz2 id
    have hc5 := hF5.cell c92 id
    have ht5 := hF5.cell top2 id
    refine hK.out _ _ (fun _ => ⟨ht5, hc5⟩) (fun hH => ?_)
    replace hHeld := hH (by decide)
    clear hH
    clear hK K
    (try simp only [Act.put, jA, jB, jC])
    refine readyU [20] (by kernel_rfl) (by simp) ?_
    refine EachU.cons (o := ?o34f) ?ho34f (fun K hK => ?_) ?_
    case ho34f => simp only [jD, jE, jF]; exact rfl
    rotate_left
    ·exact EachU.nil
    go_simp
    refine hK.out _ _ (fun _ => ⟨ht5, hc5⟩) (fun hH => ?_)
    replace hHeld := hH (by decide)
    clear hH
    clear hK K
    (try simp only [Act.put, jA, jB, jC])
    refine readyU [21] (by kernel_rfl) (by simp) ?_
    refine EachU.cons (o := ?o35f) ?ho35f (fun K hK => ?_) ?_
    case ho35f => simp only [jD, jE, jF]; exact rfl
    rotate_left
    ·exact EachU.nil
    go_simp
    refine hK.out _ _ (fun _ => ⟨ht5, hc5⟩) (fun hH => ?_)
    replace hHeld := hH (by decide)
    clear hH
    clear hK K
    (try simp only [Act.put, jA, jB, jC])
    refine readyU [22] (by kernel_rfl) (by simp) ?_
    refine EachU.cons (o := ?o36f) ?ho36f (fun K hK => ?_) ?_
    case ho36f => simp only [jD, jE, jF]; exact rfl
    rotate_left
    ·exact EachU.nil
    go_simp
    refine hK.out _ _ (fun h => absurd rfl h) (fun hHeld => ?_)
    clear hK K
    (try simp only [Act.put, jA, jB, jC])
    refine doneU (by kernel_rfl) ?_ _
    have hp := pushed (d := to) (x := x) HR2.out ht2 hF5 hown5
    rw [hup_setEnts] at hp
    obtain ⟨own3, R3, q1, q2, F3⟩ := hp
    generalize w5.setCell _ _ = W3 at R3 F3 ⊢
    have top3 := R3.top
    obtain ⟨_, _, -, z1, -, -, -, -, z6, z7, -⟩ := R3.cells x hx.2
    rw [hup_kind, setEnts_kind, ← HU2.out, setEnts_kind, rem_kind] at z1
    rw [hup_holds] at z6
    have z6a : W3.cell? ⟨B, x * 10 + 6, none⟩ = some (.int .i64 (((t x).holds : Int) + 1)) := z6
    have zf6 := R3.frozen (x * 10 + 6)
    have zf7 := R3.frozen (x * 10 + 7)
    have Rp := R3.setPar x to hx.2 (by rw [hup_kind, setEnts_kind, ← HU2.out, setEnts_kind, rem_kind]; exact eq_of_beq qx)
    have R4 := Rp.setHolds x (t x).holds hx.2
    have e := mv_end1 (u := (rem t to a.data.toList y)) (d := d) (to := to) (x := x) (k := (t x).holds + 1) (h := (t x).holds) (n := s.data.toList) (nm := a.data.toList) (rem_holds _ _ _ _ _)
    rw [HU2.out, HLL.out] at e
    have R4' : RT ((W3.setCell ⟨B, x * 10 + 7, none⟩ (.int .i64 to)).setCell ⟨B, x * 10 + 6, none⟩ (.int .i64 (t x).holds)) A B own3 (mv (rem t to a.data.toList y) d s.data.toList to a.data.toList x) := by rw [← e]; exact R4
    have HF3 := hid ((F3.setB (x * 10 + 7) (.int .i64 to)).setB (x * 10 + 6) (.int .i64 (t x).holds))
    clear Rp
    have Hg := hid (gone_any _ R4' Hsd.out)
    have HQ1 := hid q1
    have HQ2 := hid q2
    clear R3 R4 R4' F3 e q1 q2 z6
    go_wp2_with (go_at_call 100; refine Hg.out.mono ?_; rintro e w4 ⟨rfl, R5, F5⟩)
    go_ret
    refine ⟨ret_int (by rw [Hr.out]; rfl), ?_⟩
    rw [Hr.out]
    exact Rt.then (fun _ => id) (fun _ => .inl) F1'.out (Rt.then P1.out P2.out PF.out (Rt.then O1.out O2.out HF2.out ⟨own3, R5, HQ1.out, HQ2.out, HF3.out.trans F5⟩))
 | none =>
  rw [show atI (t to).ents a.data.toList = -1 by unfold atI; rw [ha]] at hat
  have Hat2 := hid (fun _ : Unit => hat)
  have fn := f1.1 ha
  have hba : barE t d to a.data.toList x = if 40 ≤ (t to).ents.length ∧ to ≠ d then 9 else 0 := by unfold barE; rw [fn]
  clear hat f1 f2 ha me
  by_cases h40 : 40 ≤ (t to).ents.length ∧ to ≠ d
  ·have Hr := hid (show r = (t, 9) by rw [Hre.out, if_neg (by rw [fn]; simp), hba, if_pos h40, if_pos (by decide)])
   have hne : ((to : Int) == (d : Int)) = false := by rw [beq_eq_false_iff_ne]; omega
   have h40' : (40 : Int) ≤ ((t to).ents.length : Int) := by omega
   clear h hs hba h40
   cases qx : ((t x).kind == 1)
   all_goals
    go_enter Tryz.func93, Tryz.ntmps93
    go_wp2_with (first | (go_at_call 99; (with_reducible refine (Hi1.out ()).mono ?_); rintro e w' ⟨rfl, rfl⟩) | (go_at_call 99; (with_reducible refine (Hi2.out ()).mono ?_); rintro e w' ⟨rfl, rfl⟩) | (go_at_call 121; (with_reducible refine (Hat1.out ()).mono ?_); rintro e w' ⟨rfl, rfl⟩) | (go_at_call 125; refine Hnm.out.mono ?_; rintro e w' ⟨rfl, rfl⟩) | (go_at_call 126; refine Hwi.out.mono ?_; rintro e w' ⟨rfl, rfl⟩) | (go_at_call 121; (with_reducible refine (Hat2.out ()).mono ?_); rintro e w' ⟨rfl, rfl⟩))
    go_ret
    exact ⟨ret_int (by rw [Hr.out]; rfl), by rw [Hr.out]; exact Rt.refl H.out⟩
  have Hr := hid (show r = (goneP (mv t d s.data.toList to a.data.toList x), 0) by rw [Hre.out, if_neg (by rw [fn]; simp), hba, if_neg h40, if_neg (fun h => h rfl), movedT_eq, fn])
  have Hsd := hid (show Sd (mv t d s.data.toList to a.data.toList x) by
   have := sd_moved hs.sd hdi hti Kt.out Fx.out Hn.out (fun h => hw h.2) (by rw [fn]; simp) (fun h => h40 h.2)
   rw [movedT_eq, fn] at this
   exact this)
  have hcond : ((decide ((40 : Int) ≤ ((t to).ents.length : Int))) && ((to : Int) != (d : Int))) = false := by
   rw [Bool.and_eq_false_iff]
   by_cases e : to = d
   ·right; rw [e]; simp
   ·left; rw [decide_eq_false_iff_not]; intro h; exact h40 ⟨by omega, e⟩
  have hbx := hb x
  have R0 := h.setHolds x ((t x).holds + 1) hx.2
  obtain ⟨W1, hW1⟩ : ∃ W1, w.setCell ⟨B, x * 10 + 6, none⟩ (.int .i64 (((t x).holds + 1 : Nat) : Int)) = W1 := ⟨_, rfl⟩
  rw [hW1] at R0
  have F1 : Fr (· = B) w W1 := by rw [← hW1]; exact (Fr.refl _ w).setB _ _
  have HW1 := hid (show w.setCell ⟨B, x * 10 + 6, none⟩ (.int .i64 (((t x).holds : Int) + 1)) = W1 from hW1)
  have hfx6 := h.frozen (x * 10 + 6)
  have R0' : RT W1 A B own (hup t x ((t x).holds + 1)) := R0
  have hlen1 := hs.sd.len d
  have hat1 := at_any d s W1 R0' hd2 (by rw [hup_ents]; exact hlen1)
  rw [hup_ents] at hat1
  obtain ⟨f1, f2⟩ := atE_find (t d).ents s.data.toList
  obtain ⟨k', ha'⟩ : ∃ k', atE (t d).ents s.data.toList = some k' := by
   cases e : atE (t d).ents s.data.toList with
   | none => exact absurd ((f1.1 e).symm.trans Fx.out) (by simp)
   | some k' => exact ⟨k', rfl⟩
  obtain ⟨x', fx', -, hk', her'⟩ := f2 k' ha'
  rw [show atI (t d).ents s.data.toList = (k' : Int) by unfold atI; rw [ha']] at hat1
  have hwo := without_any d k' W1 R0' hd2 (by rw [hup_ents]; exact hlen1) (by rw [hup_ents]; exact hk')
  rw [hup_ents, ← her', hup_setEnts] at hwo
  have Hat3 := hid hat1
  have Hwo := hid hwo
  have F1' := hid F1
  clear hW1 R0 R0' hat1 hwo f1 f2 ha' fx' her' F1
  rcases (show ¬ (40 : Int) ≤ ((t to).ents.length : Int) ∨ ((40 : Int) ≤ ((t to).ents.length : Int) ∧ to = d) by
   by_cases e : to = d
   ·by_cases e2 : (40 : Int) ≤ ((t to).ents.length : Int)
    ·exact .inr ⟨e2, e⟩
    ·exact .inl e2
   ·left; intro e2; exact h40 ⟨by omega, e⟩) with h41 | ⟨h41, hde⟩
  ·skip
   clear hcond hba h40 h hs hw
   cases qx : ((t x).kind == 1)
   ·skip
    go_enter Tryz.func93, Tryz.ntmps93
    go_wp2_with (first | (go_at_call 99; (with_reducible refine (Hi1.out ()).mono ?_); rintro e w' ⟨rfl, rfl⟩) | (go_at_call 99; (with_reducible refine (Hi2.out ()).mono ?_); rintro e w' ⟨rfl, rfl⟩) | (go_at_call 121; (with_reducible refine (Hat1.out ()).mono ?_); rintro e w' ⟨rfl, rfl⟩) | (go_at_call 125; refine Hnm.out.mono ?_; rintro e w' ⟨rfl, rfl⟩) | (go_at_call 126; refine Hwi.out.mono ?_; rintro e w' ⟨rfl, rfl⟩) | (go_at_call 121; (with_reducible refine (Hat2.out ()).mono ?_); rintro e w' ⟨rfl, rfl⟩))
    rw [HW1.out]
    go_wp2_with (first | (go_at_call 121; (with_reducible refine Hat3.out.mono ?_); rintro e w' ⟨rfl, rfl⟩))
    have hlenu := hlen
    refine Hwo.out.mono ?_
    rintro e w2 ⟨rfl, own2, R2, o1, o2, F2⟩
    obtain ⟨p2, cap2, -, -, -, -, -, -, -, -, -, c92, hl12, hl22, he2⟩ := R2.cells to ht2
    rw [hup_ents] at c92 hl12 he2
    have N2 := hid (EntsAt.news he2)
    have top2 := R2.top
    have fz2 := R2.frozen (to * 10 + 9)
    obtain ⟨hlA, hlB⟩ := R2.lt
    have hne := R2.ne
    have i8 : (0 : Int) ≤ (to : Int) := by omega
    have i9 : (to : Int) < 201 := by omega
    have HR2 := hid R2
    have O1 := hid o1
    have O2 := hid o2
    have HF2 := hid F2
    unfold maxLen at hl22
    clear R2 he2 o1 o2 F2 Hi1 Hi2 Hnm Hat1 Hat2 Hat3 Hwo Hwi
    obtain ⟨U2, hU2⟩ : ∃ U2, setEnts t d (erE (t d).ents s.data.toList) = U2 := ⟨_, rfl⟩
    rw [hU2] at c92 hl12 N2 HR2
    have hl40 : (U2 to).ents.length ≤ 40 := by
     rw [← hU2, setEnts_ents]
     split
     ·have := erE_le (t d).ents s.data.toList
      omega
     ·exact hlenu
    have HU2 := hid hU2
    clear hU2
    generalize hll : (U2 to).ents = l at c92 hl12 N2 hl40
    have HLL := hid hll
    clear hll
    go_wp2_with fail
    refine regionU (fun w' => w'.cell? ⟨A, 0, none⟩ = some (.slice (some ⟨B, 0, none⟩) 201 201) ∧ w'.cell? ⟨B, to * 10 + 9, none⟩ = some (.slice p2 l.length cap2)) 22 (by kernel_rfl) (by exact ⟨top2, c92⟩) (fun hHeld => ?_)
    refine takeU (oi := ?oi1a) (v := ?v1a) 0 ?hi1a (by kernel_rfl) ?hQ1a ?hy1a (by assumption) ?h1a
    case hi1a => simp only [jD, jE, jF]; exact rfl
    case hQ1a => exact fun _ _ _ h => h
    case hy1a => (refine Or.inl ⟨by rfl, ?_⟩; intro w' hSw; (try dsimp only at hSw); obtain ⟨hS1, hS2⟩ := hSw; go_simp; (try with_reducible rfl))
    simp only [Act.put, jA, jB, jC]
    refine takeU (oi := ?oi2a) (v := ?v2a) 1 ?hi2a (by kernel_rfl) ?hQ2a ?hy2a (by assumption) ?h2a
    case hi2a => simp only [jD, jE, jF]; exact rfl
    case hQ2a => exact fun _ _ _ h => h
    case hy2a => (refine Or.inl ⟨by rfl, ?_⟩; intro w' hSw; (try dsimp only at hSw); obtain ⟨hS1, hS2⟩ := hSw; go_simp; (try with_reducible rfl))
    simp only [Act.put, jA, jB, jC]
    refine takeU (oi := ?oi3a) (v := ?v3a) 2 ?hi3a (by kernel_rfl) ?hQ3a ?hy3a (by assumption) ?h3a
    case hi3a => simp only [jD, jE, jF]; exact rfl
    case hQ3a => exact fun _ _ _ h => h
    case hy3a => (refine Or.inl ⟨by rfl, ?_⟩; intro w' hSw; (try dsimp only at hSw); obtain ⟨hS1, hS2⟩ := hSw; go_simp; (try with_reducible rfl))
    simp only [Act.put, jA, jB, jC]
    refine takeU (oi := ?oi4a) (v := ?v4a) 3 ?hi4a (by kernel_rfl) ?hQ4a ?hy4a (by assumption) ?h4a
    case hi4a => simp only [jD, jE, jF]; exact rfl
    case hQ4a => exact fun _ _ _ h => h
    case hy4a => (refine Or.inl ⟨by rfl, ?_⟩; intro w' hSw; (try dsimp only at hSw); obtain ⟨hS1, hS2⟩ := hSw; go_simp; (try with_reducible rfl))
    simp only [Act.put, jA, jB, jC]
    refine takeU (oi := ?oi5a) (v := ?v5a) 4 ?hi5a (by kernel_rfl) ?hQ5a ?hy5a (by assumption) ?h5a
    case hi5a => simp only [jD, jE, jF]; exact rfl
    case hQ5a => exact fun _ _ _ h => h
    case hy5a => (refine Or.inl ⟨by rfl, ?_⟩; intro w' hSw; (try dsimp only at hSw); obtain ⟨hS1, hS2⟩ := hSw; go_simp; (try with_reducible rfl))
    simp only [Act.put, jA, jB, jC]
    refine takeU (oi := ?oi6a) (v := ?v6a) 6 ?hi6a (by kernel_rfl) ?hQ6a ?hy6a (by assumption) ?h6a
    case hi6a => simp only [jD, jE, jF]; exact rfl
    case hQ6a => exact fun _ _ _ h => h
    case hy6a => (refine Or.inl ⟨by rfl, ?_⟩; intro w' hSw; (try dsimp only at hSw); obtain ⟨hS1, hS2⟩ := hSw; go_simp; (try with_reducible rfl))
    simp only [Act.put, jA, jB, jC]
    refine takeU (oi := ?oi7a) (v := ?v7a) 7 ?hi7a (by kernel_rfl) ?hQ7a ?hy7a (by assumption) ?h7a
    case hi7a => simp only [jD, jE, jF]; exact rfl
    case hQ7a => exact fun _ _ _ h => h
    case hy7a => (refine Or.inl ⟨by rfl, ?_⟩; intro w' hSw; (try dsimp only at hSw); obtain ⟨hS1, hS2⟩ := hSw; go_simp; (try with_reducible rfl))
    simp only [Act.put, jA, jB, jC]
    refine takeU (oi := ?oi8a) (v := ?v8a) 8 ?hi8a (by kernel_rfl) ?hQ8a ?hy8a (by assumption) ?h8a
    case hi8a => simp only [jD, jE, jF]; exact rfl
    case hQ8a => exact fun _ _ _ h => h
    case hy8a => (refine Or.inl ⟨by rfl, ?_⟩; intro w' hSw; (try dsimp only at hSw); obtain ⟨hS1, hS2⟩ := hSw; go_simp; (try with_reducible rfl))
    simp only [Act.put, jA, jB, jC]
    refine takeU (oi := ?oi9a) (v := ?v9a) 9 ?hi9a (by kernel_rfl) ?hQ9a ?hy9a (by assumption) ?h9a
    case hi9a => simp only [jD, jE, jF]; exact rfl
    case hQ9a => exact fun _ _ _ h => h
    case hy9a => (refine Or.inl ⟨by rfl, ?_⟩; intro w' hSw; (try dsimp only at hSw); obtain ⟨hS1, hS2⟩ := hSw; go_simp; (try with_reducible rfl))
    simp only [Act.put, jA, jB, jC]
    refine takeU (oi := ?oi10a) (v := ?v10a) 10 ?hi10a (by kernel_rfl) ?hQ10a ?hy10a (by assumption) ?h10a
    case hi10a => simp only [jD, jE, jF]; exact rfl
    case hQ10a => exact fun _ _ _ h => h
    case hy10a => (refine Or.inl ⟨by rfl, ?_⟩; intro w' hSw; (try dsimp only at hSw); obtain ⟨hS1, hS2⟩ := hSw; go_simp; (try with_reducible rfl))
    simp only [Act.put, jA, jB, jC]
    refine takeU (oi := ?oi11a) (v := ?v11a) 11 ?hi11a (by kernel_rfl) ?hQ11a ?hy11a (by assumption) ?h11a
    case hi11a => simp only [jD, jE, jF]; exact rfl
    case hQ11a => exact fun _ _ _ h => h
    case hy11a => (refine Or.inl ⟨by rfl, ?_⟩; intro w' hSw; (try dsimp only at hSw); obtain ⟨hS1, hS2⟩ := hSw; go_simp; (try with_reducible rfl))
    simp only [Act.put, jA, jB, jC]
    refine takeU (oi := ?oi12a) (v := ?v12a) 12 ?hi12a (by kernel_rfl) ?hQ12a ?hy12a (by assumption) ?h12a
    case hi12a => simp only [jD, jE, jF]; exact rfl
    case hQ12a => exact fun _ _ _ h => h
    case hy12a => (refine Or.inl ⟨by rfl, ?_⟩; intro w' hSw; (try dsimp only at hSw); obtain ⟨hS1, hS2⟩ := hSw; go_simp; (try with_reducible rfl))
    simp only [Act.put, jA, jB, jC]
    refine takeU (oi := ?oi13a) (v := ?v13a) 13 ?hi13a (by kernel_rfl) ?hQ13a ?hy13a (by assumption) ?h13a
    case hi13a => simp only [jD, jE, jF]; exact rfl
    case hQ13a => exact fun _ _ _ h => h
    case hy13a => (refine Or.inl ⟨by rfl, ?_⟩; intro w' hSw; (try dsimp only at hSw); obtain ⟨hS1, hS2⟩ := hSw; go_simp; (try with_reducible rfl))
    simp only [Act.put, jA, jB, jC]
    refine takeU (oi := ?oi14a) (v := ?v14a) 15 ?hi14a (by kernel_rfl) ?hQ14a ?hy14a (by assumption) ?h14a
    case hi14a => simp only [jD, jE, jF]; exact rfl
    case hQ14a => exact fun _ _ _ h => h
    case hy14a => (refine Or.inl ⟨by rfl, ?_⟩; intro w' hSw; (try dsimp only at hSw); obtain ⟨hS1, hS2⟩ := hSw; go_simp; (try with_reducible rfl))
    simp only [Act.put, jA, jB, jC]
    refine takeU (oi := ?oi15a) (v := ?v15a) 16 ?hi15a (by kernel_rfl) ?hQ15a ?hy15a (by assumption) ?h15a
    case hi15a => simp only [jD, jE, jF]; exact rfl
    case hQ15a => exact fun _ _ _ h => h
    case hy15a => (refine Or.inl ⟨by rfl, ?_⟩; intro w' hSw; (try dsimp only at hSw); obtain ⟨hS1, hS2⟩ := hSw; go_simp; (try with_reducible rfl))
    simp only [Act.put, jA, jB, jC]
    refine takeU (oi := ?oi16a) (v := ?v16a) 17 ?hi16a (by kernel_rfl) ?hQ16a ?hy16a (by assumption) ?h16a
    case hi16a => simp only [jD, jE, jF]; exact rfl
    case hQ16a => exact fun _ _ _ h => h
    case hy16a => (refine Or.inl ⟨by rfl, ?_⟩; intro w' hSw; (try dsimp only at hSw); obtain ⟨hS1, hS2⟩ := hSw; go_simp; (try with_reducible rfl))
    simp only [Act.put, jA, jB, jC]
    refine readyU [5, 18] (by kernel_rfl) (by simp) ?_
    refine EachU.cons (o := ?o17a) ?ho17a (fun K hK => ?_) ?_
    case ho17a => simp only [jD, jE, jF]; exact rfl
    ·skip
     go_simp
     refine hK.out _ _ (fun _ => ⟨((Fr.refl (fun _ => False) w2).alloc _).cell top2 id, ((Fr.refl (fun _ => False) w2).alloc _).cell c92 id⟩) (fun hH => ?_)
     replace hHeld := hH (by decide)
     clear hH
     clear hK K
     (try simp only [Act.put, jA, jB, jC])
     refine readyU [14, 18] (by kernel_rfl) (by simp) ?_
     refine EachU.cons (o := ?o18a) ?ho18a (fun K hK => ?_) ?_
     case ho18a => simp only [jD, jE, jF]; exact rfl
     ·skip
      refine step_append_any (by rfl) _ _ (by rfl) (by rfl) w2.heap.size w2.heap.size 0 0 [] (by simp [Act.eval, Act.put]) ((World.ownsRow_made w2 #[] 0 (Nat.le_refl _) (by decide) rfl).drew) p2 l.length cap2 (by simp [Act.eval, Act.put]) (entC l) (N2.out.fr ((Fr.refl (fun _ => False) w2).alloc _).drew fun _ _ _ => id) (by decide) (by omega) (by simp; try omega) ?_
      intro g3 cap3 w3 hown3 hgrow3 hat3 hlt3
      simp only [Nat.zero_add, List.nil_append] at hown3 ⊢
      have hF3 : Fr (fun _ => False) w2 w3 := ((Fr.refl (fun _ => False) w2).alloc _).drew.into hgrow3 (by omega)
      have hb3 := (hown3.lt g3 rfl).1
      have ht3 := hF3.cell top2 id
      have c93 := hF3.cell c92 id
      have hlA3 := cell_lt ht3
      have hlB3 := cell_lt c93
      refine hK.out _ _ (fun _ => ⟨ht3, c93⟩) (fun hH => ?_)
      replace hHeld := hH (by decide)
      clear hH
      clear hK K
      (try simp only [Act.put, jA, jB, jC])
      refine readyU [18] (by kernel_rfl) (by simp) ?_
      refine EachU.cons (o := ?o19a) ?ho19a (fun K hK => ?_) ?_
      case ho19a => simp only [jD, jE, jF]; exact rfl
      rotate_left
      ·exact EachU.nil
      go_simp
      refine hK.out _ _ (fun _ => ⟨(hF3.alloc _).cell top2 id, (hF3.alloc _).cell c92 id⟩) (fun hH => ?_)
      replace hHeld := hH (by decide)
      clear hH
      clear hK K
      (try simp only [Act.put, jA, jB, jC])
      refine readyU [19] (by kernel_rfl) (by simp) ?_
      refine EachU.cons (o := ?o20a) ?ho20a (fun K hK => ?_) ?_
      case ho20a => simp only [jD, jE, jF]; exact rfl
      rotate_left
      ·exact EachU.nil
      refine step_append_any (by rfl) _ _ (by rfl) (by rfl) w2.heap.size g3 l.length cap3 (entC l) (by simp [Act.eval, Act.put]) (hown3.alloc _) (some ⟨w3.heap.size, 0, none⟩) 1 1 (by simp [Act.eval, Act.put]) [.string a, .int .i64 x] (news_one w3 a x) (by omega) (by decide) (by have := hF3.size; simp; omega) ?_
      intro g5 cap5 w5 hown5 hgrow5 hat5 hlt5
      have hF5 : Fr (fun _ => False) w2 w5 := (hF3.alloc _).into hgrow5 hb3
      have hz5 := hF5.frozen c92 fz2 id
      have hc5 := hF5.cell c92 id
      have ht5 := hF5.cell top2 id
      refine hK.out _ _ (fun _ => ⟨ht5, hc5⟩) (fun hH => ?_)
      replace hHeld := hH (by decide)
      clear hH
      clear hK K
      (try simp only [Act.put, jA, jB, jC])
      refine readyU [20] (by kernel_rfl) (by simp) ?_
      refine EachU.cons (o := ?o21a) ?ho21a (fun K hK => ?_) ?_
      case ho21a => simp only [jD, jE, jF]; exact rfl
      rotate_left
      ·exact EachU.nil
      go_simp
      refine hK.out _ _ (fun _ => ⟨ht5, hc5⟩) (fun hH => ?_)
      replace hHeld := hH (by decide)
      clear hH
      clear hK K
      (try simp only [Act.put, jA, jB, jC])
      refine readyU [21] (by kernel_rfl) (by simp) ?_
      refine EachU.cons (o := ?o22a) ?ho22a (fun K hK => ?_) ?_
      case ho22a => simp only [jD, jE, jF]; exact rfl
      rotate_left
      ·exact EachU.nil
      go_simp
      refine hK.out _ _ (fun _ => ⟨ht5, hc5⟩) (fun hH => ?_)
      replace hHeld := hH (by decide)
      clear hH
      clear hK K
      (try simp only [Act.put, jA, jB, jC])
      refine readyU [22] (by kernel_rfl) (by simp) ?_
      refine EachU.cons (o := ?o23a) ?ho23a (fun K hK => ?_) ?_
      case ho23a => simp only [jD, jE, jF]; exact rfl
      rotate_left
      ·exact EachU.nil
      go_simp
      refine hK.out _ _ (fun h => absurd rfl h) (fun hHeld => ?_)
      clear hK K
      (try simp only [Act.put, jA, jB, jC])
      refine doneU (by kernel_rfl) ?_ _
      have hp := pushed (d := to) (x := x) HR2.out ht2 hF5 hown5
      rw [hup_setEnts] at hp
      obtain ⟨own3, R3, q1, q2, F3⟩ := hp
      generalize w5.setCell _ _ = W3 at R3 F3 ⊢
      have top3 := R3.top
      obtain ⟨_, _, -, z1, -, -, -, -, z6, z7, -⟩ := R3.cells x hx.2
      rw [hup_kind, setEnts_kind, ← HU2.out, setEnts_kind] at z1
      rw [hup_holds] at z6
      have z6a : W3.cell? ⟨B, x * 10 + 6, none⟩ = some (.int .i64 (((t x).holds : Int) + 1)) := z6
      have zf6 := R3.frozen (x * 10 + 6)
      have zf7 := R3.frozen (x * 10 + 7)
      have R4 := R3.setHolds x (t x).holds hx.2
      have e := mv_end0 (u := t) (d := d) (to := to) (x := x) (k := (t x).holds + 1) (h := (t x).holds) (n := s.data.toList) (nm := a.data.toList) (ne_of_beq_false qx) (rfl)
      rw [HU2.out, HLL.out] at e
      have R4' : RT (W3.setCell ⟨B, x * 10 + 6, none⟩ (.int .i64 (t x).holds)) A B own3 (mv t d s.data.toList to a.data.toList x) := by rw [← e]; exact R4
      have HF3 := hid (F3.setB (x * 10 + 6) (.int .i64 (t x).holds))
      have Hg := hid (gone_any _ R4' Hsd.out)
      have HQ1 := hid q1
      have HQ2 := hid q2
      clear R3 R4 R4' F3 e q1 q2 z6
      go_wp2_with (go_at_call 100; refine Hg.out.mono ?_; rintro e w4 ⟨rfl, R5, F5⟩)
      go_ret
      refine ⟨ret_int (by rw [Hr.out]; rfl), ?_⟩
      rw [Hr.out]
      exact Rt.then (fun _ => id) (fun _ => .inl) F1'.out (Rt.then O1.out O2.out HF2.out ⟨own3, R5, HQ1.out, HQ2.out, HF3.out.trans F5⟩)
     refine EachU.cons (o := ?o24a) ?ho24a (fun K hK => ?_) ?_
     case ho24a => simp only [jD, jE, jF]; exact rfl
     rotate_left
     ·exact EachU.nil
     go_simp
     refine hK.out _ _ (fun _ => ⟨(((Fr.refl (fun _ => False) w2).alloc _).alloc _).cell top2 id, (((Fr.refl (fun _ => False) w2).alloc _).alloc _).cell c92 id⟩) (fun hH => ?_)
     replace hHeld := hH (by decide)
     clear hH
     clear hK K
     (try simp only [Act.put, jA, jB, jC])
     refine readyU [14] (by kernel_rfl) (by simp) ?_
     refine EachU.cons (o := ?o25a) ?ho25a (fun K hK => ?_) ?_
     case ho25a => simp only [jD, jE, jF]; exact rfl
     rotate_left
     ·exact EachU.nil
     refine step_append_any (by rfl) _ _ (by rfl) (by rfl) w2.heap.size w2.heap.size 0 0 [] (by simp [Act.eval, Act.put]) (((World.ownsRow_made w2 #[] 0 (Nat.le_refl _) (by decide) rfl).alloc _).drew) p2 l.length cap2 (by simp [Act.eval, Act.put]) (entC l) (N2.out.fr (((Fr.refl (fun _ => False) w2).alloc _).alloc _).drew fun _ _ _ => id) (by decide) (by omega) (by simp; try omega) ?_
     intro g3 cap3 w3 hown3 hgrow3 hat3 hlt3
     simp only [Nat.zero_add, List.nil_append] at hown3 ⊢
     have hF3 : Fr (fun _ => False) w2 w3 := (((Fr.refl (fun _ => False) w2).alloc _).alloc _).drew.into hgrow3 (by omega)
     have hb3 := (hown3.lt g3 rfl).1
     have hN3 : News w3 (some ⟨w2.heap.size + 1, 0, none⟩) 1 [.string a, .int .i64 x] := (news_one2 w2 _ a x).drew.fr (Fr.of_grown hgrow3) (fun g off e => by cases e; simp)
     have ht3 := hF3.cell top2 id
     have c93 := hF3.cell c92 id
     have hlA3 := cell_lt ht3
     have hlB3 := cell_lt c93
     refine hK.out _ _ (fun _ => ⟨ht3, c93⟩) (fun hH => ?_)
     replace hHeld := hH (by decide)
     clear hH
     clear hK K
     (try simp only [Act.put, jA, jB, jC])
     refine readyU [19] (by kernel_rfl) (by simp) ?_
     refine EachU.cons (o := ?o26a) ?ho26a (fun K hK => ?_) ?_
     case ho26a => simp only [jD, jE, jF]; exact rfl
     rotate_left
     ·exact EachU.nil
     refine step_append_any (by rfl) _ _ (by rfl) (by rfl) w2.heap.size g3 l.length cap3 (entC l) (by simp [Act.eval, Act.put]) hown3 _ 1 1 (by simp [Act.eval, Act.put]) [.string a, .int .i64 x] hN3 (by omega) (by decide) hF3.size ?_
     intro g5 cap5 w5 hown5 hgrow5 hat5 hlt5
     have hF5 : Fr (fun _ => False) w2 w5 := hF3.into hgrow5 hb3
     have hz5 := hF5.frozen c92 fz2 id
     have hc5 := hF5.cell c92 id
     have ht5 := hF5.cell top2 id
     refine hK.out _ _ (fun _ => ⟨ht5, hc5⟩) (fun hH => ?_)
     replace hHeld := hH (by decide)
     clear hH
     clear hK K
     (try simp only [Act.put, jA, jB, jC])
     refine readyU [20] (by kernel_rfl) (by simp) ?_
     refine EachU.cons (o := ?o27a) ?ho27a (fun K hK => ?_) ?_
     case ho27a => simp only [jD, jE, jF]; exact rfl
     rotate_left
     ·exact EachU.nil
     go_simp
     refine hK.out _ _ (fun _ => ⟨ht5, hc5⟩) (fun hH => ?_)
     replace hHeld := hH (by decide)
     clear hH
     clear hK K
     (try simp only [Act.put, jA, jB, jC])
     refine readyU [21] (by kernel_rfl) (by simp) ?_
     refine EachU.cons (o := ?o28a) ?ho28a (fun K hK => ?_) ?_
     case ho28a => simp only [jD, jE, jF]; exact rfl
     rotate_left
     ·exact EachU.nil
     go_simp
     refine hK.out _ _ (fun _ => ⟨ht5, hc5⟩) (fun hH => ?_)
     replace hHeld := hH (by decide)
     clear hH
     clear hK K
     (try simp only [Act.put, jA, jB, jC])
     refine readyU [22] (by kernel_rfl) (by simp) ?_
     refine EachU.cons (o := ?o29a) ?ho29a (fun K hK => ?_) ?_
     case ho29a => simp only [jD, jE, jF]; exact rfl
     rotate_left
     ·exact EachU.nil
     go_simp
     refine hK.out _ _ (fun h => absurd rfl h) (fun hHeld => ?_)
     clear hK K
     (try simp only [Act.put, jA, jB, jC])
     refine doneU (by kernel_rfl) ?_ _
     have hp := pushed (d := to) (x := x) HR2.out ht2 hF5 hown5
     rw [hup_setEnts] at hp
     obtain ⟨own3, R3, q1, q2, F3⟩ := hp
     generalize w5.setCell _ _ = W3 at R3 F3 ⊢
     have top3 := R3.top
     obtain ⟨_, _, -, z1, -, -, -, -, z6, z7, -⟩ := R3.cells x hx.2
     rw [hup_kind, setEnts_kind, ← HU2.out, setEnts_kind] at z1
     rw [hup_holds] at z6
     have z6a : W3.cell? ⟨B, x * 10 + 6, none⟩ = some (.int .i64 (((t x).holds : Int) + 1)) := z6
     have zf6 := R3.frozen (x * 10 + 6)
     have zf7 := R3.frozen (x * 10 + 7)
     have R4 := R3.setHolds x (t x).holds hx.2
     have e := mv_end0 (u := t) (d := d) (to := to) (x := x) (k := (t x).holds + 1) (h := (t x).holds) (n := s.data.toList) (nm := a.data.toList) (ne_of_beq_false qx) (rfl)
     rw [HU2.out, HLL.out] at e
     have R4' : RT (W3.setCell ⟨B, x * 10 + 6, none⟩ (.int .i64 (t x).holds)) A B own3 (mv t d s.data.toList to a.data.toList x) := by rw [← e]; exact R4
     have HF3 := hid (F3.setB (x * 10 + 6) (.int .i64 (t x).holds))
     have Hg := hid (gone_any _ R4' Hsd.out)
     have HQ1 := hid q1
     have HQ2 := hid q2
     clear R3 R4 R4' F3 e q1 q2 z6
     go_wp2_with (go_at_call 100; refine Hg.out.mono ?_; rintro e w4 ⟨rfl, R5, F5⟩)
     go_ret
     refine ⟨ret_int (by rw [Hr.out]; rfl), ?_⟩
     rw [Hr.out]
     exact Rt.then (fun _ => id) (fun _ => .inl) F1'.out (Rt.then O1.out O2.out HF2.out ⟨own3, R5, HQ1.out, HQ2.out, HF3.out.trans F5⟩)
    refine EachU.cons (o := ?o30a) ?ho30a (fun K hK => ?_) ?_
    case ho30a => simp only [jD, jE, jF]; exact rfl
    rotate_left
    ·exact EachU.nil
    go_simp
    refine hK.out _ _ (fun _ => ⟨((Fr.refl (fun _ => False) w2).alloc _).cell top2 id, ((Fr.refl (fun _ => False) w2).alloc _).cell c92 id⟩) (fun hH => ?_)
    replace hHeld := hH (by decide)
    clear hH
    clear hK K
    (try simp only [Act.put, jA, jB, jC])
    refine readyU [5] (by kernel_rfl) (by simp) ?_
    refine EachU.cons (o := ?o31a) ?ho31a (fun K hK => ?_) ?_
    case ho31a => simp only [jD, jE, jF]; exact rfl
    rotate_left
    ·exact EachU.nil
    go_simp
    refine hK.out _ _ (fun _ => ⟨(((Fr.refl (fun _ => False) w2).alloc _).alloc _).cell top2 id, (((Fr.refl (fun _ => False) w2).alloc _).alloc _).cell c92 id⟩) (fun hH => ?_)
    replace hHeld := hH (by decide)
    clear hH
    clear hK K
    (try simp only [Act.put, jA, jB, jC])
    refine readyU [14] (by kernel_rfl) (by simp) ?_
    refine EachU.cons (o := ?o32a) ?ho32a (fun K hK => ?_) ?_
    case ho32a => simp only [jD, jE, jF]; exact rfl
    rotate_left
    ·exact EachU.nil
    refine step_append_any (by rfl) _ _ (by rfl) (by rfl) w2.heap.size (w2.heap.size + 1) 0 0 [] (by simp [Act.eval, Act.put]) ((made2 w2 _).drew) p2 l.length cap2 (by simp [Act.eval, Act.put]) (entC l) (N2.out.fr (((Fr.refl (fun _ => False) w2).alloc _).alloc _).drew fun _ _ _ => id) (by decide) (by omega) (by simp; try omega) ?_
    intro g3 cap3 w3 hown3 hgrow3 hat3 hlt3
    simp only [Nat.zero_add, List.nil_append] at hown3 ⊢
    have hF3 : Fr (fun _ => False) w2 w3 := (((Fr.refl (fun _ => False) w2).alloc _).alloc _).drew.into hgrow3 (by omega)
    have hb3 := (hown3.lt g3 rfl).1
    have hN3 : News w3 (some ⟨w2.heap.size, 0, none⟩) 1 [.string a, .int .i64 x] := ((news_one w2 a x).fr ((Fr.refl (fun _ => False) _).alloc _) (fun _ _ _ => id)).drew.fr (Fr.of_grown hgrow3) (fun g off e => by cases e; simp)
    have ht3 := hF3.cell top2 id
    have c93 := hF3.cell c92 id
    have hlA3 := cell_lt ht3
    have hlB3 := cell_lt c93
    refine hK.out _ _ (fun _ => ⟨ht3, c93⟩) (fun hH => ?_)
    replace hHeld := hH (by decide)
    clear hH
    clear hK K
    (try simp only [Act.put, jA, jB, jC])
    refine readyU [19] (by kernel_rfl) (by simp) ?_
    refine EachU.cons (o := ?o33a) ?ho33a (fun K hK => ?_) ?_
    case ho33a => simp only [jD, jE, jF]; exact rfl
    rotate_left
    ·exact EachU.nil
    refine step_append_any (by rfl) _ _ (by rfl) (by rfl) w2.heap.size g3 l.length cap3 (entC l) (by simp [Act.eval, Act.put]) hown3 _ 1 1 (by simp [Act.eval, Act.put]) [.string a, .int .i64 x] hN3 (by omega) (by decide) hF3.size ?_
    intro g5 cap5 w5 hown5 hgrow5 hat5 hlt5
    have hF5 : Fr (fun _ => False) w2 w5 := hF3.into hgrow5 hb3
    have hz5 := hF5.frozen c92 fz2 id
    have hc5 := hF5.cell c92 id
    have ht5 := hF5.cell top2 id
    refine hK.out _ _ (fun _ => ⟨ht5, hc5⟩) (fun hH => ?_)
    replace hHeld := hH (by decide)
    clear hH
    clear hK K
    (try simp only [Act.put, jA, jB, jC])
    refine readyU [20] (by kernel_rfl) (by simp) ?_
    refine EachU.cons (o := ?o34a) ?ho34a (fun K hK => ?_) ?_
    case ho34a => simp only [jD, jE, jF]; exact rfl
    rotate_left
    ·exact EachU.nil
    go_simp
    refine hK.out _ _ (fun _ => ⟨ht5, hc5⟩) (fun hH => ?_)
    replace hHeld := hH (by decide)
    clear hH
    clear hK K
    (try simp only [Act.put, jA, jB, jC])
    refine readyU [21] (by kernel_rfl) (by simp) ?_
    refine EachU.cons (o := ?o35a) ?ho35a (fun K hK => ?_) ?_
    case ho35a => simp only [jD, jE, jF]; exact rfl
    rotate_left
    ·exact EachU.nil
    go_simp
    refine hK.out _ _ (fun _ => ⟨ht5, hc5⟩) (fun hH => ?_)
    replace hHeld := hH (by decide)
    clear hH
    clear hK K
    (try simp only [Act.put, jA, jB, jC])
    refine readyU [22] (by kernel_rfl) (by simp) ?_
    refine EachU.cons (o := ?o36a) ?ho36a (fun K hK => ?_) ?_
    case ho36a => simp only [jD, jE, jF]; exact rfl
    rotate_left
    ·exact EachU.nil
    go_simp
    refine hK.out _ _ (fun h => absurd rfl h) (fun hHeld => ?_)
    clear hK K
    (try simp only [Act.put, jA, jB, jC])
    refine doneU (by kernel_rfl) ?_ _
    have hp := pushed (d := to) (x := x) HR2.out ht2 hF5 hown5
    rw [hup_setEnts] at hp
    obtain ⟨own3, R3, q1, q2, F3⟩ := hp
    generalize w5.setCell _ _ = W3 at R3 F3 ⊢
    have top3 := R3.top
    obtain ⟨_, _, -, z1, -, -, -, -, z6, z7, -⟩ := R3.cells x hx.2
    rw [hup_kind, setEnts_kind, ← HU2.out, setEnts_kind] at z1
    rw [hup_holds] at z6
    have z6a : W3.cell? ⟨B, x * 10 + 6, none⟩ = some (.int .i64 (((t x).holds : Int) + 1)) := z6
    have zf6 := R3.frozen (x * 10 + 6)
    have zf7 := R3.frozen (x * 10 + 7)
    have R4 := R3.setHolds x (t x).holds hx.2
    have e := mv_end0 (u := t) (d := d) (to := to) (x := x) (k := (t x).holds + 1) (h := (t x).holds) (n := s.data.toList) (nm := a.data.toList) (ne_of_beq_false qx) (rfl)
    rw [HU2.out, HLL.out] at e
    have R4' : RT (W3.setCell ⟨B, x * 10 + 6, none⟩ (.int .i64 (t x).holds)) A B own3 (mv t d s.data.toList to a.data.toList x) := by rw [← e]; exact R4
    have HF3 := hid (F3.setB (x * 10 + 6) (.int .i64 (t x).holds))
    have Hg := hid (gone_any _ R4' Hsd.out)
    have HQ1 := hid q1
    have HQ2 := hid q2
    clear R3 R4 R4' F3 e q1 q2 z6
    go_wp2_with (go_at_call 100; refine Hg.out.mono ?_; rintro e w4 ⟨rfl, R5, F5⟩)
    go_ret
    refine ⟨ret_int (by rw [Hr.out]; rfl), ?_⟩
    rw [Hr.out]
    exact Rt.then (fun _ => id) (fun _ => .inl) F1'.out (Rt.then O1.out O2.out HF2.out ⟨own3, R5, HQ1.out, HQ2.out, HF3.out.trans F5⟩)
   ·skip
    go_enter Tryz.func93, Tryz.ntmps93
    go_wp2_with (first | (go_at_call 99; (with_reducible refine (Hi1.out ()).mono ?_); rintro e w' ⟨rfl, rfl⟩) | (go_at_call 99; (with_reducible refine (Hi2.out ()).mono ?_); rintro e w' ⟨rfl, rfl⟩) | (go_at_call 121; (with_reducible refine (Hat1.out ()).mono ?_); rintro e w' ⟨rfl, rfl⟩) | (go_at_call 125; refine Hnm.out.mono ?_; rintro e w' ⟨rfl, rfl⟩) | (go_at_call 126; refine Hwi.out.mono ?_; rintro e w' ⟨rfl, rfl⟩) | (go_at_call 121; (with_reducible refine (Hat2.out ()).mono ?_); rintro e w' ⟨rfl, rfl⟩))
    rw [HW1.out]
    go_wp2_with (first | (go_at_call 121; (with_reducible refine Hat3.out.mono ?_); rintro e w' ⟨rfl, rfl⟩))
    have hlenu := hlen
    refine Hwo.out.mono ?_
    rintro e w2 ⟨rfl, own2, R2, o1, o2, F2⟩
    obtain ⟨p2, cap2, -, -, -, -, -, -, -, -, -, c92, hl12, hl22, he2⟩ := R2.cells to ht2
    rw [hup_ents] at c92 hl12 he2
    have N2 := hid (EntsAt.news he2)
    have top2 := R2.top
    have fz2 := R2.frozen (to * 10 + 9)
    obtain ⟨hlA, hlB⟩ := R2.lt
    have hne := R2.ne
    have i8 : (0 : Int) ≤ (to : Int) := by omega
    have i9 : (to : Int) < 201 := by omega
    have HR2 := hid R2
    have O1 := hid o1
    have O2 := hid o2
    have HF2 := hid F2
    unfold maxLen at hl22
    clear R2 he2 o1 o2 F2 Hi1 Hi2 Hnm Hat1 Hat2 Hat3 Hwo Hwi
    obtain ⟨U2, hU2⟩ : ∃ U2, setEnts t d (erE (t d).ents s.data.toList) = U2 := ⟨_, rfl⟩
    rw [hU2] at c92 hl12 N2 HR2
    have hl40 : (U2 to).ents.length ≤ 40 := by
     rw [← hU2, setEnts_ents]
     split
     ·have := erE_le (t d).ents s.data.toList
      omega
     ·exact hlenu
    have HU2 := hid hU2
    clear hU2
    generalize hll : (U2 to).ents = l at c92 hl12 N2 hl40
    have HLL := hid hll
    clear hll
    go_wp2_with fail
    refine regionU (fun w' => w'.cell? ⟨A, 0, none⟩ = some (.slice (some ⟨B, 0, none⟩) 201 201) ∧ w'.cell? ⟨B, to * 10 + 9, none⟩ = some (.slice p2 l.length cap2)) 22 (by kernel_rfl) (by exact ⟨top2, c92⟩) (fun hHeld => ?_)
    refine takeU (oi := ?oi1b) (v := ?v1b) 0 ?hi1b (by kernel_rfl) ?hQ1b ?hy1b (by assumption) ?h1b
    case hi1b => simp only [jD, jE, jF]; exact rfl
    case hQ1b => exact fun _ _ _ h => h
    case hy1b => (refine Or.inl ⟨by rfl, ?_⟩; intro w' hSw; (try dsimp only at hSw); obtain ⟨hS1, hS2⟩ := hSw; go_simp; (try with_reducible rfl))
    simp only [Act.put, jA, jB, jC]
    refine takeU (oi := ?oi2b) (v := ?v2b) 1 ?hi2b (by kernel_rfl) ?hQ2b ?hy2b (by assumption) ?h2b
    case hi2b => simp only [jD, jE, jF]; exact rfl
    case hQ2b => exact fun _ _ _ h => h
    case hy2b => (refine Or.inl ⟨by rfl, ?_⟩; intro w' hSw; (try dsimp only at hSw); obtain ⟨hS1, hS2⟩ := hSw; go_simp; (try with_reducible rfl))
    simp only [Act.put, jA, jB, jC]
    refine takeU (oi := ?oi3b) (v := ?v3b) 2 ?hi3b (by kernel_rfl) ?hQ3b ?hy3b (by assumption) ?h3b
    case hi3b => simp only [jD, jE, jF]; exact rfl
    case hQ3b => exact fun _ _ _ h => h
    case hy3b => (refine Or.inl ⟨by rfl, ?_⟩; intro w' hSw; (try dsimp only at hSw); obtain ⟨hS1, hS2⟩ := hSw; go_simp; (try with_reducible rfl))
    simp only [Act.put, jA, jB, jC]
    refine takeU (oi := ?oi4b) (v := ?v4b) 3 ?hi4b (by kernel_rfl) ?hQ4b ?hy4b (by assumption) ?h4b
    case hi4b => simp only [jD, jE, jF]; exact rfl
    case hQ4b => exact fun _ _ _ h => h
    case hy4b => (refine Or.inl ⟨by rfl, ?_⟩; intro w' hSw; (try dsimp only at hSw); obtain ⟨hS1, hS2⟩ := hSw; go_simp; (try with_reducible rfl))
    simp only [Act.put, jA, jB, jC]
    refine takeU (oi := ?oi5b) (v := ?v5b) 4 ?hi5b (by kernel_rfl) ?hQ5b ?hy5b (by assumption) ?h5b
    case hi5b => simp only [jD, jE, jF]; exact rfl
    case hQ5b => exact fun _ _ _ h => h
    case hy5b => (refine Or.inl ⟨by rfl, ?_⟩; intro w' hSw; (try dsimp only at hSw); obtain ⟨hS1, hS2⟩ := hSw; go_simp; (try with_reducible rfl))
    simp only [Act.put, jA, jB, jC]
    refine takeU (oi := ?oi6b) (v := ?v6b) 6 ?hi6b (by kernel_rfl) ?hQ6b ?hy6b (by assumption) ?h6b
    case hi6b => simp only [jD, jE, jF]; exact rfl
    case hQ6b => exact fun _ _ _ h => h
    case hy6b => (refine Or.inl ⟨by rfl, ?_⟩; intro w' hSw; (try dsimp only at hSw); obtain ⟨hS1, hS2⟩ := hSw; go_simp; (try with_reducible rfl))
    simp only [Act.put, jA, jB, jC]
    refine takeU (oi := ?oi7b) (v := ?v7b) 7 ?hi7b (by kernel_rfl) ?hQ7b ?hy7b (by assumption) ?h7b
    case hi7b => simp only [jD, jE, jF]; exact rfl
    case hQ7b => exact fun _ _ _ h => h
    case hy7b => (refine Or.inl ⟨by rfl, ?_⟩; intro w' hSw; (try dsimp only at hSw); obtain ⟨hS1, hS2⟩ := hSw; go_simp; (try with_reducible rfl))
    simp only [Act.put, jA, jB, jC]
    refine takeU (oi := ?oi8b) (v := ?v8b) 8 ?hi8b (by kernel_rfl) ?hQ8b ?hy8b (by assumption) ?h8b
    case hi8b => simp only [jD, jE, jF]; exact rfl
    case hQ8b => exact fun _ _ _ h => h
    case hy8b => (refine Or.inl ⟨by rfl, ?_⟩; intro w' hSw; (try dsimp only at hSw); obtain ⟨hS1, hS2⟩ := hSw; go_simp; (try with_reducible rfl))
    simp only [Act.put, jA, jB, jC]
    refine takeU (oi := ?oi9b) (v := ?v9b) 9 ?hi9b (by kernel_rfl) ?hQ9b ?hy9b (by assumption) ?h9b
    case hi9b => simp only [jD, jE, jF]; exact rfl
    case hQ9b => exact fun _ _ _ h => h
    case hy9b => (refine Or.inl ⟨by rfl, ?_⟩; intro w' hSw; (try dsimp only at hSw); obtain ⟨hS1, hS2⟩ := hSw; go_simp; (try with_reducible rfl))
    simp only [Act.put, jA, jB, jC]
    refine takeU (oi := ?oi10b) (v := ?v10b) 10 ?hi10b (by kernel_rfl) ?hQ10b ?hy10b (by assumption) ?h10b
    case hi10b => simp only [jD, jE, jF]; exact rfl
    case hQ10b => exact fun _ _ _ h => h
    case hy10b => (refine Or.inl ⟨by rfl, ?_⟩; intro w' hSw; (try dsimp only at hSw); obtain ⟨hS1, hS2⟩ := hSw; go_simp; (try with_reducible rfl))
    simp only [Act.put, jA, jB, jC]
    refine takeU (oi := ?oi11b) (v := ?v11b) 11 ?hi11b (by kernel_rfl) ?hQ11b ?hy11b (by assumption) ?h11b
    case hi11b => simp only [jD, jE, jF]; exact rfl
    case hQ11b => exact fun _ _ _ h => h
    case hy11b => (refine Or.inl ⟨by rfl, ?_⟩; intro w' hSw; (try dsimp only at hSw); obtain ⟨hS1, hS2⟩ := hSw; go_simp; (try with_reducible rfl))
    simp only [Act.put, jA, jB, jC]
    refine takeU (oi := ?oi12b) (v := ?v12b) 12 ?hi12b (by kernel_rfl) ?hQ12b ?hy12b (by assumption) ?h12b
    case hi12b => simp only [jD, jE, jF]; exact rfl
    case hQ12b => exact fun _ _ _ h => h
    case hy12b => (refine Or.inl ⟨by rfl, ?_⟩; intro w' hSw; (try dsimp only at hSw); obtain ⟨hS1, hS2⟩ := hSw; go_simp; (try with_reducible rfl))
    simp only [Act.put, jA, jB, jC]
    refine takeU (oi := ?oi13b) (v := ?v13b) 13 ?hi13b (by kernel_rfl) ?hQ13b ?hy13b (by assumption) ?h13b
    case hi13b => simp only [jD, jE, jF]; exact rfl
    case hQ13b => exact fun _ _ _ h => h
    case hy13b => (refine Or.inl ⟨by rfl, ?_⟩; intro w' hSw; (try dsimp only at hSw); obtain ⟨hS1, hS2⟩ := hSw; go_simp; (try with_reducible rfl))
    simp only [Act.put, jA, jB, jC]
    refine takeU (oi := ?oi14b) (v := ?v14b) 15 ?hi14b (by kernel_rfl) ?hQ14b ?hy14b (by assumption) ?h14b
    case hi14b => simp only [jD, jE, jF]; exact rfl
    case hQ14b => exact fun _ _ _ h => h
    case hy14b => (refine Or.inl ⟨by rfl, ?_⟩; intro w' hSw; (try dsimp only at hSw); obtain ⟨hS1, hS2⟩ := hSw; go_simp; (try with_reducible rfl))
    simp only [Act.put, jA, jB, jC]
    refine takeU (oi := ?oi15b) (v := ?v15b) 16 ?hi15b (by kernel_rfl) ?hQ15b ?hy15b (by assumption) ?h15b
    case hi15b => simp only [jD, jE, jF]; exact rfl
    case hQ15b => exact fun _ _ _ h => h
    case hy15b => (refine Or.inl ⟨by rfl, ?_⟩; intro w' hSw; (try dsimp only at hSw); obtain ⟨hS1, hS2⟩ := hSw; go_simp; (try with_reducible rfl))
    simp only [Act.put, jA, jB, jC]
    refine takeU (oi := ?oi16b) (v := ?v16b) 17 ?hi16b (by kernel_rfl) ?hQ16b ?hy16b (by assumption) ?h16b
    case hi16b => simp only [jD, jE, jF]; exact rfl
    case hQ16b => exact fun _ _ _ h => h
    case hy16b => (refine Or.inl ⟨by rfl, ?_⟩; intro w' hSw; (try dsimp only at hSw); obtain ⟨hS1, hS2⟩ := hSw; go_simp; (try with_reducible rfl))
    simp only [Act.put, jA, jB, jC]
    refine readyU [5, 18] (by kernel_rfl) (by simp) ?_
    refine EachU.cons (o := ?o17b) ?ho17b (fun K hK => ?_) ?_
    case ho17b => simp only [jD, jE, jF]; exact rfl
    ·skip
     go_simp
     refine hK.out _ _ (fun _ => ⟨((Fr.refl (fun _ => False) w2).alloc _).cell top2 id, ((Fr.refl (fun _ => False) w2).alloc _).cell c92 id⟩) (fun hH => ?_)
     replace hHeld := hH (by decide)
     clear hH
     clear hK K
     (try simp only [Act.put, jA, jB, jC])
     refine readyU [14, 18] (by kernel_rfl) (by simp) ?_
     refine EachU.cons (o := ?o18b) ?ho18b (fun K hK => ?_) ?_
     case ho18b => simp only [jD, jE, jF]; exact rfl
     ·skip
      refine step_append_any (by rfl) _ _ (by rfl) (by rfl) w2.heap.size w2.heap.size 0 0 [] (by simp [Act.eval, Act.put]) ((World.ownsRow_made w2 #[] 0 (Nat.le_refl _) (by decide) rfl).drew) p2 l.length cap2 (by simp [Act.eval, Act.put]) (entC l) (N2.out.fr ((Fr.refl (fun _ => False) w2).alloc _).drew fun _ _ _ => id) (by decide) (by omega) (by simp; try omega) ?_
      intro g3 cap3 w3 hown3 hgrow3 hat3 hlt3
      simp only [Nat.zero_add, List.nil_append] at hown3 ⊢
      have hF3 : Fr (fun _ => False) w2 w3 := ((Fr.refl (fun _ => False) w2).alloc _).drew.into hgrow3 (by omega)
      have hb3 := (hown3.lt g3 rfl).1
      have ht3 := hF3.cell top2 id
      have c93 := hF3.cell c92 id
      have hlA3 := cell_lt ht3
      have hlB3 := cell_lt c93
      refine hK.out _ _ (fun _ => ⟨ht3, c93⟩) (fun hH => ?_)
      replace hHeld := hH (by decide)
      clear hH
      clear hK K
      (try simp only [Act.put, jA, jB, jC])
      refine readyU [18] (by kernel_rfl) (by simp) ?_
      refine EachU.cons (o := ?o19b) ?ho19b (fun K hK => ?_) ?_
      case ho19b => simp only [jD, jE, jF]; exact rfl
      rotate_left
      ·exact EachU.nil
      go_simp
      refine hK.out _ _ (fun _ => ⟨(hF3.alloc _).cell top2 id, (hF3.alloc _).cell c92 id⟩) (fun hH => ?_)
      replace hHeld := hH (by decide)
      clear hH
      clear hK K
      (try simp only [Act.put, jA, jB, jC])
      refine readyU [19] (by kernel_rfl) (by simp) ?_
      refine EachU.cons (o := ?o20b) ?ho20b (fun K hK => ?_) ?_
      case ho20b => simp only [jD, jE, jF]; exact rfl
      rotate_left
      ·exact EachU.nil
      refine step_append_any (by rfl) _ _ (by rfl) (by rfl) w2.heap.size g3 l.length cap3 (entC l) (by simp [Act.eval, Act.put]) (hown3.alloc _) (some ⟨w3.heap.size, 0, none⟩) 1 1 (by simp [Act.eval, Act.put]) [.string a, .int .i64 x] (news_one w3 a x) (by omega) (by decide) (by have := hF3.size; simp; omega) ?_
      intro g5 cap5 w5 hown5 hgrow5 hat5 hlt5
      have hF5 : Fr (fun _ => False) w2 w5 := (hF3.alloc _).into hgrow5 hb3
      have hz5 := hF5.frozen c92 fz2 id
      have hc5 := hF5.cell c92 id
      have ht5 := hF5.cell top2 id
      refine hK.out _ _ (fun _ => ⟨ht5, hc5⟩) (fun hH => ?_)
      replace hHeld := hH (by decide)
      clear hH
      clear hK K
      (try simp only [Act.put, jA, jB, jC])
      refine readyU [20] (by kernel_rfl) (by simp) ?_
      refine EachU.cons (o := ?o21b) ?ho21b (fun K hK => ?_) ?_
      case ho21b => simp only [jD, jE, jF]; exact rfl
      rotate_left
      ·exact EachU.nil
      go_simp
      refine hK.out _ _ (fun _ => ⟨ht5, hc5⟩) (fun hH => ?_)
      replace hHeld := hH (by decide)
      clear hH
      clear hK K
      (try simp only [Act.put, jA, jB, jC])
      refine readyU [21] (by kernel_rfl) (by simp) ?_
      refine EachU.cons (o := ?o22b) ?ho22b (fun K hK => ?_) ?_
      case ho22b => simp only [jD, jE, jF]; exact rfl
      rotate_left
      ·exact EachU.nil
      go_simp
      refine hK.out _ _ (fun _ => ⟨ht5, hc5⟩) (fun hH => ?_)
      replace hHeld := hH (by decide)
      clear hH
      clear hK K
      (try simp only [Act.put, jA, jB, jC])
      refine readyU [22] (by kernel_rfl) (by simp) ?_
      refine EachU.cons (o := ?o23b) ?ho23b (fun K hK => ?_) ?_
      case ho23b => simp only [jD, jE, jF]; exact rfl
      rotate_left
      ·exact EachU.nil
      go_simp
      refine hK.out _ _ (fun h => absurd rfl h) (fun hHeld => ?_)
      clear hK K
      (try simp only [Act.put, jA, jB, jC])
      refine doneU (by kernel_rfl) ?_ _
      have hp := pushed (d := to) (x := x) HR2.out ht2 hF5 hown5
      rw [hup_setEnts] at hp
      obtain ⟨own3, R3, q1, q2, F3⟩ := hp
      generalize w5.setCell _ _ = W3 at R3 F3 ⊢
      have top3 := R3.top
      obtain ⟨_, _, -, z1, -, -, -, -, z6, z7, -⟩ := R3.cells x hx.2
      rw [hup_kind, setEnts_kind, ← HU2.out, setEnts_kind] at z1
      rw [hup_holds] at z6
      have z6a : W3.cell? ⟨B, x * 10 + 6, none⟩ = some (.int .i64 (((t x).holds : Int) + 1)) := z6
      have zf6 := R3.frozen (x * 10 + 6)
      have zf7 := R3.frozen (x * 10 + 7)
      have Rp := R3.setPar x to hx.2 (by rw [hup_kind, setEnts_kind, ← HU2.out, setEnts_kind]; exact eq_of_beq qx)
      have R4 := Rp.setHolds x (t x).holds hx.2
      have e := mv_end1 (u := t) (d := d) (to := to) (x := x) (k := (t x).holds + 1) (h := (t x).holds) (n := s.data.toList) (nm := a.data.toList) (rfl)
      rw [HU2.out, HLL.out] at e
      have R4' : RT ((W3.setCell ⟨B, x * 10 + 7, none⟩ (.int .i64 to)).setCell ⟨B, x * 10 + 6, none⟩ (.int .i64 (t x).holds)) A B own3 (mv t d s.data.toList to a.data.toList x) := by rw [← e]; exact R4
      have HF3 := hid ((F3.setB (x * 10 + 7) (.int .i64 to)).setB (x * 10 + 6) (.int .i64 (t x).holds))
      clear Rp
      have Hg := hid (gone_any _ R4' Hsd.out)
      have HQ1 := hid q1
      have HQ2 := hid q2
      clear R3 R4 R4' F3 e q1 q2 z6
      go_wp2_with (go_at_call 100; refine Hg.out.mono ?_; rintro e w4 ⟨rfl, R5, F5⟩)
      go_ret
      refine ⟨ret_int (by rw [Hr.out]; rfl), ?_⟩
      rw [Hr.out]
      exact Rt.then (fun _ => id) (fun _ => .inl) F1'.out (Rt.then O1.out O2.out HF2.out ⟨own3, R5, HQ1.out, HQ2.out, HF3.out.trans F5⟩)
     refine EachU.cons (o := ?o24b) ?ho24b (fun K hK => ?_) ?_
     case ho24b => simp only [jD, jE, jF]; exact rfl
     rotate_left
     ·exact EachU.nil
     go_simp
     refine hK.out _ _ (fun _ => ⟨(((Fr.refl (fun _ => False) w2).alloc _).alloc _).cell top2 id, (((Fr.refl (fun _ => False) w2).alloc _).alloc _).cell c92 id⟩) (fun hH => ?_)
     replace hHeld := hH (by decide)
     clear hH
     clear hK K
     (try simp only [Act.put, jA, jB, jC])
     refine readyU [14] (by kernel_rfl) (by simp) ?_
     refine EachU.cons (o := ?o25b) ?ho25b (fun K hK => ?_) ?_
     case ho25b => simp only [jD, jE, jF]; exact rfl
     rotate_left
     ·exact EachU.nil
     refine step_append_any (by rfl) _ _ (by rfl) (by rfl) w2.heap.size w2.heap.size 0 0 [] (by simp [Act.eval, Act.put]) (((World.ownsRow_made w2 #[] 0 (Nat.le_refl _) (by decide) rfl).alloc _).drew) p2 l.length cap2 (by simp [Act.eval, Act.put]) (entC l) (N2.out.fr (((Fr.refl (fun _ => False) w2).alloc _).alloc _).drew fun _ _ _ => id) (by decide) (by omega) (by simp; try omega) ?_
     intro g3 cap3 w3 hown3 hgrow3 hat3 hlt3
     simp only [Nat.zero_add, List.nil_append] at hown3 ⊢
     have hF3 : Fr (fun _ => False) w2 w3 := (((Fr.refl (fun _ => False) w2).alloc _).alloc _).drew.into hgrow3 (by omega)
     have hb3 := (hown3.lt g3 rfl).1
     have hN3 : News w3 (some ⟨w2.heap.size + 1, 0, none⟩) 1 [.string a, .int .i64 x] := (news_one2 w2 _ a x).drew.fr (Fr.of_grown hgrow3) (fun g off e => by cases e; simp)
     have ht3 := hF3.cell top2 id
     have c93 := hF3.cell c92 id
     have hlA3 := cell_lt ht3
     have hlB3 := cell_lt c93
     refine hK.out _ _ (fun _ => ⟨ht3, c93⟩) (fun hH => ?_)
     replace hHeld := hH (by decide)
     clear hH
     clear hK K
     (try simp only [Act.put, jA, jB, jC])
     refine readyU [19] (by kernel_rfl) (by simp) ?_
     refine EachU.cons (o := ?o26b) ?ho26b (fun K hK => ?_) ?_
     case ho26b => simp only [jD, jE, jF]; exact rfl
     rotate_left
     ·exact EachU.nil
     refine step_append_any (by rfl) _ _ (by rfl) (by rfl) w2.heap.size g3 l.length cap3 (entC l) (by simp [Act.eval, Act.put]) hown3 _ 1 1 (by simp [Act.eval, Act.put]) [.string a, .int .i64 x] hN3 (by omega) (by decide) hF3.size ?_
     intro g5 cap5 w5 hown5 hgrow5 hat5 hlt5
     have hF5 : Fr (fun _ => False) w2 w5 := hF3.into hgrow5 hb3
     have hz5 := hF5.frozen c92 fz2 id
     have hc5 := hF5.cell c92 id
     have ht5 := hF5.cell top2 id
     refine hK.out _ _ (fun _ => ⟨ht5, hc5⟩) (fun hH => ?_)
     replace hHeld := hH (by decide)
     clear hH
     clear hK K
     (try simp only [Act.put, jA, jB, jC])
     refine readyU [20] (by kernel_rfl) (by simp) ?_
     refine EachU.cons (o := ?o27b) ?ho27b (fun K hK => ?_) ?_
     case ho27b => simp only [jD, jE, jF]; exact rfl
     rotate_left
     ·exact EachU.nil
     go_simp
     refine hK.out _ _ (fun _ => ⟨ht5, hc5⟩) (fun hH => ?_)
     replace hHeld := hH (by decide)
     clear hH
     clear hK K
     (try simp only [Act.put, jA, jB, jC])
     refine readyU [21] (by kernel_rfl) (by simp) ?_
     refine EachU.cons (o := ?o28b) ?ho28b (fun K hK => ?_) ?_
     case ho28b => simp only [jD, jE, jF]; exact rfl
     rotate_left
     ·exact EachU.nil
     go_simp
     refine hK.out _ _ (fun _ => ⟨ht5, hc5⟩) (fun hH => ?_)
     replace hHeld := hH (by decide)
     clear hH
     clear hK K
     (try simp only [Act.put, jA, jB, jC])
     refine readyU [22] (by kernel_rfl) (by simp) ?_
     refine EachU.cons (o := ?o29b) ?ho29b (fun K hK => ?_) ?_
     case ho29b => simp only [jD, jE, jF]; exact rfl
     rotate_left
     ·exact EachU.nil
     go_simp
     refine hK.out _ _ (fun h => absurd rfl h) (fun hHeld => ?_)
     clear hK K
     (try simp only [Act.put, jA, jB, jC])
     refine doneU (by kernel_rfl) ?_ _
     have hp := pushed (d := to) (x := x) HR2.out ht2 hF5 hown5
     rw [hup_setEnts] at hp
     obtain ⟨own3, R3, q1, q2, F3⟩ := hp
     generalize w5.setCell _ _ = W3 at R3 F3 ⊢
     have top3 := R3.top
     obtain ⟨_, _, -, z1, -, -, -, -, z6, z7, -⟩ := R3.cells x hx.2
     rw [hup_kind, setEnts_kind, ← HU2.out, setEnts_kind] at z1
     rw [hup_holds] at z6
     have z6a : W3.cell? ⟨B, x * 10 + 6, none⟩ = some (.int .i64 (((t x).holds : Int) + 1)) := z6
     have zf6 := R3.frozen (x * 10 + 6)
     have zf7 := R3.frozen (x * 10 + 7)
     have Rp := R3.setPar x to hx.2 (by rw [hup_kind, setEnts_kind, ← HU2.out, setEnts_kind]; exact eq_of_beq qx)
     have R4 := Rp.setHolds x (t x).holds hx.2
     have e := mv_end1 (u := t) (d := d) (to := to) (x := x) (k := (t x).holds + 1) (h := (t x).holds) (n := s.data.toList) (nm := a.data.toList) (rfl)
     rw [HU2.out, HLL.out] at e
     have R4' : RT ((W3.setCell ⟨B, x * 10 + 7, none⟩ (.int .i64 to)).setCell ⟨B, x * 10 + 6, none⟩ (.int .i64 (t x).holds)) A B own3 (mv t d s.data.toList to a.data.toList x) := by rw [← e]; exact R4
     have HF3 := hid ((F3.setB (x * 10 + 7) (.int .i64 to)).setB (x * 10 + 6) (.int .i64 (t x).holds))
     clear Rp
     have Hg := hid (gone_any _ R4' Hsd.out)
     have HQ1 := hid q1
     have HQ2 := hid q2
     clear R3 R4 R4' F3 e q1 q2 z6
     go_wp2_with (go_at_call 100; refine Hg.out.mono ?_; rintro e w4 ⟨rfl, R5, F5⟩)
     go_ret
     refine ⟨ret_int (by rw [Hr.out]; rfl), ?_⟩
     rw [Hr.out]
     exact Rt.then (fun _ => id) (fun _ => .inl) F1'.out (Rt.then O1.out O2.out HF2.out ⟨own3, R5, HQ1.out, HQ2.out, HF3.out.trans F5⟩)
    refine EachU.cons (o := ?o30b) ?ho30b (fun K hK => ?_) ?_
    case ho30b => simp only [jD, jE, jF]; exact rfl
    rotate_left
    ·exact EachU.nil
    go_simp
    refine hK.out _ _ (fun _ => ⟨((Fr.refl (fun _ => False) w2).alloc _).cell top2 id, ((Fr.refl (fun _ => False) w2).alloc _).cell c92 id⟩) (fun hH => ?_)
    replace hHeld := hH (by decide)
    clear hH
    clear hK K
    (try simp only [Act.put, jA, jB, jC])
    refine readyU [5] (by kernel_rfl) (by simp) ?_
    refine EachU.cons (o := ?o31b) ?ho31b (fun K hK => ?_) ?_
    case ho31b => simp only [jD, jE, jF]; exact rfl
    rotate_left
    ·exact EachU.nil
    go_simp
    refine hK.out _ _ (fun _ => ⟨(((Fr.refl (fun _ => False) w2).alloc _).alloc _).cell top2 id, (((Fr.refl (fun _ => False) w2).alloc _).alloc _).cell c92 id⟩) (fun hH => ?_)
    replace hHeld := hH (by decide)
    clear hH
    clear hK K
    (try simp only [Act.put, jA, jB, jC])
    refine readyU [14] (by kernel_rfl) (by simp) ?_
    refine EachU.cons (o := ?o32b) ?ho32b (fun K hK => ?_) ?_
    case ho32b => simp only [jD, jE, jF]; exact rfl
    rotate_left
    ·exact EachU.nil
    refine step_append_any (by rfl) _ _ (by rfl) (by rfl) w2.heap.size (w2.heap.size + 1) 0 0 [] (by simp [Act.eval, Act.put]) ((made2 w2 _).drew) p2 l.length cap2 (by simp [Act.eval, Act.put]) (entC l) (N2.out.fr (((Fr.refl (fun _ => False) w2).alloc _).alloc _).drew fun _ _ _ => id) (by decide) (by omega) (by simp; try omega) ?_
    intro g3 cap3 w3 hown3 hgrow3 hat3 hlt3
    simp only [Nat.zero_add, List.nil_append] at hown3 ⊢
    have hF3 : Fr (fun _ => False) w2 w3 := (((Fr.refl (fun _ => False) w2).alloc _).alloc _).drew.into hgrow3 (by omega)
    have hb3 := (hown3.lt g3 rfl).1
    have hN3 : News w3 (some ⟨w2.heap.size, 0, none⟩) 1 [.string a, .int .i64 x] := ((news_one w2 a x).fr ((Fr.refl (fun _ => False) _).alloc _) (fun _ _ _ => id)).drew.fr (Fr.of_grown hgrow3) (fun g off e => by cases e; simp)
    have ht3 := hF3.cell top2 id
    have c93 := hF3.cell c92 id
    have hlA3 := cell_lt ht3
    have hlB3 := cell_lt c93
    refine hK.out _ _ (fun _ => ⟨ht3, c93⟩) (fun hH => ?_)
    replace hHeld := hH (by decide)
    clear hH
    clear hK K
    (try simp only [Act.put, jA, jB, jC])
    refine readyU [19] (by kernel_rfl) (by simp) ?_
    refine EachU.cons (o := ?o33b) ?ho33b (fun K hK => ?_) ?_
    case ho33b => simp only [jD, jE, jF]; exact rfl
    rotate_left
    ·exact EachU.nil
    refine step_append_any (by rfl) _ _ (by rfl) (by rfl) w2.heap.size g3 l.length cap3 (entC l) (by simp [Act.eval, Act.put]) hown3 _ 1 1 (by simp [Act.eval, Act.put]) [.string a, .int .i64 x] hN3 (by omega) (by decide) hF3.size ?_
    intro g5 cap5 w5 hown5 hgrow5 hat5 hlt5
    have hF5 : Fr (fun _ => False) w2 w5 := hF3.into hgrow5 hb3
    have hz5 := hF5.frozen c92 fz2 id
    have hc5 := hF5.cell c92 id
    have ht5 := hF5.cell top2 id
    refine hK.out _ _ (fun _ => ⟨ht5, hc5⟩) (fun hH => ?_)
    replace hHeld := hH (by decide)
    clear hH
    clear hK K
    (try simp only [Act.put, jA, jB, jC])
    refine readyU [20] (by kernel_rfl) (by simp) ?_
    refine EachU.cons (o := ?o34b) ?ho34b (fun K hK => ?_) ?_
    case ho34b => simp only [jD, jE, jF]; exact rfl
    rotate_left
    ·exact EachU.nil
    go_simp
    refine hK.out _ _ (fun _ => ⟨ht5, hc5⟩) (fun hH => ?_)
    replace hHeld := hH (by decide)
    clear hH
    clear hK K
    (try simp only [Act.put, jA, jB, jC])
    refine readyU [21] (by kernel_rfl) (by simp) ?_
    refine EachU.cons (o := ?o35b) ?ho35b (fun K hK => ?_) ?_
    case ho35b => simp only [jD, jE, jF]; exact rfl
    rotate_left
    ·exact EachU.nil
    go_simp
    refine hK.out _ _ (fun _ => ⟨ht5, hc5⟩) (fun hH => ?_)
    replace hHeld := hH (by decide)
    clear hH
    clear hK K
    (try simp only [Act.put, jA, jB, jC])
    refine readyU [22] (by kernel_rfl) (by simp) ?_
    refine EachU.cons (o := ?o36b) ?ho36b (fun K hK => ?_) ?_
    case ho36b => simp only [jD, jE, jF]; exact rfl
    rotate_left
    ·exact EachU.nil
    go_simp
    refine hK.out _ _ (fun h => absurd rfl h) (fun hHeld => ?_)
    clear hK K
    (try simp only [Act.put, jA, jB, jC])
    refine doneU (by kernel_rfl) ?_ _
    have hp := pushed (d := to) (x := x) HR2.out ht2 hF5 hown5
    rw [hup_setEnts] at hp
    obtain ⟨own3, R3, q1, q2, F3⟩ := hp
    generalize w5.setCell _ _ = W3 at R3 F3 ⊢
    have top3 := R3.top
    obtain ⟨_, _, -, z1, -, -, -, -, z6, z7, -⟩ := R3.cells x hx.2
    rw [hup_kind, setEnts_kind, ← HU2.out, setEnts_kind] at z1
    rw [hup_holds] at z6
    have z6a : W3.cell? ⟨B, x * 10 + 6, none⟩ = some (.int .i64 (((t x).holds : Int) + 1)) := z6
    have zf6 := R3.frozen (x * 10 + 6)
    have zf7 := R3.frozen (x * 10 + 7)
    have Rp := R3.setPar x to hx.2 (by rw [hup_kind, setEnts_kind, ← HU2.out, setEnts_kind]; exact eq_of_beq qx)
    have R4 := Rp.setHolds x (t x).holds hx.2
    have e := mv_end1 (u := t) (d := d) (to := to) (x := x) (k := (t x).holds + 1) (h := (t x).holds) (n := s.data.toList) (nm := a.data.toList) (rfl)
    rw [HU2.out, HLL.out] at e
    have R4' : RT ((W3.setCell ⟨B, x * 10 + 7, none⟩ (.int .i64 to)).setCell ⟨B, x * 10 + 6, none⟩ (.int .i64 (t x).holds)) A B own3 (mv t d s.data.toList to a.data.toList x) := by rw [← e]; exact R4
    have HF3 := hid ((F3.setB (x * 10 + 7) (.int .i64 to)).setB (x * 10 + 6) (.int .i64 (t x).holds))
    clear Rp
    have Hg := hid (gone_any _ R4' Hsd.out)
    have HQ1 := hid q1
    have HQ2 := hid q2
    clear R3 R4 R4' F3 e q1 q2 z6
    go_wp2_with (go_at_call 100; refine Hg.out.mono ?_; rintro e w4 ⟨rfl, R5, F5⟩)
    go_ret
    refine ⟨ret_int (by rw [Hr.out]; rfl), ?_⟩
    rw [Hr.out]
    exact Rt.then (fun _ => id) (fun _ => .inl) F1'.out (Rt.then O1.out O2.out HF2.out ⟨own3, R5, HQ1.out, HQ2.out, HF3.out.trans F5⟩)
  ·skip
   have htd : ((to : Int) == (d : Int)) = true := by rw [beq_iff_eq]; omega
   clear hde
   clear hcond hba h40 h hs hw
   cases qx : ((t x).kind == 1)
   ·skip
    go_enter Tryz.func93, Tryz.ntmps93
    go_wp2_with (first | (go_at_call 99; (with_reducible refine (Hi1.out ()).mono ?_); rintro e w' ⟨rfl, rfl⟩) | (go_at_call 99; (with_reducible refine (Hi2.out ()).mono ?_); rintro e w' ⟨rfl, rfl⟩) | (go_at_call 121; (with_reducible refine (Hat1.out ()).mono ?_); rintro e w' ⟨rfl, rfl⟩) | (go_at_call 125; refine Hnm.out.mono ?_; rintro e w' ⟨rfl, rfl⟩) | (go_at_call 126; refine Hwi.out.mono ?_; rintro e w' ⟨rfl, rfl⟩) | (go_at_call 121; (with_reducible refine (Hat2.out ()).mono ?_); rintro e w' ⟨rfl, rfl⟩))
    rw [HW1.out]
    go_wp2_with (first | (go_at_call 121; (with_reducible refine Hat3.out.mono ?_); rintro e w' ⟨rfl, rfl⟩))
    have hlenu := hlen
    refine Hwo.out.mono ?_
    rintro e w2 ⟨rfl, own2, R2, o1, o2, F2⟩
    obtain ⟨p2, cap2, -, -, -, -, -, -, -, -, -, c92, hl12, hl22, he2⟩ := R2.cells to ht2
    rw [hup_ents] at c92 hl12 he2
    have N2 := hid (EntsAt.news he2)
    have top2 := R2.top
    have fz2 := R2.frozen (to * 10 + 9)
    obtain ⟨hlA, hlB⟩ := R2.lt
    have hne := R2.ne
    have i8 : (0 : Int) ≤ (to : Int) := by omega
    have i9 : (to : Int) < 201 := by omega
    have HR2 := hid R2
    have O1 := hid o1
    have O2 := hid o2
    have HF2 := hid F2
    unfold maxLen at hl22
    clear R2 he2 o1 o2 F2 Hi1 Hi2 Hnm Hat1 Hat2 Hat3 Hwo Hwi
    obtain ⟨U2, hU2⟩ : ∃ U2, setEnts t d (erE (t d).ents s.data.toList) = U2 := ⟨_, rfl⟩
    rw [hU2] at c92 hl12 N2 HR2
    have hl40 : (U2 to).ents.length ≤ 40 := by
     rw [← hU2, setEnts_ents]
     split
     ·have := erE_le (t d).ents s.data.toList
      omega
     ·exact hlenu
    have HU2 := hid hU2
    clear hU2
    generalize hll : (U2 to).ents = l at c92 hl12 N2 hl40
    have HLL := hid hll
    clear hll
    go_wp2_with fail
    refine regionU (fun w' => w'.cell? ⟨A, 0, none⟩ = some (.slice (some ⟨B, 0, none⟩) 201 201) ∧ w'.cell? ⟨B, to * 10 + 9, none⟩ = some (.slice p2 l.length cap2)) 22 (by kernel_rfl) (by exact ⟨top2, c92⟩) (fun hHeld => ?_)
    refine takeU (oi := ?oi1c) (v := ?v1c) 0 ?hi1c (by kernel_rfl) ?hQ1c ?hy1c (by assumption) ?h1c
    case hi1c => simp only [jD, jE, jF]; exact rfl
    case hQ1c => exact fun _ _ _ h => h
    case hy1c => (refine Or.inl ⟨by rfl, ?_⟩; intro w' hSw; (try dsimp only at hSw); obtain ⟨hS1, hS2⟩ := hSw; go_simp; (try with_reducible rfl))
    simp only [Act.put, jA, jB, jC]
    refine takeU (oi := ?oi2c) (v := ?v2c) 1 ?hi2c (by kernel_rfl) ?hQ2c ?hy2c (by assumption) ?h2c
    case hi2c => simp only [jD, jE, jF]; exact rfl
    case hQ2c => exact fun _ _ _ h => h
    case hy2c => (refine Or.inl ⟨by rfl, ?_⟩; intro w' hSw; (try dsimp only at hSw); obtain ⟨hS1, hS2⟩ := hSw; go_simp; (try with_reducible rfl))
    simp only [Act.put, jA, jB, jC]
    refine takeU (oi := ?oi3c) (v := ?v3c) 2 ?hi3c (by kernel_rfl) ?hQ3c ?hy3c (by assumption) ?h3c
    case hi3c => simp only [jD, jE, jF]; exact rfl
    case hQ3c => exact fun _ _ _ h => h
    case hy3c => (refine Or.inl ⟨by rfl, ?_⟩; intro w' hSw; (try dsimp only at hSw); obtain ⟨hS1, hS2⟩ := hSw; go_simp; (try with_reducible rfl))
    simp only [Act.put, jA, jB, jC]
    refine takeU (oi := ?oi4c) (v := ?v4c) 3 ?hi4c (by kernel_rfl) ?hQ4c ?hy4c (by assumption) ?h4c
    case hi4c => simp only [jD, jE, jF]; exact rfl
    case hQ4c => exact fun _ _ _ h => h
    case hy4c => (refine Or.inl ⟨by rfl, ?_⟩; intro w' hSw; (try dsimp only at hSw); obtain ⟨hS1, hS2⟩ := hSw; go_simp; (try with_reducible rfl))
    simp only [Act.put, jA, jB, jC]
    refine takeU (oi := ?oi5c) (v := ?v5c) 4 ?hi5c (by kernel_rfl) ?hQ5c ?hy5c (by assumption) ?h5c
    case hi5c => simp only [jD, jE, jF]; exact rfl
    case hQ5c => exact fun _ _ _ h => h
    case hy5c => (refine Or.inl ⟨by rfl, ?_⟩; intro w' hSw; (try dsimp only at hSw); obtain ⟨hS1, hS2⟩ := hSw; go_simp; (try with_reducible rfl))
    simp only [Act.put, jA, jB, jC]
    refine takeU (oi := ?oi6c) (v := ?v6c) 6 ?hi6c (by kernel_rfl) ?hQ6c ?hy6c (by assumption) ?h6c
    case hi6c => simp only [jD, jE, jF]; exact rfl
    case hQ6c => exact fun _ _ _ h => h
    case hy6c => (refine Or.inl ⟨by rfl, ?_⟩; intro w' hSw; (try dsimp only at hSw); obtain ⟨hS1, hS2⟩ := hSw; go_simp; (try with_reducible rfl))
    simp only [Act.put, jA, jB, jC]
    refine takeU (oi := ?oi7c) (v := ?v7c) 7 ?hi7c (by kernel_rfl) ?hQ7c ?hy7c (by assumption) ?h7c
    case hi7c => simp only [jD, jE, jF]; exact rfl
    case hQ7c => exact fun _ _ _ h => h
    case hy7c => (refine Or.inl ⟨by rfl, ?_⟩; intro w' hSw; (try dsimp only at hSw); obtain ⟨hS1, hS2⟩ := hSw; go_simp; (try with_reducible rfl))
    simp only [Act.put, jA, jB, jC]
    refine takeU (oi := ?oi8c) (v := ?v8c) 8 ?hi8c (by kernel_rfl) ?hQ8c ?hy8c (by assumption) ?h8c
    case hi8c => simp only [jD, jE, jF]; exact rfl
    case hQ8c => exact fun _ _ _ h => h
    case hy8c => (refine Or.inl ⟨by rfl, ?_⟩; intro w' hSw; (try dsimp only at hSw); obtain ⟨hS1, hS2⟩ := hSw; go_simp; (try with_reducible rfl))
    simp only [Act.put, jA, jB, jC]
    refine takeU (oi := ?oi9c) (v := ?v9c) 9 ?hi9c (by kernel_rfl) ?hQ9c ?hy9c (by assumption) ?h9c
    case hi9c => simp only [jD, jE, jF]; exact rfl
    case hQ9c => exact fun _ _ _ h => h
    case hy9c => (refine Or.inl ⟨by rfl, ?_⟩; intro w' hSw; (try dsimp only at hSw); obtain ⟨hS1, hS2⟩ := hSw; go_simp; (try with_reducible rfl))
    simp only [Act.put, jA, jB, jC]
    refine takeU (oi := ?oi10c) (v := ?v10c) 10 ?hi10c (by kernel_rfl) ?hQ10c ?hy10c (by assumption) ?h10c
    case hi10c => simp only [jD, jE, jF]; exact rfl
    case hQ10c => exact fun _ _ _ h => h
    case hy10c => (refine Or.inl ⟨by rfl, ?_⟩; intro w' hSw; (try dsimp only at hSw); obtain ⟨hS1, hS2⟩ := hSw; go_simp; (try with_reducible rfl))
    simp only [Act.put, jA, jB, jC]
    refine takeU (oi := ?oi11c) (v := ?v11c) 11 ?hi11c (by kernel_rfl) ?hQ11c ?hy11c (by assumption) ?h11c
    case hi11c => simp only [jD, jE, jF]; exact rfl
    case hQ11c => exact fun _ _ _ h => h
    case hy11c => (refine Or.inl ⟨by rfl, ?_⟩; intro w' hSw; (try dsimp only at hSw); obtain ⟨hS1, hS2⟩ := hSw; go_simp; (try with_reducible rfl))
    simp only [Act.put, jA, jB, jC]
    refine takeU (oi := ?oi12c) (v := ?v12c) 12 ?hi12c (by kernel_rfl) ?hQ12c ?hy12c (by assumption) ?h12c
    case hi12c => simp only [jD, jE, jF]; exact rfl
    case hQ12c => exact fun _ _ _ h => h
    case hy12c => (refine Or.inl ⟨by rfl, ?_⟩; intro w' hSw; (try dsimp only at hSw); obtain ⟨hS1, hS2⟩ := hSw; go_simp; (try with_reducible rfl))
    simp only [Act.put, jA, jB, jC]
    refine takeU (oi := ?oi13c) (v := ?v13c) 13 ?hi13c (by kernel_rfl) ?hQ13c ?hy13c (by assumption) ?h13c
    case hi13c => simp only [jD, jE, jF]; exact rfl
    case hQ13c => exact fun _ _ _ h => h
    case hy13c => (refine Or.inl ⟨by rfl, ?_⟩; intro w' hSw; (try dsimp only at hSw); obtain ⟨hS1, hS2⟩ := hSw; go_simp; (try with_reducible rfl))
    simp only [Act.put, jA, jB, jC]
    refine takeU (oi := ?oi14c) (v := ?v14c) 15 ?hi14c (by kernel_rfl) ?hQ14c ?hy14c (by assumption) ?h14c
    case hi14c => simp only [jD, jE, jF]; exact rfl
    case hQ14c => exact fun _ _ _ h => h
    case hy14c => (refine Or.inl ⟨by rfl, ?_⟩; intro w' hSw; (try dsimp only at hSw); obtain ⟨hS1, hS2⟩ := hSw; go_simp; (try with_reducible rfl))
    simp only [Act.put, jA, jB, jC]
    refine takeU (oi := ?oi15c) (v := ?v15c) 16 ?hi15c (by kernel_rfl) ?hQ15c ?hy15c (by assumption) ?h15c
    case hi15c => simp only [jD, jE, jF]; exact rfl
    case hQ15c => exact fun _ _ _ h => h
    case hy15c => (refine Or.inl ⟨by rfl, ?_⟩; intro w' hSw; (try dsimp only at hSw); obtain ⟨hS1, hS2⟩ := hSw; go_simp; (try with_reducible rfl))
    simp only [Act.put, jA, jB, jC]
    refine takeU (oi := ?oi16c) (v := ?v16c) 17 ?hi16c (by kernel_rfl) ?hQ16c ?hy16c (by assumption) ?h16c
    case hi16c => simp only [jD, jE, jF]; exact rfl
    case hQ16c => exact fun _ _ _ h => h
    case hy16c => (refine Or.inl ⟨by rfl, ?_⟩; intro w' hSw; (try dsimp only at hSw); obtain ⟨hS1, hS2⟩ := hSw; go_simp; (try with_reducible rfl))
    simp only [Act.put, jA, jB, jC]
    refine readyU [5, 18] (by kernel_rfl) (by simp) ?_
    refine EachU.cons (o := ?o17c) ?ho17c (fun K hK => ?_) ?_
    case ho17c => simp only [jD, jE, jF]; exact rfl
    ·skip
     go_simp
     refine hK.out _ _ (fun _ => ⟨((Fr.refl (fun _ => False) w2).alloc _).cell top2 id, ((Fr.refl (fun _ => False) w2).alloc _).cell c92 id⟩) (fun hH => ?_)
     replace hHeld := hH (by decide)
     clear hH
     clear hK K
     (try simp only [Act.put, jA, jB, jC])
     refine readyU [14, 18] (by kernel_rfl) (by simp) ?_
     refine EachU.cons (o := ?o18c) ?ho18c (fun K hK => ?_) ?_
     case ho18c => simp only [jD, jE, jF]; exact rfl
     ·skip
      refine step_append_any (by rfl) _ _ (by rfl) (by rfl) w2.heap.size w2.heap.size 0 0 [] (by simp [Act.eval, Act.put]) ((World.ownsRow_made w2 #[] 0 (Nat.le_refl _) (by decide) rfl).drew) p2 l.length cap2 (by simp [Act.eval, Act.put]) (entC l) (N2.out.fr ((Fr.refl (fun _ => False) w2).alloc _).drew fun _ _ _ => id) (by decide) (by omega) (by simp; try omega) ?_
      intro g3 cap3 w3 hown3 hgrow3 hat3 hlt3
      simp only [Nat.zero_add, List.nil_append] at hown3 ⊢
      have hF3 : Fr (fun _ => False) w2 w3 := ((Fr.refl (fun _ => False) w2).alloc _).drew.into hgrow3 (by omega)
      have hb3 := (hown3.lt g3 rfl).1
      have ht3 := hF3.cell top2 id
      have c93 := hF3.cell c92 id
      have hlA3 := cell_lt ht3
      have hlB3 := cell_lt c93
      refine hK.out _ _ (fun _ => ⟨ht3, c93⟩) (fun hH => ?_)
      replace hHeld := hH (by decide)
      clear hH
      clear hK K
      (try simp only [Act.put, jA, jB, jC])
      refine readyU [18] (by kernel_rfl) (by simp) ?_
      refine EachU.cons (o := ?o19c) ?ho19c (fun K hK => ?_) ?_
      case ho19c => simp only [jD, jE, jF]; exact rfl
      rotate_left
      ·exact EachU.nil
      go_simp
      refine hK.out _ _ (fun _ => ⟨(hF3.alloc _).cell top2 id, (hF3.alloc _).cell c92 id⟩) (fun hH => ?_)
      replace hHeld := hH (by decide)
      clear hH
      clear hK K
      (try simp only [Act.put, jA, jB, jC])
      refine readyU [19] (by kernel_rfl) (by simp) ?_
      refine EachU.cons (o := ?o20c) ?ho20c (fun K hK => ?_) ?_
      case ho20c => simp only [jD, jE, jF]; exact rfl
      rotate_left
      ·exact EachU.nil
      refine step_append_any (by rfl) _ _ (by rfl) (by rfl) w2.heap.size g3 l.length cap3 (entC l) (by simp [Act.eval, Act.put]) (hown3.alloc _) (some ⟨w3.heap.size, 0, none⟩) 1 1 (by simp [Act.eval, Act.put]) [.string a, .int .i64 x] (news_one w3 a x) (by omega) (by decide) (by have := hF3.size; simp; omega) ?_
      intro g5 cap5 w5 hown5 hgrow5 hat5 hlt5
      have hF5 : Fr (fun _ => False) w2 w5 := (hF3.alloc _).into hgrow5 hb3
      have hz5 := hF5.frozen c92 fz2 id
      have hc5 := hF5.cell c92 id
      have ht5 := hF5.cell top2 id
      refine hK.out _ _ (fun _ => ⟨ht5, hc5⟩) (fun hH => ?_)
      replace hHeld := hH (by decide)
      clear hH
      clear hK K
      (try simp only [Act.put, jA, jB, jC])
      refine readyU [20] (by kernel_rfl) (by simp) ?_
      refine EachU.cons (o := ?o21c) ?ho21c (fun K hK => ?_) ?_
      case ho21c => simp only [jD, jE, jF]; exact rfl
      rotate_left
      ·exact EachU.nil
      go_simp
      refine hK.out _ _ (fun _ => ⟨ht5, hc5⟩) (fun hH => ?_)
      replace hHeld := hH (by decide)
      clear hH
      clear hK K
      (try simp only [Act.put, jA, jB, jC])
      refine readyU [21] (by kernel_rfl) (by simp) ?_
      refine EachU.cons (o := ?o22c) ?ho22c (fun K hK => ?_) ?_
      case ho22c => simp only [jD, jE, jF]; exact rfl
      rotate_left
      ·exact EachU.nil
      go_simp
      refine hK.out _ _ (fun _ => ⟨ht5, hc5⟩) (fun hH => ?_)
      replace hHeld := hH (by decide)
      clear hH
      clear hK K
      (try simp only [Act.put, jA, jB, jC])
      refine readyU [22] (by kernel_rfl) (by simp) ?_
      refine EachU.cons (o := ?o23c) ?ho23c (fun K hK => ?_) ?_
      case ho23c => simp only [jD, jE, jF]; exact rfl
      rotate_left
      ·exact EachU.nil
      go_simp
      refine hK.out _ _ (fun h => absurd rfl h) (fun hHeld => ?_)
      clear hK K
      (try simp only [Act.put, jA, jB, jC])
      refine doneU (by kernel_rfl) ?_ _
      have hp := pushed (d := to) (x := x) HR2.out ht2 hF5 hown5
      rw [hup_setEnts] at hp
      obtain ⟨own3, R3, q1, q2, F3⟩ := hp
      generalize w5.setCell _ _ = W3 at R3 F3 ⊢
      have top3 := R3.top
      obtain ⟨_, _, -, z1, -, -, -, -, z6, z7, -⟩ := R3.cells x hx.2
      rw [hup_kind, setEnts_kind, ← HU2.out, setEnts_kind] at z1
      rw [hup_holds] at z6
      have z6a : W3.cell? ⟨B, x * 10 + 6, none⟩ = some (.int .i64 (((t x).holds : Int) + 1)) := z6
      have zf6 := R3.frozen (x * 10 + 6)
      have zf7 := R3.frozen (x * 10 + 7)
      have R4 := R3.setHolds x (t x).holds hx.2
      have e := mv_end0 (u := t) (d := d) (to := to) (x := x) (k := (t x).holds + 1) (h := (t x).holds) (n := s.data.toList) (nm := a.data.toList) (ne_of_beq_false qx) (rfl)
      rw [HU2.out, HLL.out] at e
      have R4' : RT (W3.setCell ⟨B, x * 10 + 6, none⟩ (.int .i64 (t x).holds)) A B own3 (mv t d s.data.toList to a.data.toList x) := by rw [← e]; exact R4
      have HF3 := hid (F3.setB (x * 10 + 6) (.int .i64 (t x).holds))
      have Hg := hid (gone_any _ R4' Hsd.out)
      have HQ1 := hid q1
      have HQ2 := hid q2
      clear R3 R4 R4' F3 e q1 q2 z6
      go_wp2_with (go_at_call 100; refine Hg.out.mono ?_; rintro e w4 ⟨rfl, R5, F5⟩)
      go_ret
      refine ⟨ret_int (by rw [Hr.out]; rfl), ?_⟩
      rw [Hr.out]
      exact Rt.then (fun _ => id) (fun _ => .inl) F1'.out (Rt.then O1.out O2.out HF2.out ⟨own3, R5, HQ1.out, HQ2.out, HF3.out.trans F5⟩)
     refine EachU.cons (o := ?o24c) ?ho24c (fun K hK => ?_) ?_
     case ho24c => simp only [jD, jE, jF]; exact rfl
     rotate_left
     ·exact EachU.nil
     go_simp
     refine hK.out _ _ (fun _ => ⟨(((Fr.refl (fun _ => False) w2).alloc _).alloc _).cell top2 id, (((Fr.refl (fun _ => False) w2).alloc _).alloc _).cell c92 id⟩) (fun hH => ?_)
     replace hHeld := hH (by decide)
     clear hH
     clear hK K
     (try simp only [Act.put, jA, jB, jC])
     refine readyU [14] (by kernel_rfl) (by simp) ?_
     refine EachU.cons (o := ?o25c) ?ho25c (fun K hK => ?_) ?_
     case ho25c => simp only [jD, jE, jF]; exact rfl
     rotate_left
     ·exact EachU.nil
     refine step_append_any (by rfl) _ _ (by rfl) (by rfl) w2.heap.size w2.heap.size 0 0 [] (by simp [Act.eval, Act.put]) (((World.ownsRow_made w2 #[] 0 (Nat.le_refl _) (by decide) rfl).alloc _).drew) p2 l.length cap2 (by simp [Act.eval, Act.put]) (entC l) (N2.out.fr (((Fr.refl (fun _ => False) w2).alloc _).alloc _).drew fun _ _ _ => id) (by decide) (by omega) (by simp; try omega) ?_
     intro g3 cap3 w3 hown3 hgrow3 hat3 hlt3
     simp only [Nat.zero_add, List.nil_append] at hown3 ⊢
     have hF3 : Fr (fun _ => False) w2 w3 := (((Fr.refl (fun _ => False) w2).alloc _).alloc _).drew.into hgrow3 (by omega)
     have hb3 := (hown3.lt g3 rfl).1
     have hN3 : News w3 (some ⟨w2.heap.size + 1, 0, none⟩) 1 [.string a, .int .i64 x] := (news_one2 w2 _ a x).drew.fr (Fr.of_grown hgrow3) (fun g off e => by cases e; simp)
     have ht3 := hF3.cell top2 id
     have c93 := hF3.cell c92 id
     have hlA3 := cell_lt ht3
     have hlB3 := cell_lt c93
     refine hK.out _ _ (fun _ => ⟨ht3, c93⟩) (fun hH => ?_)
     replace hHeld := hH (by decide)
     clear hH
     clear hK K
     (try simp only [Act.put, jA, jB, jC])
     refine readyU [19] (by kernel_rfl) (by simp) ?_
     refine EachU.cons (o := ?o26c) ?ho26c (fun K hK => ?_) ?_
     case ho26c => simp only [jD, jE, jF]; exact rfl
     rotate_left
     ·exact EachU.nil
     refine step_append_any (by rfl) _ _ (by rfl) (by rfl) w2.heap.size g3 l.length cap3 (entC l) (by simp [Act.eval, Act.put]) hown3 _ 1 1 (by simp [Act.eval, Act.put]) [.string a, .int .i64 x] hN3 (by omega) (by decide) hF3.size ?_
     intro g5 cap5 w5 hown5 hgrow5 hat5 hlt5
     have hF5 : Fr (fun _ => False) w2 w5 := hF3.into hgrow5 hb3
     have hz5 := hF5.frozen c92 fz2 id
     have hc5 := hF5.cell c92 id
     have ht5 := hF5.cell top2 id
     refine hK.out _ _ (fun _ => ⟨ht5, hc5⟩) (fun hH => ?_)
     replace hHeld := hH (by decide)
     clear hH
     clear hK K
     (try simp only [Act.put, jA, jB, jC])
     refine readyU [20] (by kernel_rfl) (by simp) ?_
     refine EachU.cons (o := ?o27c) ?ho27c (fun K hK => ?_) ?_
     case ho27c => simp only [jD, jE, jF]; exact rfl
     rotate_left
     ·exact EachU.nil
     go_simp
     refine hK.out _ _ (fun _ => ⟨ht5, hc5⟩) (fun hH => ?_)
     replace hHeld := hH (by decide)
     clear hH
     clear hK K
     (try simp only [Act.put, jA, jB, jC])
     refine readyU [21] (by kernel_rfl) (by simp) ?_
     refine EachU.cons (o := ?o28c) ?ho28c (fun K hK => ?_) ?_
     case ho28c => simp only [jD, jE, jF]; exact rfl
     rotate_left
     ·exact EachU.nil
     go_simp
     refine hK.out _ _ (fun _ => ⟨ht5, hc5⟩) (fun hH => ?_)
     replace hHeld := hH (by decide)
     clear hH
     clear hK K
     (try simp only [Act.put, jA, jB, jC])
     refine readyU [22] (by kernel_rfl) (by simp) ?_
     refine EachU.cons (o := ?o29c) ?ho29c (fun K hK => ?_) ?_
     case ho29c => simp only [jD, jE, jF]; exact rfl
     rotate_left
     ·exact EachU.nil
     go_simp
     refine hK.out _ _ (fun h => absurd rfl h) (fun hHeld => ?_)
     clear hK K
     (try simp only [Act.put, jA, jB, jC])
     refine doneU (by kernel_rfl) ?_ _
     have hp := pushed (d := to) (x := x) HR2.out ht2 hF5 hown5
     rw [hup_setEnts] at hp
     obtain ⟨own3, R3, q1, q2, F3⟩ := hp
     generalize w5.setCell _ _ = W3 at R3 F3 ⊢
     have top3 := R3.top
     obtain ⟨_, _, -, z1, -, -, -, -, z6, z7, -⟩ := R3.cells x hx.2
     rw [hup_kind, setEnts_kind, ← HU2.out, setEnts_kind] at z1
     rw [hup_holds] at z6
     have z6a : W3.cell? ⟨B, x * 10 + 6, none⟩ = some (.int .i64 (((t x).holds : Int) + 1)) := z6
     have zf6 := R3.frozen (x * 10 + 6)
     have zf7 := R3.frozen (x * 10 + 7)
     have R4 := R3.setHolds x (t x).holds hx.2
     have e := mv_end0 (u := t) (d := d) (to := to) (x := x) (k := (t x).holds + 1) (h := (t x).holds) (n := s.data.toList) (nm := a.data.toList) (ne_of_beq_false qx) (rfl)
     rw [HU2.out, HLL.out] at e
     have R4' : RT (W3.setCell ⟨B, x * 10 + 6, none⟩ (.int .i64 (t x).holds)) A B own3 (mv t d s.data.toList to a.data.toList x) := by rw [← e]; exact R4
     have HF3 := hid (F3.setB (x * 10 + 6) (.int .i64 (t x).holds))
     have Hg := hid (gone_any _ R4' Hsd.out)
     have HQ1 := hid q1
     have HQ2 := hid q2
     clear R3 R4 R4' F3 e q1 q2 z6
     go_wp2_with (go_at_call 100; refine Hg.out.mono ?_; rintro e w4 ⟨rfl, R5, F5⟩)
     go_ret
     refine ⟨ret_int (by rw [Hr.out]; rfl), ?_⟩
     rw [Hr.out]
     exact Rt.then (fun _ => id) (fun _ => .inl) F1'.out (Rt.then O1.out O2.out HF2.out ⟨own3, R5, HQ1.out, HQ2.out, HF3.out.trans F5⟩)
    refine EachU.cons (o := ?o30c) ?ho30c (fun K hK => ?_) ?_
    case ho30c => simp only [jD, jE, jF]; exact rfl
    rotate_left
    ·exact EachU.nil
    go_simp
    refine hK.out _ _ (fun _ => ⟨((Fr.refl (fun _ => False) w2).alloc _).cell top2 id, ((Fr.refl (fun _ => False) w2).alloc _).cell c92 id⟩) (fun hH => ?_)
    replace hHeld := hH (by decide)
    clear hH
    clear hK K
    (try simp only [Act.put, jA, jB, jC])
    refine readyU [5] (by kernel_rfl) (by simp) ?_
    refine EachU.cons (o := ?o31c) ?ho31c (fun K hK => ?_) ?_
    case ho31c => simp only [jD, jE, jF]; exact rfl
    rotate_left
    ·exact EachU.nil
    go_simp
    refine hK.out _ _ (fun _ => ⟨(((Fr.refl (fun _ => False) w2).alloc _).alloc _).cell top2 id, (((Fr.refl (fun _ => False) w2).alloc _).alloc _).cell c92 id⟩) (fun hH => ?_)
    replace hHeld := hH (by decide)
    clear hH
    clear hK K
    (try simp only [Act.put, jA, jB, jC])
    refine readyU [14] (by kernel_rfl) (by simp) ?_
    refine EachU.cons (o := ?o32c) ?ho32c (fun K hK => ?_) ?_
    case ho32c => simp only [jD, jE, jF]; exact rfl
    rotate_left
    ·exact EachU.nil
    refine step_append_any (by rfl) _ _ (by rfl) (by rfl) w2.heap.size (w2.heap.size + 1) 0 0 [] (by simp [Act.eval, Act.put]) ((made2 w2 _).drew) p2 l.length cap2 (by simp [Act.eval, Act.put]) (entC l) (N2.out.fr (((Fr.refl (fun _ => False) w2).alloc _).alloc _).drew fun _ _ _ => id) (by decide) (by omega) (by simp; try omega) ?_
    intro g3 cap3 w3 hown3 hgrow3 hat3 hlt3
    simp only [Nat.zero_add, List.nil_append] at hown3 ⊢
    have hF3 : Fr (fun _ => False) w2 w3 := (((Fr.refl (fun _ => False) w2).alloc _).alloc _).drew.into hgrow3 (by omega)
    have hb3 := (hown3.lt g3 rfl).1
    have hN3 : News w3 (some ⟨w2.heap.size, 0, none⟩) 1 [.string a, .int .i64 x] := ((news_one w2 a x).fr ((Fr.refl (fun _ => False) _).alloc _) (fun _ _ _ => id)).drew.fr (Fr.of_grown hgrow3) (fun g off e => by cases e; simp)
    have ht3 := hF3.cell top2 id
    have c93 := hF3.cell c92 id
    have hlA3 := cell_lt ht3
    have hlB3 := cell_lt c93
    refine hK.out _ _ (fun _ => ⟨ht3, c93⟩) (fun hH => ?_)
    replace hHeld := hH (by decide)
    clear hH
    clear hK K
    (try simp only [Act.put, jA, jB, jC])
    refine readyU [19] (by kernel_rfl) (by simp) ?_
    refine EachU.cons (o := ?o33c) ?ho33c (fun K hK => ?_) ?_
    case ho33c => simp only [jD, jE, jF]; exact rfl
    rotate_left
    ·exact EachU.nil
    refine step_append_any (by rfl) _ _ (by rfl) (by rfl) w2.heap.size g3 l.length cap3 (entC l) (by simp [Act.eval, Act.put]) hown3 _ 1 1 (by simp [Act.eval, Act.put]) [.string a, .int .i64 x] hN3 (by omega) (by decide) hF3.size ?_
    intro g5 cap5 w5 hown5 hgrow5 hat5 hlt5
    have hF5 : Fr (fun _ => False) w2 w5 := hF3.into hgrow5 hb3
    have hz5 := hF5.frozen c92 fz2 id
    have hc5 := hF5.cell c92 id
    have ht5 := hF5.cell top2 id
    refine hK.out _ _ (fun _ => ⟨ht5, hc5⟩) (fun hH => ?_)
    replace hHeld := hH (by decide)
    clear hH
    clear hK K
    (try simp only [Act.put, jA, jB, jC])
    refine readyU [20] (by kernel_rfl) (by simp) ?_
    refine EachU.cons (o := ?o34c) ?ho34c (fun K hK => ?_) ?_
    case ho34c => simp only [jD, jE, jF]; exact rfl
    rotate_left
    ·exact EachU.nil
    go_simp
    refine hK.out _ _ (fun _ => ⟨ht5, hc5⟩) (fun hH => ?_)
    replace hHeld := hH (by decide)
    clear hH
    clear hK K
    (try simp only [Act.put, jA, jB, jC])
    refine readyU [21] (by kernel_rfl) (by simp) ?_
    refine EachU.cons (o := ?o35c) ?ho35c (fun K hK => ?_) ?_
    case ho35c => simp only [jD, jE, jF]; exact rfl
    rotate_left
    ·exact EachU.nil
    go_simp
    refine hK.out _ _ (fun _ => ⟨ht5, hc5⟩) (fun hH => ?_)
    replace hHeld := hH (by decide)
    clear hH
    clear hK K
    (try simp only [Act.put, jA, jB, jC])
    refine readyU [22] (by kernel_rfl) (by simp) ?_
    refine EachU.cons (o := ?o36c) ?ho36c (fun K hK => ?_) ?_
    case ho36c => simp only [jD, jE, jF]; exact rfl
    rotate_left
    ·exact EachU.nil
    go_simp
    refine hK.out _ _ (fun h => absurd rfl h) (fun hHeld => ?_)
    clear hK K
    (try simp only [Act.put, jA, jB, jC])
    refine doneU (by kernel_rfl) ?_ _
    have hp := pushed (d := to) (x := x) HR2.out ht2 hF5 hown5
    rw [hup_setEnts] at hp
    obtain ⟨own3, R3, q1, q2, F3⟩ := hp
    generalize w5.setCell _ _ = W3 at R3 F3 ⊢
    have top3 := R3.top
    obtain ⟨_, _, -, z1, -, -, -, -, z6, z7, -⟩ := R3.cells x hx.2
    rw [hup_kind, setEnts_kind, ← HU2.out, setEnts_kind] at z1
    rw [hup_holds] at z6
    have z6a : W3.cell? ⟨B, x * 10 + 6, none⟩ = some (.int .i64 (((t x).holds : Int) + 1)) := z6
    have zf6 := R3.frozen (x * 10 + 6)
    have zf7 := R3.frozen (x * 10 + 7)
    have R4 := R3.setHolds x (t x).holds hx.2
    have e := mv_end0 (u := t) (d := d) (to := to) (x := x) (k := (t x).holds + 1) (h := (t x).holds) (n := s.data.toList) (nm := a.data.toList) (ne_of_beq_false qx) (rfl)
    rw [HU2.out, HLL.out] at e
    have R4' : RT (W3.setCell ⟨B, x * 10 + 6, none⟩ (.int .i64 (t x).holds)) A B own3 (mv t d s.data.toList to a.data.toList x) := by rw [← e]; exact R4
    have HF3 := hid (F3.setB (x * 10 + 6) (.int .i64 (t x).holds))
    have Hg := hid (gone_any _ R4' Hsd.out)
    have HQ1 := hid q1
    have HQ2 := hid q2
    clear R3 R4 R4' F3 e q1 q2 z6
    go_wp2_with (go_at_call 100; refine Hg.out.mono ?_; rintro e w4 ⟨rfl, R5, F5⟩)
    go_ret
    refine ⟨ret_int (by rw [Hr.out]; rfl), ?_⟩
    rw [Hr.out]
    exact Rt.then (fun _ => id) (fun _ => .inl) F1'.out (Rt.then O1.out O2.out HF2.out ⟨own3, R5, HQ1.out, HQ2.out, HF3.out.trans F5⟩)
   ·skip
    go_enter Tryz.func93, Tryz.ntmps93
    go_wp2_with (first | (go_at_call 99; (with_reducible refine (Hi1.out ()).mono ?_); rintro e w' ⟨rfl, rfl⟩) | (go_at_call 99; (with_reducible refine (Hi2.out ()).mono ?_); rintro e w' ⟨rfl, rfl⟩) | (go_at_call 121; (with_reducible refine (Hat1.out ()).mono ?_); rintro e w' ⟨rfl, rfl⟩) | (go_at_call 125; refine Hnm.out.mono ?_; rintro e w' ⟨rfl, rfl⟩) | (go_at_call 126; refine Hwi.out.mono ?_; rintro e w' ⟨rfl, rfl⟩) | (go_at_call 121; (with_reducible refine (Hat2.out ()).mono ?_); rintro e w' ⟨rfl, rfl⟩))
    rw [HW1.out]
    go_wp2_with (first | (go_at_call 121; (with_reducible refine Hat3.out.mono ?_); rintro e w' ⟨rfl, rfl⟩))
    have hlenu := hlen
    refine Hwo.out.mono ?_
    rintro e w2 ⟨rfl, own2, R2, o1, o2, F2⟩
    obtain ⟨p2, cap2, -, -, -, -, -, -, -, -, -, c92, hl12, hl22, he2⟩ := R2.cells to ht2
    rw [hup_ents] at c92 hl12 he2
    have N2 := hid (EntsAt.news he2)
    have top2 := R2.top
    have fz2 := R2.frozen (to * 10 + 9)
    obtain ⟨hlA, hlB⟩ := R2.lt
    have hne := R2.ne
    have i8 : (0 : Int) ≤ (to : Int) := by omega
    have i9 : (to : Int) < 201 := by omega
    have HR2 := hid R2
    have O1 := hid o1
    have O2 := hid o2
    have HF2 := hid F2
    unfold maxLen at hl22
    clear R2 he2 o1 o2 F2 Hi1 Hi2 Hnm Hat1 Hat2 Hat3 Hwo Hwi
    obtain ⟨U2, hU2⟩ : ∃ U2, setEnts t d (erE (t d).ents s.data.toList) = U2 := ⟨_, rfl⟩
    rw [hU2] at c92 hl12 N2 HR2
    have hl40 : (U2 to).ents.length ≤ 40 := by
     rw [← hU2, setEnts_ents]
     split
     ·have := erE_le (t d).ents s.data.toList
      omega
     ·exact hlenu
    have HU2 := hid hU2
    clear hU2
    generalize hll : (U2 to).ents = l at c92 hl12 N2 hl40
    have HLL := hid hll
    clear hll
    go_wp2_with fail
    refine regionU (fun w' => w'.cell? ⟨A, 0, none⟩ = some (.slice (some ⟨B, 0, none⟩) 201 201) ∧ w'.cell? ⟨B, to * 10 + 9, none⟩ = some (.slice p2 l.length cap2)) 22 (by kernel_rfl) (by exact ⟨top2, c92⟩) (fun hHeld => ?_)
    refine takeU (oi := ?oi1d) (v := ?v1d) 0 ?hi1d (by kernel_rfl) ?hQ1d ?hy1d (by assumption) ?h1d
    case hi1d => simp only [jD, jE, jF]; exact rfl
    case hQ1d => exact fun _ _ _ h => h
    case hy1d => (refine Or.inl ⟨by rfl, ?_⟩; intro w' hSw; (try dsimp only at hSw); obtain ⟨hS1, hS2⟩ := hSw; go_simp; (try with_reducible rfl))
    simp only [Act.put, jA, jB, jC]
    refine takeU (oi := ?oi2d) (v := ?v2d) 1 ?hi2d (by kernel_rfl) ?hQ2d ?hy2d (by assumption) ?h2d
    case hi2d => simp only [jD, jE, jF]; exact rfl
    case hQ2d => exact fun _ _ _ h => h
    case hy2d => (refine Or.inl ⟨by rfl, ?_⟩; intro w' hSw; (try dsimp only at hSw); obtain ⟨hS1, hS2⟩ := hSw; go_simp; (try with_reducible rfl))
    simp only [Act.put, jA, jB, jC]
    refine takeU (oi := ?oi3d) (v := ?v3d) 2 ?hi3d (by kernel_rfl) ?hQ3d ?hy3d (by assumption) ?h3d
    case hi3d => simp only [jD, jE, jF]; exact rfl
    case hQ3d => exact fun _ _ _ h => h
    case hy3d => (refine Or.inl ⟨by rfl, ?_⟩; intro w' hSw; (try dsimp only at hSw); obtain ⟨hS1, hS2⟩ := hSw; go_simp; (try with_reducible rfl))
    simp only [Act.put, jA, jB, jC]
    refine takeU (oi := ?oi4d) (v := ?v4d) 3 ?hi4d (by kernel_rfl) ?hQ4d ?hy4d (by assumption) ?h4d
    case hi4d => simp only [jD, jE, jF]; exact rfl
    case hQ4d => exact fun _ _ _ h => h
    case hy4d => (refine Or.inl ⟨by rfl, ?_⟩; intro w' hSw; (try dsimp only at hSw); obtain ⟨hS1, hS2⟩ := hSw; go_simp; (try with_reducible rfl))
    simp only [Act.put, jA, jB, jC]
    refine takeU (oi := ?oi5d) (v := ?v5d) 4 ?hi5d (by kernel_rfl) ?hQ5d ?hy5d (by assumption) ?h5d
    case hi5d => simp only [jD, jE, jF]; exact rfl
    case hQ5d => exact fun _ _ _ h => h
    case hy5d => (refine Or.inl ⟨by rfl, ?_⟩; intro w' hSw; (try dsimp only at hSw); obtain ⟨hS1, hS2⟩ := hSw; go_simp; (try with_reducible rfl))
    simp only [Act.put, jA, jB, jC]
    refine takeU (oi := ?oi6d) (v := ?v6d) 6 ?hi6d (by kernel_rfl) ?hQ6d ?hy6d (by assumption) ?h6d
    case hi6d => simp only [jD, jE, jF]; exact rfl
    case hQ6d => exact fun _ _ _ h => h
    case hy6d => (refine Or.inl ⟨by rfl, ?_⟩; intro w' hSw; (try dsimp only at hSw); obtain ⟨hS1, hS2⟩ := hSw; go_simp; (try with_reducible rfl))
    simp only [Act.put, jA, jB, jC]
    refine takeU (oi := ?oi7d) (v := ?v7d) 7 ?hi7d (by kernel_rfl) ?hQ7d ?hy7d (by assumption) ?h7d
    case hi7d => simp only [jD, jE, jF]; exact rfl
    case hQ7d => exact fun _ _ _ h => h
    case hy7d => (refine Or.inl ⟨by rfl, ?_⟩; intro w' hSw; (try dsimp only at hSw); obtain ⟨hS1, hS2⟩ := hSw; go_simp; (try with_reducible rfl))
    simp only [Act.put, jA, jB, jC]
    refine takeU (oi := ?oi8d) (v := ?v8d) 8 ?hi8d (by kernel_rfl) ?hQ8d ?hy8d (by assumption) ?h8d
    case hi8d => simp only [jD, jE, jF]; exact rfl
    case hQ8d => exact fun _ _ _ h => h
    case hy8d => (refine Or.inl ⟨by rfl, ?_⟩; intro w' hSw; (try dsimp only at hSw); obtain ⟨hS1, hS2⟩ := hSw; go_simp; (try with_reducible rfl))
    simp only [Act.put, jA, jB, jC]
    refine takeU (oi := ?oi9d) (v := ?v9d) 9 ?hi9d (by kernel_rfl) ?hQ9d ?hy9d (by assumption) ?h9d
    case hi9d => simp only [jD, jE, jF]; exact rfl
    case hQ9d => exact fun _ _ _ h => h
    case hy9d => (refine Or.inl ⟨by rfl, ?_⟩; intro w' hSw; (try dsimp only at hSw); obtain ⟨hS1, hS2⟩ := hSw; go_simp; (try with_reducible rfl))
    simp only [Act.put, jA, jB, jC]
    refine takeU (oi := ?oi10d) (v := ?v10d) 10 ?hi10d (by kernel_rfl) ?hQ10d ?hy10d (by assumption) ?h10d
    case hi10d => simp only [jD, jE, jF]; exact rfl
    case hQ10d => exact fun _ _ _ h => h
    case hy10d => (refine Or.inl ⟨by rfl, ?_⟩; intro w' hSw; (try dsimp only at hSw); obtain ⟨hS1, hS2⟩ := hSw; go_simp; (try with_reducible rfl))
    simp only [Act.put, jA, jB, jC]
    refine takeU (oi := ?oi11d) (v := ?v11d) 11 ?hi11d (by kernel_rfl) ?hQ11d ?hy11d (by assumption) ?h11d
    case hi11d => simp only [jD, jE, jF]; exact rfl
    case hQ11d => exact fun _ _ _ h => h
    case hy11d => (refine Or.inl ⟨by rfl, ?_⟩; intro w' hSw; (try dsimp only at hSw); obtain ⟨hS1, hS2⟩ := hSw; go_simp; (try with_reducible rfl))
    simp only [Act.put, jA, jB, jC]
    refine takeU (oi := ?oi12d) (v := ?v12d) 12 ?hi12d (by kernel_rfl) ?hQ12d ?hy12d (by assumption) ?h12d
    case hi12d => simp only [jD, jE, jF]; exact rfl
    case hQ12d => exact fun _ _ _ h => h
    case hy12d => (refine Or.inl ⟨by rfl, ?_⟩; intro w' hSw; (try dsimp only at hSw); obtain ⟨hS1, hS2⟩ := hSw; go_simp; (try with_reducible rfl))
    simp only [Act.put, jA, jB, jC]
    refine takeU (oi := ?oi13d) (v := ?v13d) 13 ?hi13d (by kernel_rfl) ?hQ13d ?hy13d (by assumption) ?h13d
    case hi13d => simp only [jD, jE, jF]; exact rfl
    case hQ13d => exact fun _ _ _ h => h
    case hy13d => (refine Or.inl ⟨by rfl, ?_⟩; intro w' hSw; (try dsimp only at hSw); obtain ⟨hS1, hS2⟩ := hSw; go_simp; (try with_reducible rfl))
    simp only [Act.put, jA, jB, jC]
    refine takeU (oi := ?oi14d) (v := ?v14d) 15 ?hi14d (by kernel_rfl) ?hQ14d ?hy14d (by assumption) ?h14d
    case hi14d => simp only [jD, jE, jF]; exact rfl
    case hQ14d => exact fun _ _ _ h => h
    case hy14d => (refine Or.inl ⟨by rfl, ?_⟩; intro w' hSw; (try dsimp only at hSw); obtain ⟨hS1, hS2⟩ := hSw; go_simp; (try with_reducible rfl))
    simp only [Act.put, jA, jB, jC]
    refine takeU (oi := ?oi15d) (v := ?v15d) 16 ?hi15d (by kernel_rfl) ?hQ15d ?hy15d (by assumption) ?h15d
    case hi15d => simp only [jD, jE, jF]; exact rfl
    case hQ15d => exact fun _ _ _ h => h
    case hy15d => (refine Or.inl ⟨by rfl, ?_⟩; intro w' hSw; (try dsimp only at hSw); obtain ⟨hS1, hS2⟩ := hSw; go_simp; (try with_reducible rfl))
    simp only [Act.put, jA, jB, jC]
    refine takeU (oi := ?oi16d) (v := ?v16d) 17 ?hi16d (by kernel_rfl) ?hQ16d ?hy16d (by assumption) ?h16d
    case hi16d => simp only [jD, jE, jF]; exact rfl
    case hQ16d => exact fun _ _ _ h => h
    case hy16d => (refine Or.inl ⟨by rfl, ?_⟩; intro w' hSw; (try dsimp only at hSw); obtain ⟨hS1, hS2⟩ := hSw; go_simp; (try with_reducible rfl))
    simp only [Act.put, jA, jB, jC]
    refine readyU [5, 18] (by kernel_rfl) (by simp) ?_
    refine EachU.cons (o := ?o17d) ?ho17d (fun K hK => ?_) ?_
    case ho17d => simp only [jD, jE, jF]; exact rfl
    ·skip
     go_simp
     refine hK.out _ _ (fun _ => ⟨((Fr.refl (fun _ => False) w2).alloc _).cell top2 id, ((Fr.refl (fun _ => False) w2).alloc _).cell c92 id⟩) (fun hH => ?_)
     replace hHeld := hH (by decide)
     clear hH
     clear hK K
     (try simp only [Act.put, jA, jB, jC])
     refine readyU [14, 18] (by kernel_rfl) (by simp) ?_
     refine EachU.cons (o := ?o18d) ?ho18d (fun K hK => ?_) ?_
     case ho18d => simp only [jD, jE, jF]; exact rfl
     ·skip
      refine step_append_any (by rfl) _ _ (by rfl) (by rfl) w2.heap.size w2.heap.size 0 0 [] (by simp [Act.eval, Act.put]) ((World.ownsRow_made w2 #[] 0 (Nat.le_refl _) (by decide) rfl).drew) p2 l.length cap2 (by simp [Act.eval, Act.put]) (entC l) (N2.out.fr ((Fr.refl (fun _ => False) w2).alloc _).drew fun _ _ _ => id) (by decide) (by omega) (by simp; try omega) ?_
      intro g3 cap3 w3 hown3 hgrow3 hat3 hlt3
      simp only [Nat.zero_add, List.nil_append] at hown3 ⊢
      have hF3 : Fr (fun _ => False) w2 w3 := ((Fr.refl (fun _ => False) w2).alloc _).drew.into hgrow3 (by omega)
      have hb3 := (hown3.lt g3 rfl).1
      have ht3 := hF3.cell top2 id
      have c93 := hF3.cell c92 id
      have hlA3 := cell_lt ht3
      have hlB3 := cell_lt c93
      refine hK.out _ _ (fun _ => ⟨ht3, c93⟩) (fun hH => ?_)
      replace hHeld := hH (by decide)
      clear hH
      clear hK K
      (try simp only [Act.put, jA, jB, jC])
      refine readyU [18] (by kernel_rfl) (by simp) ?_
      refine EachU.cons (o := ?o19d) ?ho19d (fun K hK => ?_) ?_
      case ho19d => simp only [jD, jE, jF]; exact rfl
      rotate_left
      ·exact EachU.nil
      go_simp
      refine hK.out _ _ (fun _ => ⟨(hF3.alloc _).cell top2 id, (hF3.alloc _).cell c92 id⟩) (fun hH => ?_)
      replace hHeld := hH (by decide)
      clear hH
      clear hK K
      (try simp only [Act.put, jA, jB, jC])
      refine readyU [19] (by kernel_rfl) (by simp) ?_
      refine EachU.cons (o := ?o20d) ?ho20d (fun K hK => ?_) ?_
      case ho20d => simp only [jD, jE, jF]; exact rfl
      rotate_left
      ·exact EachU.nil
      refine step_append_any (by rfl) _ _ (by rfl) (by rfl) w2.heap.size g3 l.length cap3 (entC l) (by simp [Act.eval, Act.put]) (hown3.alloc _) (some ⟨w3.heap.size, 0, none⟩) 1 1 (by simp [Act.eval, Act.put]) [.string a, .int .i64 x] (news_one w3 a x) (by omega) (by decide) (by have := hF3.size; simp; omega) ?_
      intro g5 cap5 w5 hown5 hgrow5 hat5 hlt5
      have hF5 : Fr (fun _ => False) w2 w5 := (hF3.alloc _).into hgrow5 hb3
      have hz5 := hF5.frozen c92 fz2 id
      have hc5 := hF5.cell c92 id
      have ht5 := hF5.cell top2 id
      refine hK.out _ _ (fun _ => ⟨ht5, hc5⟩) (fun hH => ?_)
      replace hHeld := hH (by decide)
      clear hH
      clear hK K
      (try simp only [Act.put, jA, jB, jC])
      refine readyU [20] (by kernel_rfl) (by simp) ?_
      refine EachU.cons (o := ?o21d) ?ho21d (fun K hK => ?_) ?_
      case ho21d => simp only [jD, jE, jF]; exact rfl
      rotate_left
      ·exact EachU.nil
      go_simp
      refine hK.out _ _ (fun _ => ⟨ht5, hc5⟩) (fun hH => ?_)
      replace hHeld := hH (by decide)
      clear hH
      clear hK K
      (try simp only [Act.put, jA, jB, jC])
      refine readyU [21] (by kernel_rfl) (by simp) ?_
      refine EachU.cons (o := ?o22d) ?ho22d (fun K hK => ?_) ?_
      case ho22d => simp only [jD, jE, jF]; exact rfl
      rotate_left
      ·exact EachU.nil
      go_simp
      refine hK.out _ _ (fun _ => ⟨ht5, hc5⟩) (fun hH => ?_)
      replace hHeld := hH (by decide)
      clear hH
      clear hK K
      (try simp only [Act.put, jA, jB, jC])
      refine readyU [22] (by kernel_rfl) (by simp) ?_
      refine EachU.cons (o := ?o23d) ?ho23d (fun K hK => ?_) ?_
      case ho23d => simp only [jD, jE, jF]; exact rfl
      rotate_left
      ·exact EachU.nil
      go_simp
      refine hK.out _ _ (fun h => absurd rfl h) (fun hHeld => ?_)
      clear hK K
      (try simp only [Act.put, jA, jB, jC])
      refine doneU (by kernel_rfl) ?_ _
      have hp := pushed (d := to) (x := x) HR2.out ht2 hF5 hown5
      rw [hup_setEnts] at hp
      obtain ⟨own3, R3, q1, q2, F3⟩ := hp
      generalize w5.setCell _ _ = W3 at R3 F3 ⊢
      have top3 := R3.top
      obtain ⟨_, _, -, z1, -, -, -, -, z6, z7, -⟩ := R3.cells x hx.2
      rw [hup_kind, setEnts_kind, ← HU2.out, setEnts_kind] at z1
      rw [hup_holds] at z6
      have z6a : W3.cell? ⟨B, x * 10 + 6, none⟩ = some (.int .i64 (((t x).holds : Int) + 1)) := z6
      have zf6 := R3.frozen (x * 10 + 6)
      have zf7 := R3.frozen (x * 10 + 7)
      have Rp := R3.setPar x to hx.2 (by rw [hup_kind, setEnts_kind, ← HU2.out, setEnts_kind]; exact eq_of_beq qx)
      have R4 := Rp.setHolds x (t x).holds hx.2
      have e := mv_end1 (u := t) (d := d) (to := to) (x := x) (k := (t x).holds + 1) (h := (t x).holds) (n := s.data.toList) (nm := a.data.toList) (rfl)
      rw [HU2.out, HLL.out] at e
      have R4' : RT ((W3.setCell ⟨B, x * 10 + 7, none⟩ (.int .i64 to)).setCell ⟨B, x * 10 + 6, none⟩ (.int .i64 (t x).holds)) A B own3 (mv t d s.data.toList to a.data.toList x) := by rw [← e]; exact R4
      have HF3 := hid ((F3.setB (x * 10 + 7) (.int .i64 to)).setB (x * 10 + 6) (.int .i64 (t x).holds))
      clear Rp
      have Hg := hid (gone_any _ R4' Hsd.out)
      have HQ1 := hid q1
      have HQ2 := hid q2
      clear R3 R4 R4' F3 e q1 q2 z6
      go_wp2_with (go_at_call 100; refine Hg.out.mono ?_; rintro e w4 ⟨rfl, R5, F5⟩)
      go_ret
      refine ⟨ret_int (by rw [Hr.out]; rfl), ?_⟩
      rw [Hr.out]
      exact Rt.then (fun _ => id) (fun _ => .inl) F1'.out (Rt.then O1.out O2.out HF2.out ⟨own3, R5, HQ1.out, HQ2.out, HF3.out.trans F5⟩)
     refine EachU.cons (o := ?o24d) ?ho24d (fun K hK => ?_) ?_
     case ho24d => simp only [jD, jE, jF]; exact rfl
     rotate_left
     ·exact EachU.nil
     go_simp
     refine hK.out _ _ (fun _ => ⟨(((Fr.refl (fun _ => False) w2).alloc _).alloc _).cell top2 id, (((Fr.refl (fun _ => False) w2).alloc _).alloc _).cell c92 id⟩) (fun hH => ?_)
     replace hHeld := hH (by decide)
     clear hH
     clear hK K
     (try simp only [Act.put, jA, jB, jC])
     refine readyU [14] (by kernel_rfl) (by simp) ?_
     refine EachU.cons (o := ?o25d) ?ho25d (fun K hK => ?_) ?_
     case ho25d => simp only [jD, jE, jF]; exact rfl
     rotate_left
     ·exact EachU.nil
     refine step_append_any (by rfl) _ _ (by rfl) (by rfl) w2.heap.size w2.heap.size 0 0 [] (by simp [Act.eval, Act.put]) (((World.ownsRow_made w2 #[] 0 (Nat.le_refl _) (by decide) rfl).alloc _).drew) p2 l.length cap2 (by simp [Act.eval, Act.put]) (entC l) (N2.out.fr (((Fr.refl (fun _ => False) w2).alloc _).alloc _).drew fun _ _ _ => id) (by decide) (by omega) (by simp; try omega) ?_
     intro g3 cap3 w3 hown3 hgrow3 hat3 hlt3
     simp only [Nat.zero_add, List.nil_append] at hown3 ⊢
     have hF3 : Fr (fun _ => False) w2 w3 := (((Fr.refl (fun _ => False) w2).alloc _).alloc _).drew.into hgrow3 (by omega)
     have hb3 := (hown3.lt g3 rfl).1
     have hN3 : News w3 (some ⟨w2.heap.size + 1, 0, none⟩) 1 [.string a, .int .i64 x] := (news_one2 w2 _ a x).drew.fr (Fr.of_grown hgrow3) (fun g off e => by cases e; simp)
     have ht3 := hF3.cell top2 id
     have c93 := hF3.cell c92 id
     have hlA3 := cell_lt ht3
     have hlB3 := cell_lt c93
     refine hK.out _ _ (fun _ => ⟨ht3, c93⟩) (fun hH => ?_)
     replace hHeld := hH (by decide)
     clear hH
     clear hK K
     (try simp only [Act.put, jA, jB, jC])
     refine readyU [19] (by kernel_rfl) (by simp) ?_
     refine EachU.cons (o := ?o26d) ?ho26d (fun K hK => ?_) ?_
     case ho26d => simp only [jD, jE, jF]; exact rfl
     rotate_left
     ·exact EachU.nil
     refine step_append_any (by rfl) _ _ (by rfl) (by rfl) w2.heap.size g3 l.length cap3 (entC l) (by simp [Act.eval, Act.put]) hown3 _ 1 1 (by simp [Act.eval, Act.put]) [.string a, .int .i64 x] hN3 (by omega) (by decide) hF3.size ?_
     intro g5 cap5 w5 hown5 hgrow5 hat5 hlt5
     have hF5 : Fr (fun _ => False) w2 w5 := hF3.into hgrow5 hb3
     have hz5 := hF5.frozen c92 fz2 id
     have hc5 := hF5.cell c92 id
     have ht5 := hF5.cell top2 id
     refine hK.out _ _ (fun _ => ⟨ht5, hc5⟩) (fun hH => ?_)
     replace hHeld := hH (by decide)
     clear hH
     clear hK K
     (try simp only [Act.put, jA, jB, jC])
     refine readyU [20] (by kernel_rfl) (by simp) ?_
     refine EachU.cons (o := ?o27d) ?ho27d (fun K hK => ?_) ?_
     case ho27d => simp only [jD, jE, jF]; exact rfl
     rotate_left
     ·exact EachU.nil
     go_simp
     refine hK.out _ _ (fun _ => ⟨ht5, hc5⟩) (fun hH => ?_)
     replace hHeld := hH (by decide)
     clear hH
     clear hK K
     (try simp only [Act.put, jA, jB, jC])
     refine readyU [21] (by kernel_rfl) (by simp) ?_
     refine EachU.cons (o := ?o28d) ?ho28d (fun K hK => ?_) ?_
     case ho28d => simp only [jD, jE, jF]; exact rfl
     rotate_left
     ·exact EachU.nil
     go_simp
     refine hK.out _ _ (fun _ => ⟨ht5, hc5⟩) (fun hH => ?_)
     replace hHeld := hH (by decide)
     clear hH
     clear hK K
     (try simp only [Act.put, jA, jB, jC])
     refine readyU [22] (by kernel_rfl) (by simp) ?_
     refine EachU.cons (o := ?o29d) ?ho29d (fun K hK => ?_) ?_
     case ho29d => simp only [jD, jE, jF]; exact rfl
     rotate_left
     ·exact EachU.nil
     go_simp
     refine hK.out _ _ (fun h => absurd rfl h) (fun hHeld => ?_)
     clear hK K
     (try simp only [Act.put, jA, jB, jC])
     refine doneU (by kernel_rfl) ?_ _
     have hp := pushed (d := to) (x := x) HR2.out ht2 hF5 hown5
     rw [hup_setEnts] at hp
     obtain ⟨own3, R3, q1, q2, F3⟩ := hp
     generalize w5.setCell _ _ = W3 at R3 F3 ⊢
     have top3 := R3.top
     obtain ⟨_, _, -, z1, -, -, -, -, z6, z7, -⟩ := R3.cells x hx.2
     rw [hup_kind, setEnts_kind, ← HU2.out, setEnts_kind] at z1
     rw [hup_holds] at z6
     have z6a : W3.cell? ⟨B, x * 10 + 6, none⟩ = some (.int .i64 (((t x).holds : Int) + 1)) := z6
     have zf6 := R3.frozen (x * 10 + 6)
     have zf7 := R3.frozen (x * 10 + 7)
     have Rp := R3.setPar x to hx.2 (by rw [hup_kind, setEnts_kind, ← HU2.out, setEnts_kind]; exact eq_of_beq qx)
     have R4 := Rp.setHolds x (t x).holds hx.2
     have e := mv_end1 (u := t) (d := d) (to := to) (x := x) (k := (t x).holds + 1) (h := (t x).holds) (n := s.data.toList) (nm := a.data.toList) (rfl)
     rw [HU2.out, HLL.out] at e
     have R4' : RT ((W3.setCell ⟨B, x * 10 + 7, none⟩ (.int .i64 to)).setCell ⟨B, x * 10 + 6, none⟩ (.int .i64 (t x).holds)) A B own3 (mv t d s.data.toList to a.data.toList x) := by rw [← e]; exact R4
     have HF3 := hid ((F3.setB (x * 10 + 7) (.int .i64 to)).setB (x * 10 + 6) (.int .i64 (t x).holds))
     clear Rp
     have Hg := hid (gone_any _ R4' Hsd.out)
     have HQ1 := hid q1
     have HQ2 := hid q2
     clear R3 R4 R4' F3 e q1 q2 z6
     go_wp2_with (go_at_call 100; refine Hg.out.mono ?_; rintro e w4 ⟨rfl, R5, F5⟩)
     go_ret
     refine ⟨ret_int (by rw [Hr.out]; rfl), ?_⟩
     rw [Hr.out]
     exact Rt.then (fun _ => id) (fun _ => .inl) F1'.out (Rt.then O1.out O2.out HF2.out ⟨own3, R5, HQ1.out, HQ2.out, HF3.out.trans F5⟩)
    refine EachU.cons (o := ?o30d) ?ho30d (fun K hK => ?_) ?_
    case ho30d => simp only [jD, jE, jF]; exact rfl
    rotate_left
    ·exact EachU.nil
    go_simp
    refine hK.out _ _ (fun _ => ⟨((Fr.refl (fun _ => False) w2).alloc _).cell top2 id, ((Fr.refl (fun _ => False) w2).alloc _).cell c92 id⟩) (fun hH => ?_)
    replace hHeld := hH (by decide)
    clear hH
    clear hK K
    (try simp only [Act.put, jA, jB, jC])
    refine readyU [5] (by kernel_rfl) (by simp) ?_
    refine EachU.cons (o := ?o31d) ?ho31d (fun K hK => ?_) ?_
    case ho31d => simp only [jD, jE, jF]; exact rfl
    rotate_left
    ·exact EachU.nil
    go_simp
    refine hK.out _ _ (fun _ => ⟨(((Fr.refl (fun _ => False) w2).alloc _).alloc _).cell top2 id, (((Fr.refl (fun _ => False) w2).alloc _).alloc _).cell c92 id⟩) (fun hH => ?_)
    replace hHeld := hH (by decide)
    clear hH
    clear hK K
    (try simp only [Act.put, jA, jB, jC])
    refine readyU [14] (by kernel_rfl) (by simp) ?_
    refine EachU.cons (o := ?o32d) ?ho32d (fun K hK => ?_) ?_
    case ho32d => simp only [jD, jE, jF]; exact rfl
    rotate_left
    ·exact EachU.nil
    refine step_append_any (by rfl) _ _ (by rfl) (by rfl) w2.heap.size (w2.heap.size + 1) 0 0 [] (by simp [Act.eval, Act.put]) ((made2 w2 _).drew) p2 l.length cap2 (by simp [Act.eval, Act.put]) (entC l) (N2.out.fr (((Fr.refl (fun _ => False) w2).alloc _).alloc _).drew fun _ _ _ => id) (by decide) (by omega) (by simp; try omega) ?_
    intro g3 cap3 w3 hown3 hgrow3 hat3 hlt3
    simp only [Nat.zero_add, List.nil_append] at hown3 ⊢
    have hF3 : Fr (fun _ => False) w2 w3 := (((Fr.refl (fun _ => False) w2).alloc _).alloc _).drew.into hgrow3 (by omega)
    have hb3 := (hown3.lt g3 rfl).1
    have hN3 : News w3 (some ⟨w2.heap.size, 0, none⟩) 1 [.string a, .int .i64 x] := ((news_one w2 a x).fr ((Fr.refl (fun _ => False) _).alloc _) (fun _ _ _ => id)).drew.fr (Fr.of_grown hgrow3) (fun g off e => by cases e; simp)
    have ht3 := hF3.cell top2 id
    have c93 := hF3.cell c92 id
    have hlA3 := cell_lt ht3
    have hlB3 := cell_lt c93
    refine hK.out _ _ (fun _ => ⟨ht3, c93⟩) (fun hH => ?_)
    replace hHeld := hH (by decide)
    clear hH
    clear hK K
    (try simp only [Act.put, jA, jB, jC])
    refine readyU [19] (by kernel_rfl) (by simp) ?_
    refine EachU.cons (o := ?o33d) ?ho33d (fun K hK => ?_) ?_
    case ho33d => simp only [jD, jE, jF]; exact rfl
    rotate_left
    ·exact EachU.nil
    refine step_append_any (by rfl) _ _ (by rfl) (by rfl) w2.heap.size g3 l.length cap3 (entC l) (by simp [Act.eval, Act.put]) hown3 _ 1 1 (by simp [Act.eval, Act.put]) [.string a, .int .i64 x] hN3 (by omega) (by decide) hF3.size ?_
    intro g5 cap5 w5 hown5 hgrow5 hat5 hlt5
    have hF5 : Fr (fun _ => False) w2 w5 := hF3.into hgrow5 hb3
    have hz5 := hF5.frozen c92 fz2 id
    have hc5 := hF5.cell c92 id
    have ht5 := hF5.cell top2 id
    refine hK.out _ _ (fun _ => ⟨ht5, hc5⟩) (fun hH => ?_)
    replace hHeld := hH (by decide)
    clear hH
    clear hK K
    (try simp only [Act.put, jA, jB, jC])
    refine readyU [20] (by kernel_rfl) (by simp) ?_
    refine EachU.cons (o := ?o34d) ?ho34d (fun K hK => ?_) ?_
    case ho34d => simp only [jD, jE, jF]; exact rfl
    rotate_left
    ·exact EachU.nil
    go_simp
    refine hK.out _ _ (fun _ => ⟨ht5, hc5⟩) (fun hH => ?_)
    replace hHeld := hH (by decide)
    clear hH
    clear hK K
    (try simp only [Act.put, jA, jB, jC])
    refine readyU [21] (by kernel_rfl) (by simp) ?_
    refine EachU.cons (o := ?o35d) ?ho35d (fun K hK => ?_) ?_
    case ho35d => simp only [jD, jE, jF]; exact rfl
    rotate_left
    ·exact EachU.nil
    go_simp
    refine hK.out _ _ (fun _ => ⟨ht5, hc5⟩) (fun hH => ?_)
    replace hHeld := hH (by decide)
    clear hH
    clear hK K
    (try simp only [Act.put, jA, jB, jC])
    refine readyU [22] (by kernel_rfl) (by simp) ?_
    refine EachU.cons (o := ?o36d) ?ho36d (fun K hK => ?_) ?_
    case ho36d => simp only [jD, jE, jF]; exact rfl
    rotate_left
    ·exact EachU.nil
    go_simp
    refine hK.out _ _ (fun h => absurd rfl h) (fun hHeld => ?_)
    clear hK K
    (try simp only [Act.put, jA, jB, jC])
    refine doneU (by kernel_rfl) ?_ _
    have hp := pushed (d := to) (x := x) HR2.out ht2 hF5 hown5
    rw [hup_setEnts] at hp
    obtain ⟨own3, R3, q1, q2, F3⟩ := hp
    generalize w5.setCell _ _ = W3 at R3 F3 ⊢
    have top3 := R3.top
    obtain ⟨_, _, -, z1, -, -, -, -, z6, z7, -⟩ := R3.cells x hx.2
    rw [hup_kind, setEnts_kind, ← HU2.out, setEnts_kind] at z1
    rw [hup_holds] at z6
    have z6a : W3.cell? ⟨B, x * 10 + 6, none⟩ = some (.int .i64 (((t x).holds : Int) + 1)) := z6
    have zf6 := R3.frozen (x * 10 + 6)
    have zf7 := R3.frozen (x * 10 + 7)
    have Rp := R3.setPar x to hx.2 (by rw [hup_kind, setEnts_kind, ← HU2.out, setEnts_kind]; exact eq_of_beq qx)
    have R4 := Rp.setHolds x (t x).holds hx.2
    have e := mv_end1 (u := t) (d := d) (to := to) (x := x) (k := (t x).holds + 1) (h := (t x).holds) (n := s.data.toList) (nm := a.data.toList) (rfl)
    rw [HU2.out, HLL.out] at e
    have R4' : RT ((W3.setCell ⟨B, x * 10 + 7, none⟩ (.int .i64 to)).setCell ⟨B, x * 10 + 6, none⟩ (.int .i64 (t x).holds)) A B own3 (mv t d s.data.toList to a.data.toList x) := by rw [← e]; exact R4
    have HF3 := hid ((F3.setB (x * 10 + 7) (.int .i64 to)).setB (x * 10 + 6) (.int .i64 (t x).holds))
    clear Rp
    have Hg := hid (gone_any _ R4' Hsd.out)
    have HQ1 := hid q1
    have HQ2 := hid q2
    clear R3 R4 R4' F3 e q1 q2 z6
    go_wp2_with (go_at_call 100; refine Hg.out.mono ?_; rintro e w4 ⟨rfl, R5, F5⟩)
    go_ret
    refine ⟨ret_int (by rw [Hr.out]; rfl), ?_⟩
    rw [Hr.out]
    exact Rt.then (fun _ => id) (fun _ => .inl) F1'.out (Rt.then O1.out O2.out HF2.out ⟨own3, R5, HQ1.out, HQ2.out, HF3.out.trans F5⟩)
end
end Go.Proofs.YtlpececggkdhmaaGreat
