import Derived.BigQuiet
import Derived.LaidEqlPtr
import Derived.Test.YtlpececggkdhmaaGreatM1
import Derived.Test.YtlpececggkdhmaaGreatM5
import Derived.Test.YtlpececggkdhmaaGreatM9
import Derived.Test.YtlpececggkdhmaaGreatM13
open Go.Lib (hid)
set_option linter.unusedVariables false
set_option linter.unusedSimpArgs false
set_option maxHeartbeats 2000000
set_option maxRecDepth 100000
namespace Go.Proofs.YtlpececggkdhmaaGreat
section
open Go.RowKit Ino Go.Maps
variable {A : Nat} {own : Nat → Prop} {t : T}
def oneP (x : Nat) : Nat → Nat := fun i => if i = x then 1 else 0
theorem dec_oneP (x y : Nat) : dec (oneP x) x y = 0 := by
 unfold dec oneP
 by_cases e : y = x
 ·rw [if_pos e, if_pos e]
 ·rw [if_neg e, if_neg e]
theorem V_rem {t : T} {d x : Nat} {n : Bs} : V (setEnts t d (erE (t d).ents n)) (oneP x) = rem t d n x := by
 funext j
 unfold rem setPar V oneP
 by_cases e : j = x
 ·subst e
  by_cases hk : (setEnts t d (erE (t d).ents n) j).kind = 1
  ·rw [if_pos ⟨hk, by simp⟩, if_pos ⟨rfl, hk⟩]
  ·rw [if_neg (fun h => hk h.1), if_neg (fun h => hk h.2)]
 ·rw [if_neg (fun h => by have := h.2; simp [e] at this), if_neg (fun h => e h.1)]
theorem links_cut {t : T} {d x : Nat} {n : Bs} (hd : d ≤ 200) (hf : findE (t d).ents n = some x) (y : Nat) : links (setEnts t d (erE (t d).ents n)) y + oneP x y = links t y := by
 have := links_rem hd hf y
 unfold rem at this
 rw [links_setPar] at this
 unfold oneP
 by_cases e : y = x
 ·rw [if_pos e]; rw [if_pos e.symm] at this; exact this
 ·rw [if_neg e]; rw [if_neg (Ne.symm e)] at this; exact this
theorem pend_rem {t : T} (h : Sound t) {d x : Nat} {n : Bs} (hd : d ≤ 200) (hf : findE (t d).ents n = some x) : Pend (setEnts t d (erE (t d).ents n)) (oneP x) 0 := by
 have hl := links_cut hd hf
 have hx : (t x).is = true := h.sd.tgt d _ (findE_mem hf)
 refine ⟨by rw [V_rem]; exact h.sd.rem hf, fun y hy => ?_, fun y => ?_, fun i h0 h2 h3 h4 h5 => ?_⟩
 ·rw [setEnts_is]
  unfold oneP at hy
  by_cases e : y = x
  ·rw [e]; exact hx
  ·rw [if_neg e] at hy; exact absurd hy (Nat.lt_irrefl _)
 ·rw [hl]; exact h.sd.eight y
 ·rw [setEnts_is] at h4
  rw [setEnts_holds] at h5
  rw [hl]
  by_cases e : 0 < links t i
  ·exact e
  ·exact absurd ⟨h2, h3, h4, h5, by omega⟩ (h.alive i)
theorem setEnts_sub (t : T) (d : Nat) (l : List (Bs × Nat)) : Sub (setEnts t d l) t := ⟨fun i hi => by rw [setEnts_is] at hi; exact hi, fun i hi => by rw [setEnts_kind] at hi; exact hi⟩
theorem premove_any {nb mb : Nat → Nat} {d x : Nat} (s : ByteArray) (w : World) (h : PT w A nb mb t (links t)) (hs : Sound t) (hsz : s.size ≤ maxLen) (hd : (t d).is = true) (hk : (t d).kind = 1) (hd2 : d ≤ 200) (hf : findE (t d).ents s.data.toList = some x) :
 Calls Tryz.prog 115 #[.pointer (some ⟨A, 0, none⟩), .pointer (some ⟨nb d, 0, none⟩), .string s] w fun e w' => e = .returned (.tuple #[]) ∧
  PT w' A nb mb (goneP (rem t d s.data.toList x)) (links (goneP (rem t d s.data.toList x))) ∧ Sub (goneP (rem t d s.data.toList x)) t ∧ Fr (fun g => Nb A nb t g ∨ g = mb d) w w' := by
 have hm := h.maps d hk
 have hlook := hm.look hsz
 rw [hf] at hlook
 have hxr := hs.sd.range x (hs.sd.tgt d _ (findE_mem hf))
 obtain ⟨W', hrun, hp, hg⟩ := hm.del (hs.sd.uniq d) hsz hf 0
 obtain ⟨-, -, -, -, -, -, -, c7, -⟩ := h.cells hd
 unfold mapV at c7
 rw [if_pos hk] at c7
 have h1 := h.turned hk hd hg hp
 have h2 : PT W' A nb mb (setEnts t d (erE (t d).ents s.data.toList)) (lkOf (setEnts t d (erE (t d).ents s.data.toList)) (oneP x)) := h1.congr rfl fun i _ => links_cut hd2 hf i
 have hC := (sweeps A nb mb _).2 _ _ x W' (Nat.le_refl _) h2 (pend_rem hs hd2 hf) (by unfold oneP; rw [if_pos rfl]; decide)
 have HC := hid hC
 have Hg := hid hg
 clear h h1 h2 hC hs hm hp hf hg hk hd
 go_enter Tryz.func115, Tryz.ntmps115
 go_wp2_with (go_at_call 128; refine HC.out.mono ?_; rintro e w2 ⟨rfl, t', k1, k2, k3, k4, k5⟩)
 go_end0
 rw [V_rem, V_zero _ (dec_oneP x)] at k3
 have hS := k2.sound (dec_oneP x)
 have e2 := k3.gone hS.alive
 rw [e2]
 have e3 : lkOf t' (dec (oneP x) x) = links t' := by
  funext i
  unfold lkOf
  rw [dec_oneP, Nat.add_zero]
 rw [e3] at k1
 refine ⟨rfl, k1, k4.trans (setEnts_sub _ _ _), ((Fr.refl _ w).turned Hg.out (.inr rfl)).trans (k5.mono fun g _ hg => .inl (nb_sub (setEnts_sub _ _ _) hg))⟩
theorem premoveE_any (dir : Int) (s : ByteArray) (w : World) (h : PTo w A own t) (hs : Sound t) (hsz : s.size ≤ maxLen) :
 Calls Tryz.prog 70 #[.pointer (some ⟨A, 0, none⟩), .int .i64 dir, .string s] w fun e w' => e = .returned (.int .i64 (removeP t dir s.data.toList).2) ∧ Pt w A own (removeP t dir s.data.toList).1 w' := by
 have H := hid h
 obtain ⟨nb, mb, hP, hO⟩ := h
 have hg := get_any dir w hP
 cases hi : isI t dir
 ·rw [getV_none hi] at hg
  have Hr := hid (show removeP t dir s.data.toList = (t, 3) by unfold removeP; rw [hi, if_neg Bool.false_ne_true])
  clear hP hO hi
  go_enter Tryz.func70, Tryz.ntmps70
  go_wp2_with (go_at_call 56; refine hg.mono ?_; rintro e w' ⟨rfl, rfl⟩)
  go_ret
  exact ⟨ret_int (by rw [Hr.out]; rfl), by rw [Hr.out]; exact Pt.refl H.out⟩
 obtain ⟨d, rfl, d1, d2, hd⟩ := isI_nat hi
 rw [getV_nat hi] at hg
 have hre := removeP_at (n := s.data.toList) hi
 generalize removeP t (d : Int) s.data.toList = r at hre ⊢
 have hdd := isDir_any w hP hd
 by_cases hk : (t d).kind = 1
 ·rw [decide_eq_true hk] at hdd
  have hh := has_any s w hP hd hk hsz
  rw [if_pos hk] at hre
  cases hf : findE (t d).ents s.data.toList with
  | none =>
   rw [hf] at hh hre
   have Hr := hid (show r = (t, 3) from hre)
   have HH := hid (show Calls Tryz.prog 113 #[.pointer (some ⟨nb d, 0, none⟩), .string s] w fun e w' => e = .returned (.bool false) ∧ w = w' from hh)
   clear hP hO hi hre hh hf hk
   go_enter Tryz.func70, Tryz.ntmps70
   go_wp2_with (first
    | (go_at_call 56; refine hg.mono ?_; rintro e w' ⟨rfl, rfl⟩)
    | (go_at_call 57; refine hdd.mono ?_; rintro e w' ⟨rfl, rfl⟩)
    | (go_at_call 113; refine HH.out.mono ?_; rintro e w' ⟨rfl, rfl⟩))
   go_ret
   exact ⟨ret_int (by rw [Hr.out]; rfl), by rw [Hr.out]; exact Pt.refl H.out⟩
  | some x =>
   rw [hf] at hh hre
   have HH := hid (show Calls Tryz.prog 113 #[.pointer (some ⟨nb d, 0, none⟩), .string s] w fun e w' => e = .returned (.bool true) ∧ w = w' from hh)
   have Hre := hid (show r = if (t x).ents ≠ [] then (t, 8) else (goneP (rem t d s.data.toList x), 0) from hre)
   have hx := hs.sd.tgt d _ (findE_mem hf)
   have hfl := isFilled_any w hP hs.sd hx
   obtain ⟨-, -, -, -, -, -, -, c7, -⟩ := hP.cells hd
   unfold mapV at c7
   rw [if_pos hk] at c7
   have hlook := (hP.maps d hk).look hsz
   rw [hf] at hlook
   have HR := hid (premove_any s w hP hs hsz hd hk d2 hf)
   have HO := hid hO
   by_cases he : (t x).ents ≠ []
   ·rw [decide_eq_true he] at hfl
    have Hr := hid (show r = (t, 8) by rw [Hre.out, if_pos he])
    clear hP hO hi hre hh hf hk he
    go_enter Tryz.func70, Tryz.ntmps70
    go_wp2_with (first
     | (go_at_call 56; refine hg.mono ?_; rintro e w' ⟨rfl, rfl⟩)
     | (go_at_call 57; refine hdd.mono ?_; rintro e w' ⟨rfl, rfl⟩)
     | (go_at_call 113; refine HH.out.mono ?_; rintro e w' ⟨rfl, rfl⟩)
     | (go_at_call 114; refine hfl.mono ?_; rintro e w' ⟨rfl, rfl⟩))
    go_ret
    exact ⟨ret_int (by rw [Hr.out]; rfl), by rw [Hr.out]; exact Pt.refl H.out⟩
   ·rw [decide_eq_false he] at hfl
    have Hr := hid (show r = (goneP (rem t d s.data.toList x), 0) by rw [Hre.out, if_neg he])
    have Hk := hid hk
    clear hP hO hi hre hh hf hk he
    go_enter Tryz.func70, Tryz.ntmps70
    go_wp2_with (first
     | (go_at_call 56; refine hg.mono ?_; rintro e w' ⟨rfl, rfl⟩)
     | (go_at_call 57; refine hdd.mono ?_; rintro e w' ⟨rfl, rfl⟩)
     | (go_at_call 113; refine HH.out.mono ?_; rintro e w' ⟨rfl, rfl⟩)
     | (go_at_call 114; refine hfl.mono ?_; rintro e w' ⟨rfl, rfl⟩)
     | (go_at_call 115; refine HR.out.mono ?_; rintro e w2 ⟨rfl, k1, k2, k3⟩))
    go_ret
    refine ⟨ret_int (by rw [Hr.out]; rfl), ?_⟩
    rw [Hr.out]
    refine Pt.same (t := t) k1 HO.out k2 (k3.mono fun g _ hg => ?_)
    rcases hg with (rfl | ⟨i, hi, rfl⟩) | rfl
    ·exact HO.out _ (.inl rfl)
    ·exact HO.out _ (.inr (.inl ⟨i, hi, rfl⟩))
    ·exact HO.out _ (.inr (.inr ⟨d, Hk.out, rfl⟩))
 ·rw [decide_eq_false hk] at hdd
  have Hr := hid (show r = (t, 6) by rw [hre, if_neg hk])
  clear hP hO hi hre
  go_enter Tryz.func70, Tryz.ntmps70
  go_wp2_with (first
   | (go_at_call 56; refine hg.mono ?_; rintro e w' ⟨rfl, rfl⟩)
   | (go_at_call 57; refine hdd.mono ?_; rintro e w' ⟨rfl, rfl⟩))
  go_ret
  exact ⟨ret_int (by rw [Hr.out]; rfl), by rw [Hr.out]; exact Pt.refl H.out⟩
end
end Go.Proofs.YtlpececggkdhmaaGreat
namespace Go.Proofs.YtlpececggkdhmaaGreat.Ino
def mv (t : T) (d : Nat) (n : Bs) (to : Nat) (nm : Bs) (x : Nat) : T := add (rem t d n x) to nm x
theorem mv_is (t : T) (d : Nat) (n : Bs) (to : Nat) (nm : Bs) (x j : Nat) : (mv t d n to nm x j).is = (t j).is := by unfold mv; rw [add_is, rem_is]
theorem mv_kind (t : T) (d : Nat) (n : Bs) (to : Nat) (nm : Bs) (x j : Nat) : (mv t d n to nm x j).kind = (t j).kind := by unfold mv; rw [add_kind, rem_kind]
theorem mv_holds (t : T) (d : Nat) (n : Bs) (to : Nat) (nm : Bs) (x j : Nat) : (mv t d n to nm x j).holds = (t j).holds := by unfold mv; rw [add_holds, rem_holds]
theorem mv_links {t : T} {d : Nat} {n : Bs} {to : Nat} {nm : Bs} {x : Nat} (hd : d ≤ 200) (hto : to ≤ 200) (hf : findE (t d).ents n = some x) (y : Nat) : links (mv t d n to nm x) y = links t y := by
 unfold mv
 rw [links_add hto]
 have := links_rem hd hf y
 omega
theorem mv_normal {t : T} {d : Nat} {n : Bs} {to : Nat} {nm : Bs} {x : Nat} (hd : d ≤ 200) (hto : to ≤ 200) (hf : findE (t d).ents n = some x) (h : Normal t) : Normal (mv t d n to nm x) := by
 intro i hi
 obtain ⟨h1, h2, h3, h4, h5⟩ := hi
 rw [mv_is] at h3
 rw [mv_holds] at h4
 rw [mv_links hd hto hf] at h5
 exact h i ⟨h1, h2, h3, h4, h5⟩
theorem mv_delOk {t : T} {d : Nat} {n : Bs} {to : Nat} {nm : Bs} {x : Nat} (hd : d ≤ 200) (hto : to ≤ 200) (hf : findE (t d).ents n = some x) {i : Nat} (h : DelOk t i) : DelOk (mv t d n to nm x) i := by
 obtain ⟨h1, h2, h3, h4, h5⟩ := h
 exact ⟨h1, h2, by rw [mv_is]; exact h3, by rw [mv_holds]; exact h4, by rw [mv_links hd hto hf]; exact h5⟩
theorem del_empty {t : T} {i : Nat} (h : (t i).ents = []) : del t i = upd t i noN := by
 funext j
 by_cases e : j = i
 ·rw [e, del_self, upd_same]
 ·rw [del_out e (by rw [h]; rintro ⟨_, h2⟩; exact Bool.false_ne_true h2), upd_other _ _ e]
theorem mv_ents_other (t : T) {d : Nat} (n : Bs) {to : Nat} (nm : Bs) (x : Nat) {i : Nat} (h1 : i ≠ d) (h2 : i ≠ to) : (mv t d n to nm x i).ents = (t i).ents := by
 unfold mv
 rw [add_ents, if_neg h2, rem_ents, if_neg h1]
theorem mv_other (t : T) {d : Nat} (n : Bs) {to : Nat} (nm : Bs) {x : Nat} {i : Nat} (h1 : i ≠ d) (h2 : i ≠ to) (h3 : i ≠ x) : mv t d n to nm x i = t i := by
 unfold mv add rem
 rw [setPar_other _ _ _ h3]
 unfold setEnts
 rw [upd_other _ _ h2, setPar_other _ _ _ h3, upd_other _ _ h1]
theorem setPar_at (t u : T) (x p j : Nat) (h : t j = u j) : setPar t x p j = setPar u x p j := by
 unfold setPar; rw [h]
theorem mv_upd {t : T} {d : Nat} {n : Bs} {to : Nat} {nm : Bs} {x i : Nat} (h1 : i ≠ d) (h2 : i ≠ to) (h3 : i ≠ x) : mv (upd t i noN) d n to nm x = upd (mv t d n to nm x) i noN := by
 have hr : ∀ j, j ≠ i → rem (upd t i noN) d n x j = rem t d n x j := fun j hj => by
  unfold rem
  refine setPar_at _ _ _ _ _ ?_
  unfold setEnts
  rw [upd_other _ _ (Ne.symm h1)]
  by_cases e : j = d
  ·rw [e, upd_same, upd_same]
  ·rw [upd_other _ _ e, upd_other _ _ e, upd_other _ _ hj]
 funext j
 by_cases e : j = i
 ·subst e
  rw [mv_other _ n nm h1 h2 h3, upd_same, upd_same]
 ·rw [upd_other _ _ e]
  unfold mv add
  refine setPar_at _ _ _ _ _ ?_
  unfold setEnts
  rw [hr to (Ne.symm h2)]
  by_cases e2 : j = to
  ·rw [e2, upd_same, upd_same]
  ·rw [upd_other _ _ e2, upd_other _ _ e2, hr j e]
theorem gone_mv {u : T} {d : Nat} {n : Bs} {to : Nat} {nm : Bs} {x th : Nat} (hd : d ≤ 200) (hto : to ≤ 200) (hf : findE (u d).ents n = some x) (he : (u th).ents = []) (h1 : th ≠ d) (h2 : th ≠ to) (h3 : th ≠ x)
 (ha : ∀ i, i ≠ th → ¬ DelOk u i) : goneP (mv u d n to nm x) = mv (goneP u) d n to nm x ∧ Normal (mv (goneP u) d n to nm x) ∧ (goneP u = u ∨ goneP u = upd u th noN) := by
 by_cases hdel : DelOk u th
 ·have e1 : del u th = upd u th noN := del_empty he
  have hn : Normal (del u th) := by
   intro i hi
   obtain ⟨k1, k2, k3, k4, k5⟩ := hi
   rw [e1] at k3 k4 k5
   by_cases e : i = th
   ·rw [e, upd_same] at k3; cases k3
   ·rw [upd_other _ _ e] at k3 k4
    have := links_noN (t := u) (x := th) hdel.2.1 i
    rw [he, cnt_nil] at this
    exact ha i e ⟨k1, k2, k3, k4, by omega⟩
  have hg : goneP u = del u th := by rw [← goneP_del hdel, goneP_of_normal hn]
  have hf2 : findE (upd u th noN d).ents n = some x := by rw [upd_other _ _ (Ne.symm h1)]; exact hf
  have hN : Normal (mv (del u th) d n to nm x) := by rw [e1] at hn ⊢; exact mv_normal hd hto hf2 hn
  refine ⟨?_, by rw [hg]; exact hN, .inr (by rw [hg, e1])⟩
  have e2 : del (mv u d n to nm x) th = mv (del u th) d n to nm x := by
   rw [e1, mv_upd h1 h2 h3, del_empty (by rw [mv_ents_other u n nm x h1 h2]; exact he)]
  rw [← goneP_del (mv_delOk hd hto hf hdel), e2, goneP_of_normal hN, hg]
 ·have hn : Normal u := fun i hi => by
   by_cases e : i = th
   ·rw [e] at hi; exact hdel hi
   ·exact ha i e hi
  have hN := mv_normal (nm := nm) hd hto hf hn
  rw [goneP_of_normal hn, goneP_of_normal hN]
  exact ⟨rfl, hN, .inl rfl⟩
theorem rem_alive {t : T} (h : Sound t) {d x : Nat} {n : Bs} (hd : d ≤ 200) (hf : findE (t d).ents n = some x) {i : Nat} (hi : i ≠ x) : ¬ DelOk (rem t d n x) i := by
 rintro ⟨h1, h2, h3, h4, h5⟩
 rw [rem_is] at h3
 rw [rem_holds] at h4
 have := links_rem hd hf i
 rw [if_neg (Ne.symm hi)] at this
 exact h.alive i ⟨h1, h2, h3, h4, by omega⟩
theorem mv_laid {t : T} {d : Nat} {n : Bs} {to : Nat} {nm : Bs} {x : Nat} : setPar (setEnts (setEnts t d (erE (t d).ents n)) to ((setEnts t d (erE (t d).ents n) to).ents ++ [(nm, x)])) x to = mv t d n to nm x := by
 unfold mv add rem
 have he : (setPar (setEnts t d (erE (t d).ents n)) x x to).ents = (setEnts t d (erE (t d).ents n) to).ents := setPar_ents _ _ _ _
 rw [he]
 generalize setEnts t d (erE (t d).ents n) = u
 generalize (u to).ents ++ [(nm, x)] = l
 funext j
 unfold setPar setEnts upd
 by_cases e : j = to
 ·subst e
  by_cases e2 : j = x ∧ (u j).kind = 1
  ·obtain ⟨e3, hk⟩ := e2
   subst e3
   simp [hk]
  ·simp only [if_true]
   rw [if_neg e2, if_neg e2, if_neg e2]
 ·simp only [if_neg e]
  by_cases e2 : j = x ∧ (u j).kind = 1
  ·rw [if_pos e2, if_pos e2, if_pos e2]
  ·rw [if_neg e2, if_neg e2, if_neg e2]
end Go.Proofs.YtlpececggkdhmaaGreat.Ino
namespace Go.Proofs.YtlpececggkdhmaaGreat
section
open Go.RowKit Ino Go.Maps
variable {A : Nat} {own : Nat → Prop} {t : T}
theorem infoNode : ∃ j, Tryz.prog.info? 110 = some j ∧ j.size = 10 := by
 have h : (Tryz.prog.info? 110).map (·.size) = some 10 := by kernel_rfl
 cases hj : Tryz.prog.info? 110 with
 | none => rw [hj] at h; cases h
 | some j =>
  rw [hj] at h
  exact ⟨j, rfl, by simpa using h⟩
theorem undNodeP : Tryz.prog.underlying 71 = some (.pointer 110) := by kernel_rfl
theorem neq_same (w : World) (a : Addr) : (binOp .neq 71 (.pointer (some a)) (.pointer (some a))).run Tryz.prog w = .ok (.bool false) w := by
 obtain ⟨j, hj, _⟩ := infoNode
 have h : ∀ d : Nat, (Op.equalIn (d + 1) 71 (.pointer (some a)) (.pointer (some a))).run Tryz.prog w = .ok true w := fun d => by
  simp [Op.equalIn, run_underlying undNodeP, sizeOf, typeInfo, hj, run_sameAddr_same]
 simp only [binOp]
 simp [Op.equal, Op.maxDepth, h 9999]
theorem neq_other (w : World) {a b : Nat} {f g : Nat → Value} (hne : a ≠ b) (ha : w.rowIs a 110 10 f) (hb : w.rowIs b 110 10 g) : (binOp .neq 71 (.pointer (some ⟨a, 0, none⟩)) (.pointer (some ⟨b, 0, none⟩))).run Tryz.prog w = .ok (.bool true) w := by
 obtain ⟨j, hj, hs⟩ := infoNode
 obtain ⟨ca, ha, _⟩ := ha
 obtain ⟨cb, hb, _⟩ := hb
 have hne' : (⟨a, 0, none⟩ : Addr) ≠ ⟨b, 0, none⟩ := fun e => hne (by cases e; rfl)
 have hsz : j.size ≠ 0 := by omega
 have h : ∀ d : Nat, (Op.equalIn (d + 1) 71 (.pointer (some ⟨a, 0, none⟩)) (.pointer (some ⟨b, 0, none⟩))).run Tryz.prog w = .ok false w := fun d => by
  simp [Op.equalIn, run_underlying undNodeP, sizeOf, typeInfo, hj, hsz, run_sameAddr_other w hne' ha hb]
 simp only [binOp]
 simp [Op.equal, Op.maxDepth, h 9999]
theorem isDirQ (w : World) (n g : Nat) (k : Int) (hc : w.cell? ⟨g, 0, none⟩ = some (.int .i64 k)) :
 Calls Tryz.prog 57 #[.pointer (some ⟨g, 0, none⟩)] (w.drewN n) fun e w' => e = .returned (.bool (decide (k = 1))) ∧ ∃ m, w' = w.drewN m :=
 (isDir_at (w.drewN n) g k hc).mono fun _ _ h => ⟨h.1, n, h.2.symm⟩
open Classical in
noncomputable def barE (t : T) (d to : Nat) (nm : Bs) (x : Nat) : Nat :=
 match findE (t to).ents nm with
 | none => if 40 ≤ (t to).ents.length ∧ to ≠ d then 9 else 0
 | some _ => thereE t to nm x
theorem mayMove_any {nb mb : Nat → Nat} {d to x : Nat} (s : ByteArray) (w : World) (h : PT w A nb mb t (links t)) (hs : Sound t) (hsz : s.size ≤ maxLen) (hd : (t d).is = true) (hto : (t to).is = true) (hk : (t to).kind = 1) (hx : (t x).is = true) :
 Calls Tryz.prog 117 #[.pointer (some ⟨A, 0, none⟩), .pointer (some ⟨nb d, 0, none⟩), .int .i64 x, .pointer (some ⟨nb to, 0, none⟩), .string s] w fun e w' => e = .returned (.int .i64 (barE t d to s.data.toList x)) ∧ ∃ q, w' = w.drewN q := by
 have hh := has_any s w h hto hk hsz
 have hre : barE t d to s.data.toList x = match findE (t to).ents s.data.toList with | none => if 40 ≤ (t to).ents.length ∧ to ≠ d then 9 else 0 | some _ => thereE t to s.data.toList x := rfl
 generalize barE t d to s.data.toList x = r at hre ⊢
 obtain ⟨-, -, -, -, -, -, -, c7, -⟩ := h.cells hto
 unfold mapV at c7
 rw [if_pos hk] at c7
 cases hf : findE (t to).ents s.data.toList with
 | none =>
  rw [hf] at hh hre
  have HH := hid (show Calls Tryz.prog 113 #[.pointer (some ⟨nb to, 0, none⟩), .string s] w fun e w' => e = .returned (.bool false) ∧ w = w' from hh)
  have Hre := hid (show r = if 40 ≤ (t to).ents.length ∧ to ≠ d then 9 else 0 from hre)
  have hlen := (h.maps to hk).len 3
  have hl40 := hs.sd.len to
  clear hre hh hf
  by_cases e : to = d
  ·subst e
   have hpq := neq_same w ⟨nb to, 0, none⟩
   have Hr := hid (show r = 0 by rw [Hre.out, if_neg (by rintro ⟨_, h⟩; exact h rfl)])
   clear h hs hd hto hk hx
   generalize (t to).ents.length = n at hlen hl40
   by_cases h40 : (40 : Int) ≤ n
   ·go_enter Tryz.func117, Tryz.ntmps117
    go_wp2_with (go_at_call 113; refine HH.out.mono ?_; rintro e w' ⟨rfl, rfl⟩)
    go_ret
    exact ⟨ret_int (by rw [Hr.out]; rfl), 0, rfl⟩
   ·go_enter Tryz.func117, Tryz.ntmps117
    go_wp2_with (go_at_call 113; refine HH.out.mono ?_; rintro e w' ⟨rfl, rfl⟩)
    go_ret
    exact ⟨ret_int (by rw [Hr.out]; rfl), 0, rfl⟩
  ·have hne : nb to ≠ nb d := fun e2 => e (h.inj _ _ hto hd e2)
   have hpq := neq_other w hne (h.node _ hto) (h.node _ hd)
   by_cases h40 : 40 ≤ (t to).ents.length
   ·have Hr := hid (show r = 9 by rw [Hre.out, if_pos ⟨h40, e⟩])
    clear h hs hd hto hk hx Hre
    generalize (t to).ents.length = n at hlen hl40 h40
    go_enter Tryz.func117, Tryz.ntmps117
    go_wp2_with (go_at_call 113; refine HH.out.mono ?_; rintro e w' ⟨rfl, rfl⟩)
    go_ret
    exact ⟨ret_int (by rw [Hr.out]; rfl), 0, rfl⟩
   ·have Hr := hid (show r = 0 by rw [Hre.out, if_neg (by rintro ⟨h, _⟩; exact h40 h)])
    clear h hs hd hto hk hx Hre
    generalize (t to).ents.length = n at hlen hl40 h40
    go_enter Tryz.func117, Tryz.ntmps117
    go_wp2_with (go_at_call 113; refine HH.out.mono ?_; rintro e w' ⟨rfl, rfl⟩)
    go_ret
    exact ⟨ret_int (by rw [Hr.out]; rfl), 0, rfl⟩
 | some th =>
  rw [hf] at hh hre
  have HH := hid (show Calls Tryz.prog 113 #[.pointer (some ⟨nb to, 0, none⟩), .string s] w fun e w' => e = .returned (.bool true) ∧ w = w' from hh)
  have hre2 : r = if ((t x).kind = 1) ≠ ((t th).kind = 1) then 7 else if (t th).ents ≠ [] then 8 else 0 := by
   have : r = thereE t to s.data.toList x := hre
   rw [this]
   unfold thereE
   rw [hf]
  have Hre := hid hre2
  have hlook := (h.maps to hk).look hsz
  rw [hf] at hlook
  have hth := hs.sd.tgt to _ (findE_mem hf)
  have hrt := hs.sd.range th hth
  have hrx := hs.sd.range x hx
  have a1 := h.get (i := th) (by omega)
  have a2 := h.get (i := x) (by omega)
  unfold ptrV at a1 a2
  rw [hth, if_pos rfl] at a1
  rw [hx, if_pos rfl] at a2
  obtain ⟨b1, -⟩ := h.cells hth
  obtain ⟨b2, -⟩ := h.cells hx
  have HF := hid fun q => isFilled_any (w.drewN q) (h.drewN q) hs.sd hth
  have i1 : (0 : Int) ≤ (th : Int) := by omega
  have i2 : (th : Int) < 201 := by omega
  have i3 : (0 : Int) ≤ (x : Int) := by omega
  have i4 : (x : Int) < 201 := by omega
  have Q1 := hid fun n => isDirQ w n _ _ b1
  have Q2 := hid fun n => isDirQ w n _ _ b2
  clear h hs hd hto hk hx hre hre2 hh hf hth hrt hrx
  generalize hk1 : decide ((t th).kind = 1) = k1 at Q1
  generalize hk2 : decide ((t x).kind = 1) = k2 at Q2
  have Hb : (((t x).kind = 1) ≠ ((t th).kind = 1)) ↔ (k1 != k2) = true := by
   rw [← hk1, ← hk2]
   by_cases e1 : (t th).kind = 1 <;> by_cases e2 : (t x).kind = 1 <;> simp [e1, e2]
  have Hb := hid Hb
  clear hk1 hk2
  by_cases hq : (k1 != k2) = true
  ·have Hr := hid (show r = 7 by rw [Hre.out, if_pos (Hb.out.2 hq)])
   clear Hb
   obtain rfl : k2 = !k1 := by cases k1 <;> cases k2 <;> simp_all
   clear hq
   cases k1 <;>
   (
   go_enter Tryz.func117, Tryz.ntmps117
   go_wp2_with (go_at_call 113; refine HH.out.mono ?_; rintro e w' ⟨rfl, rfl⟩)
   go_quiet (first | (go_at_call 57; (with_reducible refine (Q1.out _))) | (go_at_call 57; refine (Q2.out _)))
   go_wp2
   go_ret
   exact ⟨ret_int (by rw [Hr.out]; rfl), _, rfl⟩)
  ·have hq' : (k1 != k2) = false := by simpa using hq
   have HF2 := hid fun q => HF.out q
   by_cases he : (t th).ents ≠ []
   ·have Hr := hid (show r = 8 by rw [Hre.out, if_neg (fun h => hq (Hb.out.1 h)), if_pos he])
    have HF := HF.out
    rw [decide_eq_true he] at HF
    have HF := hid HF
    clear he
    go_enter Tryz.func117, Tryz.ntmps117
    go_wp2_with (go_at_call 113; refine HH.out.mono ?_; rintro e w' ⟨rfl, rfl⟩)
    go_quiet (first | (go_at_call 57; (with_reducible refine (Q1.out _))) | (go_at_call 57; refine (Q2.out _)))
    go_wp2_with (go_at_call 114; refine (HF.out _).mono ?_; rintro e w' ⟨rfl, rfl⟩)
    go_ret
    exact ⟨ret_int (by rw [Hr.out]; rfl), _, rfl⟩
   ·have Hr := hid (show r = 0 by rw [Hre.out, if_neg (fun h => hq (Hb.out.1 h)), if_neg he])
    have HF := HF.out
    rw [decide_eq_false he] at HF
    have HF := hid HF
    clear he
    go_enter Tryz.func117, Tryz.ntmps117
    go_wp2_with (go_at_call 113; refine HH.out.mono ?_; rintro e w' ⟨rfl, rfl⟩)
    go_quiet (first | (go_at_call 57; (with_reducible refine (Q1.out _))) | (go_at_call 57; refine (Q2.out _)))
    go_wp2_with (go_at_call 114; refine (HF.out _).mono ?_; rintro e w' ⟨rfl, rfl⟩)
    go_ret
    exact ⟨ret_int (by rw [Hr.out]; rfl), _, rfl⟩
end
section
open Go.RowKit Ino Go.Maps
variable {A : Nat} {own : Nat → Prop} {t : T}
open Classical in
theorem moveP_at {t : T} {d to : Nat} {n nm : Bs} (h1 : isI t (d : Int) = true) (h2 : isI t (to : Int) = true) : moveP t (d : Int) n (to : Int) nm =
 if (t d).kind = 1 ∧ (t to).kind = 1 then
  match findE (t d).ents n with
  | none => (t, 3)
  | some ino =>
   if nameOk nm = true then
    if Within t to ino ∧ (t ino).kind = 1 then (t, 8)
    else if findE (t to).ents nm = some ino then (t, 0)
    else if barE t d to nm ino ≠ 0 then (t, barE t d to nm ino)
    else (goneP (movedT t d n to nm ino), 0)
   else (t, 1)
 else (t, 6) := by
 unfold moveP
 rw [if_pos ⟨h1, h2⟩]
 simp only [Int.toNat_natCast]
 by_cases hk : (t d).kind = 1 ∧ (t to).kind = 1
 ·rw [if_pos hk, if_pos hk]
  cases hf : findE (t d).ents n with
  | none => rfl
  | some ino =>
   dsimp only
   by_cases hn : nameOk nm = true
   ·rw [if_pos hn, if_pos hn]
    by_cases hw : (t ino).kind = 1 ∧ Within t to ino
    ·rw [if_pos hw, if_pos (show Within t to ino ∧ (t ino).kind = 1 from ⟨hw.2, hw.1⟩)]
    ·rw [if_neg hw, if_neg (show ¬ (Within t to ino ∧ (t ino).kind = 1) from fun h => hw ⟨h.2, h.1⟩)]
     by_cases he : findE (t to).ents nm = some ino
     ·rw [if_pos he, if_pos he]
     ·rw [if_neg he, if_neg he]
      cases hg : findE (t to).ents nm with
      | none =>
       have ht : thereE t to nm ino = 0 := by unfold thereE; rw [hg]
       have hb : barE t d to nm ino = if 40 ≤ (t to).ents.length ∧ to ≠ d then 9 else 0 := by unfold barE; rw [hg]
       rw [if_neg (fun h => h ht), hb]
       by_cases h40 : 40 ≤ (t to).ents.length ∧ to ≠ d
       ·rw [if_pos ⟨rfl, h40.1, fun e => h40.2 (by omega)⟩, if_pos h40, if_pos (by decide)]
       ·rw [if_neg (fun h => h40 ⟨h.2.1, fun e => h.2.2 (by rw [e])⟩), if_neg h40, if_neg (by decide)]
      | some th =>
       have hb : barE t d to nm ino = thereE t to nm ino := by unfold barE; rw [hg]
       rw [hb]
       by_cases hz : thereE t to nm ino ≠ 0
       ·rw [if_pos hz, if_pos hz]
       ·rw [if_neg hz, if_neg hz, if_neg (fun h => by cases h.1)]
   ·rw [if_neg hn, if_neg hn]
 ·rw [if_neg hk, if_neg hk]
theorem moveP_none {t : T} {dir to : Int} {n nm : Bs} (h : isI t dir = false ∨ isI t to = false) : moveP t dir n to nm = (t, 3) := by
 unfold moveP
 rw [if_neg]
 rintro ⟨h1, h2⟩
 rcases h with h | h
 ·rw [h1] at h; cases h
 ·rw [h2] at h; cases h
theorem movedT_eq (t : T) (d : Nat) (n : Bs) (to : Nat) (nm : Bs) (x : Nat) : movedT t d n to nm x = mv (match findE (t to).ents nm with | none => t | some th => rem t to nm th) d n to nm x := rfl
theorem move_tail {w : World} {nb mb : Nat → Nat} (h : PT w A nb mb t (links t)) {d to x : Nat} (s a : ByteArray) (hs : s.size ≤ maxLen) (ha : a.size ≤ maxLen) (hd : (t d).is = true) (hk : (t d).kind = 1) (hd2 : d ≤ 200) (hto : (t to).is = true) (hkt : (t to).kind = 1) (ht2 : to ≤ 200)
 (hu : ((t d).ents.map (·.1)).Nodup) (hlen : (t to).ents.length ≤ 40) (hx : (t x).is = true) (hx2 : x ≤ 200) (hf : findE (t d).ents s.data.toList = some x) (hn : findE (t to).ents a.data.toList = none) :
 ∃ W2 W3, (Builtin.delete_ #[108, 9] 0 #[.map (some (mb d)), .string s]).run Tryz.prog w = .ok (.tuple #[]) W2 ∧ W2.cell? ⟨nb to, 7, none⟩ = some (.map (some (mb to))) ∧
  (Instr.mapUpdate 108 (.map (some (mb to))) (.string a) (.int .i64 x)).run Tryz.prog W2 = .ok () W3 ∧ W3.cell? ⟨A, x, none⟩ = some (.pointer (some ⟨nb x, 0, none⟩)) ∧ W3.cell? ⟨nb x, 0, none⟩ = some (.int .i64 (t x).kind) ∧
  (∃ p, W3.cell? ⟨nb x, 8, none⟩ = some (.int .i64 p)) ∧ W3.frozen? ⟨nb x, 8, none⟩ = false ∧ ((t x).kind = 1 → PT (W3.setCell ⟨nb x, 8, none⟩ (.int .i64 to)) A nb mb (mv t d s.data.toList to a.data.toList x) (links (mv t d s.data.toList to a.data.toList x))) ∧
  ((t x).kind ≠ 1 → PT W3 A nb mb (mv t d s.data.toList to a.data.toList x) (links (mv t d s.data.toList to a.data.toList x))) ∧ Fr (fun g => g = mb d ∨ g = mb to) w W3 := by
 obtain ⟨W2, r2, p2, g2⟩ := (h.maps d hk).del hu hs hf 0
 have h2 := h.turned hk hd g2 p2
 have hkt2 : (setEnts t d (erE (t d).ents s.data.toList) to).kind = 1 := by rw [setEnts_kind]; exact hkt
 have hto2 : (setEnts t d (erE (t d).ents s.data.toList) to).is = true := by rw [setEnts_is]; exact hto
 have hlen2 : (setEnts t d (erE (t d).ents s.data.toList) to).ents.length ≤ 40 := by
  rw [setEnts_ents]
  split
  ·rename_i e
   have := erE_le (t d).ents s.data.toList
   rw [← e] at this
   rw [e] at hlen
   have := erE_le (t d).ents s.data.toList
   omega
  ·exact hlen
 have hn2 : findE (setEnts t d (erE (t d).ents s.data.toList) to).ents a.data.toList = none := by
  rw [setEnts_ents]
  split
  ·rename_i e
   rw [e] at hn
   exact erE_keeps_none hn
  ·exact hn
 have h2' : PT W2 A nb mb (setEnts t d (erE (t d).ents s.data.toList)) (links t) := h2
 obtain ⟨W3, r3, p3, g3⟩ := (h2'.maps to hkt2).put (by unfold maxLen; omega) ha x hx2 hn2
 have h3 : PT W3 A nb mb (setEnts (setEnts t d (erE (t d).ents s.data.toList)) to ((setEnts t d (erE (t d).ents s.data.toList) to).ents ++ [(a.data.toList, x)])) (links t) := h2'.turned hkt2 hto2 g3 p3
 have hx3 : (setEnts (setEnts t d (erE (t d).ents s.data.toList)) to ((setEnts t d (erE (t d).ents s.data.toList) to).ents ++ [(a.data.toList, x)]) x).is = true := by rw [setEnts_is, setEnts_is]; exact hx
 have hxk3 : (setEnts (setEnts t d (erE (t d).ents s.data.toList)) to ((setEnts t d (erE (t d).ents s.data.toList) to).ents ++ [(a.data.toList, x)]) x).kind = (t x).kind := by rw [setEnts_kind, setEnts_kind]
 obtain ⟨-, -, -, -, -, -, -, c7, -⟩ := h2'.cells hto2
 unfold mapV at c7
 rw [if_pos hkt2] at c7
 have cA := h3.get hx2
 unfold ptrV at cA
 rw [hx3, if_pos rfl] at cA
 obtain ⟨c0, -, -, -, -, -, -, -, c8, -⟩ := h3.cells hx3
 rw [hxk3] at c0
 have hl : ∀ i, links (mv t d s.data.toList to a.data.toList x) i = links t i := fun i => mv_links hd2 ht2 hf i
 refine ⟨W2, W3, r2, c7, r3, cA, c0, ⟨_, c8⟩, h3.frozen hx3 8, fun hxk => ?_, fun hxk => ?_, ?_⟩
 ·refine (h3.setParent hx3 to).congr ?_ fun i _ => hl i
  rw [← mv_laid, setPar_self _ _ _ (by rw [hxk3]; exact hxk)]
 ·refine h3.congr ?_ fun i _ => hl i
  rw [← mv_laid, setPar_not _ _ _ (by rw [hxk3]; exact hxk)]
 ·exact ((Fr.refl _ w).turned g2 (.inl rfl)).turned g3 (.inr rfl)
end
end Go.Proofs.YtlpececggkdhmaaGreat
