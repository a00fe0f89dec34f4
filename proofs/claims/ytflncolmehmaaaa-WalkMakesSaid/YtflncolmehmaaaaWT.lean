/- The plain functions over the place told are those over the tree. -/
import Derived.Test.YtflncolmehmaaaaWQ
import Derived.Test.YtflncolmehmaaaaWO
import Derived.Test.YtflncolmehmaaaaWL
import Derived.Test.YtflncolmehmaaaaWK
import Derived.Test.YtflncolmehmaaaaWJ
import Derived.Test.YtflncolmehmaaaaWI
import Derived.Test.YtflncolmehmaaaaWH
import Derived.Test.YtflncolmehmaaaaM23
import Derived.Test.YtflncolmehmaaaaM29
namespace Go.Proofs.Ytflncolmehmaaaa
open Go.RowKit Ino Go.Maps Pa
set_option linter.unusedVariables false
set_option linter.unusedSimpArgs false
variable {own : Nat → Prop} {t : T}

theorem pla_ok (h : Sd t) {p : Plc} (e : p.err = 0) : plaP t p = ⟨infT t p.dir, p.name, p.must, (lookP t (p.dir : Int) p.name).2, if (lookP t (p.dir : Int) p.name).2 = true then infT t (lookP t (p.dir : Int) p.name).1 else noInf, 0⟩ := by
  unfold plaP
  rw [if_pos e, lookI_eq h]
  cases hl : (lookP t (p.dir : Int) p.name).2
  · rw [if_neg Bool.false_ne_true, if_neg Bool.false_ne_true]
  · rw [if_pos rfl, if_pos rfl]
theorem pla_err {p : Plc} (e : ¬ p.err = 0) : plaP t p = noPla p.err := by
  unfold plaP
  rw [if_neg e]
theorem told_ok {r : Nat × Nat} (e : r.2 = 0) : toldI t r = (infT t r.1, 0) := by unfold toldI; rw [if_pos e]
theorem told_err {r : Nat × Nat} (e : ¬ r.2 = 0) : toldI t r = (noInf, r.2) := by unfold toldI; rw [if_neg e]
theorem tie_mkdir (h : Sd t) (cwd u g : Int) (s : Bs) (mode : Int) (d : Nat) (hd : (plaP t (placeP t cwd u g s)).dir.ino = (d : Int)) : mkdirA t u g d (plaP t (placeP t cwd u g s)) mode = mkdirP t cwd u g s mode := by
  unfold mkdirA mkdirP makesP
  generalize placeP t cwd u g s = p at *
  by_cases e : p.err = 0
  · rw [pla_ok h e] at hd ⊢
    have hdd : p.dir = d := Int.ofNat.inj hd
    subst hdd
    simp only [e, if_true, mayI_inf]
    by_cases h1 : rMode mode = true
    · rw [if_pos h1, if_pos h1]
      by_cases h2 : (lookP t (p.dir : Int) p.name).2 = true
      · rw [if_pos h2, if_pos h2]
      · rw [if_neg h2, if_neg h2]
        by_cases h3 : mayT t p.dir u g 2 = true
        · rw [if_pos h3, if_pos h3]
        · rw [if_neg h3, if_neg h3]; simp
    · rw [if_neg h1, if_neg h1]
  · rw [pla_err e]
    simp only [noPla, e, if_false]
theorem tie_link (h : Sd t) (cwd u g : Int) (s a : Bs) : linkA t u g (toldI t (findP t cwd u g s)) (plaP t (placeP t cwd u g a)) = linkP t cwd u g s a := by
  unfold linkA linkP
  generalize placeP t cwd u g a = p at *
  generalize findP t cwd u g s = r at *
  by_cases e1 : r.2 = 0
  · rw [told_ok e1]
    simp only [e1, if_true]
    have hk : ((infT t r.1).kind == 1) = true ↔ (t r.1).kind = 1 := by simp [infT]
    by_cases hk1 : (t r.1).kind = 1
    · rw [if_pos (hk.2 hk1), if_pos hk1]
    · rw [if_neg (fun q => hk1 (hk.1 q)), if_neg hk1]
      by_cases e : p.err = 0
      · rw [pla_ok h e]
        simp only [e, if_true, mayI_inf]
        rfl
      · rw [pla_err e]
        simp only [noPla, e, if_false]
  · rw [told_err e1]
    simp only [e1, if_false]
theorem tie_rm (h : Sd t) (cwd u g : Int) (s : Bs) (want : Bool) : removeA t u g want (plaP t (placeP t cwd u g s)) = rmP t cwd u g s want := by
  unfold removeA rmP
  generalize placeP t cwd u g s = p at *
  by_cases e : p.err = 0
  · rw [pla_ok h e]
    simp only [e, if_true, mayI_inf]
    by_cases h2 : (lookP t (p.dir : Int) p.name).2 = true
    · simp only [h2, if_true]
      have hk : ((infT t (lookP t (p.dir : Int) p.name).1).kind == 1) = decide ((t (lookP t (p.dir : Int) p.name).1).kind = 1) := by
        show ((t (lookP t (p.dir : Int) p.name).1).kind == 1) = _
        exact Bool.beq_eq_decide_eq _ _
      rw [hk]
      have hst : stickyA ⟨infT t p.dir, p.name, p.must, true, infT t (lookP t (p.dir : Int) p.name).1⟩ u = stickyT t u p.dir (lookP t (p.dir : Int) p.name).1 := rfl
      rw [hst]
      simp only [decide_eq_false_iff_not, decide_eq_true_eq]
      rfl
    · rw [if_neg h2, if_neg h2]
  · rw [pla_err e]
    simp only [noPla, e, if_false]
theorem tie_chown (cwd u g : Int) (s : Bs) (o k : Int) : chownA t u g o k (toldI t (findP t cwd u g s)) = chownP t cwd u g s o k := by
  unfold chownA chownP
  generalize findP t cwd u g s = r at *
  by_cases e1 : r.2 = 0
  · rw [told_ok e1]
    simp only [e1, if_true]
    have hc : ((u == 0) = true ∨ giveA (infT t r.1) u g o k = true) ↔ (u = 0 ∨ (u = (t r.1).owner ∧ o = (t r.1).owner ∧ (k = g ∨ k = (t r.1).group))) := by
      simp [giveA, infT]
    by_cases h1 : (u = 0 ∨ (u = (t r.1).owner ∧ o = (t r.1).owner ∧ (k = g ∨ k = (t r.1).group)))
    · rw [if_pos h1, if_pos (hc.2 h1)]; rfl
    · rw [if_neg h1, if_neg (fun q => h1 (hc.1 q))]
  · rw [told_err e1]
    simp only [e1, if_false]
/-- a mode without set-user-id is a mode. -/
theorem andNot_wf (m b : Int) : wfI (bits .andNot .i64 m b) := by
  show wfI (IntKind.i64.wrap _)
  rw [IntKind.wrap_i64]
  unfold wfI
  omega
theorem andNot_toNat2 (m : Int) : (BitVec.ofInt 64 m &&& ~~~ BitVec.ofInt 64 2048).toNat = (m % 18446744073709551616).toNat &&& 18446744073709549567 := by
  rw [BitVec.toNat_and, Mo.toNat_ofInt]; rfl
theorem rMode_plain {m : Int} (h : rMode m = true) : rMode (bits .andNot .i64 m 2048) = true := by
  unfold rMode at h ⊢
  simp only [Bool.and_eq_true, decide_eq_true_eq, beq_iff_eq] at h ⊢
  obtain ⟨_, h1⟩ := h
  have h1' : IntKind.i64.wrap ((BitVec.ofInt 64 m &&& ~~~ BitVec.ofInt 64 3071).toNat : Int) = 0 := h1
  have hu : (m % 18446744073709551616).toNat < 18446744073709551616 := by omega
  rw [Mo.andNot_toNat, Mo.wrap_zero _ (Nat.lt_of_le_of_lt Nat.and_le_left hu)] at h1'
  have hq := Mo.compl_and _ hu h1'
  have e1 : bits .andNot .i64 m 2048 = IntKind.i64.wrap (((m % 18446744073709551616).toNat &&& 18446744073709549567 : Nat) : Int) := by
    rw [← andNot_toNat2]; rfl
  rw [e1]
  generalize (m % 18446744073709551616).toNat = q at *
  have hle : q ≤ 3071 := by rw [← hq]; exact Nat.and_le_right
  have hr : q &&& 18446744073709549567 ≤ q := Nat.and_le_left
  have hz : (q &&& 18446744073709549567) &&& 18446744073709548544 = 0 := by
    rw [Nat.and_assoc, Nat.and_comm 18446744073709549567, ← Nat.and_assoc, h1', Nat.zero_and]
  have e2 : IntKind.i64.wrap ((q &&& 18446744073709549567 : Nat) : Int) = ((q &&& 18446744073709549567 : Nat) : Int) := by
    rw [IntKind.wrap_i64]; omega
  rw [e2]
  generalize q &&& 18446744073709549567 = r at *
  refine ⟨by omega, ?_⟩
  show IntKind.i64.wrap ((BitVec.ofInt 64 (r : Int) &&& ~~~ BitVec.ofInt 64 3071).toNat : Int) = 0
  rw [Mo.andNot_toNat, show ((r : Int) % 18446744073709551616).toNat = r by omega, hz]
  rfl
theorem tie_clear {t' : T} (hsd : Sd t') (hmd : Md t') (x : Nat) (n : Inf) (h1 : n.ino = (x : Int)) (h2 : n.mode = (t' x).mode) (h3 : n.owner = (t' x).owner) (h4 : n.group = (t' x).group) : clearA t' n = plainT t' x := by
  unfold clearA setP
  rw [h1, h2, h3, h4, Int.toNat_natCast]
  cases hi : isI t' (x : Int)
  · rw [if_neg Bool.false_ne_true, plain_none hsd (by rw [← isI_cast hsd]; exact hi)]
  · rw [if_pos rfl]
    have hr : rOk (bits .andNot .i64 (t' x).mode 2048) (t' x).owner (t' x).group = true := by
      have := hmd x
      unfold rOk at this ⊢
      simp only [Bool.and_eq_true] at this ⊢
      exact ⟨rMode_plain this.1, this.2⟩
    rw [if_pos hr]
    rfl
theorem want_bits {want : Int} (h : wantOk want = true) : (bits .and .i64 want 2 != 0) = true ↔ want ≠ 4 := by
  unfold wantOk at h
  simp only [Bool.or_eq_true, beq_iff_eq] at h
  rcases h with rfl | rfl | rfl <;> decide
theorem upd_get (t : T) (x : Nat) (v : Nod) : upd t x v x = v := by unfold upd; rw [if_pos rfl]
theorem hold_cut_at (t : T) (x : Nat) : ((cutP (holdP t (x : Int)).1 (x : Int)).1 x).mode = (t x).mode ∧ ((cutP (holdP t (x : Int)).1 (x : Int)).1 x).owner = (t x).owner ∧ ((cutP (holdP t (x : Int)).1 (x : Int)).1 x).group = (t x).group := by
  have h1 : ((holdP t (x : Int)).1 x).mode = (t x).mode ∧ ((holdP t (x : Int)).1 x).owner = (t x).owner ∧ ((holdP t (x : Int)).1 x).group = (t x).group := by
    unfold holdP
    split
    · simp [upd_get]
    · exact ⟨rfl, rfl, rfl⟩
  generalize (holdP t (x : Int)).1 = t1 at *
  unfold cutP
  split
  · exact h1
  · simp only [Int.toNat_natCast, upd_get]; exact h1
theorem tie_old (hs : Sound t) (hm : Md t) (u g : Int) (x : Nat) (want : Int) (em : Bool) (hw : wantOk want = true) : oldA t u g (infT t x) x want em = oldP t u g x want em := by
  unfold oldA oldP
  have hk1 : ((infT t x).kind == 1) = true ↔ (t x).kind = 1 := by simp [infT]
  have hk0 : ((infT t x).kind == 0) = true ↔ (t x).kind = 0 := by simp [infT]
  have hc : clearA (cutP (holdP t (x : Int)).1 (x : Int)).1 (infT t x) = plainT (cutP (holdP t (x : Int)).1 (x : Int)).1 x :=
    tie_clear (sound_cut (sound_hold hs _) _).sd ((hm.hold _).cut _) x _ rfl (hold_cut_at t x).1.symm (hold_cut_at t x).2.1.symm (hold_cut_at t x).2.2.symm
  rw [hc, mayI_inf]
  by_cases c1 : want ≠ 4 ∧ (t x).kind = 1
  · rw [if_pos c1, if_pos ⟨(want_bits hw).2 c1.1, hk1.2 c1.2⟩]
  · rw [if_neg c1, if_neg (fun q => c1 ⟨(want_bits hw).1 q.1, hk1.1 q.2⟩)]
    by_cases c2 : mayT t x u g want = true
    · rw [if_pos c2, if_pos c2]
      by_cases c3 : em = true ∧ want ≠ 4 ∧ (t x).kind = 0
      · rw [if_pos c3, if_pos ⟨c3.1, (want_bits hw).2 c3.2.1, hk0.2 c3.2.2⟩]
      · rw [if_neg c3, if_neg (fun q => c3 ⟨q.1, (want_bits hw).1 q.2.1, hk0.1 q.2.2⟩)]
    · rw [if_neg c2, if_neg c2]
theorem placeP_none (t : T) (cwd u g : Int) (s : Bs) (h : ¬ (placeP t cwd u g s).err = 0) : (placeP t cwd u g s).dir = 0 := by
  unfold placeP at h ⊢
  split
  · rename_i h1
    rw [if_pos h1] at h
    split
    · rfl
    · rename_i h2
      rw [if_neg h2] at h
      split
      · rename_i h3
        rw [if_pos h3] at h
        split
        · rename_i h4
          rw [if_pos h4] at h
          exact absurd rfl h
        · rfl
      · rfl
  · rfl
theorem pla_dir (h : Sd t) (cwd u g : Int) (s : Bs) : (plaP t (placeP t cwd u g s)).dir.ino = ((placeP t cwd u g s).dir : Int) := by
  by_cases e : (placeP t cwd u g s).err = 0
  · rw [pla_ok h e]; rfl
  · rw [pla_err e, placeP_none t cwd u g s e]; rfl
/-- what lies at a place, or 0. -/
def entP (t : T) (p : Plc) : Nat := if p.err = 0 ∧ (lookP t (p.dir : Int) p.name).2 = true then (lookP t (p.dir : Int) p.name).1 else 0
theorem pla_entry (h : Sd t) (p : Plc) : (plaP t p).entry.ino = (entP t p : Int) := by
  by_cases e : p.err = 0
  · by_cases h2 : (lookP t (p.dir : Int) p.name).2 = true
    · have h3 : entP t p = (lookP t (p.dir : Int) p.name).1 := by unfold entP; rw [if_pos ⟨e, h2⟩]
      rw [pla_ok h e, h3]
      simp only [h2, if_true]
      rfl
    · have h3 : entP t p = 0 := by unfold entP; rw [if_neg (fun q => h2 q.2)]
      rw [pla_ok h e, h3]
      simp only [h2, Bool.false_eq_true, if_false]
      rfl
  · have h3 : entP t p = 0 := by unfold entP; rw [if_neg (fun q => e q.1)]
    rw [pla_err e, h3]; rfl
theorem pla_name (t : T) (cwd u g : Int) (s : Bs) : (plaP t (placeP t cwd u g s)).name.length ≤ 1000 := by
  by_cases e : (placeP t cwd u g s).err = 0
  · have hn : (plaP t (placeP t cwd u g s)).name = (placeP t cwd u g s).name := by unfold plaP; rw [if_pos e]
    rw [hn]
    unfold placeP at e ⊢
    by_cases h1 : splE s = 0
    · rw [if_pos h1] at e ⊢
      by_cases h2 : nam s = [] ∨ lastN (nam s) = [46, 46]
      · rw [if_pos h2]; decide
      · rw [if_neg h2] at e ⊢
        by_cases h3 : (downP t cwd u g (absP s) (nam s).dropLast).2 = 0
        · rw [if_pos h3] at e ⊢
          split
          · refine (nam_small h1).2 _ ?_
            have hne : nam s ≠ [] := fun q => h2 (.inl q)
            exact List.mem_of_getElem? (last_get hne)
          · exact Nat.zero_le _
        · rw [if_neg h3]; exact Nat.zero_le _
    · rw [if_neg h1]; exact Nat.zero_le _
  · rw [pla_err e]; exact Nat.zero_le _
theorem tie_open (hs : Sound t) (hm : Md t) (cwd u g : Int) (s : Bs) (want : Int) (mk al em : Bool) (mode : Int) :
    openA t u g (toldI t (findP t cwd u g s)) (findP t cwd u g s).1 (plaP t (placeP t cwd u g s)) (placeP t cwd u g s).dir (entP t (placeP t cwd u g s)) want mk al em mode = openP t cwd u g s want mk al em mode := by
  unfold openA openP
  generalize placeP t cwd u g s = p at *
  generalize findP t cwd u g s = r at *
  by_cases h0 : wantOk want = true ∧ rMode mode = true
  · rw [if_pos h0, if_pos h0]
    cases mk
    · simp only [Bool.false_eq_true, if_false]
      by_cases e1 : r.2 = 0
      · rw [told_ok e1]
        simp only [e1, if_true]
        exact tie_old hs hm u g r.1 want em h0.1
      · rw [told_err e1]
        simp only [e1, if_false]
    · simp only [if_true]
      by_cases e : p.err = 0
      · rw [pla_ok hs.sd e]
        simp only [e, if_true]
        by_cases h2 : (lookP t (p.dir : Int) p.name).2 = true
        · have hent : entP t p = (lookP t (p.dir : Int) p.name).1 := by unfold entP; rw [if_pos ⟨e, h2⟩]
          simp only [h2, if_true]
          rw [hent]
          have hk : ((infT t (lookP t (p.dir : Int) p.name).1).kind == 1) = false ↔ (t (lookP t (p.dir : Int) p.name).1).kind ≠ 1 := by simp [infT]
          rw [tie_old hs hm u g _ want em h0.1]
          by_cases c0 : al = true
          · rw [if_pos c0, if_pos c0]
          · rw [if_neg c0, if_neg c0]
            by_cases c1 : p.must = true ∧ (t (lookP t (p.dir : Int) p.name).1).kind ≠ 1
            · rw [if_pos c1, if_pos ⟨c1.1, hk.2 c1.2⟩]
            · rw [if_neg c1, if_neg (fun q => c1 ⟨q.1, hk.1 q.2⟩)]
        · simp only [h2, Bool.false_eq_true, if_false]
          unfold Go.Proofs.Ytflncolmehmaaaa.newP makesP
          by_cases c1 : p.must = true
          · rw [if_pos c1, if_pos c1]
          · rw [if_neg c1, if_neg c1]
            by_cases c2 : mayT t p.dir u g 2 = true
            · exact (if_pos c2).trans (if_pos c2).symm
            · exact (if_neg c2).trans (if_neg c2).symm
      · rw [pla_err e]
        simp only [noPla, e, if_false]
  · rw [if_neg h0, if_neg h0]
theorem tie_fput (hs : Sound t) (hm : Md t) (i a : Int) (s : Bs) : fputA t i a s = fputP t i a s := by
  unfold fputA fputP
  by_cases h : (putP t i a s).2 = 0
  · rw [if_pos h, if_pos h]
    have hI : isI t i = true := by
      unfold putP at h
      cases hi : isI t i
      · have hf : fileE t i = 3 := by unfold fileE; rw [hi]; rfl
        rw [if_pos (by rw [hf]; decide), hf] at h
        cases h
      · rfl
    obtain ⟨⟨k1, k2⟩, k3⟩ := isI_iff.1 hI
    obtain ⟨x, rfl⟩ : ∃ x : Nat, i = (x : Int) := ⟨i.toNat, by omega⟩
    have hsd := (sound_put hs (x : Int) a s).sd
    have hI2 : isI (putP t (x : Int) a s).1 (x : Int) = true := by
      rw [isI_cast hsd]
      unfold putP
      split
      · exact k3
      · split
        · exact k3
        · split
          · exact k3
          · simp only [Int.toNat_natCast, upd_get]; exact k3
    rw [stat_inf hI2, Int.toNat_natCast]
    rw [tie_clear hsd (hm.put _ _ _) x _ rfl rfl rfl rfl]
  · rw [if_neg h, if_neg h]
end Go.Proofs.Ytflncolmehmaaaa
