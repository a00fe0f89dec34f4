import Derived.Test.YtlpececggkdhmaaGreatM23
import Derived.Test.YtlpececggkdhmaaGreatM29
import Derived.Test.YtlpececggkdhmaaGreatM16
import Derived.Test.YtlpececggkdhmaaGreatN3
import Derived.Test.YtlpececggkdhmaaGreatN4
import Derived.Test.YtlpececggkdhmaaGreatN5
set_option linter.unusedVariables false
set_option linter.unusedSimpArgs false
namespace Go.Proofs.YtlpececggkdhmaaGreat
section
open Go.RowKit Ino Go.Maps Pa
variable {own : Nat → Prop} {t : T}
theorem pla_ok (h : Sd t) {p : Plc} (e : p.err = 0) : plaP t p = ⟨infT t p.dir, p.name, p.must, (lookP t (p.dir : Int) p.name).2, if (lookP t (p.dir : Int) p.name).2 = true then infT t (lookP t (p.dir : Int) p.name).1 else noInf, 0⟩ := by
 unfold plaP
 rw [if_pos e, lookI_eq h]
 cases hl : (lookP t (p.dir : Int) p.name).2
 ·rw [if_neg Bool.false_ne_true, if_neg Bool.false_ne_true]
 ·rw [if_pos rfl, if_pos rfl]
theorem pla_err {p : Plc} (e : ¬ p.err = 0) : plaP t p = noPla p.err := by
 unfold plaP
 rw [if_neg e]
theorem told_ok {r : Nat × Nat} (e : r.2 = 0) : toldI t r = (infT t r.1, 0) := by unfold toldI; rw [if_pos e]
theorem told_err {r : Nat × Nat} (e : ¬ r.2 = 0) : toldI t r = (noInf, r.2) := by unfold toldI; rw [if_neg e]
theorem tie_mkdir (h : Sd t) (cwd u g : Int) (s : Bs) (mode : Int) (d : Nat) (hd : (plaP t (placeP t cwd u g s)).dir.ino = (d : Int)) : mkdirA t u g d (plaP t (placeP t cwd u g s)) mode = mkdirP t cwd u g s mode := by
 unfold mkdirA mkdirP makesP
 generalize placeP t cwd u g s = p at *
 by_cases e : p.err = 0
 ·rw [pla_ok h e] at hd ⊢
  have hdd : p.dir = d := Int.ofNat.inj hd
  subst hdd
  simp only [e, if_true, mayI_inf]
  by_cases h1 : rMode mode = true
  ·rw [if_pos h1, if_pos h1]
   by_cases h2 : (lookP t (p.dir : Int) p.name).2 = true
   ·rw [if_pos h2, if_pos h2]
   ·rw [if_neg h2, if_neg h2]
    by_cases h3 : mayT t p.dir u g 2 = true
    ·rw [if_pos h3, if_pos h3]
    ·rw [if_neg h3, if_neg h3]; simp
  ·rw [if_neg h1, if_neg h1]
 ·rw [pla_err e]
  simp only [noPla, e, if_false]
theorem tie_link (h : Sd t) (cwd u g : Int) (s a : Bs) : linkA t u g (toldI t (findP t cwd u g s)) (plaP t (placeP t cwd u g a)) = linkP t cwd u g s a := by
 unfold linkA linkP
 generalize placeP t cwd u g a = p at *
 generalize findP t cwd u g s = r at *
 by_cases e1 : r.2 = 0
 ·rw [told_ok e1]
  simp only [e1, if_true]
  have hk : ((infT t r.1).kind == 1) = true ↔ (t r.1).kind = 1 := by simp [infT]
  by_cases hk1 : (t r.1).kind = 1
  ·rw [if_pos (hk.2 hk1), if_pos hk1]
  ·rw [if_neg (fun q => hk1 (hk.1 q)), if_neg hk1]
   by_cases e : p.err = 0
   ·rw [pla_ok h e]
    simp only [e, if_true, mayI_inf]
    rfl
   ·rw [pla_err e]
    simp only [noPla, e, if_false]
 ·rw [told_err e1]
  simp only [e1, if_false]
theorem tie_rm (h : Sd t) (cwd u g : Int) (s : Bs) (want : Bool) : removeA t u g want (plaP t (placeP t cwd u g s)) = rmP t cwd u g s want := by
 unfold removeA rmP
 generalize placeP t cwd u g s = p at *
 by_cases e : p.err = 0
 ·rw [pla_ok h e]
  simp only [e, if_true, mayI_inf]
  by_cases h2 : (lookP t (p.dir : Int) p.name).2 = true
  ·simp only [h2, if_true]
   have hk : ((infT t (lookP t (p.dir : Int) p.name).1).kind == 1) = decide ((t (lookP t (p.dir : Int) p.name).1).kind = 1) := by
    show ((t (lookP t (p.dir : Int) p.name).1).kind == 1) = _
    exact Bool.beq_eq_decide_eq _ _
   rw [hk]
   have hst : stickyA ⟨infT t p.dir, p.name, p.must, true, infT t (lookP t (p.dir : Int) p.name).1⟩ u = stickyT t u p.dir (lookP t (p.dir : Int) p.name).1 := rfl
   rw [hst]
   simp only [decide_eq_false_iff_not, decide_eq_true_eq]
   rfl
  ·rw [if_neg h2, if_neg h2]
 ·rw [pla_err e]
  simp only [noPla, e, if_false]
theorem tie_chown (cwd u g : Int) (s : Bs) (o k : Int) : chownA t u g o k (toldI t (findP t cwd u g s)) = chownP t cwd u g s o k := by
 unfold chownA chownP
 generalize findP t cwd u g s = r at *
 by_cases e1 : r.2 = 0
 ·rw [told_ok e1]
  simp only [e1, if_true]
  have hc : ((u == 0) = true ∨ giveA (infT t r.1) u g o k = true) ↔ (u = 0 ∨ (u = (t r.1).owner ∧ o = (t r.1).owner ∧ (k = g ∨ k = (t r.1).group))) := by
   simp [giveA, infT]
  by_cases h1 : (u = 0 ∨ (u = (t r.1).owner ∧ o = (t r.1).owner ∧ (k = g ∨ k = (t r.1).group)))
  ·rw [if_pos h1, if_pos (hc.2 h1)]; rfl
  ·rw [if_neg h1, if_neg (fun q => h1 (hc.1 q))]
 ·rw [told_err e1]
  simp only [e1, if_false]
theorem andNot_wf (m b : Int) : wfI (bits .andNot .i64 m b) := by
 show wfI (IntKind.i64.wrap _)
 rw [IntKind.wrap_i64]
 unfold wfI
 omega
theorem andNot_toNat2 (m : Int) : (BitVec.ofInt 64 m &&& ~~~ BitVec.ofInt 64 2048).toNat = (m % 18446744073709551616).toNat &&& 18446744073709549567 := by
 rw [BitVec.toNat_and, Mo.toNat_ofInt]; rfl
theorem rMode_plain {m : Int} (h : rMode m = true) : rMode (bits .andNot .i64 m 2048) = true := by
 unfold rMode at h ⊢
 simp only [Bool.and_eq_true, decide_eq_true_eq, beq_iff_eq] at h ⊢
 obtain ⟨_, h1⟩ := h
 have h1' : IntKind.i64.wrap ((BitVec.ofInt 64 m &&& ~~~ BitVec.ofInt 64 3071).toNat : Int) = 0 := h1
 have hu : (m % 18446744073709551616).toNat < 18446744073709551616 := by omega
 rw [Mo.andNot_toNat, Mo.wrap_zero _ (Nat.lt_of_le_of_lt Nat.and_le_left hu)] at h1'
 have hq := Mo.compl_and _ hu h1'
 have e1 : bits .andNot .i64 m 2048 = IntKind.i64.wrap (((m % 18446744073709551616).toNat &&& 18446744073709549567 : Nat) : Int) := by
  rw [← andNot_toNat2]; rfl
 rw [e1]
 generalize (m % 18446744073709551616).toNat = q at *
 have hle : q ≤ 3071 := by rw [← hq]; exact Nat.and_le_right
 have hr : q &&& 18446744073709549567 ≤ q := Nat.and_le_left
 have hz : (q &&& 18446744073709549567) &&& 18446744073709548544 = 0 := by
  rw [Nat.and_assoc, Nat.and_comm 18446744073709549567, ← Nat.and_assoc, h1', Nat.zero_and]
 have e2 : IntKind.i64.wrap ((q &&& 18446744073709549567 : Nat) : Int) = ((q &&& 18446744073709549567 : Nat) : Int) := by
  rw [IntKind.wrap_i64]; omega
 rw [e2]
 generalize q &&& 18446744073709549567 = r at *
 refine ⟨by omega, ?_⟩
 show IntKind.i64.wrap ((BitVec.ofInt 64 (r : Int) &&& ~~~ BitVec.ofInt 64 3071).toNat : Int) = 0
 rw [Mo.andNot_toNat, show ((r : Int) % 18446744073709551616).toNat = r by omega, hz]
 rfl
theorem tie_clear {t' : T} (hsd : Sd t') (hmd : Md t') (x : Nat) (n : Inf) (h1 : n.ino = (x : Int)) (h2 : n.mode = (t' x).mode) (h3 : n.owner = (t' x).owner) (h4 : n.group = (t' x).group) : clearA t' n = plainT t' x := by
 unfold clearA setP
 rw [h1, h2, h3, h4, Int.toNat_natCast]
 cases hi : isI t' (x : Int)
 ·rw [if_neg Bool.false_ne_true, plain_none hsd (by rw [← isI_cast hsd]; exact hi)]
 ·rw [if_pos rfl]
  have hr : rOk (bits .andNot .i64 (t' x).mode 2048) (t' x).owner (t' x).group = true := by
   have := hmd x
   unfold rOk at this ⊢
   simp only [Bool.and_eq_true] at this ⊢
   exact ⟨rMode_plain this.1, this.2⟩
  rw [if_pos hr]
  rfl
theorem want_bits {want : Int} (h : wantOk want = true) : (bits .and .i64 want 2 != 0) = true ↔ want ≠ 4 := by
 unfold wantOk at h
 simp only [Bool.or_eq_true, beq_iff_eq] at h
 rcases h with rfl | rfl | rfl <;> decide
theorem upd_get (t : T) (x : Nat) (v : Nod) : upd t x v x = v := by unfold upd; rw [if_pos rfl]
theorem hold_cut_at (t : T) (x : Nat) : ((cutP (holdP t (x : Int)).1 (x : Int)).1 x).mode = (t x).mode ∧ ((cutP (holdP t (x : Int)).1 (x : Int)).1 x).owner = (t x).owner ∧ ((cutP (holdP t (x : Int)).1 (x : Int)).1 x).group = (t x).group := by
 have h1 : ((holdP t (x : Int)).1 x).mode = (t x).mode ∧ ((holdP t (x : Int)).1 x).owner = (t x).owner ∧ ((holdP t (x : Int)).1 x).group = (t x).group := by
  unfold holdP
  split
  ·simp [upd_get]
  ·exact ⟨rfl, rfl, rfl⟩
 generalize (holdP t (x : Int)).1 = t1 at *
 unfold cutP
 split
 ·exact h1
 ·simp only [Int.toNat_natCast, upd_get]; exact h1
theorem tie_old (hs : Sound t) (hm : Md t) (u g : Int) (x : Nat) (want : Int) (em : Bool) (hw : wantOk want = true) : oldA t u g (infT t x) x want em = oldP t u g x want em := by
 unfold oldA oldP
 have hk1 : ((infT t x).kind == 1) = true ↔ (t x).kind = 1 := by simp [infT]
 have hk0 : ((infT t x).kind == 0) = true ↔ (t x).kind = 0 := by simp [infT]
 have hc : clearA (cutP (holdP t (x : Int)).1 (x : Int)).1 (infT t x) = plainT (cutP (holdP t (x : Int)).1 (x : Int)).1 x :=
  tie_clear (sound_cut (sound_hold hs _) _).sd ((hm.hold _).cut _) x _ rfl (hold_cut_at t x).1.symm (hold_cut_at t x).2.1.symm (hold_cut_at t x).2.2.symm
 rw [hc, mayI_inf]
 by_cases c1 : want ≠ 4 ∧ (t x).kind = 1
 ·rw [if_pos c1, if_pos ⟨(want_bits hw).2 c1.1, hk1.2 c1.2⟩]
 ·rw [if_neg c1, if_neg (fun q => c1 ⟨(want_bits hw).1 q.1, hk1.1 q.2⟩)]
  by_cases c2 : mayT t x u g want = true
  ·rw [if_pos c2, if_pos c2]
   by_cases c3 : em = true ∧ want ≠ 4 ∧ (t x).kind = 0
   ·rw [if_pos c3, if_pos ⟨c3.1, (want_bits hw).2 c3.2.1, hk0.2 c3.2.2⟩]
   ·rw [if_neg c3, if_neg (fun q => c3 ⟨q.1, (want_bits hw).1 q.2.1, hk0.1 q.2.2⟩)]
  ·rw [if_neg c2, if_neg c2]
theorem placeP_none (t : T) (cwd u g : Int) (s : Bs) (h : ¬ (placeP t cwd u g s).err = 0) : (placeP t cwd u g s).dir = 0 := by
 unfold placeP at h ⊢
 split
 ·rename_i h1
  rw [if_pos h1] at h
  split
  ·rfl
  ·rename_i h2
   rw [if_neg h2] at h
   split
   ·rename_i h3
    rw [if_pos h3] at h
    split
    ·rename_i h4
     rw [if_pos h4] at h
     exact absurd rfl h
    ·rfl
   ·rfl
 ·rfl
theorem pla_dir (h : Sd t) (cwd u g : Int) (s : Bs) : (plaP t (placeP t cwd u g s)).dir.ino = ((placeP t cwd u g s).dir : Int) := by
 by_cases e : (placeP t cwd u g s).err = 0
 ·rw [pla_ok h e]; rfl
 ·rw [pla_err e, placeP_none t cwd u g s e]; rfl
def entP (t : T) (p : Plc) : Nat := if p.err = 0 ∧ (lookP t (p.dir : Int) p.name).2 = true then (lookP t (p.dir : Int) p.name).1 else 0
theorem pla_entry (h : Sd t) (p : Plc) : (plaP t p).entry.ino = (entP t p : Int) := by
 by_cases e : p.err = 0
 ·by_cases h2 : (lookP t (p.dir : Int) p.name).2 = true
  ·have h3 : entP t p = (lookP t (p.dir : Int) p.name).1 := by unfold entP; rw [if_pos ⟨e, h2⟩]
   rw [pla_ok h e, h3]
   simp only [h2, if_true]
   rfl
  ·have h3 : entP t p = 0 := by unfold entP; rw [if_neg (fun q => h2 q.2)]
   rw [pla_ok h e, h3]
   simp only [h2, Bool.false_eq_true, if_false]
   rfl
 ·have h3 : entP t p = 0 := by unfold entP; rw [if_neg (fun q => e q.1)]
  rw [pla_err e, h3]; rfl
theorem pla_name (t : T) (cwd u g : Int) (s : Bs) : (plaP t (placeP t cwd u g s)).name.length ≤ 1000 := by
 by_cases e : (placeP t cwd u g s).err = 0
 ·have hn : (plaP t (placeP t cwd u g s)).name = (placeP t cwd u g s).name := by unfold plaP; rw [if_pos e]
  rw [hn]
  unfold placeP at e ⊢
  by_cases h1 : splE s = 0
  ·rw [if_pos h1] at e ⊢
   by_cases h2 : nam s = [] ∨ lastN (nam s) = [46, 46]
   ·rw [if_pos h2]; decide
   ·rw [if_neg h2] at e ⊢
    by_cases h3 : (downP t cwd u g (absP s) (nam s).dropLast).2 = 0
    ·rw [if_pos h3] at e ⊢
     split
     ·refine (nam_small h1).2 _ ?_
      have hne : nam s ≠ [] := fun q => h2 (.inl q)
      exact List.mem_of_getElem? (last_get hne)
     ·exact Nat.zero_le _
    ·rw [if_neg h3]; exact Nat.zero_le _
  ·rw [if_neg h1]; exact Nat.zero_le _
 ·rw [pla_err e]; exact Nat.zero_le _
theorem tie_open (hs : Sound t) (hm : Md t) (cwd u g : Int) (s : Bs) (want : Int) (mk al em : Bool) (mode : Int) :
 openA t u g (toldI t (findP t cwd u g s)) (findP t cwd u g s).1 (plaP t (placeP t cwd u g s)) (placeP t cwd u g s).dir (entP t (placeP t cwd u g s)) want mk al em mode = openP t cwd u g s want mk al em mode := by
 unfold openA openP
 generalize placeP t cwd u g s = p at *
 generalize findP t cwd u g s = r at *
 by_cases h0 : wantOk want = true ∧ rMode mode = true
 ·rw [if_pos h0, if_pos h0]
  cases mk
  ·simp only [Bool.false_eq_true, if_false]
   by_cases e1 : r.2 = 0
   ·rw [told_ok e1]
    simp only [e1, if_true]
    exact tie_old hs hm u g r.1 want em h0.1
   ·rw [told_err e1]
    simp only [e1, if_false]
  ·simp only [if_true]
   by_cases e : p.err = 0
   ·rw [pla_ok hs.sd e]
    simp only [e, if_true]
    by_cases h2 : (lookP t (p.dir : Int) p.name).2 = true
    ·have hent : entP t p = (lookP t (p.dir : Int) p.name).1 := by unfold entP; rw [if_pos ⟨e, h2⟩]
     simp only [h2, if_true]
     rw [hent]
     have hk : ((infT t (lookP t (p.dir : Int) p.name).1).kind == 1) = false ↔ (t (lookP t (p.dir : Int) p.name).1).kind ≠ 1 := by simp [infT]
     rw [tie_old hs hm u g _ want em h0.1]
     by_cases c0 : al = true
     ·rw [if_pos c0, if_pos c0]
     ·rw [if_neg c0, if_neg c0]
      by_cases c1 : p.must = true ∧ (t (lookP t (p.dir : Int) p.name).1).kind ≠ 1
      ·rw [if_pos c1, if_pos ⟨c1.1, hk.2 c1.2⟩]
      ·rw [if_neg c1, if_neg (fun q => c1 ⟨q.1, hk.1 q.2⟩)]
    ·simp only [h2, Bool.false_eq_true, if_false]
     unfold Go.Proofs.YtlpececggkdhmaaGreat.newP makesP
     by_cases c1 : p.must = true
     ·rw [if_pos c1, if_pos c1]
     ·rw [if_neg c1, if_neg c1]
      by_cases c2 : mayT t p.dir u g 2 = true
      ·exact (if_pos c2).trans (if_pos c2).symm
      ·exact (if_neg c2).trans (if_neg c2).symm
   ·rw [pla_err e]
    simp only [noPla, e, if_false]
 ·rw [if_neg h0, if_neg h0]
theorem tie_fput (hs : Sound t) (hm : Md t) (i a : Int) (s : Bs) : fputA t i a s = fputP t i a s := by
 unfold fputA fputP
 by_cases h : (putP t i a s).2 = 0
 ·rw [if_pos h, if_pos h]
  have hI : isI t i = true := by
   unfold putP at h
   cases hi : isI t i
   ·have hf : fileE t i = 3 := by unfold fileE; rw [hi]; rfl
    rw [if_pos (by rw [hf]; decide), hf] at h
    cases h
   ·rfl
  obtain ⟨⟨k1, k2⟩, k3⟩ := isI_iff.1 hI
  obtain ⟨x, rfl⟩ : ∃ x : Nat, i = (x : Int) := ⟨i.toNat, by omega⟩
  have hsd := (sound_put hs (x : Int) a s).sd
  have hI2 : isI (putP t (x : Int) a s).1 (x : Int) = true := by
   rw [isI_cast hsd]
   unfold putP
   split
   ·exact k3
   ·split
    ·exact k3
    ·split
     ·exact k3
     ·simp only [Int.toNat_natCast, upd_get]; exact k3
  rw [stat_inf hI2, Int.toNat_natCast]
  rw [tie_clear hsd (hm.put _ _ _) x _ rfl rfl rfl rfl]
 ·rw [if_neg h, if_neg h]
end
section
open Go.RowKit Ino Go.Maps Pa
variable {w0 w : World} {A n : Nat} {t : T}
theorem md_plain (h : Md t) (x : Nat) : Md (plainT t x) := by
 refine h.upd x ?_
 have := h x
 unfold rOk at this ⊢
 simp only [Bool.and_eq_true] at this ⊢
 exact ⟨rMode_plain this.1, this.2⟩
theorem md_create (h : Md t) (u g : Int) (d : Nat) (nm : Bs) (kind mode : Int) : Md (createP t u g d nm kind mode).1 := by
 have h1 := h.make kind mode u g 0
 unfold createP
 split
 ·split
  ·exact h1.enter _ _ _
  ·exact (h1.enter _ _ _).drop _
 ·exact h1
theorem md_makes (h : Md t) (u g : Int) (d : Nat) (nm : Bs) (kind mode : Int) : Md (makesP t u g d nm kind mode).1 := by
 unfold makesP
 split
 ·exact md_create h _ _ _ _ _ _
 ·exact h
theorem md_old (h : Md t) (u g : Int) (x : Nat) (want : Int) (em : Bool) : Md (oldP t u g x want em).1 := by
 unfold oldP
 (repeat' split) <;> first | exact h | exact h.hold _ | exact md_plain ((h.hold _).cut _) _
theorem md_open (h : Md t) (cwd u g : Int) (s : Bs) (want : Int) (mk al em : Bool) (mode : Int) : Md (openP t cwd u g s want mk al em mode).1 := by
 unfold openP
 (repeat' split) <;> first | exact h | exact md_old h _ _ _ _ _ | exact md_makes h _ _ _ _ _ _
theorem md_mkdir (h : Md t) (cwd u g : Int) (s : Bs) (mode : Int) : Md (mkdirP t cwd u g s mode).1 := by
 unfold mkdirP
 (repeat' split) <;> first | exact h | exact (md_makes h _ _ _ _ _ _).drop _ | exact md_makes h _ _ _ _ _ _
theorem md_rm (h : Md t) (cwd u g : Int) (s : Bs) (want : Bool) : Md (rmP t cwd u g s want).1 := by
 unfold rmP
 (repeat' split) <;> first | exact h | exact h.remove _ _
theorem md_link (h : Md t) (cwd u g : Int) (s a : Bs) : Md (linkP t cwd u g s a).1 := by
 unfold linkP
 (repeat' split) <;> first | exact h | exact h.enter _ _ _
theorem md_ren (h : Md t) (cwd u g : Int) (s a : Bs) : Md (renP t cwd u g s a).1 := by
 unfold renP
 (repeat' split) <;> first | exact h | exact h.move _ _ _ _
theorem md_chmod (h : Md t) (cwd u g : Int) (s : Bs) (m : Int) : Md (chmodP t cwd u g s m).1 := by
 unfold chmodP
 (repeat' split) <;> first | exact h | exact h.set _ _ _ _
theorem md_chown (h : Md t) (cwd u g : Int) (s : Bs) (o k : Int) : Md (chownP t cwd u g s o k).1 := by
 unfold chownP
 (repeat' split) <;> first | exact h | exact h.set _ _ _ _
theorem md_fput (h : Md t) (i a : Int) (s : Bs) : Md (fputP t i a s).1 := by
 unfold fputP
 split
 ·exact md_plain (h.put _ _ _) _
 ·exact h.put _ _ _
structure WP (w0 w : World) (A : Nat) (t : T) (n : Nat) : Prop where
 p : PS w0 w A t
 s : Sound t
 m : Md t
 b : HB n t
theorem WP.read {w' : World} (h : WP w0 w A t n) (hb : Below w.heap.size w w') : WP w0 w' A t n := ⟨h.p.read hb, h.s, h.m, h.b⟩
theorem WP.alloc (h : WP w0 w A t n) (o : Obj) : WP w0 (w.alloc o) A t n := ⟨h.p.alloc o, h.s, h.m, h.b⟩
theorem WP.drewN (h : WP w0 w A t n) (k : Nat) : WP w0 (w.drewN k) A t n := ⟨h.p.drewN k, h.s, h.m, h.b⟩
abbrev crd (r u s k g : Int) : Value := .agg #[.int .i64 r, .int .i64 u, .int .i64 s, .int .i64 k, .int .i64 g]
theorem wp_new (hb : Below w0.heap.size w0 w) (m o g : Int) (hm : wfI m) (hk : rOk m o g = true) :
 Calls Tryz.prog 9 #[.int .i64 m, .int .i64 o, .int .i64 g] w fun e w' => ∃ A, e = .returned (.pointer (some ⟨A, 0, none⟩)) ∧ WP w0 w' A (Ino.newP m o g) 0 :=
 (ps_new hb m o g hm hk).mono fun e w' ⟨A, h1, h2⟩ => ⟨A, h1, h2, sound_new _ _ _, md_new hk, fun k => by
   unfold Ino.newP Ino.upd
   split
   ·exact Nat.le_refl _
   ·exact Nat.le_refl _⟩
theorem wp_find (h : WP w0 w A t n) (cwd r u s k g : Int) (p : ByteArray) (hp : p.size ≤ maxLen) :
 Calls Tryz.prog 30 #[.pointer (some ⟨A, 0, none⟩), .int .i64 cwd, crd r u s k g, .string p] w fun e w' => e = .returned (makeV (findP t cwd u g p.data.toList)) ∧ WP w0 w' A t n ∧ Below w.heap.size w w' := by
 obtain ⟨own, hP, hB, hb⟩ := h.p
 exact (wFind_any A cwd r u s k g p hp w hP h.s.sd).mono fun e w' ⟨h1, h2⟩ => ⟨h1, h.read h2, h2⟩
theorem wp_mkdir (h : WP w0 w A t n) (hn : n ≤ 999999) (cwd r u s k g : Int) (p : ByteArray) (hp : p.size ≤ maxLen) (mode : Int) (hm : wfI mode) :
 Calls Tryz.prog 23 #[.pointer (some ⟨A, 0, none⟩), .int .i64 cwd, crd r u s k g, .string p, .int .i64 mode] w fun e w' => e = .returned (.int .i64 ((mkdirP t cwd u g p.data.toList mode).2 : Nat)) ∧ WP w0 w' A (mkdirP t cwd u g p.data.toList mode).1 (n + 1) := by
 obtain ⟨own, hP, hB, hb⟩ := h.p
 refine (wMkdir_any A cwd r u s k g p hp mode hm w hP h.s (fun k => Nat.le_trans (h.b k) hn) _ (pla_dir h.s.sd cwd u g _) (pla_name t cwd u g _)).mono fun e w' ⟨h1, h2⟩ => ?_
 rw [tie_mkdir h.s.sd cwd u g _ mode _ (pla_dir h.s.sd cwd u g _)] at h1 h2
 exact ⟨h1, PS.next hB hb h2, sound_mkdir h.s _ _ _ _ _, md_mkdir h.m _ _ _ _ _, h.b.mkdir _ _ _ _ _⟩
theorem wp_rm (h : WP w0 w A t n) (cwd r u s k g : Int) (p : ByteArray) (hp : p.size ≤ maxLen) (want : Bool) :
 Calls Tryz.prog 24 #[.pointer (some ⟨A, 0, none⟩), .int .i64 cwd, crd r u s k g, .string p, .bool want] w fun e w' => e = .returned (.int .i64 ((rmP t cwd u g p.data.toList want).2 : Nat)) ∧ WP w0 w' A (rmP t cwd u g p.data.toList want).1 n := by
 obtain ⟨own, hP, hB, hb⟩ := h.p
 refine (wRemove_any A cwd r u s k g p hp want w hP h.s (pla_name t cwd u g _)).mono fun e w' ⟨h1, h2⟩ => ?_
 rw [tie_rm h.s.sd cwd u g _ _] at h1 h2
 exact ⟨h1, PS.next hB hb h2, sound_rm h.s _ _ _ _ _, md_rm h.m _ _ _ _ _, h.b.rm _ _ _ _ _⟩
theorem wp_chown (h : WP w0 w A t n) (cwd r u s k g : Int) (p : ByteArray) (hp : p.size ≤ maxLen) (o x : Int) :
 Calls Tryz.prog 29 #[.pointer (some ⟨A, 0, none⟩), .int .i64 cwd, crd r u s k g, .string p, .int .i64 o, .int .i64 x] w fun e w' => e = .returned (.int .i64 ((chownP t cwd u g p.data.toList o x).2 : Nat)) ∧ WP w0 w' A (chownP t cwd u g p.data.toList o x).1 n := by
 obtain ⟨own, hP, hB, hb⟩ := h.p
 refine (wChown_any A cwd r u s k g p hp o x w hP h.s.sd (andNot_wf _ _)).mono fun e w' ⟨h1, h2⟩ => ?_
 rw [tie_chown cwd u g _ _ _] at h1 h2
 exact ⟨h1, PS.next hB hb h2, sound_chown h.s _ _ _ _ _ _, md_chown h.m _ _ _ _ _ _, h.b.chown _ _ _ _ _ _⟩
theorem wp_open (h : WP w0 w A t n) (hn : n ≤ 999999) (cwd r u s k g : Int) (p : ByteArray) (hp : p.size ≤ maxLen) (want : Int) (mk al em en : Bool) (mode : Int) (hm : wfI mode) :
 Calls Tryz.prog 20 #[.pointer (some ⟨A, 0, none⟩), .int .i64 cwd, crd r u s k g, .string p, .agg #[.int .i64 want, .bool mk, .bool al, .bool em, .bool en, .int .i64 mode]] w fun e w' => e = .returned (makeV (openP t cwd u g p.data.toList want mk al em mode).2) ∧ WP w0 w' A (openP t cwd u g p.data.toList want mk al em mode).1 (n + 1) := by
 obtain ⟨own, hP, hB, hb⟩ := h.p
 refine (wOpen_any A cwd r u s k g p hp want mk al em en mode hm w hP h.s (fun k => Nat.le_trans (h.b k) hn) (fun x => (sound_hold h.s _).sd) _ _ _ (toldI_ino t cwd u g _ (findP_none t cwd u g _)).1 (andNot_wf _ _) (pla_dir h.s.sd cwd u g _) (pla_name t cwd u g _) (pla_entry h.s.sd _) (andNot_wf _ _)).mono fun e w' ⟨h1, h2⟩ => ?_
 rw [tie_open h.s h.m] at h1 h2
 exact ⟨h1, PS.next hB hb h2, sound_open h.s _ _ _ _ _ _ _ _ _, md_open h.m _ _ _ _ _ _ _ _ _, h.b.open_ _ _ _ _ _ _ _ _ _⟩
end
section
open Ino Pa Mo
theorem links_zero {t : T} {x : Nat} (h : ∀ j, cnt (t j).ents x = 0) : links t x = 0 := by
 have key : ∀ n, linksTo n t x = 0 := by
  intro n
  induction n with
  | zero => rfl
  | succ n ih => unfold linksTo; rw [ih, h n]
 exact key 201
theorem links_fresh {t : T} (h : Sd t) {x : Nat} (hx : (t x).is = false) : links t x = 0 := links_zero fun j => by
 refine List.countP_eq_zero.2 fun e he hc => ?_
 have h1 := h.tgt j e he
 have h2 : e.2 = x := by simpa using hc
 rw [h2, hx] at h1
 cases h1
theorem not_within {t : T} (h : Sd t) {d x : Nat} (hi : (t x).is = true) (hx : (t x).ents = []) (hne : d ≠ x) : ¬ Within t d x := by
 rintro ⟨n, hn⟩
 have hx1 := (h.range x hi).1
 induction n with
 | zero => exact hne hn
 | succ n ih =>
  rw [iter_succ] at hn
  by_cases e : iter t n d = x
  ·exact ih e
  ·have hp : (t (iter t n d)).parent = x := hn
   generalize iter t n d = y at *
   by_cases hk : (t y).kind = 1
   ·rcases h.dpar y hk with ⟨_, h2⟩ | ⟨_, h2⟩
    ·exact e (h2.symm.trans hp)
    ·rw [hp, hx] at h2; exact Nat.lt_irrefl 0 h2
   ·rw [h.npar y hk] at hp; omega
theorem enter_ok {t : T} {d x : Nat} {n : Bs} (h1 : isI t (d : Int) = true) (h2 : isI t (x : Int) = true) (h3 : (t d).kind = 1) (h4 : nameOk n = true) (h5 : findE (t d).ents n = none)
 (h6 : ¬ (x = 1 ∨ ((t x).kind = 1 ∧ 0 < links t x) ∨ 8 ≤ links t x)) (h7 : (t d).ents.length < 40) (h8 : ¬ ((t x).kind = 1 ∧ Within t d x)) : enterP t (d : Int) n (x : Int) = (add t d n x, 0) := by
 unfold enterP
 rw [if_pos ⟨h1, h2⟩, Int.toNat_natCast, Int.toNat_natCast, if_pos h3, if_pos h4, if_neg (by rw [h5]; exact Bool.false_ne_true), if_neg (fun q => h6 (q.imp (fun k => Int.ofNat.inj k) id)), if_neg (by omega), if_neg h8]
theorem make_ok {t : T} {kind mode u g : Int} {i : Nat} (hf : freeP t = some i) (hk : rMake kind mode u g 0 = true) : makeP t (rMake kind mode u g 0) kind mode u g 0 = (upd t i (madeN kind mode u g 0 i), i, 0) := by
 unfold makeP
 rw [if_pos hk, hf]
theorem free_facts {t : T} {i : Nat} (hf : freeP t = some i) : 1 ≤ i ∧ i ≤ 200 ∧ (t i).is = false := by
 obtain ⟨h1, h2, h3, _⟩ := freeUp_some hf
 exact ⟨h1, by omega, h3⟩
def madeT (t : T) (u g : Int) (d : Nat) (nm : Bs) (kind mode : Int) (i : Nat) : T := add (upd t i (madeN kind mode u g 0 i)) d nm i
theorem create_ok {t : T} (hs : Sound t) {u g : Int} {d : Nat} {nm : Bs} {kind mode : Int} {i : Nat} (hf : freeP t = some i) (hk : rMake kind mode u g 0 = true) (hd : (t d).is = true) (hdk : (t d).kind = 1) (hn : nameOk nm = true)
 (he : findE (t d).ents nm = none) (hl : (t d).ents.length < 40) : createP t u g d nm kind mode = (madeT t u g d nm kind mode i, i, 0) := by
 obtain ⟨i1, i2, i3⟩ := free_facts hf
 have hne : d ≠ i := fun e => by rw [e, i3] at hd; cases hd
 have hi1 : i ≠ 1 := fun e => by rw [e, hs.sd.root.1] at i3; cases i3
 have s1 : Sound (upd t i (madeN kind mode u g 0 i)) := by
  have := sound_make hs (rMake kind mode u g 0) kind mode u g 0 (rMake_kinds _ _ _ _ _)
  rw [make_ok hf hk] at this
  exact this
 have hL : links (upd t i (madeN kind mode u g 0 i)) i = 0 := by
  have := links_upd t i (madeN kind mode u g 0 i) i i2
  rw [links_fresh hs.sd i3] at this
  have h2 : cnt (madeN kind mode u g 0 i).ents i = 0 := rfl
  omega
 have hE := enter_ok (t := upd t i (madeN kind mode u g 0 i)) (d := d) (x := i) (n := nm) (by rw [isI_cast s1.sd, upd_other _ _ hne]; exact hd) (by rw [isI_cast s1.sd, upd_same]; rfl) (by rw [upd_other _ _ hne]; exact hdk) hn (by rw [upd_other _ _ hne]; exact he)
  (by rw [hL]; rintro (q | ⟨_, q⟩ | q) <;> omega) (by rw [upd_other _ _ hne]; exact hl) (fun q => not_within s1.sd (by rw [upd_same]; rfl) (by rw [upd_same]; rfl) hne q.2)
 unfold createP
 rw [make_ok hf hk]
 simp only [if_true]
 rw [hE]
 simp only [if_true]
 rfl
def mkT (t : T) (u g : Int) (d : Nat) (nm : Bs) (kind mode : Int) (i : Nat) : T := upd (madeT t u g d nm kind mode i) i { madeT t u g d nm kind mode i i with holds := 0 }
theorem made_links {t : T} (hs : Sound t) {u g : Int} {d : Nat} {nm : Bs} {kind mode : Int} {i : Nat} (hd : d ≤ 200) (hi : i ≤ 200) (hn : (t i).is = false) (x : Nat) : links (madeT t u g d nm kind mode i) x = links t x + (if i = x then 1 else 0) := by
 unfold madeT
 rw [links_add hd]
 have := links_upd t i (madeN kind mode u g 0 i) x hi
 have h1 : cnt (madeN kind mode u g 0 i).ents x = 0 := rfl
 have h2 : cnt (t i).ents x = 0 := by rw [hs.sd.none_ i hn]; rfl
 omega
theorem drop_made {t : T} (hs : Sound t) {u g : Int} {d : Nat} {nm : Bs} {kind mode : Int} {i : Nat} (hf : freeP t = some i) (hd : d ≤ 200) (hi : isI (madeT t u g d nm kind mode i) (i : Int) = true) : dropP (madeT t u g d nm kind mode i) (i : Int) = (mkT t u g d nm kind mode i, true) := by
 obtain ⟨i1, i2, i3⟩ := free_facts hf
 have hh : (madeT t u g d nm kind mode i i).holds = 1 := by unfold madeT; rw [add_holds, upd_same]; rfl
 have hN : Normal (mkT t u g d nm kind mode i) := by
  rintro j ⟨h1, h2, h3, h4, h5⟩
  have hL : links (mkT t u g d nm kind mode i) j = links t j + (if i = j then 1 else 0) :=
   (links_upd_same (madeT t u g d nm kind mode i) i { madeT t u g d nm kind mode i i with holds := 0 } j rfl).trans (made_links hs hd i2 i3 j)
  rw [hL] at h5
  by_cases e : i = j
  ·rw [if_pos e] at h5; omega
  ·rw [if_neg e, Nat.add_zero] at h5
   have e1 : mkT t u g d nm kind mode i j = madeT t u g d nm kind mode i j := by unfold mkT; rw [upd_other _ _ (Ne.symm e)]
   rw [e1] at h3 h4
   have e2 : (madeT t u g d nm kind mode i j).is = (t j).is := by unfold madeT; rw [add_is, upd_other _ _ (Ne.symm e)]
   have e3 : (madeT t u g d nm kind mode i j).holds = (t j).holds := by unfold madeT; rw [add_holds, upd_other _ _ (Ne.symm e)]
   rw [e2] at h3
   rw [e3] at h4
   exact hs.alive j ⟨h1, h2, h3, h4, h5⟩
 unfold dropP
 have hz : (madeT t u g d nm kind mode i i).holds - 1 = 0 := by rw [hh]
 have hne : (madeT t u g d nm kind mode i i).holds ≠ 0 := by rw [hh]; exact Nat.one_ne_zero
 rw [Int.toNat_natCast, if_pos ⟨hi, hne⟩, hz]
 show (goneP (mkT t u g d nm kind mode i), true) = _
 rw [goneP_of_normal hN]
theorem mkdir_ok {t : T} (hs : Sound t) {cwd u g : Int} {s : Bs} {mode : Int} {d : Nat} {nm : Bs} {m : Bool} {i : Nat} (h0 : rMode mode = true) (hp : placeP t cwd u g s = ⟨d, nm, m, 0⟩) (hf : freeP t = some i) (hk : rMake 1 mode u g 0 = true)
 (hd : (t d).is = true) (hdk : (t d).kind = 1) (hn : nameOk nm = true) (he : findE (t d).ents nm = none) (hl : (t d).ents.length < 40) (hm : mayT t d u g 2 = true) (hlk : (lookP t (d : Int) nm).2 = false) :
 mkdirP t cwd u g s mode = (mkT t u g d nm 1 mode i, 0) := by
 obtain ⟨i1, i2, i3⟩ := free_facts hf
 have hC := create_ok hs (u := u) (g := g) (kind := 1) (mode := mode) hf hk hd hdk hn he hl
 have s2 : Sound (madeT t u g d nm 1 mode i) := by
  have := sound_create hs u g d nm 1 mode
  rw [hC] at this
  exact this
 have hD := drop_made hs (u := u) (g := g) (nm := nm) (kind := 1) (mode := mode) hf (hs.sd.range d hd).2 (by rw [isI_cast s2.sd]; unfold madeT; rw [add_is, upd_same]; rfl)
 unfold mkdirP makesP
 rw [hp]
 simp only [h0, if_true, hlk, Bool.false_eq_true, if_false, hm, hC, hD]
theorem open_new {t : T} (hs : Sound t) {cwd u g : Int} {s : Bs} {want mode : Int} {em : Bool} {al : Bool} {d : Nat} {nm : Bs} {i : Nat} (hw : wantOk want = true) (h0 : rMode mode = true) (hp : placeP t cwd u g s = ⟨d, nm, false, 0⟩) (hf : freeP t = some i) (hk : rMake 0 mode u g 0 = true)
 (hd : (t d).is = true) (hdk : (t d).kind = 1) (hn : nameOk nm = true) (he : findE (t d).ents nm = none) (hl : (t d).ents.length < 40) (hm : mayT t d u g 2 = true) (hlk : (lookP t (d : Int) nm).2 = false) :
 openP t cwd u g s want true al em mode = (madeT t u g d nm 0 mode i, i, 0) := by
 have hC := create_ok hs (u := u) (g := g) (kind := 0) (mode := mode) hf hk hd hdk hn he hl
 unfold openP makesP
 rw [hp]
 simp only [hw, h0, and_self, if_true, hlk, Bool.false_eq_true, if_false, hm, hC]
end
section
open Go.RowKit Ino Go.Maps Pa Mo
def Q0 : T := Ino.newP 493 0 0
def Q1 : T := mkT Q0 0 0 1 [100] 1 448 2
def Q2 : T := upd Q1 2 { Q1 2 with mode := bits .andNot .i64 (Q1 2).mode 2048, owner := 5, group := 5 }
def Q3 : T := madeT Q2 5 5 2 [120] 0 420 3
theorem q0_s : Sound Q0 := sound_new _ _ _
theorem q_mkdir : mkdirP Q0 1 0 0 [47, 100] 448 = (Q1, 0) :=
 mkdir_ok (d := 1) (nm := [100]) (m := false) (i := 2) q0_s (by decide) (by kernel_rfl) (by kernel_rfl) (by decide) (by kernel_rfl) (by kernel_rfl) (by decide) (by kernel_rfl) (by decide +kernel) (by kernel_rfl) (by kernel_rfl)
theorem q1_s : Sound Q1 := by
 have := sound_mkdir q0_s 1 0 0 [47, 100] 448
 rw [q_mkdir] at this
 exact this
theorem q_chown : chownP Q1 1 0 0 [100] 5 5 = (Q2, 0) := by
 have hf : findP Q1 1 0 0 [100] = (2, 0) := by kernel_rfl
 unfold chownP
 rw [hf]
 simp only [if_true]
 rw [if_pos (.inl trivial)]
 unfold setP
 rw [if_pos (by kernel_rfl), if_pos (by kernel_rfl)]
 rfl
theorem q2_s : Sound Q2 := by
 have := sound_chown q1_s 1 0 0 [100] 5 5
 rw [q_chown] at this
 exact this
theorem q_open : openP Q2 1 5 5 [47, 100, 47, 120] 2 true false false 420 = (Q3, 3, 0) :=
 open_new (d := 2) (nm := [120]) (i := 3) q2_s (by decide) (by decide) (by kernel_rfl) (by kernel_rfl) (by decide) (by kernel_rfl) (by kernel_rfl) (by decide) (by kernel_rfl) (by decide +kernel) (by kernel_rfl) (by kernel_rfl)
theorem q_find6 : findP Q3 1 6 6 [47, 100, 47, 120] = (0, 4) := by kernel_rfl
theorem q_find0 : findP Q3 1 0 0 [47, 100, 47, 120] = (3, 0) := by kernel_rfl
theorem q_rm : rmP Q3 1 6 6 [47, 100, 47, 120] false = (Q3, 4) := by
 have hp : placeP Q3 1 6 6 [47, 100, 47, 120] = ⟨0, [], false, 4⟩ := by kernel_rfl
 unfold rmP
 rw [hp]
 rfl
theorem who_any (u g : Int) (w : World) : Calls Tryz.prog 17 #[.int .i64 u, .int .i64 g] w fun e w' => e = .returned (crd u u u g g) ∧ Below w.heap.size w w' := by
 go_enter Tryz.func17, Tryz.ntmps17
 go_wp2
 exact bodyPost_ret (v := crd u u u g g) (by simp [results, Tryz.results17, go_sem]) rfl ⟨rfl, bel1 _ _⟩
variable {w0 w : World} {A n : Nat} {t : T}
theorem sh_mkdir (p : WP w0 w A Q0 0) : Calls Tryz.prog 23 #[.pointer (some ⟨A, 0, none⟩), .int .i64 1, crd 0 0 0 0 0, .string ⟨#[47, 100]⟩, .int .i64 448] w fun e w' => e = .returned (.int .i64 0) ∧ WP w0 w' A Q1 1 := by
 have := wp_mkdir p (by decide) 1 0 0 0 0 0 ⟨#[47, 100]⟩ (by decide) 448 (by unfold wfI; omega)
 rw [show (⟨#[47, 100]⟩ : ByteArray).data.toList = [47, 100] from rfl, q_mkdir] at this
 exact this
theorem sh_chown (p : WP w0 w A Q1 1) : Calls Tryz.prog 29 #[.pointer (some ⟨A, 0, none⟩), .int .i64 1, crd 0 0 0 0 0, .string ⟨#[100]⟩, .int .i64 5, .int .i64 5] w fun e w' => e = .returned (.int .i64 0) ∧ WP w0 w' A Q2 1 := by
 have := wp_chown p 1 0 0 0 0 0 ⟨#[100]⟩ (by decide) 5 5
 rw [show (⟨#[100]⟩ : ByteArray).data.toList = [100] from rfl, q_chown] at this
 exact this
theorem sh_open (p : WP w0 w A Q2 1) : Calls Tryz.prog 20 #[.pointer (some ⟨A, 0, none⟩), .int .i64 1, crd 5 5 5 5 5, .string ⟨#[47, 100, 47, 120]⟩, .agg #[.int .i64 2, .bool true, .bool false, .bool false, .bool false, .int .i64 420]] w fun e w' => e = .returned (.tuple #[.int .i64 3, .int .i64 0]) ∧ WP w0 w' A Q3 2 := by
 have := wp_open p (by decide) 1 5 5 5 5 5 ⟨#[47, 100, 47, 120]⟩ (by decide) 2 true false false false 420 (by unfold wfI; omega)
 rw [show (⟨#[47, 100, 47, 120]⟩ : ByteArray).data.toList = [47, 100, 47, 120] from rfl, q_open] at this
 exact this
theorem sh_find6 (p : WP w0 w A Q3 2) : Calls Tryz.prog 30 #[.pointer (some ⟨A, 0, none⟩), .int .i64 1, crd 6 6 6 6 6, .string ⟨#[47, 100, 47, 120]⟩] w fun e w' => e = .returned (.tuple #[.int .i64 0, .int .i64 4]) ∧ WP w0 w' A Q3 2 ∧ Below w.heap.size w w' := by
 have := wp_find p 1 6 6 6 6 6 ⟨#[47, 100, 47, 120]⟩ (by decide)
 rw [show (⟨#[47, 100, 47, 120]⟩ : ByteArray).data.toList = [47, 100, 47, 120] from rfl, q_find6] at this
 exact this
theorem sh_find0 (p : WP w0 w A Q3 2) : Calls Tryz.prog 30 #[.pointer (some ⟨A, 0, none⟩), .int .i64 1, crd 0 0 0 0 0, .string ⟨#[47, 100, 47, 120]⟩] w fun e w' => e = .returned (.tuple #[.int .i64 3, .int .i64 0]) ∧ WP w0 w' A Q3 2 ∧ Below w.heap.size w w' := by
 have := wp_find p 1 0 0 0 0 0 ⟨#[47, 100, 47, 120]⟩ (by decide)
 rw [show (⟨#[47, 100, 47, 120]⟩ : ByteArray).data.toList = [47, 100, 47, 120] from rfl, q_find0] at this
 exact this
theorem sh_rm (p : WP w0 w A Q3 2) : Calls Tryz.prog 24 #[.pointer (some ⟨A, 0, none⟩), .int .i64 1, crd 6 6 6 6 6, .string ⟨#[47, 100, 47, 120]⟩, .bool false] w fun e w' => e = .returned (.int .i64 4) ∧ WP w0 w' A Q3 2 := by
 have := wp_rm p 1 6 6 6 6 6 ⟨#[47, 100, 47, 120]⟩ (by decide) false
 rw [show (⟨#[47, 100, 47, 120]⟩ : ByteArray).data.toList = [47, 100, 47, 120] from rfl, q_rm] at this
 exact this
set_option maxHeartbeats 2000000 in
set_option maxRecDepth 100000 in
theorem shown7_any (w : World) : Calls Tryz.prog 8 #[] w fun e w' => e = .returned (.bool true) ∧ Below w.heap.size w w' := by
 go_enter Tryz.func8, Tryz.ntmps8
 go_wp2_with fail
 refine (wp_new (Below.refl w.heap.size w) 493 0 0 (by unfold wfI; omega) (by decide)).mono ?_
 rintro e w1 ⟨A, rfl, p1⟩
 have h1 : WP w w1 A Q0 0 := p1
 clear p1
 go_wp2_with fail
 refine (who_any _ _ _).mono ?_
 rintro e w2 ⟨rfl, b2⟩
 replace h1 := h1.read b2
 clear b2
 go_wp2_with fail
 refine (sh_mkdir h1).mono ?_
 rintro e w3 ⟨rfl, p2⟩
 clear h1
 go_wp2_with fail
 refine (who_any _ _ _).mono ?_
 rintro e w4 ⟨rfl, b2⟩
 replace p2 := p2.read b2
 clear b2
 go_wp2_with fail
 refine (sh_chown p2).mono ?_
 rintro e w5 ⟨rfl, p3⟩
 clear p2
 go_wp2_with fail
 refine (who_any _ _ _).mono ?_
 rintro e w6 ⟨rfl, b2⟩
 replace p3 := p3.read b2
 clear b2
 go_wp2_with fail
 refine (sh_open p3).mono ?_
 rintro e w7 ⟨rfl, p4⟩
 clear p3
 go_wp2_with fail
 refine (who_any _ _ _).mono ?_
 rintro e w8 ⟨rfl, b2⟩
 replace p4 := p4.read b2
 clear b2
 go_wp2_with fail
 refine (sh_find6 p4).mono ?_
 rintro e w9 ⟨rfl, p5, b2⟩
 clear p4 b2
 go_wp2_with fail
 refine (who_any _ _ _).mono ?_
 rintro e w10 ⟨rfl, b2⟩
 replace p5 := p5.read b2
 clear b2
 go_wp2_with fail
 refine (sh_find0 p5).mono ?_
 rintro e w11 ⟨rfl, p6, b2⟩
 clear p5 b2
 go_wp2_with fail
 refine (who_any _ _ _).mono ?_
 rintro e w12 ⟨rfl, b2⟩
 replace p6 := p6.read b2
 clear b2
 go_wp2_with fail
 refine (sh_rm p6).mono ?_
 rintro e w13 ⟨rfl, p7⟩
 clear p6
 go_wp2
 go_ret
 exact ⟨rfl, p7.p.below⟩
end
section
open Go.RowKit Ino Go.Maps Pa
variable {w0 w : World} {A n : Nat} {t u : T} {L : Nat → Prop}
def Kp (L : Nat → Prop) (w w' : World) : Prop := ∀ g, L g → w'.heap[g]? = w.heap[g]?
theorem Kp.cell {w' : World} (h : Kp L w w') {g o : Nat} {v : Value} (hg : L g) (hc : w.cell? ⟨g, o, none⟩ = some v) : w'.cell? ⟨g, o, none⟩ = some v :=
 (World.cell?_of_block (h g hg)).trans hc
def PSk (L : Nat → Prop) (w0 w : World) (A : Nat) (t : T) : Prop := ∃ own, PTo w A own t ∧ (∀ g, own g → w0.heap.size ≤ g) ∧ Below w0.heap.size w0 w ∧ ∀ g, L g → ¬ own g ∧ g < w.heap.size
theorem PSk.next {w' : World} {own : Nat → Prop} (hB : ∀ g, own g → w0.heap.size ≤ g) (hb : Below w0.heap.size w0 w) (hL : ∀ g, L g → ¬ own g ∧ g < w.heap.size) (h : Pt w A own u w') : PSk L w0 w' A u ∧ Kp L w w' := by
 obtain ⟨own', hP, h1, h2, h3⟩ := h
 have hsz := hb.size
 refine ⟨⟨own', hP, fun g hg => ?_, hb.trans ⟨h3.os, h3.tape, h3.output, h3.size, fun k hk => h3.block k (by omega) fun ho => by have := hB k ho; omega⟩, fun g hg => ⟨fun ho => ?_, Nat.lt_of_lt_of_le (hL g hg).2 h3.size⟩⟩, fun g hg => h3.block g (hL g hg).2 (hL g hg).1⟩
 ·rcases h2 g hg with h | h
  ·exact hB g h
  ·omega
 ·rcases h2 g ho with h | h
  ·exact (hL g hg).1 h
  ·have := (hL g hg).2; omega
structure WL (L : Nat → Prop) (w0 w : World) (A : Nat) (t : T) (n : Nat) : Prop where
 p : PSk L w0 w A t
 s : Sound t
 m : Md t
 b : HB n t
theorem WL.read {w' : World} (h : WL L w0 w A t n) (hb : Below w.heap.size w w') : WL L w0 w' A t n := by
 refine ⟨?_, h.s, h.m, h.b⟩
 obtain ⟨own, hP, hB, hb0, hL⟩ := h.p
 exact ⟨own, hP.below hb, hB, hb0.trans (hb.mono hb0.size), fun g hg => ⟨(hL g hg).1, Nat.lt_of_lt_of_le (hL g hg).2 hb.size⟩⟩
theorem WL.kp {w' : World} (h : WL L w0 w A t n) (hb : Below w.heap.size w w') : Kp L w w' := by
 obtain ⟨own, hP, hB, hb0, hL⟩ := h.p
 exact fun g hg => hb.block g (hL g hg).2
theorem WL.more {w' : World} (h : WL L w0 w A t n) (hb : Below w.heap.size w w') : WL (fun g => L g ∨ (w.heap.size ≤ g ∧ g < w'.heap.size)) w0 w' A t n := by
 refine ⟨?_, h.s, h.m, h.b⟩
 obtain ⟨own, hP, hB, hb0, hL⟩ := h.p
 refine ⟨_, (hP.kept).below hb, fun g hg => hB g hg.1, hb0.trans (hb.mono hb0.size), fun g hg => ?_⟩
 rcases hg with hg | hg
 ·exact ⟨fun k => (hL g hg).1 k.1, Nat.lt_of_lt_of_le (hL g hg).2 hb.size⟩
 ·exact ⟨fun k => by have := k.2; omega, hg.2⟩
theorem WL.weak {L' : Nat → Prop} (h : WL L w0 w A t n) (hl : ∀ g, L' g → L g) : WL L' w0 w A t n := by
 refine ⟨?_, h.s, h.m, h.b⟩
 obtain ⟨own, hP, hB, hb0, hL⟩ := h.p
 exact ⟨own, hP, hB, hb0, fun g hg => hL g (hl g hg)⟩
theorem WP.kept (h : WP w0 w A t n) : WL (fun _ => False) w0 w A t n := by
 refine ⟨?_, h.s, h.m, h.b⟩
 obtain ⟨own, hP, hB, hb⟩ := h.p
 exact ⟨own, hP, hB, hb, fun _ k => k.elim⟩
theorem WL.below (h : WL L w0 w A t n) : Below w0.heap.size w0 w := by
 obtain ⟨own, hP, hB, hb, hL⟩ := h.p
 exact hb
theorem WL.to (h : WL L w0 w A t n) : WP w0 w A t n := by
 obtain ⟨own, hP, hB, hb, hL⟩ := h.p
 exact ⟨⟨own, hP, hB, hb⟩, h.s, h.m, h.b⟩
theorem wl_mkdir (h : WL L w0 w A t n) (hn : n ≤ 999999) (cwd r u s k g : Int) (p : ByteArray) (hp : p.size ≤ maxLen) (mode : Int) (hm : wfI mode) :
 Calls Tryz.prog 23 #[.pointer (some ⟨A, 0, none⟩), .int .i64 cwd, crd r u s k g, .string p, .int .i64 mode] w fun e w' => e = .returned (.int .i64 ((mkdirP t cwd u g p.data.toList mode).2 : Nat)) ∧ WL L w0 w' A (mkdirP t cwd u g p.data.toList mode).1 (n + 1) ∧ Kp L w w' := by
 obtain ⟨own, hP, hB, hb, hL⟩ := h.p
 refine (wMkdir_any A cwd r u s k g p hp mode hm w hP h.s (fun k => Nat.le_trans (h.b k) hn) _ (pla_dir h.s.sd cwd u g _) (pla_name t cwd u g _)).mono fun e w' ⟨h1, h2⟩ => ?_
 rw [tie_mkdir h.s.sd cwd u g _ mode _ (pla_dir h.s.sd cwd u g _)] at h1 h2
 obtain ⟨k1, k2⟩ := PSk.next hB hb hL h2
 exact ⟨h1, ⟨k1, sound_mkdir h.s _ _ _ _ _, md_mkdir h.m _ _ _ _ _, h.b.mkdir _ _ _ _ _⟩, k2⟩
theorem wl_link (h : WL L w0 w A t n) (cwd r u s k g : Int) (p a : ByteArray) (hp : p.size ≤ maxLen) (ha : a.size ≤ maxLen) :
 Calls Tryz.prog 25 #[.pointer (some ⟨A, 0, none⟩), .int .i64 cwd, crd r u s k g, .string p, .string a] w fun e w' => e = .returned (.int .i64 ((linkP t cwd u g p.data.toList a.data.toList).2 : Nat)) ∧ WL L w0 w' A (linkP t cwd u g p.data.toList a.data.toList).1 n ∧ Kp L w w' := by
 obtain ⟨own, hP, hB, hb, hL⟩ := h.p
 refine (wLink_any A cwd r u s k g p a hp ha w hP h.s.sd (pla_name t cwd u g _)).mono fun e w' ⟨h1, h2⟩ => ?_
 rw [tie_link h.s.sd cwd u g _ _] at h1 h2
 obtain ⟨k1, k2⟩ := PSk.next hB hb hL h2
 exact ⟨h1, ⟨k1, sound_link h.s _ _ _ _ _, md_link h.m _ _ _ _ _, h.b.link _ _ _ _ _⟩, k2⟩
theorem wl_rm (h : WL L w0 w A t n) (cwd r u s k g : Int) (p : ByteArray) (hp : p.size ≤ maxLen) (want : Bool) :
 Calls Tryz.prog 24 #[.pointer (some ⟨A, 0, none⟩), .int .i64 cwd, crd r u s k g, .string p, .bool want] w fun e w' => e = .returned (.int .i64 ((rmP t cwd u g p.data.toList want).2 : Nat)) ∧ WL L w0 w' A (rmP t cwd u g p.data.toList want).1 n ∧ Kp L w w' := by
 obtain ⟨own, hP, hB, hb, hL⟩ := h.p
 refine (wRemove_any A cwd r u s k g p hp want w hP h.s (pla_name t cwd u g _)).mono fun e w' ⟨h1, h2⟩ => ?_
 rw [tie_rm h.s.sd cwd u g _ _] at h1 h2
 obtain ⟨k1, k2⟩ := PSk.next hB hb hL h2
 exact ⟨h1, ⟨k1, sound_rm h.s _ _ _ _ _, md_rm h.m _ _ _ _ _, h.b.rm _ _ _ _ _⟩, k2⟩
theorem wl_stat (h : WL L w0 w A t n) (i : Int) :
 Calls Tryz.prog 21 #[.pointer (some ⟨A, 0, none⟩), .int .i64 i] w fun e w' => e = .returned (infV (statP t i)) ∧ WL L w0 w' A t n ∧ Kp L w w' ∧ Below w.heap.size w w' :=
 (ps_stat h.to.p h.s.sd i).mono fun e w' ⟨h1, h2, h3⟩ => ⟨h1, h.read h3, h.kp h3, h3⟩
end
end Go.Proofs.YtlpececggkdhmaaGreat
