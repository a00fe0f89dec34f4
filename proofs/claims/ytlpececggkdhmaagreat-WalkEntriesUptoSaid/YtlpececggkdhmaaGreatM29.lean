import Derived.Test.YtlpececggkdhmaaGreatM18
import Derived.Test.YtlpececggkdhmaaGreatM23
set_option linter.unusedVariables false
set_option linter.unusedSimpArgs false
namespace Go.Proofs.YtlpececggkdhmaaGreat.Ino
open Pa Mo
theorem plain_none {t : T} (h : Sd t) {x : Nat} (hx : (t x).is = false) : plainT t x = t := by
 unfold plainT
 funext j
 by_cases e : j = x
 ·subst e
  rw [upd_same, h.none_ j hx]
  rfl
 ·rw [upd_other _ _ e]
theorem sound_plain {t : T} (h : Sound t) (x : Nat) : Sound (plainT t x) := by
 cases hx : (t x).is
 ·rw [plain_none h.sd hx]; exact h
 ·have := sound_set h (x : Int) true (bits .andNot .i64 (t x).mode 2048) (t x).owner (t x).group
  unfold setP at this
  rw [isI_cast h.sd, hx, if_pos rfl, if_pos rfl, Int.toNat_natCast] at this
  exact this
theorem HB.plain {n : Nat} {t : T} (h : HB n t) (x : Nat) : HB n (plainT t x) := h.upd _ (h x)
theorem sound_create {t : T} (h : Sound t) (u g : Int) (d : Nat) (n : Bs) (kind mode : Int) : Sound (createP t u g d n kind mode).1 := by
 have h1 : Sound (makeP t (rMake kind mode u g 0) kind mode u g 0).1 := sound_make h _ _ _ _ _ _ (rMake_kinds _ _ _ _ _)
 unfold createP
 split
 ·split
  ·exact sound_enter h1 _ _ _
  ·exact sound_drop (sound_enter h1 _ _ _) _
 ·exact h1
theorem HB.create {m : Nat} {t : T} (h : HB m t) (u g : Int) (d : Nat) (n : Bs) (kind mode : Int) : HB (m + 1) (createP t u g d n kind mode).1 := by
 have h1 := h.make (rMake kind mode u g 0) kind mode u g 0
 unfold createP
 split
 ·split
  ·exact h1.enter _ _ _
  ·exact (h1.enter _ _ _).drop _
 ·exact h1
theorem sound_makes {t : T} (h : Sound t) (u g : Int) (d : Nat) (n : Bs) (kind mode : Int) : Sound (makesP t u g d n kind mode).1 := by
 unfold makesP
 split
 ·exact sound_create h _ _ _ _ _ _
 ·exact h
theorem HB.makes {m : Nat} {t : T} (h : HB m t) (u g : Int) (d : Nat) (n : Bs) (kind mode : Int) : HB (m + 1) (makesP t u g d n kind mode).1 := by
 unfold makesP
 split
 ·exact h.create _ _ _ _ _ _
 ·exact h.mono (Nat.le_succ m)
theorem sound_old {t : T} (h : Sound t) (u g : Int) (x : Nat) (want : Int) (empty : Bool) : Sound (oldP t u g x want empty).1 := by
 unfold oldP
 (repeat' split) <;> first | exact h | exact sound_hold h _ | exact sound_plain (sound_cut (sound_hold h _) _) _
theorem HB.old {m : Nat} {t : T} (h : HB m t) (u g : Int) (x : Nat) (want : Int) (empty : Bool) : HB (m + 1) (oldP t u g x want empty).1 := by
 unfold oldP
 (repeat' split) <;> first | exact h.mono (Nat.le_succ m) | exact h.hold _ | exact ((h.hold _).cut _).plain _
theorem sound_open {t : T} (h : Sound t) (cwd u g : Int) (s : Bs) (want : Int) (mk alone empty : Bool) (mode : Int) : Sound (openP t cwd u g s want mk alone empty mode).1 := by
 unfold openP
 (repeat' split) <;> first | exact h | exact sound_old h _ _ _ _ _ | exact sound_makes h _ _ _ _ _ _
theorem HB.open_ {m : Nat} {t : T} (h : HB m t) (cwd u g : Int) (s : Bs) (want : Int) (mk alone empty : Bool) (mode : Int) : HB (m + 1) (openP t cwd u g s want mk alone empty mode).1 := by
 unfold openP
 (repeat' split) <;> first | exact h.mono (Nat.le_succ m) | exact h.old _ _ _ _ _ | exact h.makes _ _ _ _ _ _
theorem sound_mkdir {t : T} (h : Sound t) (cwd u g : Int) (s : Bs) (mode : Int) : Sound (mkdirP t cwd u g s mode).1 := by
 unfold mkdirP
 (repeat' split) <;> first | exact h | exact sound_drop (sound_makes h _ _ _ _ _ _) _ | exact sound_makes h _ _ _ _ _ _
theorem HB.mkdir {m : Nat} {t : T} (h : HB m t) (cwd u g : Int) (s : Bs) (mode : Int) : HB (m + 1) (mkdirP t cwd u g s mode).1 := by
 unfold mkdirP
 (repeat' split) <;> first | exact h.mono (Nat.le_succ m) | exact (h.makes _ _ _ _ _ _).drop _ | exact h.makes _ _ _ _ _ _
theorem sound_rm {t : T} (h : Sound t) (cwd u g : Int) (s : Bs) (want : Bool) : Sound (rmP t cwd u g s want).1 := by
 unfold rmP
 (repeat' split) <;> first | exact h | exact sound_remove h _ _
theorem HB.rm {m : Nat} {t : T} (h : HB m t) (cwd u g : Int) (s : Bs) (want : Bool) : HB m (rmP t cwd u g s want).1 := by
 unfold rmP
 (repeat' split) <;> first | exact h | exact h.remove _ _
theorem sound_link {t : T} (h : Sound t) (cwd u g : Int) (s a : Bs) : Sound (linkP t cwd u g s a).1 := by
 unfold linkP
 (repeat' split) <;> first | exact h | exact sound_enter h _ _ _
theorem HB.link {m : Nat} {t : T} (h : HB m t) (cwd u g : Int) (s a : Bs) : HB m (linkP t cwd u g s a).1 := by
 unfold linkP
 (repeat' split) <;> first | exact h | exact h.enter _ _ _
theorem sound_ren {t : T} (h : Sound t) (cwd u g : Int) (s a : Bs) : Sound (renP t cwd u g s a).1 := by
 unfold renP
 (repeat' split) <;> first | exact h | exact sound_move h _ _ _ _
theorem HB.ren {m : Nat} {t : T} (h : HB m t) (cwd u g : Int) (s a : Bs) : HB m (renP t cwd u g s a).1 := by
 unfold renP
 (repeat' split) <;> first | exact h | exact h.move _ _ _ _
theorem sound_chmod {t : T} (h : Sound t) (cwd u g : Int) (s : Bs) (m : Int) : Sound (chmodP t cwd u g s m).1 := by
 unfold chmodP
 (repeat' split) <;> first | exact h | exact sound_set h _ _ _ _ _
theorem HB.chmod {n : Nat} {t : T} (h : HB n t) (cwd u g : Int) (s : Bs) (m : Int) : HB n (chmodP t cwd u g s m).1 := by
 unfold chmodP
 (repeat' split) <;> first | exact h | exact h.set _ _ _ _ _
theorem sound_chown {t : T} (h : Sound t) (cwd u g : Int) (s : Bs) (o k : Int) : Sound (chownP t cwd u g s o k).1 := by
 unfold chownP
 (repeat' split) <;> first | exact h | exact sound_set h _ _ _ _ _
theorem HB.chown {n : Nat} {t : T} (h : HB n t) (cwd u g : Int) (s : Bs) (o k : Int) : HB n (chownP t cwd u g s o k).1 := by
 unfold chownP
 (repeat' split) <;> first | exact h | exact h.set _ _ _ _ _
theorem sound_fput {t : T} (h : Sound t) (i a : Int) (s : Bs) : Sound (fputP t i a s).1 := by
 unfold fputP
 split
 ·exact sound_plain (sound_put h _ _ _) _
 ·exact sound_put h _ _ _
theorem HB.fput {n : Nat} {t : T} (h : HB n t) (i a : Int) (s : Bs) : HB n (fputP t i a s).1 := by
 unfold fputP
 split
 ·exact (h.put _ _ _).plain _
 ·exact h.put _ _ _
end Go.Proofs.YtlpececggkdhmaaGreat.Ino
