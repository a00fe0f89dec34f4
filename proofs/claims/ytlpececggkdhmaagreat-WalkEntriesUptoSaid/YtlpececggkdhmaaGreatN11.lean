import Derived.Test.YtlpececggkdhmaaGreatM22
import Derived.Test.YtlpececggkdhmaaGreatM23
import Derived.Test.YtlpececggkdhmaaGreatM29
import Derived.Test.YtlpececggkdhmaaGreatM26
import Derived.Deep.RegionHeld3
import Derived.Deep.AppendLies
import Derived.Deep.DrawnRows
import Derived.Laws.AppendOwn
import Derived.WalkSmall
import Derived.Test.YtlpececggkdhmaaGreatM7
import Derived.BigRegion
import Derived.Test.YtlpececggkdhmaaGreatN1
open Go.Lib (hid)
set_option linter.unusedVariables false
set_option linter.unusedSimpArgs false
set_option maxHeartbeats 3000000
namespace Go.Proofs.YtlpececggkdhmaaGreat.Mo
open Go.RowKit
def refRightB (m : Int) : Bool := decide (0 ≤ m) && rightB m
theorem refRight_any (m : Int) (w : World) :
 Calls Tryz.prog 34 #[.int .i64 m] w fun e w' => e = .returned (.bool (refRightB m)) ∧ w = w' := by
 by_cases h : 0 ≤ m
 ·go_enter Tryz.func34, Tryz.ntmps34
  go_wp2
  go_ret
  exact ⟨ret_bool (by simp [refRightB, h, rightB]), rfl⟩
 ·go_enter Tryz.func34, Tryz.ntmps34
  go_wp2
  go_ret
  exact ⟨ret_bool (by unfold refRightB; rw [decide_eq_false (by omega)]; rfl), rfl⟩
def refMayB (m owner group : Int) (dir : Bool) (uid gid want : Int) : Bool :=
 if refRightB m = true ∧ 1 ≤ want ∧ want ≤ 7 then
  if uid = 0 then (dir || (bits .and .i64 want 1 == 0 || bits .and .i64 m 73 != 0))
  else (bits .and .i64 (if uid = owner then bits .and .i64 (m / 64) 7 else if gid = group then bits .and .i64 (m / 8) 7 else bits .and .i64 m 7) want == want)
 else false
theorem refMay_any (m owner group : Int) (dir : Bool) (uid gid want : Int) (w : World) :
 Calls Tryz.prog 120 #[.int .i64 m, .int .i64 owner, .int .i64 group, .bool dir, .int .i64 uid, .int .i64 gid, .int .i64 want] w fun e w' => e = .returned (.bool (refMayB m owner group dir uid gid want)) ∧ w = w' := by
 by_cases hr : refRightB m = true
 ·by_cases h1 : want < 1
  ·go_enter Tryz.func120, Tryz.ntmps120
   go_wp2_with (go_at_call 34; refine (refRight_any _ _).mono ?_; rintro e w' ⟨rfl, rfl⟩)
   go_ret
   exact ⟨ret_bool (by unfold refMayB; rw [if_neg (by omega)]), rfl⟩
  by_cases h7 : 7 < want
  ·go_enter Tryz.func120, Tryz.ntmps120
   go_wp2_with (go_at_call 34; refine (refRight_any _ _).mono ?_; rintro e w' ⟨rfl, rfl⟩)
   go_ret
   exact ⟨ret_bool (by unfold refMayB; rw [if_neg (by omega)]), rfl⟩
  by_cases h0 : uid = 0
  ·have h0' : ((uid : Int) == 0) = true := by simpa using h0
   have H0 := hid h0; clear h0
   have e : refMayB m owner group dir uid gid want = (dir || (bits .and .i64 want 1 == 0 || bits .and .i64 m 73 != 0)) := by unfold refMayB; rw [if_pos ⟨hr, by omega, by omega⟩, if_pos H0.out]
   have He := hid e; clear e
   cases dir
   ·cases hb : (bits .and .i64 want 1 == 0)
    ·go_enter Tryz.func120, Tryz.ntmps120
     go_wp2_with (go_at_call 34; refine (refRight_any _ _).mono ?_; rintro e w' ⟨rfl, rfl⟩)
     go_ret
     exact ⟨ret_bool (by rw [He.out, hb]; rfl), rfl⟩
    ·go_enter Tryz.func120, Tryz.ntmps120
     go_wp2_with (go_at_call 34; refine (refRight_any _ _).mono ?_; rintro e w' ⟨rfl, rfl⟩)
     go_ret
     exact ⟨ret_bool (by rw [He.out, hb]; rfl), rfl⟩
   ·go_enter Tryz.func120, Tryz.ntmps120
    go_wp2_with (go_at_call 34; refine (refRight_any _ _).mono ?_; rintro e w' ⟨rfl, rfl⟩)
    go_ret
    exact ⟨ret_bool (by rw [He.out]; rfl), rfl⟩
  have h0' : ((uid : Int) == 0) = false := by simpa using h0
  have e : refMayB m owner group dir uid gid want = (bits .and .i64 (if uid = owner then bits .and .i64 (m / 64) 7 else if gid = group then bits .and .i64 (m / 8) 7 else bits .and .i64 m 7) want == want) := by unfold refMayB; rw [if_pos ⟨hr, by omega, by omega⟩, if_neg h0]
  have He := hid e; clear e h0
  by_cases ho : uid = owner
  ·have ho' : ((uid : Int) == owner) = true := by simpa using ho
   have Ho := hid ho; clear ho
   go_enter Tryz.func120, Tryz.ntmps120
   go_wp2_with (go_at_call 34; refine (refRight_any _ _).mono ?_; rintro e w' ⟨rfl, rfl⟩)
   go_ret
   exact ⟨ret_bool (by rw [He.out, if_pos Ho.out]), rfl⟩
  have ho' : ((uid : Int) == owner) = false := by simpa using ho
  have Ho := hid ho; clear ho
  by_cases hg : gid = group
  ·have hg' : ((gid : Int) == group) = true := by simpa using hg
   have Hg := hid hg; clear hg
   go_enter Tryz.func120, Tryz.ntmps120
   go_wp2_with (go_at_call 34; refine (refRight_any _ _).mono ?_; rintro e w' ⟨rfl, rfl⟩)
   go_ret
   exact ⟨ret_bool (by rw [He.out, if_neg Ho.out, if_pos Hg.out]), rfl⟩
  have hg' : ((gid : Int) == group) = false := by simpa using hg
  have Hg := hid hg; clear hg
  go_enter Tryz.func120, Tryz.ntmps120
  go_wp2_with (go_at_call 34; refine (refRight_any _ _).mono ?_; rintro e w' ⟨rfl, rfl⟩)
  go_ret
  exact ⟨ret_bool (by rw [He.out, if_neg Ho.out, if_neg Hg.out]), rfl⟩
 ·have hr' : refRightB m = false := by simpa using hr
  go_enter Tryz.func120, Tryz.ntmps120
  go_wp2_with (go_at_call 34; refine (refRight_any _ _).mono ?_; rintro e w' ⟨rfl, rfl⟩)
  go_ret
  exact ⟨ret_bool (by unfold refMayB; rw [if_neg (fun h => hr h.1)]), rfl⟩
theorem refRight_eq (m : Int) (h : wfI m) : refRightB m = rightB m := by
 unfold refRightB
 cases hr : rightB m
 ·rw [Bool.and_false]
 ·obtain ⟨n, hn, rfl, _⟩ := (andNot_zero m h).1 hr
  rw [decide_eq_true (by omega)]; rfl
theorem refMay_eq (m owner group : Int) (dir : Bool) (uid gid want : Int) (h : wfI m) : refMayB m owner group dir uid gid want = mayB m owner group dir uid gid want := by
 unfold refMayB mayB
 rw [refRight_eq m h]
 by_cases hc : rightB m = true ∧ 1 ≤ want ∧ want ≤ 7
 ·rw [if_pos hc, if_pos hc]
  by_cases h0 : uid = 0
  ·rw [if_pos h0, if_pos h0]
   cases dir
   ·rfl
   ·simp
  ·rw [if_neg h0, if_neg h0]
   obtain ⟨n, hn, rfl, _⟩ := (andNot_zero m h).1 hc.1
   obtain ⟨v, rfl⟩ := Int.eq_ofNat_of_zero_le (show 0 ≤ want by omega)
   have e64 : (n : Int) / 64 = ((n / 64 : Nat) : Int) := by omega
   have e8 : (n : Int) / 8 = ((n / 8 : Nat) : Int) := by omega
   by_cases ho : uid = owner
   ·rw [if_pos ho, if_pos ho, e64, grant_eq _ _ (by omega) (by omega)]
   ·rw [if_neg ho, if_neg ho]
    by_cases hg : gid = group
    ·rw [if_pos hg, if_pos hg, e8, grant_eq _ _ (by omega) (by omega)]
    ·rw [if_neg hg, if_neg hg, grant_eq _ _ (by omega) (by omega)]
 ·rw [if_neg hc, if_neg hc]
end Go.Proofs.YtlpececggkdhmaaGreat.Mo
namespace Go.Proofs.YtlpececggkdhmaaGreat.Ino
def Mw (t : T) : Prop := ∀ i, Mo.wfI (t i).mode
theorem mw_none : Mo.wfI noN.mode := by unfold Mo.wfI; decide
theorem Mw.upd {t : T} (h : Mw t) (i : Nat) {v : Nod} (hv : Mo.wfI v.mode) : Mw (upd t i v) := fun j => by
 by_cases e : j = i
 ·rw [e, upd_same]; exact hv
 ·rw [upd_other _ _ e]; exact h j
theorem Mw.del {t : T} (h : Mw t) (i : Nat) : Mw (del t i) := fun j => by
 unfold Ino.del
 split
 ·exact mw_none
 ·split <;> exact h j
theorem Mw.run : ∀ (l : List Nat) {t : T}, Mw t → Mw (run t l)
 | [], _, h => h
 | i :: l, _, h => Mw.run l (h.del i)
theorem Mw.gone {t : T} (h : Mw t) : Mw (goneP t) := by
 obtain ⟨l, _, h2, _⟩ := goneP_gone t
 rw [← h2]
 exact h.run l
theorem mw_new {m o g : Int} (h : Mo.wfI m) : Mw (newP m o g) := Mw.upd (fun _ => mw_none) 1 h
theorem Mw.make {t : T} (h : Mw t) (kind m o g tty : Int) (hm : Mo.wfI m) : Mw (makeP t (rMake kind m o g tty) kind m o g tty).1 := by
 unfold makeP
 split
 ·rename_i hk
  split
  ·exact h
  ·exact h.upd _ hm
 ·exact h
theorem Mw.hold {t : T} (h : Mw t) (i : Int) : Mw (holdP t i).1 := by
 unfold holdP
 split
 ·exact h.upd _ (h i.toNat)
 ·exact h
theorem Mw.drop {t : T} (h : Mw t) (i : Int) : Mw (dropP t i).1 := by
 unfold dropP
 split
 ·refine Mw.gone ?_
  exact h.upd _ (h i.toNat)
 ·exact h
theorem Mw.set {t : T} (h : Mw t) (i : Int) (ok : Bool) (m o g : Int) (hm : Mo.wfI m) : Mw (setP t i ok m o g).1 := by
 unfold setP
 split
 ·split
  ·exact h.upd _ hm
  ·exact h
 ·exact h
theorem Mw.put {t : T} (h : Mw t) (i a : Int) (s : Bs) : Mw (putP t i a s).1 := by
 unfold putP
 split
 ·exact h
 ·split
  ·exact h
  ·split
   ·exact h
   ·exact h.upd _ (h i.toNat)
theorem Mw.cut {t : T} (h : Mw t) (i : Int) : Mw (cutP t i).1 := by
 unfold cutP
 split
 ·exact h
 ·exact h.upd _ (h i.toNat)
theorem Mw.setPar {t : T} (h : Mw t) (x p : Nat) : Mw (setPar t x p) := fun j => by
 unfold Ino.setPar
 split <;> exact h j
theorem Mw.setEnts {t : T} (h : Mw t) (d : Nat) (l : List (Bs × Nat)) : Mw (setEnts t d l) := h.upd _ (h d)
theorem Mw.add {t : T} (h : Mw t) (d : Nat) (s : Bs) (x : Nat) : Mw (add t d s x) := (h.setEnts _ _).setPar _ _
theorem Mw.rem {t : T} (h : Mw t) (d : Nat) (s : Bs) (x : Nat) : Mw (rem t d s x) := (h.setEnts _ _).setPar _ _
theorem Mw.enter {t : T} (h : Mw t) (d : Int) (s : Bs) (i : Int) : Mw (enterP t d s i).1 := by
 unfold enterP
 (repeat' split) <;> first | exact h | exact h.add _ _ _
theorem Mw.remove {t : T} (h : Mw t) (d : Int) (s : Bs) : Mw (removeP t d s).1 := by
 unfold removeP
 (repeat' split) <;> first | exact h | exact (h.rem _ _ _).gone
theorem Mw.moved {t : T} (h : Mw t) (d : Nat) (s : Bs) (to : Nat) (a : Bs) (x : Nat) : Mw (movedT t d s to a x) := by
 unfold movedT
 refine (Mw.rem ?_ _ _ _).add _ _ _
 split
 ·exact h
 ·exact h.rem _ _ _
theorem Mw.move {t : T} (h : Mw t) (d : Int) (s : Bs) (to : Int) (a : Bs) : Mw (moveP t d s to a).1 := by
 unfold moveP
 (repeat' split) <;> first | exact h | exact (h.moved _ _ _ _ _).gone
theorem wf_andNot (m b : Int) : Mo.wfI (bits .andNot .i64 m b) := by
 show Mo.wfI (IntKind.i64.wrap _)
 rw [IntKind.wrap_i64]
 unfold Mo.wfI
 omega
theorem Mw.plain {t : T} (h : Mw t) (x : Nat) : Mw (plainT t x) := h.upd x (wf_andNot _ _)
theorem Mw.create {t : T} (h : Mw t) (u g : Int) (d : Nat) (n : Bs) (kind mode : Int) (hm : Mo.wfI mode) : Mw (createP t u g d n kind mode).1 := by
 have h1 := h.make kind mode u g 0 hm
 unfold createP
 split
 ·split
  ·exact h1.enter _ _ _
  ·exact (h1.enter _ _ _).drop _
 ·exact h1
theorem Mw.makes {t : T} (h : Mw t) (u g : Int) (d : Nat) (n : Bs) (kind mode : Int) (hm : Mo.wfI mode) : Mw (makesP t u g d n kind mode).1 := by
 unfold makesP
 split
 ·exact h.create _ _ _ _ _ _ hm
 ·exact h
theorem Mw.old {t : T} (h : Mw t) (u g : Int) (x : Nat) (want : Int) (em : Bool) : Mw (oldP t u g x want em).1 := by
 unfold oldP
 (repeat' split) <;> first | exact h | exact h.hold _ | exact ((h.hold _).cut _).plain _
theorem Mw.open_ {t : T} (h : Mw t) (cwd u g : Int) (s : Bs) (want : Int) (mk al em : Bool) (mode : Int) (hm : Mo.wfI mode) : Mw (openP t cwd u g s want mk al em mode).1 := by
 unfold openP
 (repeat' split) <;> first | exact h | exact h.old _ _ _ _ _ | exact h.makes _ _ _ _ _ _ hm
theorem Mw.mkdir {t : T} (h : Mw t) (cwd u g : Int) (s : Bs) (mode : Int) (hm : Mo.wfI mode) : Mw (mkdirP t cwd u g s mode).1 := by
 unfold mkdirP
 (repeat' split) <;> first | exact h | exact (h.makes _ _ _ _ _ _ hm).drop _ | exact h.makes _ _ _ _ _ _ hm
theorem Mw.rm {t : T} (h : Mw t) (cwd u g : Int) (s : Bs) (want : Bool) : Mw (rmP t cwd u g s want).1 := by
 unfold rmP
 (repeat' split) <;> first | exact h | exact h.remove _ _
theorem Mw.link {t : T} (h : Mw t) (cwd u g : Int) (s a : Bs) : Mw (linkP t cwd u g s a).1 := by
 unfold linkP
 (repeat' split) <;> first | exact h | exact h.enter _ _ _
theorem Mw.ren {t : T} (h : Mw t) (cwd u g : Int) (s a : Bs) : Mw (renP t cwd u g s a).1 := by
 unfold renP
 (repeat' split) <;> first | exact h | exact h.move _ _ _ _
theorem Mw.chmod {t : T} (h : Mw t) (cwd u g : Int) (s : Bs) (m : Int) (hm : Mo.wfI m) : Mw (chmodP t cwd u g s m).1 := by
 unfold chmodP
 (repeat' split) <;> first | exact h | exact h.set _ _ _ _ _ hm
theorem Mw.chown {t : T} (h : Mw t) (cwd u g : Int) (s : Bs) (o k : Int) : Mw (chownP t cwd u g s o k).1 := by
 unfold chownP
 (repeat' split) <;> first | exact h | exact h.set _ _ _ _ _ (wf_andNot _ _)
theorem Mw.fput {t : T} (h : Mw t) (i a : Int) (s : Bs) : Mw (fputP t i a s).1 := by
 unfold fputP
 split
 ·exact (h.put _ _ _).plain _
 ·exact h.put _ _ _
end Go.Proofs.YtlpececggkdhmaaGreat.Ino
namespace Go.Proofs.YtlpececggkdhmaaGreat.Pa
open Go.RowKit Go.Shelf
theorem E_zero {l : List UInt8} (h0 : l ≠ []) (h1 : l.length ≤ 128) (h2 : anyLong l = false) (h3 : anyBad l = false) : splE l = 0 := by
 unfold splE; rw [if_neg h0, if_neg (by omega), h2, h3]; rfl
theorem last_at (s : ByteArray) (h : 0 < s.size) : s.data.toList.getLast? = some s[s.size - 1] := by
 rw [List.getLast?_eq_getElem?, List.getElem?_eq_getElem (by simp; omega)]
 simp; rfl
def Rd (w : World) (v : Value) (l : List (List UInt8)) : Prop :=
 ∃ p cap, v = .slice p l.length cap ∧ l.length ≤ cap ∧ cap ≤ maxLen ∧ ∀ j x, l[j]? = some x → ∃ g, p = some ⟨g, 0, none⟩ ∧ w.cell? ⟨g, j, none⟩ = some (strV x)
theorem Rd.of_row {w : World} {base : Nat} {v : Value} {l : List (List UInt8)} (h : w.ownsRow base 9 1 v l.length (l.map strV)) : Rd w v l := by
 rcases h.2 with ⟨hv, h0⟩ | ⟨g, cap, cur, hv, hb, hg, hn, hc, hs, ht⟩
 ·have := List.length_eq_zero_iff.1 h0
  subst this
  exact ⟨none, 0, hv, Nat.le_refl _, Nat.zero_le _, fun j x hx => by simp at hx⟩
 ·refine ⟨_, cap, hv, hn, hc, fun j x hx => ⟨g, rfl, ?_⟩⟩
  subst hv
  have hj := (List.getElem?_eq_some_iff.1 hx).1
  rw [h.cellAt j (by omega), List.getElem?_map, hx]; rfl
theorem Rd.below {w w' : World} {v : Value} {l : List (List UInt8)} (h : Rd w v l) (hb : Below w.heap.size w w') : Rd w' v l := by
 obtain ⟨p, cap, hv, h1, h2, h3⟩ := h
 refine ⟨p, cap, hv, h1, h2, fun j x hx => ?_⟩
 obtain ⟨g, hp, hc⟩ := h3 j x hx
 exact ⟨g, hp, (hb.cell (p := ⟨g, j, none⟩) (cell_lt hc)).trans hc⟩
theorem add_zero (g j : Nat) : (⟨g, 0, none⟩ : Addr).add j = ⟨g, j, none⟩ := by unfold Addr.add; split <;> simp_all
def News (W : World) (g : Nat) (news : List Value) : Prop := ∀ j u, news[j]? = some u → W.cell? ((⟨g, 0, none⟩ : Addr).add j) = some u
theorem News.lt {W : World} {g : Nat} {news : List Value} (h : News W g news) (h0 : 0 < news.length) : g < W.heap.size := by
 have := h 0 _ (List.getElem?_eq_getElem h0)
 rw [add_zero] at this
 exact cell_lt this
theorem News.below {W W' : World} {g n : Nat} {news : List Value} (h : News W g news) (hb : Below n W W') (hg : g < n) : News W' g news := fun j u hu => by
 have := h j u hu
 rw [add_zero] at this ⊢
 exact (hb.cell (p := ⟨g, j, none⟩) hg).trans this
theorem News.alloc {W : World} {g : Nat} {news : List Value} (h : News W g news) (o : Obj) : News (W.alloc o) g news := fun j u hu => by
 have := h j u hu
 rw [add_zero] at this ⊢
 exact (World.grownBy_alloc W o none).cell_far ⟨g, j, none⟩ (cell_lt this) (by simp) ▸ this
theorem News.drew {W : World} {g : Nat} {news : List Value} (h : News W g news) : News W.drew g news := h
theorem News.grown {W W' : World} {g : Nat} {row : Option Nat} {news : List Value} (h : News W g news) (hg : W.grownBy W' row) (hne : some g ≠ row) : News W' g news := fun j u hu => by
 have h2 := h j u hu
 rw [add_zero] at h2 ⊢
 rw [hg.cell_far ⟨g, j, none⟩ (cell_lt h2) hne]; exact h2
theorem Rd.of_own {w : World} {base : Nat} {v : Value} {k : Nat} {xs : List Value} {l : List (List UInt8)} (h : w.ownsRow base 9 1 v k xs) (hk : l.length = k) (hx : l.map strV = xs) : Rd w v l := by
 subst hk hx; exact Rd.of_row h
theorem News.one (W : World) (v : Value) : News (W.alloc (.cells #[v] 9)) W.heap.size [v] := World.news_of_block (cs := #[v]) (t := 9) (fr := (0, 0)) (heap_alloc_new W _)
def fullP (p : List UInt8) : Bool := p != []
def nonE (l : List UInt8) : List (List UInt8) := (spl l).filter fullP
def partInv (l : List UInt8) (f i : Nat) (out : List (List UInt8)) : Prop :=
 if i ≤ l.length then nonE l = out ++ (glue ((l.take i).drop f) (spl (l.drop i))).filter fullP else nonE l = out
theorem part_start (l : List UInt8) : partInv l 0 0 [] := by
 unfold partInv
 rw [if_pos (Nat.zero_le _)]
 show nonE l = (glue [] (spl l)).filter fullP
 rw [glue_nil _ (spl_ne l)]; rfl
theorem drop_cons (l : List UInt8) (i : Nat) (c : UInt8) (h : l[i]? = some c) : l.drop i = c :: l.drop (i + 1) := by
 obtain ⟨hi, hc⟩ := List.getElem?_eq_some_iff.1 h
 rw [List.drop_eq_getElem_cons hi, hc]
theorem take_drop_succ (l : List UInt8) (f i : Nat) (c : UInt8) (hf : f ≤ i) (h : l[i]? = some c) : (l.take (i + 1)).drop f = (l.take i).drop f ++ [c] := by
 obtain ⟨hi, hc⟩ := List.getElem?_eq_some_iff.1 h
 rw [List.take_add_one, h]
 show (l.take i ++ [c]).drop f = _
 rw [List.drop_append_of_le_length (by rw [List.length_take]; omega)]
theorem part_next {l : List UInt8} {f i : Nat} {out : List (List UInt8)} {c : UInt8} (hf : f ≤ i) (h : l[i]? = some c) (hc : c ≠ 47) (hp : partInv l f i out) : partInv l f (i + 1) out := by
 have hi := (List.getElem?_eq_some_iff.1 h).1
 unfold partInv at hp ⊢
 rw [if_pos (by omega)] at hp
 rw [if_pos (by omega), take_drop_succ l f i c hf h, hp, drop_cons l i c h, spl_cons c _ hc, glue_glue]
theorem part_len (l : List UInt8) (f i : Nat) (hi : i ≤ l.length) : ((l.take i).drop f).length = i - f := by
 rw [List.length_drop, List.length_take]; omega
theorem part_sep {l : List UInt8} {f i : Nat} {out : List (List UInt8)} (h : l[i]? = some 47) (hp : partInv l f i out) :
 (f < i → partInv l (i + 1) (i + 1) (out ++ [(l.take i).drop f])) ∧ (¬ f < i → partInv l (i + 1) (i + 1) out) := by
 have hi := (List.getElem?_eq_some_iff.1 h).1
 have hl := part_len l f i (by omega)
 unfold partInv at hp ⊢
 rw [if_pos (by omega), drop_cons l i 47 h, spl_sep] at hp
 have e : (l.take (i + 1)).drop (i + 1) = [] := by rw [List.drop_eq_nil_iff]; rw [List.length_take]; omega
 have hq : nonE l = out ++ (((l.take i).drop f ++ []) :: spl (l.drop (i + 1))).filter fullP := hp
 rw [List.append_nil, List.filter_cons] at hq
 rw [if_pos (by omega), e, glue_nil _ (spl_ne _), if_pos (by omega)]
 constructor
 ·intro hlt
  have : fullP ((l.take i).drop f) = true := by unfold fullP; rw [bne_iff_ne]; intro e; rw [e] at hl; simp at hl; omega
  rw [if_pos this] at hq
  rw [hq]; simp
 ·intro hlt
  have : (l.take i).drop f = [] := List.length_eq_zero_iff.1 (by omega)
  rw [this, if_neg (by decide)] at hq
  exact hq
theorem part_end {l : List UInt8} {f : Nat} {out : List (List UInt8)} (hp : partInv l f l.length out) :
 (f < l.length → nonE l = out ++ [(l.take l.length).drop f]) ∧ (¬ f < l.length → nonE l = out) := by
 have hl := part_len l f l.length (Nat.le_refl _)
 unfold partInv at hp
 rw [if_pos (Nat.le_refl _), List.drop_length] at hp
 rw [hp]
 show (f < l.length → out ++ ([((l.take l.length).drop f) ++ []]).filter fullP = _) ∧ _
 rw [List.append_nil, List.filter_cons]
 constructor
 ·intro hlt
  have : fullP ((l.take l.length).drop f) = true := by unfold fullP; rw [bne_iff_ne]; intro e; rw [e] at hl; simp at hl; omega
  rw [if_pos this]; rfl
 ·intro hlt
  have : (l.take l.length).drop f = [] := List.length_eq_zero_iff.1 (by omega)
  rw [this]
  show out ++ [] = out
  exact List.append_nil _
theorem part_done {l : List UInt8} {f i : Nat} {out : List (List UInt8)} (h : l.length < i) (hp : partInv l f i out) : nonE l = out := by
 unfold partInv at hp; rwa [if_neg (by omega)] at hp
theorem part_last {l : List UInt8} {f i : Nat} {out : List (List UInt8)} (h : l.length < i) (hp : nonE l = out) : partInv l f i out := by
 unfold partInv; rwa [if_neg (by omega)]
def notDot (p : List UInt8) : Bool := p != [46]
theorem nam_nonE (l : List UInt8) : nam l = (nonE l).filter notDot := by
 unfold nam nonE
 rw [List.filter_filter]
 congr 1
 funext p
 unfold keepN fullP notDot
 cases (p != []) <;> cases (p != [46]) <;> rfl
theorem long_nonE (l : List UInt8) : (nonE l).any longN = anyLong l := by
 unfold nonE anyLong
 induction spl l with
 | nil => rfl
 | cons p ps ih =>
  rw [List.filter_cons, List.any_cons]
  by_cases h : p = []
  ·subst h; rw [if_neg (by decide), ih]; rfl
  ·rw [if_pos (by unfold fullP; exact bne_iff_ne.2 h), List.any_cons, ih]
theorem last_nonE {l : List UInt8} (h : tailS l ≠ []) : (nonE l).getLast? = some (tailS l) := by
 unfold nonE
 rcases last_split l with hp | ⟨a, b, rfl, hp⟩
 ·rw [(tail_plain l hp).1] at h ⊢
  rw [spl_one l hp, List.filter_cons, if_pos (by unfold fullP; exact bne_iff_ne.2 h)]; rfl
 ·rw [(tail_of a b hp).1] at h ⊢
  rw [spl_append, spl_one b hp, List.filter_append, List.filter_cons, if_pos (by unfold fullP; exact bne_iff_ne.2 h)]; simp
theorem tail_stroke {l : List UInt8} (h0 : l ≠ []) : (l.getLast? = some 47 ↔ tailS l = []) := by
 constructor
 ·intro h
  obtain ⟨x, hx⟩ := List.getLast?_eq_some_iff.1 h
  rw [hx]; exact (tail_of x [] (fun c hc => by cases hc)).1
 ·intro h
  have h2 := up_tail l
  rw [h, List.append_nil] at h2
  rcases up_end l with h3 | h3
  ·rw [h3] at h2; exact absurd h2.symm h0
  ·rw [h2] at h3; exact h3
def lastDot (l : List UInt8) : Bool := match (nonE l).getLast? with
 | some p => p == [46] || p == [46, 46]
 | none => false
theorem dir_eq {l : List UInt8} (h0 : l ≠ []) : dirP l = ((l.getLast? == some 47) || lastDot l) := by
 unfold dirP lastDot
 rw [lastP_tail]
 by_cases h : tailS l = []
 ·rw [h, beq_iff_eq.2 ((tail_stroke h0).2 h)]; rfl
 ·rw [last_nonE h, beq_eq_false_iff_ne.2 h, beq_eq_false_iff_ne.2 (fun e => h ((tail_stroke h0).1 e))]
theorem len_nonE (l : List UInt8) : (nonE l).length ≤ l.length + 1 := by
 refine Nat.le_trans (List.length_filter_le _ _) ?_
 induction l with
 | nil => exact Nat.le_refl _
 | cons c r ih =>
  by_cases h : c = 47
  ·subst h; rw [spl_sep]; simp; omega
  ·rw [spl_cons c r h]
   cases hr : spl r with
   | nil => simp [glue]
   | cons p ps => rw [hr] at ih; simp [glue] at ih ⊢; omega
end Go.Proofs.YtlpececggkdhmaaGreat.Pa
namespace Go.Proofs.YtlpececggkdhmaaGreat.Pa
open Go.RowKit Go.Shelf
def paRel (s : ByteArray) (B : Nat) (w : World) (ov fv iv : Value) (wr : World) : Prop :=
 ∃ (f i : Nat) (out : List (List UInt8)), f ≤ i ∧ i ≤ s.size + 1 ∧ fv = .int .i64 f ∧ iv = .int .i64 i ∧ out.length ≤ i ∧ partInv s.data.toList f i out ∧ wr.ownsRow B 9 1 ov out.length (out.map strV) ∧ Below B w wr
theorem get_at (s : ByteArray) (i : Nat) (h : i < s.size) : s.data.toList[i]? = some s[i] := by
 rw [List.getElem?_eq_getElem (by simpa using h)]; simp; rfl
theorem ext_str (s : ByteArray) (f i : Nat) (h : i ≤ s.size) : (⟨((s.data.toList.take i).drop f).toArray⟩ : ByteArray) = s.extract f i := by
 rw [Lib.extract_eq, List.drop_take]
theorem pa_step {s : ByteArray} {B f i : Nat} {w wr w1 w3 : World} {out : List (List UInt8)} {v v' : Value} {y : Value} (hB : w.heap.size = B) (hf : f < i) (hi : i ≤ s.size) (hol : out.length ≤ i) (hp : partInv s.data.toList (i + 1) (i + 1) (out ++ [(s.data.toList.take i).drop f]))
 (hy : y = .string (s.extract f i)) (hown : wr.ownsRow B 9 1 v out.length (out.map strV)) (hbel : Below B w wr) (h1 : Below wr.heap.size wr w1)
 (hown' : w3.ownsRow B 9 1 v' (out.length + 1) (out.map strV ++ [y])) (hgrow : w1.grownBy w3 v.ownBlock) : paRel s B w v' (.int .i64 ((i : Int) + 1)) (.int .i64 ((i : Int) + 1)) w3 := by
 subst hB
 refine ⟨i + 1, i + 1, _, Nat.le_refl _, by omega, by go_num, by go_num, by simp; omega, hp, ?_, ?_⟩
 ·rw [List.length_append, List.map_append]
  have : [(s.data.toList.take i).drop f].map strV = [y] := by rw [hy, ← ext_str s f i hi]; rfl
  rw [this]; exact hown'
 ·have hb1 : Below w.heap.size w w1 := hbel.trans (h1.mono hbel.size)
  exact hb1.grown hgrow hb1.size (fun k e => (hown.lt k e).1)
set_option maxRecDepth 100000 in
theorem parts_any (s : ByteArray) (hs : s.size ≤ 1048576) (w : World) :
 Calls Tryz.prog 119 #[.string s] w fun e w' => ∃ v, e = .returned v ∧ (Hid (w'.ownsRow w.heap.size 9 1 v (nonE s.data.toList).length ((nonE s.data.toList).map strV)) ∧ Below w.heap.size w w') := by
 obtain ⟨i0, hi, hz0, hz1, hz2⟩ := info_parts Tryz.infoString
 obtain ⟨B, hB⟩ : ∃ B, w.heap.size = B := ⟨_, rfl⟩
 have HB := hid hB
 clear hB
 go_enter Tryz.func119, Tryz.ntmps119
 go_wp2
 go_loopw [3, 4, 5] (fun ov fv iv wr => paRel s B w ov fv iv wr) (fun _ _ iv _ => s.size + 1 - (intOf iv).toNat)
 case atStart => exact ⟨0, 0, [], Nat.le_refl _, Nat.zero_le _, rfl, rfl, Nat.le_refl _, part_start _, World.ownsRow_nil _ _ _ _, Below.refl _ _⟩
 case round =>
  obtain ⟨f, i, out, hf, hi1, rfl, rfl, hol, hp, hown, hbel⟩ := hrel
  have hsz := hbel.size
  rw [HB.out] at hsz
  by_cases hlt : i < s.size
  ·by_cases hc : s[i] = 47
   ·have h47 : (((s[i].toNat : Int) != 47) : Bool) = false := u8_nn _ 47 hc
    have hsep := part_sep (by rw [get_at s i hlt, hc]) hp
    by_cases hfi : f < i
    ·have Hs := hid (hsep.1 hfi)
     clear hsep hp hc
     go_wp2_with (at_builtin; refine wpList_append_own _ rfl _ _ 54 rfl B 9 i0 (.string ByteArray.empty) 1 16 Tryz.underlying54 hi hz0 hz1 hz2 rfl (by decide) _ _ _ rfl (hown.alloc _) ⟨wr.heap.size, 0, none⟩ 1 1 [.string (s.extract f i)] rfl rfl (News.one wr _) (by simp [Value.oneCell']) (by unfold maxLen; omega) (by omega) (by simp; omega) ?_; intro v' w3 hown' hgrow _; have R := pa_step HB.out hfi (by omega) hol Hs.out rfl hown hbel ((Below.refl _ _).alloc (Nat.le_refl _) _) hown' hgrow; clear hown' hgrow)
     go_roundw
     case rel => exact R
     case measure => simp [intOf]; omega
    ·have Hs := hid (hsep.2 hfi)
     clear hsep hp hc
     go_wp2
     go_roundw
     case rel => exact ⟨i + 1, i + 1, out, Nat.le_refl _, by omega, by go_num, by go_num, by omega, Hs.out, hown, hbel⟩
     case measure => simp [intOf]; omega
   ·have h47 : (((s[i].toNat : Int) != 47) : Bool) = true := u8_ne _ 47 hc
    have Hs := hid (part_next hf (get_at s i hlt) hc hp)
    clear hp hc
    go_wp2
    go_roundw
    case rel => exact ⟨f, i + 1, out, by omega, by omega, rfl, by go_num, by omega, Hs.out, hown, hbel⟩
    case measure => simp [intOf]; omega
  ·by_cases hle : i ≤ s.size
   ·have his : i = s.size := by omega
    subst his
    have hend := part_end (by rw [size_len]; exact hp)
    rw [size_len] at hend
    by_cases hfi : f < s.size
    ·have Hs := hid (part_last (f := s.size + 1) (i := s.size + 1) (by rw [size_len]; omega) (hend.1 hfi))
     clear hend hp
     go_wp2_with (at_builtin; refine wpList_append_own _ rfl _ _ 54 rfl B 9 i0 (.string ByteArray.empty) 1 16 Tryz.underlying54 hi hz0 hz1 hz2 rfl (by decide) _ _ _ rfl (hown.alloc _) ⟨wr.heap.size, 0, none⟩ 1 1 [.string (s.extract f s.size)] rfl rfl (News.one wr _) (by simp [Value.oneCell']) (by unfold maxLen; omega) (by omega) (by simp; omega) ?_; intro v' w3 hown' hgrow _; have R := pa_step HB.out hfi (Nat.le_refl _) hol Hs.out rfl hown hbel ((Below.refl _ _).alloc (Nat.le_refl _) _) hown' hgrow; clear hown' hgrow)
     go_roundw
     case rel => exact R
     case measure => simp [intOf]
    ·have Hs := hid (part_last (f := s.size + 1) (i := s.size + 1) (by rw [size_len]; omega) (hend.2 hfi))
     clear hend hp
     go_wp2
     go_roundw
     case rel => exact ⟨s.size + 1, s.size + 1, out, Nat.le_refl _, Nat.le_refl _, by go_num, by go_num, by omega, Hs.out, hown, hbel⟩
     case measure => simp [intOf]
   ·have Hs := hid (part_done (by rw [size_len]; omega) hp)
    clear hp
    go_wp2
    go_ret
    exact ⟨_, rfl, by rw [Hs.out, HB.out]; exact hid hown, by rw [HB.out]; exact hbel⟩
end Go.Proofs.YtlpececggkdhmaaGreat.Pa
namespace Go.Proofs.YtlpececggkdhmaaGreat
section
open Go.RowKit Ino
variable {A B : Nat} {own : Nat → Prop} {t : T}
theorem dMay_any (r u s k g want : Int) (i : Nat) (hi : i ≤ 200) (hm : Mo.wfI (t i).mode) (w : World) (h : RT w A B own t) :
 Calls Tryz.prog 84 #[.pointer (some ⟨A, 0, none⟩), .agg #[.int .i64 r, .int .i64 u, .int .i64 s, .int .i64 k, .int .i64 g], .int .i64 i, .int .i64 want] w fun e w' => e = .returned (.bool (mayT t i u g want)) ∧ Below w.heap.size w w' := by
 have htop := h.top
 have hA := h.lt.1
 have hB := h.lt.2
 obtain ⟨p, cap, c0, c1, c2, c3, c4, c5, c6, c7, c8, c9, -⟩ := h.cells i hi
 have HM := hid (fun W => Mo.refMay_any (t i).mode (t i).owner (t i).group ((t i).kind == 1) u g want W)
 have Hr := hid (show mayT t i u g want = Mo.refMayB (t i).mode (t i).owner (t i).group ((t i).kind == 1) u g want from (Mo.refMay_eq _ _ _ _ _ _ _ hm).symm)
 clear h hm
 generalize Mo.refMayB (t i).mode (t i).owner (t i).group ((t i).kind == 1) u g want = R at *
 generalize t i = nd at *
 obtain ⟨n0, n1, n2, n3, n4, n5, n6, n7, n8, n9⟩ := nd
 simp only at c0 c1 c2 c3 c4 c5 c6 c7 c8 c9 HM
 generalize (⟨n8.toArray⟩ : ByteArray) = sd at *
 generalize (List.length n9) = ln at *
 go_enter Tryz.func84, Tryz.ntmps84
 go_wp2_with fail
 refine (HM.out _).mono ?_
 rintro e w' ⟨rfl, rfl⟩
 go_wp2
 go_ret
 exact ⟨ret_bool Hr.out.symm, bel2 _ _ _⟩
end
section
open Go.RowKit Ino
variable {A B : Nat} {own : Nat → Prop} {t : T}
theorem RT.setMode {w : World} {A B : Nat} {own : Nat → Prop} {t : T} (h : RT w A B own t) (x : Nat) (m : Int) (hx : x ≤ 200) : RT (w.setCell ⟨B, x * 10 + 2, none⟩ (.int .i64 m)) A B own (upd t x { t x with mode := m }) := by
 refine h.set1 x 2 hx (by omega) _ _ rfl fun v k hk => ?_
 match k, hk with
 | 0, _ => rfl
 | 1, _ => rfl
 | 2, _ => rfl
 | 3, _ => rfl
 | 4, _ => rfl
 | 5, _ => rfl
 | 6, _ => rfl
 | 7, _ => rfl
 | 8, _ => rfl
 | 9, _ => rfl
theorem dPlainer_any (i : Nat) (hi : i ≤ 200) (w : World) (h : RT w A B own t) :
 Calls Tryz.prog 89 #[.pointer (some ⟨A, 0, none⟩), .int .i64 i] w fun e w' => e = .returned (.tuple #[]) ∧ RT w' A B own (plainT t i) ∧ Fr (· = B) w w' := by
 have htop := h.top
 have hA := h.lt.1
 have hB := h.lt.2
 obtain ⟨p, cap, -, -, c2, -⟩ := h.cells i hi
 have hf := h.frozen (i * 10 + 2)
 have Hn := hid (h.setMode i (bits .andNot .i64 (t i).mode 2048) hi)
 have Hr := hid (show plainT t i = upd t i { t i with mode := bits .andNot .i64 (t i).mode 2048 } from rfl)
 clear h
 generalize (t i).mode = m at *
 go_enter Tryz.func89, Tryz.ntmps89
 go_region
 have hn := Hn.out.drew
 have Hn2 := hid hn
 clear hn
 go_wp2
 exact bodyPost_end (v := .tuple #[]) (by simp [results, Tryz.results89, go_sem]) rfl ⟨rfl, by rw [Hr.out]; exact Hn2.out, ((Fr.refl _ _).setB _ _).drew⟩
end
end Go.Proofs.YtlpececggkdhmaaGreat
