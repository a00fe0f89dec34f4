import Derived.Test.YtlpececggkdhmaaGreatM1
import Derived.Test.YtlpececggkdhmaaGreatM7
import Derived.Test.YtlpececggkdhmaaGreatM8
import Derived.Test.YtlpececggkdhmaaGreatM16
import Derived.Test.YtlpececggkdhmaaGreatM22
set_option linter.unusedVariables false
set_option linter.unusedSimpArgs false
namespace Go.Proofs.YtlpececggkdhmaaGreat.Ino
open Pa Mo
def mayT (t : T) (i : Nat) (u g want : Int) : Bool := mayB (t i).mode (t i).owner (t i).group ((t i).kind == 1) u g want
def lookE (t : T) (x : Nat) (u g : Int) : Nat := if (t x).kind = 1 then (if mayT t x u g 1 = true then 0 else 4) else 6
def downT (t : T) (u g : Int) : Nat → List Bs → Nat × Nat
 | x, [] => (x, 0)
 | x, n :: r => if lookE t x u g = 0 then (if (lookP t x n).2 = true then downT t u g (lookP t x n).1 r else (0, 3)) else (0, lookE t x u g)
def startI (cwd : Int) (abs : Bool) : Int := if abs = true then 1 else cwd
def downP (t : T) (cwd u g : Int) (abs : Bool) (l : List Bs) : Nat × Nat :=
 if isI t (startI cwd abs) = true then downT t u g (startI cwd abs).toNat l else (0, 3)
def findP (t : T) (cwd u g : Int) (s : Bs) : Nat × Nat :=
 if splE s = 0 then
  (if (downP t cwd u g (absP s) (nam s)).2 = 0 then
    (if dirP s = true ∧ (t (downP t cwd u g (absP s) (nam s)).1).kind ≠ 1 then (0, 6) else ((downP t cwd u g (absP s) (nam s)).1, 0))
  else (0, (downP t cwd u g (absP s) (nam s)).2))
 else (0, splE s)
structure Plc where
 dir : Nat
 name : Bs
 must : Bool
 err : Nat
def lastN (l : List Bs) : Bs := l.getLastD []
def placeP (t : T) (cwd u g : Int) (s : Bs) : Plc :=
 if splE s = 0 then
  (if nam s = [] ∨ lastN (nam s) = [46, 46] then ⟨0, [], false, 1⟩
  else if (downP t cwd u g (absP s) (nam s).dropLast).2 = 0 then
   (if lookE t (downP t cwd u g (absP s) (nam s).dropLast).1 u g = 0 then ⟨(downP t cwd u g (absP s) (nam s).dropLast).1, lastN (nam s), dirP s, 0⟩
   else ⟨0, [], false, lookE t (downP t cwd u g (absP s) (nam s).dropLast).1 u g⟩)
  else ⟨0, [], false, (downP t cwd u g (absP s) (nam s).dropLast).2⟩)
 else ⟨0, [], false, splE s⟩
def plainT (t : T) (x : Nat) : T := upd t x { t x with mode := bits .andNot .i64 (t x).mode 2048 }
def stickyT (t : T) (u : Int) (d x : Nat) : Bool := (bits .and .i64 (t d).mode 512 == 0) || (u == 0 || (u == (t d).owner || u == (t x).owner))
noncomputable def createP (t : T) (u g : Int) (d : Nat) (n : Bs) (kind mode : Int) : T × Nat × Nat :=
 if (makeP t (rMake kind mode u g 0) kind mode u g 0).2.2 = 0 then
  (if (enterP (makeP t (rMake kind mode u g 0) kind mode u g 0).1 d n (makeP t (rMake kind mode u g 0) kind mode u g 0).2.1).2 = 0 then
    ((enterP (makeP t (rMake kind mode u g 0) kind mode u g 0).1 d n (makeP t (rMake kind mode u g 0) kind mode u g 0).2.1).1, (makeP t (rMake kind mode u g 0) kind mode u g 0).2.1, 0)
  else ((dropP (enterP (makeP t (rMake kind mode u g 0) kind mode u g 0).1 d n (makeP t (rMake kind mode u g 0) kind mode u g 0).2.1).1 (makeP t (rMake kind mode u g 0) kind mode u g 0).2.1).1, 0, (enterP (makeP t (rMake kind mode u g 0) kind mode u g 0).1 d n (makeP t (rMake kind mode u g 0) kind mode u g 0).2.1).2))
 else ((makeP t (rMake kind mode u g 0) kind mode u g 0).1, 0, (makeP t (rMake kind mode u g 0) kind mode u g 0).2.2)
noncomputable def makesP (t : T) (u g : Int) (d : Nat) (n : Bs) (kind mode : Int) : T × Nat × Nat :=
 if mayT t d u g 2 = true then createP t u g d n kind mode else (t, 0, 4)
def oldP (t : T) (u g : Int) (x : Nat) (want : Int) (empty : Bool) : T × Nat × Nat :=
 if want ≠ 4 ∧ (t x).kind = 1 then (t, 0, 7)
 else if mayT t x u g want = true then
  (if empty = true ∧ want ≠ 4 ∧ (t x).kind = 0 then (plainT (cutP (holdP t x).1 x).1 x, x, 0) else ((holdP t x).1, x, 0))
 else (t, 0, 4)
def wantOk (w : Int) : Bool := w == 4 || (w == 2 || w == 6)
noncomputable def openP (t : T) (cwd u g : Int) (s : Bs) (want : Int) (mk alone empty : Bool) (mode : Int) : T × Nat × Nat :=
 if wantOk want = true ∧ rMode mode = true then
  if mk = true then
   if (placeP t cwd u g s).err = 0 then
    if (lookP t (placeP t cwd u g s).dir (placeP t cwd u g s).name).2 = true then
     if alone = true then (t, 0, 5)
     else if (placeP t cwd u g s).must = true ∧ (t (lookP t (placeP t cwd u g s).dir (placeP t cwd u g s).name).1).kind ≠ 1 then (t, 0, 6)
     else oldP t u g (lookP t (placeP t cwd u g s).dir (placeP t cwd u g s).name).1 want empty
    else if (placeP t cwd u g s).must = true then (t, 0, 7)
    else makesP t u g (placeP t cwd u g s).dir (placeP t cwd u g s).name 0 mode
   else (t, 0, (placeP t cwd u g s).err)
  else if (findP t cwd u g s).2 = 0 then oldP t u g (findP t cwd u g s).1 want empty
  else (t, 0, (findP t cwd u g s).2)
 else (t, 0, 1)
noncomputable def mkdirP (t : T) (cwd u g : Int) (s : Bs) (mode : Int) : T × Nat :=
 if rMode mode = true then
  if (placeP t cwd u g s).err = 0 then
   if (lookP t (placeP t cwd u g s).dir (placeP t cwd u g s).name).2 = true then (t, 5)
   else if (makesP t u g (placeP t cwd u g s).dir (placeP t cwd u g s).name 1 mode).2.2 = 0 then
    ((dropP (makesP t u g (placeP t cwd u g s).dir (placeP t cwd u g s).name 1 mode).1 (makesP t u g (placeP t cwd u g s).dir (placeP t cwd u g s).name 1 mode).2.1).1, 0)
   else ((makesP t u g (placeP t cwd u g s).dir (placeP t cwd u g s).name 1 mode).1, (makesP t u g (placeP t cwd u g s).dir (placeP t cwd u g s).name 1 mode).2.2)
  else (t, (placeP t cwd u g s).err)
 else (t, 1)
noncomputable def rmP (t : T) (cwd u g : Int) (s : Bs) (want : Bool) : T × Nat :=
 if (placeP t cwd u g s).err = 0 then
  if (lookP t (placeP t cwd u g s).dir (placeP t cwd u g s).name).2 = true then
   if (want || (placeP t cwd u g s).must) = true ∧ (t (lookP t (placeP t cwd u g s).dir (placeP t cwd u g s).name).1).kind ≠ 1 then (t, 6)
   else if want = false ∧ (t (lookP t (placeP t cwd u g s).dir (placeP t cwd u g s).name).1).kind = 1 then (t, 7)
   else if mayT t (placeP t cwd u g s).dir u g 2 = true then
    if stickyT t u (placeP t cwd u g s).dir (lookP t (placeP t cwd u g s).dir (placeP t cwd u g s).name).1 = true then removeP t (placeP t cwd u g s).dir (placeP t cwd u g s).name
    else (t, 2)
   else (t, 4)
  else (t, 3)
 else (t, (placeP t cwd u g s).err)
noncomputable def linkP (t : T) (cwd u g : Int) (s a : Bs) : T × Nat :=
 if (findP t cwd u g s).2 = 0 then
  if (t (findP t cwd u g s).1).kind = 1 then (t, 7)
  else if (placeP t cwd u g a).err = 0 then
   if (lookP t (placeP t cwd u g a).dir (placeP t cwd u g a).name).2 = true then (t, 5)
   else if (placeP t cwd u g a).must = true then (t, 6)
   else if mayT t (placeP t cwd u g a).dir u g 2 = true then enterP t (placeP t cwd u g a).dir (placeP t cwd u g a).name (findP t cwd u g s).1
   else (t, 4)
  else (t, (placeP t cwd u g a).err)
 else (t, (findP t cwd u g s).2)
noncomputable def renP (t : T) (cwd u g : Int) (s a : Bs) : T × Nat :=
 if (placeP t cwd u g s).err = 0 then
  if (lookP t (placeP t cwd u g s).dir (placeP t cwd u g s).name).2 = true then
   if (placeP t cwd u g a).err = 0 then
    if ((placeP t cwd u g s).must || (placeP t cwd u g a).must) = true ∧ (t (lookP t (placeP t cwd u g s).dir (placeP t cwd u g s).name).1).kind ≠ 1 then (t, 6)
    else if mayT t (placeP t cwd u g s).dir u g 2 = true ∧ mayT t (placeP t cwd u g a).dir u g 2 = true then
     if stickyT t u (placeP t cwd u g s).dir (lookP t (placeP t cwd u g s).dir (placeP t cwd u g s).name).1 = true ∧ ((lookP t (placeP t cwd u g a).dir (placeP t cwd u g a).name).2 = true → stickyT t u (placeP t cwd u g a).dir (lookP t (placeP t cwd u g a).dir (placeP t cwd u g a).name).1 = true) then
      moveP t (placeP t cwd u g s).dir (placeP t cwd u g s).name (placeP t cwd u g a).dir (placeP t cwd u g a).name
     else (t, 2)
    else (t, 4)
   else (t, (placeP t cwd u g a).err)
  else (t, 3)
 else (t, (placeP t cwd u g s).err)
def chmodP (t : T) (cwd u g : Int) (s : Bs) (m : Int) : T × Nat :=
 if (findP t cwd u g s).2 = 0 then
  if u = 0 ∨ u = (t (findP t cwd u g s).1).owner then
   setP t (findP t cwd u g s).1 (rMode m && (rId (t (findP t cwd u g s).1).owner && rId (t (findP t cwd u g s).1).group)) m (t (findP t cwd u g s).1).owner (t (findP t cwd u g s).1).group
  else (t, 2)
 else (t, (findP t cwd u g s).2)
def chownP (t : T) (cwd u g : Int) (s : Bs) (o k : Int) : T × Nat :=
 if (findP t cwd u g s).2 = 0 then
  if u = 0 ∨ (u = (t (findP t cwd u g s).1).owner ∧ o = (t (findP t cwd u g s).1).owner ∧ (k = g ∨ k = (t (findP t cwd u g s).1).group)) then
   setP t (findP t cwd u g s).1 (rMode (bits .andNot .i64 (t (findP t cwd u g s).1).mode 2048) && (rId o && rId k)) (bits .andNot .i64 (t (findP t cwd u g s).1).mode 2048) o k
  else (t, 2)
 else (t, (findP t cwd u g s).2)
def fputP (t : T) (i a : Int) (s : Bs) : T × Nat :=
 if (putP t i a s).2 = 0 then (plainT (putP t i a s).1 i.toNat, 0) else putP t i a s
end Go.Proofs.YtlpececggkdhmaaGreat.Ino
namespace Go.Proofs.YtlpececggkdhmaaGreat.Ino
open Pa Mo
def infT (t : T) (x : Nat) : Inf := ⟨x, (t x).kind, (t x).mode, (t x).owner, (t x).group, links t x, ((t x).data.length : Int) + ((t x).ents.length : Int), (t x).tty⟩
theorem stat_inf {t : T} {x : Nat} (h : isI t (x : Int) = true) : statP t (x : Int) = (infT t x, true) := by
 unfold statP infT
 rw [if_pos h, Int.toNat_natCast]
theorem stat_no {t : T} {i : Int} (h : isI t i = false) : statP t i = (noInf, false) := by
 unfold statP
 rw [h, if_neg Bool.false_ne_true]
def lookI (t : T) (i : Int) (n : Bs) : Inf × Bool := if (lookP t i n).2 = true then statP t (lookP t i n).1 else (noInf, false)
theorem par_is {t : T} (h : Sd t) {x : Nat} (hx : (t x).kind = 1) : (t (t x).parent).is = true := by
 rcases h.dpar x hx with ⟨_, h2⟩ | ⟨_, h2⟩
 ·rw [h2]
  cases hi : (t x).is
  ·rw [h.none_ x hi] at hx; cases hx
  ·rfl
 ·obtain ⟨e, he, _⟩ := List.countP_pos_iff.1 h2
  exact h.ents_is he
theorem look_to {t : T} (h : Sd t) {x : Nat} {n : Bs} (hl : (lookP t (x : Int) n).2 = true) : isI t ((lookP t (x : Int) n).1 : Int) = true := by
 unfold lookP at hl ⊢
 cases hd : isD t (x : Int)
 ·rw [hd, if_neg Bool.false_ne_true] at hl; cases hl
 ·rw [hd, if_pos rfl] at hl
  rw [if_pos rfl]
  have hI : isI t (x : Int) = true := by unfold isD at hd; simp only [Bool.and_eq_true] at hd; exact hd.1
  have hk : (t x).kind = 1 := by unfold isD at hd; simp only [Bool.and_eq_true, decide_eq_true_eq, Int.toNat_natCast] at hd; exact hd.2
  rw [Int.toNat_natCast] at hl ⊢
  split
  ·exact hI
  ·rename_i h1
   rw [if_neg h1] at hl
   split
   ·rw [isI_cast h]; exact par_is h hk
   ·rename_i h2
    rw [if_neg h2] at hl
    cases hf : findE (t x).ents n with
    | none => rw [hf] at hl; cases hl
    | some y =>
     rw [isI_cast h]
     exact h.tgt x _ (findE_mem hf)
theorem lookI_eq {t : T} (h : Sd t) (x : Nat) (n : Bs) : lookI t (x : Int) n = if (lookP t (x : Int) n).2 = true then (infT t (lookP t (x : Int) n).1, true) else (noInf, false) := by
 unfold lookI
 by_cases hl : (lookP t (x : Int) n).2 = true
 ·rw [if_pos hl, if_pos hl, stat_inf (look_to h hl)]
 ·rw [if_neg hl, if_neg hl]
def mayI (a : Inf) (u g want : Int) : Bool := mayB a.mode a.owner a.group (a.kind == 1) u g want
def lookX (a : Inf) (u g : Int) : Nat := if a.kind = 1 then (if mayI a u g 1 = true then 0 else 4) else 6
theorem lookX_inf (t : T) (x : Nat) (u g : Int) : lookX (infT t x) u g = lookE t x u g := rfl
theorem mayI_inf (t : T) (x : Nat) (u g want : Int) : mayI (infT t x) u g want = mayT t x u g want := rfl
def resI (t : T) (u g : Int) : Inf → List Bs → Inf × Nat
 | a, [] => (a, 0)
 | a, n :: r => if lookX a u g = 0 then (if (lookI t a.ino n).2 = true then resI t u g (lookI t a.ino n).1 r else (noInf, 3)) else (noInf, lookX a u g)
theorem resI_eq {t : T} (h : Sd t) (u g : Int) : ∀ (l : List Bs) (x : Nat), resI t u g (infT t x) l = if (downT t u g x l).2 = 0 then (infT t (downT t u g x l).1, 0) else (noInf, (downT t u g x l).2)
 | [], x => rfl
 | n :: r, x => by
  unfold resI downT
  rw [lookX_inf]
  by_cases h1 : lookE t x u g = 0
  ·rw [if_pos h1, if_pos h1]
   show (if (lookI t (x : Int) n).2 = true then resI t u g (lookI t (x : Int) n).1 r else (noInf, 3)) = _
   rw [lookI_eq h]
   by_cases h2 : (lookP t (x : Int) n).2 = true
   ·rw [if_pos h2, if_pos rfl, if_pos h2]
    exact resI_eq h u g r _
   ·rw [if_neg h2, if_neg Bool.false_ne_true, if_neg h2]; rfl
  ·rw [if_neg h1, if_neg h1, if_neg (show ¬ ((0, lookE t x u g) : Nat × Nat).2 = 0 from h1)]
theorem down_is {t : T} (h : Sd t) (u g : Int) : ∀ (l : List Bs) (x : Nat), isI t (x : Int) = true → (downT t u g x l).2 = 0 → isI t ((downT t u g x l).1 : Int) = true
 | [], _, hx, _ => hx
 | n :: r, x, hx, he => by
  unfold downT at he ⊢
  by_cases h1 : lookE t x u g = 0
  ·rw [if_pos h1] at he ⊢
   by_cases h2 : (lookP t (x : Int) n).2 = true
   ·rw [if_pos h2] at he ⊢
    exact down_is h u g r _ (look_to h h2) he
   ·rw [if_neg h2] at he; cases he
  ·rw [if_neg h1] at he; exact absurd he h1
def resP (t : T) (cwd u g : Int) (abs : Bool) (l : List Bs) : Inf × Nat := if (statP t (startI cwd abs)).2 = true then resI t u g (statP t (startI cwd abs)).1 l else (noInf, 3)
theorem downP_is {t : T} (h : Sd t) (cwd u g : Int) (abs : Bool) (l : List Bs) (he : (downP t cwd u g abs l).2 = 0) : isI t ((downP t cwd u g abs l).1 : Int) = true := by
 unfold downP at he ⊢
 by_cases hs : isI t (startI cwd abs) = true
 ·rw [if_pos hs] at he ⊢
  refine down_is h u g l _ ?_ he
  obtain ⟨⟨h1, h2⟩, h3⟩ := isI_iff.1 hs
  rw [isI_cast h]; exact h3
 ·rw [if_neg hs] at he; cases he
def toldI (t : T) (r : Nat × Nat) : Inf × Nat := if r.2 = 0 then (infT t r.1, 0) else (noInf, r.2)
theorem resP_eq {t : T} (h : Sd t) (cwd u g : Int) (abs : Bool) (l : List Bs) : resP t cwd u g abs l = toldI t (downP t cwd u g abs l) := by
 unfold resP downP toldI
 cases hs : isI t (startI cwd abs)
 ·rw [stat_no hs, if_neg Bool.false_ne_true]; rfl
 ·obtain ⟨⟨h1, h2⟩, h3⟩ := isI_iff.1 hs
  obtain ⟨k, hk⟩ : ∃ k : Nat, startI cwd abs = (k : Int) := ⟨(startI cwd abs).toNat, by omega⟩
  rw [hk] at hs ⊢
  rw [stat_inf hs, if_pos rfl, if_pos rfl, Int.toNat_natCast]
  exact resI_eq h u g l k
end Go.Proofs.YtlpececggkdhmaaGreat.Ino
namespace Go.Proofs.YtlpececggkdhmaaGreat.Ino
def Md (t : T) : Prop := ∀ i, rOk (t i).mode (t i).owner (t i).group = true
theorem md_none : rOk noN.mode noN.owner noN.group = true := by decide
theorem Md.upd {t : T} (h : Md t) (i : Nat) {v : Nod} (hv : rOk v.mode v.owner v.group = true) : Md (upd t i v) := fun j => by
 by_cases e : j = i
 ·rw [e, upd_same]; exact hv
 ·rw [upd_other _ _ e]; exact h j
theorem Md.del {t : T} (h : Md t) (i : Nat) : Md (del t i) := fun j => by
 unfold Ino.del
 split
 ·exact md_none
 ·split <;> exact h j
theorem Md.run : ∀ (l : List Nat) {t : T}, Md t → Md (run t l)
 | [], _, h => h
 | i :: l, _, h => Md.run l (h.del i)
theorem Md.gone {t : T} (h : Md t) : Md (goneP t) := by
 obtain ⟨l, _, h2, _⟩ := goneP_gone t
 rw [← h2]
 exact h.run l
theorem md_new {m o g : Int} (h : rOk m o g = true) : Md (newP m o g) := Md.upd (fun _ => md_none) 1 h
theorem rMake_ok {kind m o g tty : Int} (h : rMake kind m o g tty = true) : rOk m o g = true := by
 unfold rMake at h
 unfold rOk
 simp only [Bool.and_eq_true] at h ⊢
 exact ⟨h.1.1.1.2, h.1.1.2, h.1.2⟩
theorem Md.make {t : T} (h : Md t) (kind m o g tty : Int) : Md (makeP t (rMake kind m o g tty) kind m o g tty).1 := by
 unfold makeP
 split
 ·rename_i hk
  split
  ·exact h
  ·exact h.upd _ (rMake_ok hk)
 ·exact h
theorem Md.hold {t : T} (h : Md t) (i : Int) : Md (holdP t i).1 := by
 unfold holdP
 split
 ·exact h.upd _ (h i.toNat)
 ·exact h
theorem Md.drop {t : T} (h : Md t) (i : Int) : Md (dropP t i).1 := by
 unfold dropP
 split
 ·refine Md.gone ?_
  exact h.upd _ (h i.toNat)
 ·exact h
theorem Md.set {t : T} (h : Md t) (i m o g : Int) : Md (setP t i (rOk m o g) m o g).1 := by
 unfold setP
 split
 ·split
  ·rename_i hk
   exact h.upd _ hk
  ·exact h
 ·exact h
theorem Md.put {t : T} (h : Md t) (i a : Int) (s : Bs) : Md (putP t i a s).1 := by
 unfold putP
 split
 ·exact h
 ·split
  ·exact h
  ·split
   ·exact h
   ·exact h.upd _ (h i.toNat)
theorem Md.cut {t : T} (h : Md t) (i : Int) : Md (cutP t i).1 := by
 unfold cutP
 split
 ·exact h
 ·exact h.upd _ (h i.toNat)
theorem Md.setPar {t : T} (h : Md t) (x p : Nat) : Md (setPar t x p) := fun j => by
 unfold Ino.setPar
 split <;> exact h j
theorem Md.setEnts {t : T} (h : Md t) (d : Nat) (l : List (Bs × Nat)) : Md (setEnts t d l) := h.upd _ (h d)
theorem Md.add {t : T} (h : Md t) (d : Nat) (s : Bs) (x : Nat) : Md (add t d s x) := (h.setEnts _ _).setPar _ _
theorem Md.rem {t : T} (h : Md t) (d : Nat) (s : Bs) (x : Nat) : Md (rem t d s x) := (h.setEnts _ _).setPar _ _
theorem Md.enter {t : T} (h : Md t) (d : Int) (s : Bs) (i : Int) : Md (enterP t d s i).1 := by
 unfold enterP
 (repeat' split) <;> first | exact h | exact h.add _ _ _
theorem Md.remove {t : T} (h : Md t) (d : Int) (s : Bs) : Md (removeP t d s).1 := by
 unfold removeP
 (repeat' split) <;> first | exact h | exact (h.rem _ _ _).gone
theorem Md.moved {t : T} (h : Md t) (d : Nat) (s : Bs) (to : Nat) (a : Bs) (x : Nat) : Md (movedT t d s to a x) := by
 unfold movedT
 refine (Md.rem ?_ _ _ _).add _ _ _
 split
 ·exact h
 ·exact h.rem _ _ _
theorem Md.move {t : T} (h : Md t) (d : Int) (s : Bs) (to : Int) (a : Bs) : Md (moveP t d s to a).1 := by
 unfold moveP
 (repeat' split) <;> first | exact h | exact (h.moved _ _ _ _ _).gone
end Go.Proofs.YtlpececggkdhmaaGreat.Ino
