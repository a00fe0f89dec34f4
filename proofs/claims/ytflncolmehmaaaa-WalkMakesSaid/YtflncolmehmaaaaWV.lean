/- How a call by a path answers in a tree of which little is known. Plain mathematics. -/
import Derived.Test.YtflncolmehmaaaaWU
namespace Go.Proofs.Ytflncolmehmaaaa
open Ino Pa Mo

theorem links_zero {t : T} {x : Nat} (h : ∀ j, cnt (t j).ents x = 0) : links t x = 0 := by
  have key : ∀ n, linksTo n t x = 0 := by
    intro n
    induction n with
    | zero => rfl
    | succ n ih => unfold linksTo; rw [ih, h n]
  exact key 201
theorem links_fresh {t : T} (h : Sd t) {x : Nat} (hx : (t x).is = false) : links t x = 0 := links_zero fun j => by
  refine List.countP_eq_zero.2 fun e he hc => ?_
  have h1 := h.tgt j e he
  have h2 : e.2 = x := by simpa using hc
  rw [h2, hx] at h1
  cases h1
theorem not_within {t : T} (h : Sd t) {d x : Nat} (hi : (t x).is = true) (hx : (t x).ents = []) (hne : d ≠ x) : ¬ Within t d x := by
  rintro ⟨n, hn⟩
  have hx1 := (h.range x hi).1
  induction n with
  | zero => exact hne hn
  | succ n ih =>
    rw [iter_succ] at hn
    by_cases e : iter t n d = x
    · exact ih e
    · have hp : (t (iter t n d)).parent = x := hn
      generalize iter t n d = y at *
      by_cases hk : (t y).kind = 1
      · rcases h.dpar y hk with ⟨_, h2⟩ | ⟨_, h2⟩
        · exact e (h2.symm.trans hp)
        · rw [hp, hx] at h2; exact Nat.lt_irrefl 0 h2
      · rw [h.npar y hk] at hp; omega
theorem enter_ok {t : T} {d x : Nat} {n : Bs} (h1 : isI t (d : Int) = true) (h2 : isI t (x : Int) = true) (h3 : (t d).kind = 1) (h4 : nameOk n = true) (h5 : findE (t d).ents n = none)
    (h6 : ¬ (x = 1 ∨ ((t x).kind = 1 ∧ 0 < links t x) ∨ 8 ≤ links t x)) (h7 : (t d).ents.length < 40) (h8 : ¬ ((t x).kind = 1 ∧ Within t d x)) : enterP t (d : Int) n (x : Int) = (add t d n x, 0) := by
  unfold enterP
  rw [if_pos ⟨h1, h2⟩, Int.toNat_natCast, Int.toNat_natCast, if_pos h3, if_pos h4, if_neg (by rw [h5]; exact Bool.false_ne_true), if_neg (fun q => h6 (q.imp (fun k => Int.ofNat.inj k) id)), if_neg (by omega), if_neg h8]
theorem make_ok {t : T} {kind mode u g : Int} {i : Nat} (hf : freeP t = some i) (hk : rMake kind mode u g 0 = true) : makeP t (rMake kind mode u g 0) kind mode u g 0 = (upd t i (madeN kind mode u g 0 i), i, 0) := by
  unfold makeP
  rw [if_pos hk, hf]
theorem free_facts {t : T} {i : Nat} (hf : freeP t = some i) : 1 ≤ i ∧ i ≤ 200 ∧ (t i).is = false := by
  obtain ⟨h1, h2, h3, _⟩ := freeUp_some hf
  exact ⟨h1, by omega, h3⟩
/-- what is made at a place. -/
def madeT (t : T) (u g : Int) (d : Nat) (nm : Bs) (kind mode : Int) (i : Nat) : T := add (upd t i (madeN kind mode u g 0 i)) d nm i
theorem create_ok {t : T} (hs : Sound t) {u g : Int} {d : Nat} {nm : Bs} {kind mode : Int} {i : Nat} (hf : freeP t = some i) (hk : rMake kind mode u g 0 = true) (hd : (t d).is = true) (hdk : (t d).kind = 1) (hn : nameOk nm = true)
    (he : findE (t d).ents nm = none) (hl : (t d).ents.length < 40) : createP t u g d nm kind mode = (madeT t u g d nm kind mode i, i, 0) := by
  obtain ⟨i1, i2, i3⟩ := free_facts hf
  have hne : d ≠ i := fun e => by rw [e, i3] at hd; cases hd
  have hi1 : i ≠ 1 := fun e => by rw [e, hs.sd.root.1] at i3; cases i3
  have s1 : Sound (upd t i (madeN kind mode u g 0 i)) := by
    have := sound_make hs (rMake kind mode u g 0) kind mode u g 0 (rMake_kinds _ _ _ _ _)
    rw [make_ok hf hk] at this
    exact this
  have hL : links (upd t i (madeN kind mode u g 0 i)) i = 0 := by
    have := links_upd t i (madeN kind mode u g 0 i) i i2
    rw [links_fresh hs.sd i3] at this
    have h2 : cnt (madeN kind mode u g 0 i).ents i = 0 := rfl
    omega
  have hE := enter_ok (t := upd t i (madeN kind mode u g 0 i)) (d := d) (x := i) (n := nm) (by rw [isI_cast s1.sd, upd_other _ _ hne]; exact hd) (by rw [isI_cast s1.sd, upd_same]; rfl) (by rw [upd_other _ _ hne]; exact hdk) hn (by rw [upd_other _ _ hne]; exact he)
    (by rw [hL]; rintro (q | ⟨_, q⟩ | q) <;> omega) (by rw [upd_other _ _ hne]; exact hl) (fun q => not_within s1.sd (by rw [upd_same]; rfl) (by rw [upd_same]; rfl) hne q.2)
  unfold createP
  rw [make_ok hf hk]
  simp only [if_true]
  rw [hE]
  simp only [if_true]
  rfl
/-- .. and let go. -/
def mkT (t : T) (u g : Int) (d : Nat) (nm : Bs) (kind mode : Int) (i : Nat) : T := upd (madeT t u g d nm kind mode i) i { madeT t u g d nm kind mode i i with holds := 0 }
theorem made_links {t : T} (hs : Sound t) {u g : Int} {d : Nat} {nm : Bs} {kind mode : Int} {i : Nat} (hd : d ≤ 200) (hi : i ≤ 200) (hn : (t i).is = false) (x : Nat) : links (madeT t u g d nm kind mode i) x = links t x + (if i = x then 1 else 0) := by
  unfold madeT
  rw [links_add hd]
  have := links_upd t i (madeN kind mode u g 0 i) x hi
  have h1 : cnt (madeN kind mode u g 0 i).ents x = 0 := rfl
  have h2 : cnt (t i).ents x = 0 := by rw [hs.sd.none_ i hn]; rfl
  omega
theorem drop_made {t : T} (hs : Sound t) {u g : Int} {d : Nat} {nm : Bs} {kind mode : Int} {i : Nat} (hf : freeP t = some i) (hd : d ≤ 200) (hi : isI (madeT t u g d nm kind mode i) (i : Int) = true) : dropP (madeT t u g d nm kind mode i) (i : Int) = (mkT t u g d nm kind mode i, true) := by
  obtain ⟨i1, i2, i3⟩ := free_facts hf
  have hh : (madeT t u g d nm kind mode i i).holds = 1 := by unfold madeT; rw [add_holds, upd_same]; rfl
  have hN : Normal (mkT t u g d nm kind mode i) := by
    rintro j ⟨h1, h2, h3, h4, h5⟩
    have hL : links (mkT t u g d nm kind mode i) j = links t j + (if i = j then 1 else 0) :=
      (links_upd_same (madeT t u g d nm kind mode i) i { madeT t u g d nm kind mode i i with holds := 0 } j rfl).trans (made_links hs hd i2 i3 j)
    rw [hL] at h5
    by_cases e : i = j
    · rw [if_pos e] at h5; omega
    · rw [if_neg e, Nat.add_zero] at h5
      have e1 : mkT t u g d nm kind mode i j = madeT t u g d nm kind mode i j := by unfold mkT; rw [upd_other _ _ (Ne.symm e)]
      rw [e1] at h3 h4
      have e2 : (madeT t u g d nm kind mode i j).is = (t j).is := by unfold madeT; rw [add_is, upd_other _ _ (Ne.symm e)]
      have e3 : (madeT t u g d nm kind mode i j).holds = (t j).holds := by unfold madeT; rw [add_holds, upd_other _ _ (Ne.symm e)]
      rw [e2] at h3
      rw [e3] at h4
      exact hs.alive j ⟨h1, h2, h3, h4, h5⟩
  unfold dropP
  have hz : (madeT t u g d nm kind mode i i).holds - 1 = 0 := by rw [hh]
  have hne : (madeT t u g d nm kind mode i i).holds ≠ 0 := by rw [hh]; exact Nat.one_ne_zero
  rw [Int.toNat_natCast, if_pos ⟨hi, hne⟩, hz]
  show (goneP (mkT t u g d nm kind mode i), true) = _
  rw [goneP_of_normal hN]
theorem mkdir_ok {t : T} (hs : Sound t) {cwd u g : Int} {s : Bs} {mode : Int} {d : Nat} {nm : Bs} {m : Bool} {i : Nat} (h0 : rMode mode = true) (hp : placeP t cwd u g s = ⟨d, nm, m, 0⟩) (hf : freeP t = some i) (hk : rMake 1 mode u g 0 = true)
    (hd : (t d).is = true) (hdk : (t d).kind = 1) (hn : nameOk nm = true) (he : findE (t d).ents nm = none) (hl : (t d).ents.length < 40) (hm : mayT t d u g 2 = true) (hlk : (lookP t (d : Int) nm).2 = false) :
    mkdirP t cwd u g s mode = (mkT t u g d nm 1 mode i, 0) := by
  obtain ⟨i1, i2, i3⟩ := free_facts hf
  have hC := create_ok hs (u := u) (g := g) (kind := 1) (mode := mode) hf hk hd hdk hn he hl
  have s2 : Sound (madeT t u g d nm 1 mode i) := by
    have := sound_create hs u g d nm 1 mode
    rw [hC] at this
    exact this
  have hD := drop_made hs (u := u) (g := g) (nm := nm) (kind := 1) (mode := mode) hf (hs.sd.range d hd).2 (by rw [isI_cast s2.sd]; unfold madeT; rw [add_is, upd_same]; rfl)
  unfold mkdirP makesP
  rw [hp]
  simp only [h0, if_true, hlk, Bool.false_eq_true, if_false, hm, hC, hD]
theorem open_new {t : T} (hs : Sound t) {cwd u g : Int} {s : Bs} {want mode : Int} {em : Bool} {al : Bool} {d : Nat} {nm : Bs} {i : Nat} (hw : wantOk want = true) (h0 : rMode mode = true) (hp : placeP t cwd u g s = ⟨d, nm, false, 0⟩) (hf : freeP t = some i) (hk : rMake 0 mode u g 0 = true)
    (hd : (t d).is = true) (hdk : (t d).kind = 1) (hn : nameOk nm = true) (he : findE (t d).ents nm = none) (hl : (t d).ents.length < 40) (hm : mayT t d u g 2 = true) (hlk : (lookP t (d : Int) nm).2 = false) :
    openP t cwd u g s want true al em mode = (madeT t u g d nm 0 mode i, i, 0) := by
  have hC := create_ok hs (u := u) (g := g) (kind := 0) (mode := mode) hf hk hd hdk hn he hl
  unfold openP makesP
  rw [hp]
  simp only [hw, h0, and_self, if_true, hlk, Bool.false_eq_true, if_false, hm, hC]
end Go.Proofs.Ytflncolmehmaaaa
