import Derived.Test.YtlpececggkdhmaaGreatM3
import Derived.Test.YtlpececggkdhmaaGreatM8
open Go.Lib (hid)
set_option linter.unusedVariables false
set_option linter.unusedSimpArgs false
set_option maxHeartbeats 2000000
namespace Go.Proofs.YtlpececggkdhmaaGreat.Ino
def V (t : T) (pd : Nat → Nat) : T := fun j => if (t j).kind = 1 ∧ 0 < pd j then { t j with parent := j } else t j
theorem V_in {t : T} {pd : Nat → Nat} {j : Nat} (h1 : (t j).kind = 1) (h2 : 0 < pd j) : V t pd j = { t j with parent := j } := if_pos ⟨h1, h2⟩
theorem V_out {t : T} {pd : Nat → Nat} {j : Nat} (h : ¬ ((t j).kind = 1 ∧ 0 < pd j)) : V t pd j = t j := if_neg h
theorem V_ents (t : T) (pd : Nat → Nat) (j : Nat) : (V t pd j).ents = (t j).ents := by unfold V; split <;> rfl
theorem V_kind (t : T) (pd : Nat → Nat) (j : Nat) : (V t pd j).kind = (t j).kind := by unfold V; split <;> rfl
theorem V_is (t : T) (pd : Nat → Nat) (j : Nat) : (V t pd j).is = (t j).is := by unfold V; split <;> rfl
theorem V_holds (t : T) (pd : Nat → Nat) (j : Nat) : (V t pd j).holds = (t j).holds := by unfold V; split <;> rfl
theorem V_links (t : T) (pd : Nat → Nat) (x : Nat) : links (V t pd) x = links t x := links_congr x fun j => V_ents t pd j
theorem V_zero (t : T) {pd : Nat → Nat} (h : ∀ x, pd x = 0) : V t pd = t := by
 funext j
 exact V_out (by rw [h]; omega)
structure Pend (t : T) (pd : Nat → Nat) (x : Nat) : Prop where
 sd : Sd (V t pd)
 pis : ∀ y, 0 < pd y → (t y).is = true
 le8 : ∀ y, links t y + pd y ≤ 8
 alive : ∀ i, i ≠ x → 2 ≤ i → i ≤ 200 → (t i).is = true → (t i).holds = 0 → 0 < links t i + pd i
theorem Pend.is_of {t : T} {pd : Nat → Nat} {x : Nat} (h : Pend t pd x) {i : Nat} (hi : (t i).is = true) : 1 ≤ i ∧ i ≤ 200 := h.sd.range i (by rw [V_is]; exact hi)
theorem Pend.sound {t : T} {pd : Nat → Nat} (h : Pend t pd 0) (h0 : ∀ y, pd y = 0) : Sound t := by
 have hs := h.sd
 rw [V_zero t h0] at hs
 refine ⟨hs, fun i hi => ?_⟩
 obtain ⟨h1, h2, h3, h4, h5⟩ := hi
 have := h.alive i (by omega) h1 h2 h3 h4
 have := h0 i
 omega
def dec (pd : Nat → Nat) (x : Nat) : Nat → Nat := fun i => if i = x then pd i - 1 else pd i
theorem dec_same (pd : Nat → Nat) (x : Nat) : dec pd x x = pd x - 1 := if_pos rfl
theorem dec_other (pd : Nat → Nat) {x i : Nat} (h : i ≠ x) : dec pd x i = pd i := if_neg h
def selfP (t : T) (x : Nat) : T := if (t x).kind = 1 then upd t x { t x with parent := x } else t
theorem selfP_is (t : T) (x j : Nat) : (selfP t x j).is = (t j).is := by
 unfold selfP; split
 ·unfold upd; split
  ·rename_i e; rw [e]
  ·rfl
 ·rfl
theorem selfP_kind (t : T) (x j : Nat) : (selfP t x j).kind = (t j).kind := by
 unfold selfP; split
 ·unfold upd; split
  ·rename_i e; rw [e]
  ·rfl
 ·rfl
theorem selfP_ents (t : T) (x j : Nat) : (selfP t x j).ents = (t j).ents := by
 unfold selfP; split
 ·unfold upd; split
  ·rename_i e; rw [e]
  ·rfl
 ·rfl
theorem selfP_holds (t : T) (x j : Nat) : (selfP t x j).holds = (t j).holds := by
 unfold selfP; split
 ·unfold upd; split
  ·rename_i e; rw [e]
  ·rfl
 ·rfl
theorem selfP_other (t : T) {x j : Nat} (h : j ≠ x) : selfP t x j = t j := by
 unfold selfP; split
 ·exact upd_other _ _ h
 ·rfl
theorem selfP_links (t : T) (x y : Nat) : links (selfP t x) y = links t y := links_congr y fun j => selfP_ents t x j
theorem V_selfP {t : T} {pd : Nat → Nat} {x : Nat} (hp : 0 < pd x) : V (selfP t x) (dec pd x) = V t pd := by
 funext j
 by_cases e : j = x
 ·subst e
  by_cases hk : (t j).kind = 1
  ·rw [V_in hk hp]
   have hs : selfP t j j = { t j with parent := j } := by unfold selfP; rw [if_pos hk, upd_same]
   by_cases h2 : 0 < dec pd j j
   ·rw [V_in (by rw [selfP_kind]; exact hk) h2, hs]
   ·rw [V_out (fun h => h2 h.2), hs]
  ·rw [V_out (fun h => hk h.1), V_out (fun h => hk (by rw [← selfP_kind t j j]; exact h.1))]
   unfold selfP
   rw [if_neg hk]
 ·unfold V
  rw [selfP_other t e, dec_other pd e]
theorem Pend.selfP {t : T} {pd : Nat → Nat} {x : Nat} (h : Pend t pd 0) (hp : 0 < pd x) : Pend (selfP t x) (dec pd x) x := by
 have hd : ∀ y, dec pd x y ≤ pd y := fun y => by unfold dec; split <;> omega
 refine ⟨by rw [V_selfP hp]; exact h.sd, fun y hy => ?_, fun y => ?_, fun i hne h2 h3 h4 h5 => ?_⟩
 ·rw [selfP_is]
  exact h.pis y (Nat.lt_of_lt_of_le hy (hd y))
 ·rw [selfP_links]
  have := h.le8 y
  have := hd y
  omega
 ·rw [selfP_is] at h4
  rw [selfP_holds] at h5
  rw [selfP_links, dec_other pd hne]
  exact h.alive i (by omega) h2 h3 h4 h5
def addP (pd : Nat → Nat) (l : List (Bs × Nat)) : Nat → Nat := fun i => pd i + cnt l i
theorem V_goes {t : T} {pd : Nat → Nat} {x : Nat} (hp : pd x = 0) (hc : cnt (t x).ents x = 0) : V (upd t x noN) (addP pd (t x).ents) = del (V t pd) x := by
 funext j
 by_cases e : j = x
 ·subst e
  rw [del_self, V_out (by rw [upd_same]; rintro ⟨h, _⟩; exact absurd h (by decide)), upd_same]
 ·have hL : V (upd t x noN) (addP pd (t x).ents) j = if (t j).kind = 1 ∧ 0 < addP pd (t x).ents j then { t j with parent := j } else t j := by
   unfold V; rw [upd_other _ _ e]
  rw [hL]
  by_cases hk : (t j).kind = 1
  ·by_cases hh : 0 < cnt (t x).ents j
   ·rw [if_pos ⟨hk, (by unfold addP; omega)⟩, del_in e (by rw [V_kind]; exact hk) (by rw [V_ents]; exact has_iff.2 hh)]
    unfold V
    split <;> rfl
   ·have h2 : ¬ has ((V t pd x).ents) j = true := by rw [V_ents, has_iff]; exact hh
    have : addP pd (t x).ents j = pd j := by unfold addP; omega
    rw [del_out e (fun h => h2 h.2), this]
    rfl
  ·rw [if_neg (fun h => hk h.1), del_out e (fun h => hk (by rw [← V_kind t pd j]; exact h.1)), V_out (fun h => hk h.1)]
theorem Pend.delOk {t : T} {pd : Nat → Nat} {x : Nat} (h : Pend t pd x) (hi : (t x).is = true) (h1 : x ≠ 1) (hh : (t x).holds = 0) (hl : links t x + pd x = 0) : DelOk (V t pd) x := by
 have := h.is_of hi
 exact ⟨by omega, by omega, by rw [V_is]; exact hi, by rw [V_holds]; exact hh, by rw [V_links]; omega⟩
theorem links_noN {t : T} {x : Nat} (hx : x ≤ 200) (y : Nat) : links (upd t x noN) y + cnt (t x).ents y = links t y := by
 have h := links_upd t x noN y hx
 have : cnt noN.ents y = 0 := rfl
 omega
theorem Pend.goes {t : T} {pd : Nat → Nat} {x : Nat} (h : Pend t pd x) (hi : (t x).is = true) (h1 : x ≠ 1) (hh : (t x).holds = 0) (hl : links t x + pd x = 0) : Pend (upd t x noN) (addP pd (t x).ents) 0 := by
 have hd := h.delOk hi h1 hh hl
 have hr := h.is_of hi
 have hc : cnt (t x).ents x = 0 := by have := cnt_le_links (t := t) (i := x) (x := x) hr.2; omega
 have hL := fun y => links_noN (t := t) hr.2 y
 refine ⟨by rw [V_goes (by omega) hc]; exact h.sd.del hd, fun y hy => ?_, fun y => ?_, fun i h0 h2 h3 h4 h5 => ?_⟩
 ·have hyx : y ≠ x := by rintro rfl; unfold addP at hy; omega
  rw [upd_other _ _ hyx]
  by_cases hp : 0 < pd y
  ·exact h.pis y hp
  ·obtain ⟨e, he, rfl⟩ := cnt_pos.1 (show 0 < cnt (t x).ents y by unfold addP at hy; omega)
   have := h.sd.tgt x e (by rw [V_ents]; exact he)
   rw [V_is] at this
   exact this
 ·have := h.le8 y
  have := hL y
  unfold addP
  omega
 ·by_cases e : i = x
  ·subst e; rw [upd_same] at h4; cases h4
  ·rw [upd_other _ _ e] at h4 h5
   have := h.alive i e h2 h3 h4 h5
   have := hL i
   unfold addP
   omega
theorem _root_.Go.Proofs.YtlpececggkdhmaaGreat.Steps.refl (t : T) : Steps t t := ⟨[], trivial, rfl⟩
theorem _root_.Go.Proofs.YtlpececggkdhmaaGreat.Steps.trans {t u v : T} (h : Steps t u) (k : Steps u v) : Steps t v := by
 obtain ⟨l, h1, rfl⟩ := h
 obtain ⟨m, k1, rfl⟩ := k
 exact ⟨l ++ m, okAll_append l m t h1 k1, run_append l m t⟩
theorem _root_.Go.Proofs.YtlpececggkdhmaaGreat.Steps.one {t : T} {i : Nat} (h : DelOk t i) : Steps t (del t i) := (Steps.refl t).snoc h
theorem _root_.Go.Proofs.YtlpececggkdhmaaGreat.Steps.gone {t u : T} (h : Steps t u) (hn : Normal u) : goneP t = u := by
 obtain ⟨l, h1, h2⟩ := h
 exact goneP_eq ⟨l, h1, h2, hn⟩
def rest (l : List (Bs × Nat)) (p : Bs → Bool) : List (Bs × Nat) := l.filter fun e => p e.1
theorem rest_none {l : List (Bs × Nat)} {p : Bs → Bool} (h : ∀ n, p n = false) : rest l p = [] := by
 unfold rest
 rw [List.filter_eq_nil_iff]
 intro e _
 rw [h]; exact Bool.false_ne_true
theorem rest_all {l : List (Bs × Nat)} {p : Bs → Bool} (h : ∀ e ∈ l, p e.1 = true) : rest l p = l := List.filter_eq_self.2 h
theorem cnt_rest {l : List (Bs × Nat)} {p q : Bs → Bool} {n : Bs} {x : Nat} (hu : (l.map (·.1)).Nodup) (hm : (n, x) ∈ l) (hp : p n = true) (hq : ∀ m, q m = (p m && m != n)) (y : Nat) :
 cnt (rest l p) y = cnt (rest l q) y + (if x = y then 1 else 0) := by
 induction l with
 | nil => cases hm
 | cons a l ih =>
  rw [List.map_cons, List.nodup_cons] at hu
  have hcons : ∀ r : Bs → Bool, cnt (rest (a :: l) r) y = (if r a.1 = true then (if a.2 = y then 1 else 0) else 0) + cnt (rest l r) y := fun r => by
   unfold rest
   rw [List.filter_cons]
   split
   ·rw [show a :: List.filter (fun e => r e.1) l = [(a.1, a.2)] ++ List.filter (fun e => r e.1) l from rfl, cnt_append, cnt_one]
   ·omega
  rw [hcons p, hcons q]
  rcases List.mem_cons.1 hm with e | e
  ·subst e
   have hsame : rest l p = rest l q := by
    unfold rest
    refine List.filter_congr fun b hb => ?_
    rw [hq]
    have : b.1 ≠ n := fun e2 => hu.1 (by rw [← e2]; exact List.mem_map.2 ⟨b, hb, rfl⟩)
    simp [this]
   rw [hsame, hq]
   simp only [hp, bne_self_eq_false, Bool.and_false, if_true, Bool.false_eq_true, if_false]
   omega
  ·have hne : a.1 ≠ n := fun e2 => hu.1 (by rw [e2]; exact List.mem_map.2 ⟨_, e, rfl⟩)
   have hqa : q a.1 = p a.1 := by rw [hq]; simp [hne]
   rw [ih hu.2 e, hqa]
   omega
end Go.Proofs.YtlpececggkdhmaaGreat.Ino
namespace Go.Proofs.YtlpececggkdhmaaGreat
section
open Go.RowKit Ino Go.Maps
variable {A : Nat} {nb mb : Nat → Nat}
def lkOf (t : T) (pd : Nat → Nat) (i : Nat) : Nat := links t i + pd i
def Sub (u t : T) : Prop := (∀ i, (u i).is = true → (t i).is = true) ∧ ∀ i, (u i).kind = 1 → (t i).kind = 1
theorem Sub.refl (t : T) : Sub t t := ⟨fun _ => id, fun _ => id⟩
theorem Sub.trans {t u v : T} (h : Sub v u) (k : Sub u t) : Sub v t := ⟨fun i hi => k.1 i (h.1 i hi), fun i hi => k.2 i (h.2 i hi)⟩
def UnlinkOk (A : Nat) (nb mb : Nat → Nat) (n : Nat) : Prop := ∀ (t : T) (pd : Nat → Nat) (x : Nat) (w : World), count 201 t ≤ n → PT w A nb mb t (lkOf t pd) → Pend t pd 0 → 0 < pd x →
 Calls Tryz.prog 128 #[.pointer (some ⟨A, 0, none⟩), .int .i64 x] w fun e w' => e = .returned (.tuple #[]) ∧ ∃ t', PT w' A nb mb t' (lkOf t' (dec pd x)) ∧ Pend t' (dec pd x) 0 ∧ Steps (V t pd) (V t' (dec pd x)) ∧ Sub t' t ∧ Fr (Nb A nb t) w w'
def SweepOk (A : Nat) (nb mb : Nat → Nat) (n : Nat) : Prop := ∀ (t : T) (pd : Nat → Nat) (x : Nat) (w : World), count 201 t ≤ n → PT w A nb mb t (lkOf t pd) → Pend t pd x → (t x).is = true →
 Calls Tryz.prog 98 #[.pointer (some ⟨A, 0, none⟩), .int .i64 x] w fun e w' => e = .returned (.tuple #[]) ∧ ∃ t', PT w' A nb mb t' (lkOf t' pd) ∧ Pend t' pd 0 ∧ Steps (V t pd) (V t' pd) ∧ Sub t' t ∧ Fr (Nb A nb t) w w'
theorem nb_sub {u t : T} (h : Sub u t) {g : Nat} (hg : Nb A nb u g) : Nb A nb t g := by
 rcases hg with rfl | ⟨i, hi, rfl⟩
 ·exact .inl rfl
 ·exact .inr ⟨i, h.1 i hi, rfl⟩
theorem selfP_sub (t : T) (x : Nat) : Sub (selfP t x) t := ⟨fun i hi => by rw [selfP_is] at hi; exact hi, fun i hi => by rw [selfP_kind] at hi; exact hi⟩
theorem unlink_of {n : Nat} (hsw : SweepOk A nb mb n) : UnlinkOk A nb mb n := by
 intro t pd x w hn h hp hpx
 have hix := hp.pis x hpx
 have hr := hp.is_of hix
 have h8 := hp.le8 x
 have c0 := h.get (i := x) (by omega)
 unfold ptrV at c0
 rw [hix, if_pos rfl] at c0
 obtain ⟨k0, -, -, -, c4, -, -, -, c8, -⟩ := h.cells hix
 have f4 := h.frozen hix 4
 have f8 := h.frozen hix 8
 have hA := h.nbA hix
 obtain ⟨k, hk⟩ : ∃ k : Nat, lkOf t pd x = k + 1 := ⟨lkOf t pd x - 1, by unfold lkOf; omega⟩
 have hk8 : k + 1 ≤ 8 := by rw [← hk]; exact h8
 have H1 := hid (h.setLinks hix k)
 rw [hk] at c4
 have Hp := hid (hp.selfP hpx)
 have Hsw := hid hsw
 clear hsw hp h
 have hw1 : IntKind.i64.wrap (((k + 1 : Nat) : Int) - 1) = (k : Int) := by rw [IntKind.wrap_i64]; omega
 have hlk : ∀ i, (t i).is = true → lkOf (selfP t x) (dec pd x) i = if i = x then k else lkOf t pd i := fun i _ => by
  unfold lkOf at hk ⊢
  rw [selfP_links]
  by_cases e : i = x
  ·subst e; rw [if_pos rfl, dec_same]; omega
  ·rw [if_neg e, dec_other pd e]
 by_cases hkd : (t x).kind = 1
 ·have H2 := hid ((H1.out.setParent hix x).congr (t' := selfP t x) (lk' := lkOf (selfP t x) (dec pd x)) (by unfold selfP; rw [if_pos hkd]) (fun i hi => hlk i (by rw [upd_is t x i _ (by rfl)] at hi; exact hi)))
  obtain ⟨k0', -⟩ := H1.out.cells hix
  rw [hkd] at k0'
  have hct : count 201 (selfP t x) ≤ n := by rw [count_congr (t := selfP t x) (u := t) 201 (fun i _ => selfP_is t x i)]; exact hn
  have hS := Hsw.out (selfP t x) (dec pd x) x _ hct H2.out Hp.out (by rw [selfP_is]; exact hix)
  have hFr : Fr (Nb A nb t) w ((w.setCell ⟨nb x, 4, none⟩ (.int .i64 k)).setCell ⟨nb x, 8, none⟩ (.int .i64 x)) :=
   ((Fr.refl _ _).setCell (p := ⟨nb x, 4, none⟩) (.inl (.inr ⟨x, hix, rfl⟩)) _).setCell (p := ⟨nb x, 8, none⟩) (.inl (.inr ⟨x, hix, rfl⟩)) _
  have HF := hid hFr
  have HV := hid (V_selfP (t := t) hpx)
  have HS := hid hS
  clear hkd hlk hS hFr Hsw H1 H2 Hp hct hpx hix h8 hn
  go_enter Tryz.func128, Tryz.ntmps128
  go_wp2_with (first
   | (go_at_call 57; refine (isDir_at _ _ _ k0').mono ?_; rintro e w' ⟨rfl, rfl⟩)
   | (go_at_call 98; refine HS.out.mono ?_; rintro e w' ⟨rfl, t', h1, h2, h3, h4, h5⟩))
  go_end0
  exact ⟨rfl, t', h1, h2, by rw [← HV.out]; exact h3, h4.trans (selfP_sub t x), HF.out.trans (h5.mono fun g _ hg => nb_sub (selfP_sub t x) hg)⟩
 ·have H2 := hid (H1.out.congr (t' := selfP t x) (lk' := lkOf (selfP t x) (dec pd x)) (by unfold selfP; rw [if_neg hkd]) hlk)
  obtain ⟨k0', -⟩ := H1.out.cells hix
  have hct : count 201 (selfP t x) ≤ n := by rw [count_congr (t := selfP t x) (u := t) 201 (fun i _ => selfP_is t x i)]; exact hn
  have hS := Hsw.out (selfP t x) (dec pd x) x _ hct H2.out Hp.out (by rw [selfP_is]; exact hix)
  have hFr : Fr (Nb A nb t) w (w.setCell ⟨nb x, 4, none⟩ (.int .i64 k)) :=
   ((Fr.refl _ _).setCell (p := ⟨nb x, 4, none⟩) (.inl (.inr ⟨x, hix, rfl⟩)) _)
  have HF := hid hFr
  have HV := hid (V_selfP (t := t) hpx)
  have HS := hid hS
  have hd : decide ((t x).kind = 1) = false := decide_eq_false hkd
  clear hkd hlk hS hFr Hsw H1 H2 Hp hct hpx hix h8 hn k0
  generalize (t x).kind = kd at k0' hd
  go_enter Tryz.func128, Tryz.ntmps128
  go_wp2_with (first
   | (go_at_call 57; refine (isDir_at _ _ _ k0').mono ?_; rintro e w' ⟨rfl, rfl⟩)
   | (go_at_call 98; refine HS.out.mono ?_; rintro e w' ⟨rfl, t', h1, h2, h3, h4, h5⟩))
  go_end0
  exact ⟨rfl, t', h1, h2, by rw [← HV.out]; exact h3, h4.trans (selfP_sub t x), HF.out.trans (h5.mono fun g _ hg => nb_sub (selfP_sub t x) hg)⟩
end
section
open Go.RowKit Ino Go.Maps
variable {A : Nat} {nb mb : Nat → Nat}
theorem sameKey_str (n m : Bs) : (Lit.string n).sameKey (.string m) = (n == m) := by
 by_cases e : n = m
 ·rw [e, WideAt.sameKey_self (keyLit m)]; simp
 ·rw [Maps.sameKey_ne (fun e2 => e (by cases e2; rfl))]; simp [e]
theorem keyOf_str_inv {key : Value} {kl : Lit} (h : keyOf Tryz.prog 9 key = some kl) : ∃ s : ByteArray, key = .string s ∧ kl = .string s.data.toList := by
 cases key <;> simp [keyOf, undStr, mapKey] at h
 exact ⟨_, rfl, h.2.symm⟩
theorem wpl_next {w : World} {ops : Array Oper} {rest : List Oper} {o : Oper} {a : Act} {Q : Exit → Act → World → Prop} {l : List (Bs × Nat)} (hg : o.guard = none) (it : Operand) (hop : o.op = Op.next it false)
 (b r n : Nat) (D : DataW Unit) (left : Lit → Bool) (cnt : Nat) (hit : a.eval it = .pointer (some ⟨r, 0, none⟩)) (h : w.ranges Tryz.prog 9 (plainElem Tryz.prog 3) b r n D left cnt) (hAg : Ag D l)
 (hDone : (∀ kl, left kl = false) → wpList Tryz.prog ops Q rest (a.put o.dst (.tuple #[.bool false])) w)
 (hMore : ∀ (s : ByteArray) (c : Nat) (w' : World) (cnt' : Nat), (s.data.toList, c) ∈ l → left (.string s.data.toList) = true → w'.ranges Tryz.prog 9 (plainElem Tryz.prog 3) b r n D (fun z => left z && !z.sameKey (.string s.data.toList)) cnt' → cnt' < cnt →
   w.grownBy w' (some r) → (Instr.entry (.pointer (some ⟨r, 0, none⟩))).run Tryz.prog w' = .ok (.tuple #[.string s, .int .i64 c]) w' → wpList Tryz.prog ops Q rest (a.put o.dst (.tuple #[.bool true, .string s, .int .i64 c])) w') :
 wpList Tryz.prog ops Q (o :: rest) a w :=
 wpList_next_ranges w hg it hop 9 strLaw (plainElem Tryz.prog 3) Value.string (Value.int .i64) (fun key kl hkey => by obtain ⟨x, rfl, _⟩ := keyOf_str_inv hkey; exact ⟨x, rfl⟩) (fun v y hv => by obtain ⟨c, rfl, _⟩ := plainElem_int_inv undInt hv; exact ⟨c, rfl⟩)
  b r n D left cnt hit h (fun _ => hDone) (fun s c kl y w' cnt' hkey hlk hv hat hrg hlt hgr _ hen => by
   obtain ⟨s', es, rfl⟩ := keyOf_str_inv hkey
   cases es
   obtain ⟨c', ec, rfl, _⟩ := plainElem_int_inv undInt hv
   cases ec
   have h1 := Maps.has_true_of_atKey hat
   rw [hAg.has] at h1
   obtain ⟨x, hx⟩ := Option.isSome_iff_exists.1 h1
   have h2 := hat (.lit (.int .i64 0))
   rw [hAg.val _ _ hx] at h2
   cases h2
   exact hMore s x w' cnt' (findE_mem hx) hlk hrg hlt hgr hen)
theorem ranges_blocks {w w' : World} {k : TypeId} {R : Value → Option (DataW Unit × List MemPlace)} {b r n cnt : Nat} {D : DataW Unit} {left : Lit → Bool} (h : w.ranges Tryz.prog k R b r n D left cnt) (hb : w'.heap[b]? = w.heap[b]?) (hr : w'.heap[r]? = w.heap[r]?) : w'.ranges Tryz.prog k R b r n D left cnt := by
 obtain ⟨es, clock, since, seen, c0, h1, h2, h3, h4, h5, h6⟩ := h
 exact ⟨es, clock, since, seen, c0, hb.trans h1, h2, h3, h4, hr.trans h5, h6⟩
theorem Fr.grown {S : Nat → Prop} {a b c : World} {r : Nat} (h : Fr S a b) (k : b.grownBy c (some r)) (hr : a.heap.size ≤ r) : Fr S a c :=
 ⟨k.os.trans h.os, k.tape.trans h.tape, k.output.trans h.output, Nat.le_trans h.size k.size, fun i hi hn => (k.block i (Nat.lt_of_lt_of_le hi h.size) (fun e => by cases e; omega)).trans (h.block i hi hn)⟩
theorem Ino.Pend.still {t : T} {pd : Nat → Nat} {x : Nat} (h : Pend t pd x) (hx : x ≠ 1 → (t x).holds = 0 → 0 < links t x + pd x) : Pend t pd 0 :=
 ⟨h.sd, h.pis, h.le8, fun i h0 h2 h3 h4 h5 => by
  by_cases e : i = x
  ·subst e; exact hx (by omega) h5
  ·exact h.alive i e h2 h3 h4 h5⟩
theorem upd_sub (t : T) (x : Nat) : Sub (upd t x noN) t := by
 constructor
 ·intro i hi
  by_cases e : i = x
  ·rw [e, upd_same] at hi; cases hi
  ·rw [upd_other _ _ e] at hi; exact hi
 ·intro i hi
  by_cases e : i = x
  ·rw [e, upd_same] at hi; cases hi
  ·rw [upd_other _ _ e] at hi; exact hi
theorem count_gone {t : T} {x : Nat} (hi : (t x).is = true) (hx : x ≤ 200) : count 201 (upd t x noN) + 1 = count 201 t := by
 rw [← count_del t x hi 201 (by omega)]
 refine congrArg (· + 1) (count_congr 201 fun i _ => ?_)
 by_cases e : i = x
 ·rw [e, upd_same, del_self]
 ·rw [upd_other _ _ e, del_is t e]
theorem sub_count {u t : T} (h : Sub u t) : ∀ n, count n u ≤ count n t
 | 0 => Nat.le_refl _
 | n + 1 => by
  have := sub_count h n
  unfold count
  cases hu : (u n).is
  ·simp; omega
  ·rw [h.1 n hu]; simp; omega
def swRel (A : Nat) (nb mb : Nat → Nat) (t : T) (pd : Nat → Nat) (x r n : Nat) (D : DataW Unit) (w wr : World) : Prop :=
 ∃ (left : Lit → Bool) (cnt : Nat) (u : T), wr.ranges Tryz.prog 9 (plainElem Tryz.prog 3) (mb x) r n D left cnt ∧ PT wr A nb mb u (lkOf u (addP pd (rest (t x).ents fun s => left (.string s)))) ∧
  Pend u (addP pd (rest (t x).ents fun s => left (.string s))) 0 ∧ Steps (V t pd) (V u (addP pd (rest (t x).ents fun s => left (.string s)))) ∧ Sub u (upd t x noN) ∧ Fr (Nb A nb t) w wr
set_option maxRecDepth 100000 in
theorem sweep_of {n : Nat} (hul : ∀ m, m < n → UnlinkOk A nb mb m) : SweepOk A nb mb n := by
 intro t pd x w hn h hp hix
 have hr := hp.is_of hix
 have h8 := hp.le8 x
 have c0 := h.get (i := x) (by omega)
 unfold ptrV at c0
 rw [hix, if_pos rfl] at c0
 obtain ⟨-, -, -, -, c4, c5, -, c7, -⟩ := h.cells hix
 have hA := h.nbA hix
 by_cases hst : x ≠ 1 → (t x).holds = 0 → 0 < links t x + pd x
 ·have Hp := hid (hp.still hst)
  have H := hid h
  by_cases hx1 : x = 1
  ·subst hx1
   clear hp h hst hul
   go_enter Tryz.func98, Tryz.ntmps98
   go_wp2
   (try simp only [Exit.inBlock, Exit.then]); refine bodyPost_ret (results_none rfl _ _ _) rfl ?_
   exact ⟨rfl, t, H.out, Hp.out, Steps.refl _, Sub.refl _, Fr.refl _ _⟩
  ·have hxi : ((x : Int) == 1) = false := by simp; omega
   have hk8 : lkOf t pd x ≤ 8 := h8
   by_cases hk : lkOf t pd x = 0
   ·have hh : (t x).holds ≠ 0 := fun e => by have := hst hx1 e; unfold lkOf at hk; omega
    rw [hk] at c4
    clear hp h hst hul h8
    generalize (t x).holds = hd at c5 hh
    go_enter Tryz.func98, Tryz.ntmps98
    go_wp2
    (try simp only [Exit.inBlock, Exit.then]); refine bodyPost_ret (results_none rfl _ _ _) rfl ?_
    exact ⟨rfl, t, H.out, Hp.out, Steps.refl _, Sub.refl _, Fr.refl _ _⟩
   ·clear hp h hst hul h8
    generalize lkOf t pd x = k at c4 hk hk8
    go_enter Tryz.func98, Tryz.ntmps98
    go_wp2
    (try simp only [Exit.inBlock, Exit.then]); refine bodyPost_ret (results_none rfl _ _ _) rfl ?_
    exact ⟨rfl, t, H.out, Hp.out, Steps.refl _, Sub.refl _, Fr.refl _ _⟩
 ·have hx1 : x ≠ 1 := fun e => hst fun h => absurd e h
  have hh : (t x).holds = 0 := by
   by_cases e : (t x).holds = 0
   ·exact e
   ·exact absurd (fun _ h => absurd h e) hst
  have hl : links t x + pd x = 0 := by
   by_cases e : 0 < links t x + pd x
   ·exact absurd (fun _ _ => e) hst
   ·omega
  have hxi : ((x : Int) == 1) = false := by simp; omega
  rw [show lkOf t pd x = 0 from hl] at c4
  rw [hh] at c5
  have fA := h.frozenA x
  have H1 := h.clear x
  have hct := count_gone hix hr.2
  have hlk : lkOf (upd t x noN) (addP pd (t x).ents) = lkOf t pd := by
   funext i
   have := links_noN (t := t) hr.2 i
   unfold lkOf addP
   omega
  rw [← hlk] at H1
  have Hg := hp.goes hix hx1 hh hl
  have hS1 := Steps.one (hp.delOk hix hx1 hh hl)
  rw [← V_goes (t := t) (pd := pd) (x := x) (by omega) (by have := cnt_le_links (t := t) (i := x) (x := x) hr.2; omega)] at hS1
  have hF1 : Fr (Nb A nb t) w (w.setCell ⟨A, x, none⟩ (.pointer none)) := (Fr.refl _ _).setCell (p := ⟨A, x, none⟩) (.inl (.inl rfl)) _
  by_cases hk : (t x).kind = 1
  ·have hm : EMap (w.setCell ⟨A, x, none⟩ (.pointer none)) (mb x) (t x).ents := (h.maps x hk).of_block (Below.heap_setCell _ _ _ _ (h.mbA hk))
   obtain ⟨D, hown, hAg⟩ := hm
   unfold mapV at c7
   rw [if_pos hk] at c7
   have hu : ((t x).ents.map (·.1)).Nodup := by have := hp.sd.uniq x; rw [V_ents] at this; exact this
   have hltA := h.ltA
   have hltN := fun i (hi : (t i).is = true) => h.ltN hi
   have hltM := fun i (hi : (t i).kind = 1) => h.ltM hi
   have hmbA := h.mbA hk
   have hnm := fun i (hi : (t i).is = true) => h.nbmb hi hk
   have HltN := hid hltN
   have HltM := hid hltM
   have Hnm := hid hnm
   have Hul := hid hul
   have Hct := hid hct
   have HAg := hid hAg
   have Hu := hid hu
   have Hsub0 := hid (upd_sub t x)
   have HPT := hid H1
   have HPd := hid Hg
   have HS1 := hid hS1
   have HF1 := hid hF1
   have hsz : (w.setCell ⟨A, x, none⟩ (.pointer none)).heap.size = w.heap.size := by simp [World.setCell]
   have hr200 : x ≤ 200 := hr.2
   have hkm := (hltM x hk)
   clear hp h hst hul h8 hlk hct hltN hltM hnm hAg hu H1 Hg hS1 hF1 hh hl hk hix
   go_enter Tryz.func98, Tryz.ntmps98
   go_wp2_with (first
    | (at_range; refine wpList_range_own _ rfl _ 108 rfl 9 3 strLaw undMap _ (mb x) (t x).ents.length D rfl hown ?_; intro w0 hrg0 hg0 hs0)
    | go_in)
   go_frame
   go_loopw [6] (fun _ wr => swRel A nb mb t pd x w.heap.size (t x).ents.length D w wr) (fun _ wr => wr.rangeLeft (mb x) w.heap.size)
   case atStart =>
    rw [hsz] at hrg0
    have e1 : rest (t x).ents (fun s => Maps.has D (.string s)) = (t x).ents := rest_all fun e he => by
     rw [HAg.out.has, findE_of_mem Hu.out he]; rfl
    refine ⟨_, _, upd t x noN, hrg0, ?_, ?_, ?_, Sub.refl _, HF1.out.trans ⟨hg0.os, hg0.tape, hg0.output, hg0.size, fun k hk _ => hg0.block k hk (by simp)⟩⟩
    ·rw [e1]; exact HPT.out.blocks fun g hg => hg0.block g (HPT.out.tlt hg) (by simp)
    ·rw [e1]; exact HPd.out
    ·rw [e1]; exact HS1.out
   case round =>
    obtain ⟨left, cnt, u, hrg, hPT, hPd, hSt, hSub, hFr⟩ := hrel
    have HPTu := hid hPT
    have HPdu := hid hPd
    have HStu := hid hSt
    have HSubu := hid hSub
    have HFru := hid hFr
    clear hPT hPd hSt hSub hFr hown
    go_wp2_with (first
     | (at_next; refine wpl_next (l := (t x).ents) rfl _ rfl (mb x) w.heap.size _ D left cnt (congrArg (fun z => Value.pointer (some ⟨z, 0, none⟩)) hsz) hrg HAg.out ?_ ?_)
     | go_in)
    ·intro hl0
     go_wp2
     go_end0
     have e0 : rest (t x).ents (fun s => left (.string s)) = [] := rest_none fun m => hl0 _
     have e1 : addP pd (rest (t x).ents (fun s => left (.string s))) = pd := by
      rw [e0]; funext i; unfold addP; rw [cnt_nil]; omega
     have k1 := HPTu.out
     have k2 := HPdu.out
     have k3 := HStu.out
     rw [e1] at k1 k2 k3
     exact ⟨rfl, u, k1, k2, k3, HSubu.out.trans Hsub0.out, HFru.out⟩
    ·intro s c w1 cnt1 hmem hlx hrg1 hlt hg1 hen
     have hq : ∀ m : Bs, (fun z : Lit => left z && !z.sameKey (.string s.data.toList)) (.string m) = ((fun m => left (.string m)) m && m != s.data.toList) := fun m => by
      show (left (.string m) && !(Lit.string m).sameKey (.string s.data.toList)) = _
      rw [sameKey_str]; rfl
     have hcn := fun y => cnt_rest (p := fun m => left (.string m)) (q := fun m => (fun z : Lit => left z && !z.sameKey (.string s.data.toList)) (.string m)) Hu.out hmem hlx hq y
     have hpos : 0 < addP pd (rest (t x).ents fun m => left (.string m)) c := by
      have := hcn c
      rw [if_pos rfl] at this
      unfold addP
      omega
     have hdec : dec (addP pd (rest (t x).ents fun m => left (.string m))) c = addP pd (rest (t x).ents fun m => (fun z : Lit => left z && !z.sameKey (.string s.data.toList)) (.string m)) := by
      funext y
      have := hcn y
      unfold dec addP
      by_cases e : y = c
      ·rw [if_pos e]
       rw [if_pos e.symm] at this
       omega
      ·rw [if_neg e]
       rw [if_neg (Ne.symm e)] at this
       omega
     have hTb : ∀ g, Tb A nb mb u g → g < w.heap.size := fun g hg => by
      rcases hg with rfl | ⟨i, hi, rfl⟩ | ⟨i, hi, rfl⟩
      ·exact hltA
      ·exact HltN.out i (Hsub0.out.1 i (HSubu.out.1 i hi))
      ·exact HltM.out i (Hsub0.out.2 i (HSubu.out.2 i hi))
     have hPT1 : PT w1 A nb mb u (lkOf u (addP pd (rest (t x).ents fun m => left (.string m)))) := HPTu.out.blocks fun g hg => hg1.block g (HPTu.out.tlt hg) (fun e => by cases e; have := hTb _ hg; omega)
     have hcu : count 201 u < n := by
      have := sub_count HSubu.out 201
      have := Hct.out
      omega
     have hC := Hul.out _ hcu u _ c w1 (Nat.le_refl _) hPT1 HPdu.out hpos
     rw [hdec] at hC
     have HC := hid hC
     have Hrg1 := hid hrg1
     have HF2 := hid (HFru.out.grown hg1 (Nat.le_refl _))
     have hcnt := hrg.left_eq
     have HNb : ∀ g, Nb A nb u g → g ≠ mb x ∧ g < w.heap.size := fun g hg => by
      rcases hg with rfl | ⟨i, hi, rfl⟩
      ·exact ⟨hmbA.symm, hltA⟩
      ·exact ⟨Hnm.out i (Hsub0.out.1 i (HSubu.out.1 i hi)), HltN.out i (Hsub0.out.1 i (HSubu.out.1 i hi))⟩
     have HNb' := hid HNb
     clear hq hcn hpos hdec hTb hPT1 hcu hC hrg1 hrg HNb
     go_wp2_with (go_at_call 128; refine HC.out.mono ?_; rintro e w2 ⟨rfl, u2, k1, k2, k3, k4, k5⟩; go_frame)
     have hsz1 : w1.heap.size ≥ w.heap.size := HF2.out.size
     have hb1 : w2.heap[mb x]? = w1.heap[mb x]? := k5.block _ (by omega) fun e => (HNb'.out _ e).1 rfl
     have hb2 : w2.heap[w.heap.size]? = w1.heap[w.heap.size]? := k5.block _ Hrg1.out.lt fun e => by have := (HNb'.out _ e).2; omega
     have hrg2 := ranges_blocks Hrg1.out hb1 hb2
     go_roundw
     case rel =>
      exact ⟨(fun z : Lit => left z && !z.sameKey (.string s.data.toList)), cnt1, u2, hrg2, k1, k2, HStu.out.trans k3, k4.trans HSubu.out, HF2.out.trans (k5.mono fun g _ hg => nb_sub (HSubu.out.trans Hsub0.out) hg)⟩
     case measure => rw [hrg2.left_eq]; exact hlt
  ·unfold mapV at c7
   rw [if_neg hk] at c7
   have he : (t x).ents = [] := by
    have := hp.sd.dirs x
    rw [V_ents, V_kind] at this
    cases hcs : (t x).ents with
    | nil => rfl
    | cons a l => exact absurd (this (by rw [hcs]; simp)) hk
   have e1 : addP pd (t x).ents = pd := by
    rw [he]; funext i; unfold addP; rw [cnt_nil]; omega
   rw [e1] at H1 Hg hS1
   have HPT := hid H1
   have HPd := hid Hg
   have HS1 := hid hS1
   have HF1 := hid hF1
   have Hsub0 := hid (upd_sub t x)
   clear hp h hst hul h8 hlk hct H1 Hg hS1 hF1 hh hl hk hix he e1
   have c7' : (w.setCell ⟨A, x, none⟩ (.pointer none)).cell? ⟨nb x, 7, none⟩ = some (.map none) := (World.cell?_of_block (Below.heap_setCell _ _ _ _ hA)).trans c7
   generalize hw1 : w.setCell ⟨A, x, none⟩ (.pointer none) = w1 at HPT HF1 c7'
   have hrg := run_range_nilMap (P := Tryz.prog) w1 108 9 3 undMap
   have hnx : ∀ ty, (Instr.next (.pointer (some ⟨w1.heap.size, 0, none⟩)) false ty).run Tryz.prog (w1.alloc (.mapIter none 0 #[] 0)) = _ := fun ty => run_next_nilMap w1 ty 0 0 #[]
   go_enter Tryz.func98, Tryz.ntmps98
   go_wp2
   refine wp_loop_rounds 1 ?_
   rw [rounds_succ]
   go_wp2
   go_end0
   exact ⟨rfl, upd t x noN, HPT.out.alloc _, HPd.out, HS1.out, Hsub0.out, HF1.out.alloc _⟩
theorem sweeps (A : Nat) (nb mb : Nat → Nat) : ∀ n, SweepOk A nb mb n ∧ UnlinkOk A nb mb n := by
 intro n
 induction n using Nat.strongRecOn with
 | ind n ih =>
  have h := sweep_of (n := n) fun m hm => (ih m hm).2
  exact ⟨h, unlink_of h⟩
end
section
open Go.RowKit Ino Go.Maps
def PTo (W : World) (A : Nat) (own : Nat → Prop) (t : T) : Prop := ∃ nb mb, PT W A nb mb t (links t) ∧ ∀ g, Tb A nb mb t g → own g
def Pt (W : World) (A : Nat) (own : Nat → Prop) (t : T) (W' : World) : Prop := ∃ own', PTo W' A own' t ∧ (∀ g, own g → own' g) ∧ (∀ g, own' g → own g ∨ W.heap.size ≤ g) ∧ Fr own W W'
theorem Pt.refl {W : World} {A : Nat} {own : Nat → Prop} {t : T} (h : PTo W A own t) : Pt W A own t W := ⟨own, h, fun _ => id, fun _ => .inl, Fr.refl _ _⟩
theorem Pt.same {W W' : World} {A : Nat} {own : Nat → Prop} {nb mb : Nat → Nat} {t u : T} (h : PT W' A nb mb u (links u)) (ho : ∀ g, Tb A nb mb t g → own g) (hs : Sub u t) (hf : Fr own W W') : Pt W A own u W' :=
 ⟨own, ⟨nb, mb, h, fun g hg => by
  rcases hg with rfl | ⟨i, hi, rfl⟩ | ⟨i, hi, rfl⟩
  ·exact ho _ (.inl rfl)
  ·exact ho _ (.inr (.inl ⟨i, hs.1 i hi, rfl⟩))
  ·exact ho _ (.inr (.inr ⟨i, hs.2 i hi, rfl⟩))⟩, fun _ => id, fun _ => .inl, hf⟩
theorem lkOf0 (t : T) : lkOf t (fun _ => 0) = links t := by
 funext i
 unfold lkOf
 exact Nat.add_zero _
theorem upd_sub1 (t : T) (x : Nat) (n : Nod) (h1 : n.is = (t x).is) (h2 : n.kind = (t x).kind) : Sub (upd t x n) t := ⟨fun i hi => by rw [upd_is t x i n h1] at hi; exact hi, fun i hi => by rw [upd_kind t x i n h2] at hi; exact hi⟩
variable {A : Nat} {own : Nat → Prop} {t : T}
def fileV (t : T) (nb : Nat → Nat) (i : Int) : Value := if fileE t i = 0 then .pointer (some ⟨nb i.toNat, 0, none⟩) else .pointer none
theorem ret_pair {a b c d : Value} (h : a = c) (k : b = d) : Ending.returned (.tuple #[a, b]) = .returned (.tuple #[c, d]) := by rw [h, k]
theorem pfile_any {nb mb : Nat → Nat} {lk : Nat → Nat} (i : Int) (w : World) (h : PT w A nb mb t lk) :
 Calls Tryz.prog 127 #[.pointer (some ⟨A, 0, none⟩), .int .i64 i] w fun e w' => e = .returned (.tuple #[fileV t nb i, .int .i64 (fileE t i)]) ∧ w = w' := by
 have hg := get_any i w h
 cases hi : isI t i
 ·rw [getV_none hi] at hg
  have Hr := hid (show fileE t i = 3 by unfold fileE; rw [hi, if_neg Bool.false_ne_true])
  have Hv := hid (show fileV t nb i = .pointer none by unfold fileV; rw [Hr.out]; rfl)
  clear h hi
  generalize fileV t nb i = fv at Hv ⊢
  generalize fileE t i = fe at Hr ⊢
  go_enter Tryz.func127, Tryz.ntmps127
  go_wp2_with (go_at_call 56; refine hg.mono ?_; rintro e w' ⟨rfl, rfl⟩)
  go_ret2
  exact ⟨ret_pair Hv.out.symm (by rw [Hr.out]; rfl), rfl⟩
 ·obtain ⟨k, rfl, h1, h2, hs⟩ := isI_nat hi
  rw [getV_nat hi] at hg
  obtain ⟨c0, -⟩ := h.cells hs
  have hE : fileE t (k : Int) = if (t k).kind = 1 then 7 else if (t k).kind = 2 then 1 else 0 := by unfold fileE; rw [if_pos hi, Int.toNat_natCast]
  have hV : fileV t nb (k : Int) = if fileE t (k : Int) = 0 then .pointer (some ⟨nb k, 0, none⟩) else .pointer none := by unfold fileV; rw [Int.toNat_natCast]
  have hD := fun w (hc : w.cell? ⟨nb k, 0, none⟩ = some (.int .i64 (t k).kind)) => isDir_at w (nb k) (t k).kind hc
  clear h hi hs
  generalize fileV t nb k = fv at hV ⊢
  generalize fileE t k = fe at hE hV ⊢
  generalize (t k).kind = kd at c0 hE hD
  have HV := hid hV
  have HE := hid hE
  clear hV hE
  by_cases h1 : kd = 1
  ·subst h1
   go_enter Tryz.func127, Tryz.ntmps127
   go_wp2_with (first
    | (go_at_call 56; refine hg.mono ?_; rintro e w' ⟨rfl, rfl⟩)
    | (go_at_call 57; refine (hD _ c0).mono ?_; rintro e w' ⟨rfl, rfl⟩))
   go_ret2
   have e1 : fe = 7 := by rw [HE.out]; rfl
   exact ⟨ret_pair (by rw [HV.out, e1]; rfl) (by rw [e1]; rfl), rfl⟩
  ·have hd : decide (kd = 1) = false := decide_eq_false h1
   by_cases h3 : kd = 2
   ·subst h3
    go_enter Tryz.func127, Tryz.ntmps127
    go_wp2_with (first
     | (go_at_call 56; refine hg.mono ?_; rintro e w' ⟨rfl, rfl⟩)
     | (go_at_call 57; refine (hD _ c0).mono ?_; rintro e w' ⟨rfl, rfl⟩))
    go_ret2
    have e1 : fe = 1 := by rw [HE.out]; rfl
    exact ⟨ret_pair (by rw [HV.out, e1]; rfl) (by rw [e1]; rfl), rfl⟩
   ·go_enter Tryz.func127, Tryz.ntmps127
    go_wp2_with (first
     | (go_at_call 56; refine hg.mono ?_; rintro e w' ⟨rfl, rfl⟩)
     | (go_at_call 57; refine (hD _ c0).mono ?_; rintro e w' ⟨rfl, rfl⟩))
    go_ret2
    have e1 : fe = 0 := by rw [HE.out, if_neg h1, if_neg h3]
    exact ⟨ret_pair (by rw [HV.out, e1]; rfl) (by rw [e1]; rfl), rfl⟩
theorem phold_any (i : Int) (w : World) (h : PTo w A own t) (hb : ∀ k, (t k).holds ≤ 1000000) :
 Calls Tryz.prog 107 #[.pointer (some ⟨A, 0, none⟩), .int .i64 i] w fun e w' => e = .returned (.bool (holdP t i).2) ∧ Pt w A own (holdP t i).1 w' := by
 have H := hid h
 obtain ⟨nb, mb, hP, hO⟩ := h
 have hg := get_any i w hP
 cases hi : isI t i
 ·rw [getV_none hi] at hg
  have Hr := hid (show holdP t i = (t, false) by unfold holdP; rw [hi, if_neg Bool.false_ne_true])
  clear hP hO hi
  go_enter Tryz.func107, Tryz.ntmps107
  go_wp2_with (go_at_call 56; refine hg.mono ?_; rintro e w' ⟨rfl, rfl⟩)
  go_ret
  exact ⟨ret_bool (by rw [Hr.out]), by rw [Hr.out]; exact Pt.refl H.out⟩
 ·obtain ⟨k, rfl, h1, h2, hs⟩ := isI_nat hi
  rw [getV_nat hi] at hg
  obtain ⟨-, -, -, -, -, c5, -⟩ := hP.cells hs
  have f5 := hP.frozen hs 5
  have hbk := hb k
  have Hr := hid (show holdP t (k : Int) = (upd t k { t k with holds := (t k).holds + 1 }, true) by unfold holdP; rw [hi, if_pos rfl, Int.toNat_natCast])
  have hn := hP.setHolds hs ((t k).holds + 1)
  have Hn := hid (Pt.same (W := w) (hn.congr (t' := upd t k { t k with holds := (t k).holds + 1 }) (lk' := links (upd t k { t k with holds := (t k).holds + 1 })) rfl (fun j _ => links_upd_same t k { t k with holds := (t k).holds + 1 } j rfl)) hO (upd_sub1 t k _ rfl rfl) ((Fr.refl own w).setCell (p := ⟨nb k, 5, none⟩) (.inl (hO _ (.inr (.inl ⟨k, hs, rfl⟩)))) _))
  clear hP hO hi hb hn
  generalize (t k).holds = hd at c5 hbk Hr Hn
  have he : IntKind.i64.wrap ((hd : Int) + 1) = ((hd + 1 : Nat) : Int) := by rw [IntKind.wrap_i64]; omega
  go_enter Tryz.func107, Tryz.ntmps107
  go_wp2_with (go_at_call 56; refine hg.mono ?_; rintro e w' ⟨rfl, rfl⟩)
  go_ret
  exact ⟨ret_bool (by rw [Hr.out]), by rw [Hr.out]; exact Hn.out⟩
theorem pend_drop {t : T} (h : Sound t) {k m : Nat} (hs : (t k).is = true) (hm : m ≤ (t k).holds) : Pend (upd t k { t k with holds := m }) (fun _ => 0) k := by
 have hl := fun y => links_upd_same t k { t k with holds := m } y rfl
 refine ⟨?_, fun y hy => absurd hy (Nat.lt_irrefl _), fun y => ?_, fun i hne h2 h3 h4 h5 => ?_⟩
 ·rw [V_zero _ (fun _ => by rfl)]
  exact h.sd.scalar hs hs rfl rfl rfl (fun k => h.sd.file _ k) (h.sd.size _)
 ·rw [hl]
  have := h.sd.eight y
  omega
 ·rw [upd_other _ _ hne] at h4 h5
  rw [hl]
  by_cases e : 0 < links t i
  ·exact Nat.lt_of_lt_of_le e (Nat.le_add_right _ _)
  ·exact absurd ⟨h2, h3, h4, h5, by omega⟩ (h.alive i)
theorem pdrop_any (i : Int) (w : World) (h : PTo w A own t) (hsd : Sound t) (hb : ∀ k, (t k).holds ≤ 1000000) :
 Calls Tryz.prog 47 #[.pointer (some ⟨A, 0, none⟩), .int .i64 i] w fun e w' => e = .returned (.bool (dropP t i).2) ∧ Pt w A own (dropP t i).1 w' := by
 have H := hid h
 obtain ⟨nb, mb, hP, hO⟩ := h
 have hg := get_any i w hP
 cases hi : isI t i
 ·rw [getV_none hi] at hg
  have Hr := hid (show dropP t i = (t, false) by unfold dropP; rw [if_neg (by rw [hi]; rintro ⟨h, _⟩; cases h)])
  clear hP hO hi
  go_enter Tryz.func47, Tryz.ntmps47
  go_wp2_with (go_at_call 56; refine hg.mono ?_; rintro e w' ⟨rfl, rfl⟩)
  go_ret
  exact ⟨ret_bool (by rw [Hr.out]), by rw [Hr.out]; exact Pt.refl H.out⟩
 ·obtain ⟨k, rfl, h1, h2, hs⟩ := isI_nat hi
  rw [getV_nat hi] at hg
  obtain ⟨-, -, -, -, -, c5, -⟩ := hP.cells hs
  have f5 := hP.frozen hs 5
  by_cases h0 : (t k).holds = 0
  ·have Hr := hid (show dropP t (k : Int) = (t, false) by unfold dropP; rw [if_neg (by rw [Int.toNat_natCast]; rintro ⟨_, h⟩; exact h h0)])
   rw [h0] at c5
   clear hP hO hi
   go_enter Tryz.func47, Tryz.ntmps47
   go_wp2_with (go_at_call 56; refine hg.mono ?_; rintro e w' ⟨rfl, rfl⟩)
   go_ret
   exact ⟨ret_bool (by rw [Hr.out]), by rw [Hr.out]; exact Pt.refl H.out⟩
  ·obtain ⟨m, hm⟩ : ∃ m, (t k).holds = m + 1 := ⟨(t k).holds - 1, by omega⟩
   have hbk := hb k
   have Hr := hid (show dropP t (k : Int) = (goneP (upd t k { t k with holds := m }), true) by unfold dropP; rw [if_pos (by rw [Int.toNat_natCast]; exact ⟨hi, h0⟩), Int.toNat_natCast, hm]; rfl)
   have hn := hP.setHolds hs m
   have hn2 : PT (w.setCell ⟨nb k, 5, none⟩ (.int .i64 m)) A nb mb (upd t k { t k with holds := m }) (lkOf (upd t k { t k with holds := m }) fun _ => 0) :=
    hn.congr rfl (fun j _ => by rw [lkOf0]; exact links_upd_same t k { t k with holds := m } j rfl)
   have hpe := pend_drop hsd (k := k) (m := m) hs (by omega)
   have HC := hid ((sweeps A nb mb _).1 _ _ k _ (Nat.le_refl _) hn2 hpe (by rw [upd_same]; exact hs))
   have HF := hid ((Fr.refl own w).setCell (p := ⟨nb k, 5, none⟩) (.inl (hO _ (.inr (.inl ⟨k, hs, rfl⟩)))) (.int .i64 m))
   have HO := hid hO
   have Hsub := hid (upd_sub1 t k { t k with holds := m } rfl rfl)
   rw [hm] at c5 hbk
   clear hP hO hi hb hn hn2 hpe h0 hs hm hsd
   have he : IntKind.i64.wrap (((m + 1 : Nat) : Int) - 1) = (m : Int) := by rw [IntKind.wrap_i64]; omega
   go_enter Tryz.func47, Tryz.ntmps47
   go_wp2_with (first
    | (go_at_call 56; refine hg.mono ?_; rintro e w' ⟨rfl, rfl⟩)
    | (go_at_call 98; refine HC.out.mono ?_; rintro e w' ⟨rfl, t', k1, k2, k3, k4, k5⟩))
   go_ret
   rw [V_zero _ (fun _ => rfl), V_zero _ (fun _ => rfl)] at k3
   have hS := k2.sound fun _ => rfl
   have e2 := k3.gone hS.alive
   refine ⟨ret_bool (by rw [Hr.out]), ?_⟩
   rw [Hr.out]
   show Pt w A own (goneP _) w'
   rw [e2]
   exact Pt.same (t := t) (by rw [lkOf0] at k1; exact k1) HO.out (k4.trans Hsub.out) (HF.out.trans (k5.mono fun g _ hg => by
    rcases hg with rfl | ⟨i, hi, rfl⟩
    ·exact HO.out _ (.inl rfl)
    ·exact HO.out _ (.inr (.inl ⟨i, Hsub.out.1 i hi, rfl⟩))))
theorem pcut_any (i : Int) (w : World) (h : PTo w A own t) (hsd : Sd t) :
 Calls Tryz.prog 108 #[.pointer (some ⟨A, 0, none⟩), .int .i64 i] w fun e w' => e = .returned (.int .i64 (cutP t i).2) ∧ Pt w A own (cutP t i).1 w' := by
 have H := hid h
 obtain ⟨nb, mb, hP, hO⟩ := h
 have hf := pfile_any i w hP
 by_cases h0 : fileE t i = 0
 ·have hV : fileV t nb i = .pointer (some ⟨nb i.toNat, 0, none⟩) := by unfold fileV; rw [if_pos h0]
  rw [h0, hV] at hf
  obtain ⟨hi, hkd⟩ := fileE_ok hsd (fun e => e h0)
  obtain ⟨k, rfl, h1, h2, hs⟩ := isI_nat hi
  obtain ⟨-, -, -, -, -, -, c6, -⟩ := hP.cells hs
  have f6 := hP.frozen hs 6
  have Hr := hid (show cutP t (k : Int) = (upd t k { t k with data := [] }, 0) by unfold cutP; rw [if_neg (fun e => e h0), Int.toNat_natCast])
  have hn := hP.setData hs []
  have Hn := hid (Pt.same (W := w) (hn.congr (t' := upd t k { t k with data := [] }) (lk' := links (upd t k { t k with data := [] })) rfl (fun j _ => links_upd_same t k { t k with data := [] } j rfl)) hO (upd_sub1 t k _ rfl rfl) ((Fr.refl own w).setCell (p := ⟨nb k, 6, none⟩) (.inl (hO _ (.inr (.inl ⟨k, hs, rfl⟩)))) _))
  rw [Int.toNat_natCast] at hf
  clear hP hO hi hn h0 hV hkd
  go_enter Tryz.func108, Tryz.ntmps108
  go_wp2_with (go_at_call 127; refine hf.mono ?_; rintro e w' ⟨rfl, rfl⟩)
  go_ret
  exact ⟨ret_int (by rw [Hr.out]; rfl), by rw [Hr.out]; exact Hn.out⟩
 ·have Hr := hid (show cutP t i = (t, fileE t i) by unfold cutP; rw [if_pos h0])
  have h0' : (((fileE t i : Nat) : Int) == 0) = false := by simp; exact h0
  clear hP hO
  generalize fileV t nb i = fv at hf
  generalize fileE t i = fe at hf Hr h0 h0'
  go_enter Tryz.func108, Tryz.ntmps108
  go_wp2_with (go_at_call 127; refine hf.mono ?_; rintro e w' ⟨rfl, rfl⟩)
  go_ret
  exact ⟨ret_int (by rw [Hr.out]), by rw [Hr.out]; exact Pt.refl H.out⟩
end
end Go.Proofs.YtlpececggkdhmaaGreat
