import Derived.Deep.Slices
import Derived.DataReads
import Derived.Deep.Fields
import Derived.ChangeSame
import Derived.Test.YtlpececggkdhmaaGreatM4
import Derived.Test.YtlpececggkdhmaaGreatM5
import Derived.Test.YtlpececggkdhmaaGreatM7
import Derived.Test.YtlpececggkdhmaaGreatM16
import Derived.Test.YtlpececggkdhmaaGreatM17
set_option linter.unusedVariables false
set_option linter.unusedSimpArgs false
namespace Go.Proofs.YtlpececggkdhmaaGreat
section
open Go.RowKit Ino Go.Maps
variable {w0 w w' : World} {A C B : Nat} {t u : T}
theorem PTo.fr {own S : Nat → Prop} (h : PTo w A own t) (hf : Fr S w w') (hs : ∀ g, own g → ¬ S g) : PTo w' A own t := by
 obtain ⟨nb, mb, h1, h2⟩ := h
 exact ⟨nb, mb, h1.fr hf fun g hg => hs g (h2 g hg), h2⟩
theorem PTo.keep {own : Nat → Prop} (h : PTo w A own t) : PTo w A (fun g => own g ∧ g < w.heap.size) t := by
 obtain ⟨nb, mb, h1, h2⟩ := h
 exact ⟨nb, mb, h1, fun g hg => ⟨h2 g hg, h1.tlt hg⟩⟩
theorem RT.keep {own : Nat → Prop} (h : RT w C B own t) : RT w C B (fun g => own g ∧ g < w.heap.size) t := by
 obtain ⟨ev, h1, h2⟩ := h.row
 refine ⟨h.top, h.ne, ⟨h.ownA, h.lt.1⟩, ⟨h.ownB, h.lt.2⟩, ev, h1, fun i hi => ?_⟩
 obtain ⟨p, cap, k1, k2, k3, k4⟩ := h2 i hi
 refine ⟨p, cap, k1, k2, k3, fun j e he => ?_⟩
 obtain ⟨g, off, m1, m2, m3, m4, m5, m6⟩ := k4 j e he
 exact ⟨g, off, m1, ⟨m2, cell_lt m5⟩, m3, m4, m5, m6⟩
def TW (K : Nat → Prop) (w0 w : World) (A C B : Nat) (t u : T) : Prop := ∃ own oR, PTo w A own t ∧ RT w C B oR u ∧ (∀ g, own g → ¬ K g ∧ g < w.heap.size) ∧ (∀ g, oR g → ¬ K g ∧ g < w.heap.size) ∧ (∀ g, own g → ¬ oR g) ∧ Fr (fun g => ¬ K g) w0 w ∧ ∀ g, K g → g < w0.heap.size
def KB (w0 : World) : Nat → Prop := fun g => g < w0.heap.size
theorem below_fr {S : Nat → Prop} (hb : Below w0.heap.size w0 w) (hf : Fr S w w') (hS : ∀ g, S g → w0.heap.size ≤ g) : Below w0.heap.size w0 w' := by
 have hsz := hb.size
 exact hb.trans ⟨hf.os, hf.tape, hf.output, hf.size, fun k hk => hf.block k (by omega) fun ho => by have := hS k ho; omega⟩
theorem fr_below (h : Fr (fun g => ¬ KB w0 g) w0 w) : Below w0.heap.size w0 w := ⟨h.os, h.tape, h.output, h.size, fun k hk => h.block k hk fun hn => hn hk⟩
theorem below_kb (h : Below w0.heap.size w0 w) : Fr (fun g => ¬ KB w0 g) w0 w := ⟨h.os, h.tape, h.output, h.size, fun k hk _ => h.block k hk⟩
variable {K K' : Nat → Prop}
theorem TW.frame (h : TW K w0 w A C B t u) : Fr (fun g => ¬ K g) w0 w := by
 obtain ⟨_, _, _, _, _, _, _, h, _⟩ := h
 exact h
theorem TW.below (h : TW (KB w0) w0 w A C B t u) : Below w0.heap.size w0 w := fr_below h.frame
theorem TW.kept (h : TW K w0 w A C B t u) {g : Nat} (hg : K g) : w.heap[g]? = w0.heap[g]? := by
 obtain ⟨_, _, _, _, _, _, _, h, hl⟩ := h
 exact h.block g (hl g hg) fun k => k hg
theorem TW.cell (h : TW K w0 w A C B t u) {g o : Nat} {v : Value} (hg : K g) (hc : w0.cell? ⟨g, o, none⟩ = some v) : w.cell? ⟨g, o, none⟩ = some v := (World.cell?_of_block (h.kept hg)).trans hc
theorem TW.fr {S : Nat → Prop} (h : TW K w0 w A C B t u) (hf : Fr S w w') (hS : ∀ g, S g → w.heap.size ≤ g) : TW K w0 w' A C B t u := by
 obtain ⟨own, oR, hP, hR, h1, h2, h3, hb, hl⟩ := h
 refine ⟨own, oR, hP.fr hf fun g hg hs => ?_, hR.fr hf fun g hg hl hs => ?_, fun g hg => ⟨(h1 g hg).1, ?_⟩, fun g hg => ⟨(h2 g hg).1, ?_⟩, h3, hb.trans (hf.mono fun g hg hs hk => ?_), hl⟩
 ·have := hS g hs; have := h1 g hg; omega
 ·have := hS g hs; omega
 ·have := h1 g hg; have := hf.size; omega
 ·have := h2 g hg; have := hf.size; omega
 ·have := hS g hs; omega
theorem TW.read (h : TW K w0 w A C B t u) (hb : Below w.heap.size w w') : TW K w0 w' A C B t u := h.fr (S := fun _ => False) (Fr.of_below hb) fun _ => False.elim
theorem TW.alloc (h : TW K w0 w A C B t u) (o : Obj) : TW K w0 (w.alloc o) A C B t u := h.read ((Below.refl _ w).alloc (Nat.le_refl _) o)
theorem TW.drew (h : TW K w0 w A C B t u) : TW K w0 w.drew A C B t u := h.read (Below.refl _ w).drew
theorem TW.drewN (h : TW K w0 w A C B t u) (n : Nat) : TW K w0 (w.drewN n) A C B t u := h.read ⟨rfl, rfl, rfl, Nat.le_refl _, fun _ _ => rfl⟩
def KN (K : Nat → Prop) (w w1 : World) : Nat → Prop := fun g => K g ∨ (w.heap.size ≤ g ∧ g < w1.heap.size)
theorem TW.rebase {w1 : World} (h : TW K w0 w A C B t u) (hb : Below w.heap.size w w1) : TW (KN K w w1) w1 w1 A C B t u := by
 have hf := h.frame
 obtain ⟨own, oR, hP, hR, h1, h2, h3, _, hl⟩ := h.read hb
 obtain ⟨own0, oR0, hP0, hR0, k1, k2, k3, _, _⟩ := h
 refine ⟨own0, oR0, hP0.below hb, hR0.fr (S := fun _ => False) (Fr.of_below hb) fun _ _ _ => id, fun g hg => ⟨?_, ?_⟩, fun g hg => ⟨?_, ?_⟩, k3, Fr.refl _ _, ?_⟩
 ·rintro (h | h)
  ·exact (k1 g hg).1 h
  ·have := k1 g hg; omega
 ·have := k1 g hg; have := hb.size; omega
 ·rintro (h | h)
  ·exact (k2 g hg).1 h
  ·have := k2 g hg; omega
 ·have := k2 g hg; have := hb.size; omega
 ·rintro g (h | h)
  ·have := hl g h; have := hf.size; have := hb.size; omega
  ·exact h.2
theorem TW.back {w1 : World} (h : TW K' w1 w A C B t u) (hK : ∀ g, K g → K' g) (hl : ∀ g, K g → g < w0.heap.size) (hf : Fr (fun g => ¬ K g) w0 w1) : TW K w0 w A C B t u := by
 obtain ⟨own, oR, hP, hR, h1, h2, h3, hb, _⟩ := h
 exact ⟨own, oR, hP, hR, fun g hg => ⟨fun k => (h1 g hg).1 (hK g k), (h1 g hg).2⟩, fun g hg => ⟨fun k => (h2 g hg).1 (hK g k), (h2 g hg).2⟩, h3, hf.trans (hb.mono fun g _ hn k => hn (hK g k)), hl⟩
theorem TW.unbase {w1 : World} {t0 u0 : T} (h : TW (KN K w w1) w1 w' A C B t u) (h0 : TW K w0 w A C B t0 u0) (hb : Below w.heap.size w w1) : TW K w0 w' A C B t u := by
 have hf := h0.frame
 obtain ⟨_, _, _, _, _, _, _, _, hl⟩ := h0
 exact h.back (fun g => .inl) hl (hf.trans ((Fr.of_below (S := fun _ => False) hb).mono fun _ _ => False.elim))
theorem Rt.of {own : Nat → Prop} (h : RT w' C B own t) (hf : Fr (· = B) w w') : Rt w C B own t w' := ⟨own, h, fun _ => id, fun _ => .inl, hf⟩
section
variable {P : Program} {f : FuncId} {args : Array Value} {v : Value} {t' : T}
theorem TW.prog (h : TW K w0 w A C B t u) (H : ∀ own, PTo w A own t → Calls P f args w fun e w' => e = .returned v ∧ Pt w A own t' w') : Calls P f args w fun e w' => e = .returned v ∧ TW K w0 w' A C B t' u := by
 obtain ⟨own, oR, hP, hR, h1, h2, h3, hb, hl⟩ := h
 refine (H own hP).mono fun e w' ⟨he, hp⟩ => ⟨he, ?_⟩
 obtain ⟨own', hP', k1, k2, hf⟩ := hp
 have hs := hb.size
 refine ⟨_, oR, hP'.keep, hR.fr hf (fun g hg _ ho => h3 g ho hg), fun g hg => ⟨fun hk => ?_, hg.2⟩, fun g hg => ⟨(h2 g hg).1, ?_⟩, fun g hg ho => ?_, hb.trans (hf.mono fun g _ hg => (h1 g hg).1), hl⟩
 ·rcases k2 g hg.1 with h | h
  ·exact (h1 g h).1 hk
  ·have := hl g hk; omega
 ·have := h2 g hg; have := hf.size; omega
 ·rcases k2 g hg.1 with h | h
  ·exact h3 g h ho
  ·have := h2 g ho; omega
theorem TW.doc (h : TW K w0 w A C B t u) (H : ∀ oR, RT w C B oR u → Calls P f args w fun e w' => e = .returned v ∧ Rt w C B oR t' w') : Calls P f args w fun e w' => e = .returned v ∧ TW K w0 w' A C B t t' := by
 obtain ⟨own, oR, hP, hR, h1, h2, h3, hb, hl⟩ := h
 refine (H oR hR).mono fun e w' ⟨he, hp⟩ => ⟨he, ?_⟩
 obtain ⟨oR', hR', k1, k2, hf⟩ := hp
 have hRB := hR.ownB
 have hs := hb.size
 refine ⟨own, _, hP.fr hf (fun g hg ho => h3 g hg (by rw [ho]; exact hRB)), hR'.keep, fun g hg => ⟨(h1 g hg).1, ?_⟩, fun g hg => ⟨fun hk => ?_, hg.2⟩, fun g hg ho => ?_, hb.trans (hf.mono fun g _ hg => by rw [hg]; exact (h2 B hRB).1), hl⟩
 ·have := h1 g hg; have := hf.size; omega
 ·rcases k2 g hg.1 with h | h
  ·exact (h2 g h).1 hk
  ·have := hl g hk; omega
 ·rcases k2 g ho.1 with h | h
  ·exact h3 g hg h
  ·have := h1 g hg; omega
theorem TW.doc2 (h : TW K w0 w A C B t u) (H : ∀ oR, RT w C B oR u → Calls P f args w fun e w' => e = .returned v ∧ RT w' C B oR t' ∧ Fr (· = B) w w') : Calls P f args w fun e w' => e = .returned v ∧ TW K w0 w' A C B t t' :=
 h.doc fun oR hR => (H oR hR).mono fun e w' ⟨he, h1, h2⟩ => ⟨he, Rt.of h1 h2⟩
end
section
variable (h : TW K w0 w A C B t u)
include h
theorem tp_drop (hs : Sound t) (i : Int) (hb : ∀ k, (t k).holds ≤ 1000000) :
 Calls Tryz.prog 47 #[.pointer (some ⟨A, 0, none⟩), .int .i64 i] w fun e w' => e = .returned (.bool (dropP t i).2) ∧ TW K w0 w' A C B (dropP t i).1 u := h.prog fun _ hP => pdrop_any i w hP hs hb
theorem td_drop (hs : Sd u) (i : Int) (hb : ∀ k, (u k).holds ≤ 1000000) :
 Calls Tryz.prog 48 #[.pointer (some ⟨C, 0, none⟩), .int .i64 i] w fun e w' => e = .returned (.bool (dropP u i).2) ∧ TW K w0 w' A C B t (dropP u i).1 := h.doc2 fun _ hP => drop_any i w hP hs hb
end
theorem td_new (m o g : Int) (hp : PS w0 w A t) (hm : rMode m = true) (ho : rId o = true) (hg : rId g = true) :
 Calls Tryz.prog 10 #[.int .i64 m, .int .i64 o, .int .i64 g] w fun e w' => ∃ C B, e = .returned (.pointer (some ⟨C, 0, none⟩)) ∧ TW (KB w0) w0 w' A C B t (newP m o g) := by
 obtain ⟨own, hP, h1, hb⟩ := hp
 refine (new_any m o g w hm ho hg).mono fun e w' ⟨C, B, he, hR, hf⟩ => ⟨C, B, he, ?_⟩
 have hs := hb.size
 refine ⟨_, _, (hP.keep).fr hf fun _ _ => id, hR.keep, fun g hg => ⟨fun hk => ?_, Nat.lt_of_lt_of_le hg.2 hf.size⟩, fun g hg => ⟨fun hk => ?_, hg.2⟩, fun g hg ho => ?_, below_kb (below_fr hb hf fun _ => False.elim), fun _ => id⟩
 ·have h2 := h1 g hg.1
  have h3 : g < w0.heap.size := hk
  omega
 ·have h2 : w.heap.size ≤ g := hg.1
  have h3 : g < w0.heap.size := hk
  omega
 ·have := hg.2
  have : w.heap.size ≤ g := ho.1
  omega
theorem TW.ps (h : TW (KB w0) w0 w A C B t u) : PS w0 w A t := by
 have hb := h.below
 obtain ⟨own, oR, hP, hR, h1, h2, h3, _, hl⟩ := h
 exact ⟨own, hP, fun g hg => Nat.le_of_not_lt (h1 g hg).1, hb⟩
end
end Go.Proofs.YtlpececggkdhmaaGreat
namespace Go.Proofs.YtlpececggkdhmaaGreat.Ino
def HB (n : Nat) (t : T) : Prop := ∀ k, (t k).holds ≤ n
theorem HB.mono {n m : Nat} {t : T} (h : HB n t) (hn : n ≤ m) : HB m t := fun k => Nat.le_trans (h k) hn
theorem HB.upd {n : Nat} {t : T} (h : HB n t) (i : Nat) {v : Nod} (hv : v.holds ≤ n) : HB n (upd t i v) := fun k => by
 by_cases e : k = i
 ·rw [e, upd_same]; exact hv
 ·rw [upd_other _ _ e]; exact h k
theorem HB.gone {n : Nat} {t : T} (h : HB n t) : HB n (goneP t) := fun k => Nat.le_trans (gone_holds t k) (h k)
theorem HB.new (m o g : Int) : HB 0 (newP m o g) := HB.upd (fun _ => Nat.le_refl 0) 1 (Nat.le_refl 0)
theorem HB.make {n : Nat} {t : T} (h : HB n t) (ok : Bool) (a b c d e : Int) : HB (n + 1) (makeP t ok a b c d e).1 := by
 unfold makeP
 split
 ·split
  ·exact h.mono (Nat.le_succ n)
  ·exact (h.mono (Nat.le_succ n)).upd _ (by show 1 ≤ n + 1; omega)
 ·exact h.mono (Nat.le_succ n)
theorem HB.hold {n : Nat} {t : T} (h : HB n t) (i : Int) : HB (n + 1) (holdP t i).1 := by
 unfold holdP
 split
 ·exact (h.mono (Nat.le_succ n)).upd _ (by show _ + 1 ≤ n + 1; have := h i.toNat; omega)
 ·exact h.mono (Nat.le_succ n)
theorem HB.drop {n : Nat} {t : T} (h : HB n t) (i : Int) : HB n (dropP t i).1 := by
 unfold dropP
 split
 ·exact (h.upd _ (by show _ - 1 ≤ n; have := h i.toNat; omega)).gone
 ·exact h
theorem HB.set {n : Nat} {t : T} (h : HB n t) (i : Int) (ok : Bool) (a b c : Int) : HB n (setP t i ok a b c).1 := by
 unfold setP
 split
 ·split
  ·exact h.upd _ (h i.toNat)
  ·exact h
 ·exact h
theorem HB.put {n : Nat} {t : T} (h : HB n t) (i a : Int) (s : Bs) : HB n (putP t i a s).1 := by
 unfold putP
 split
 ·exact h
 ·split
  ·exact h
  ·split
   ·exact h
   ·exact h.upd _ (h i.toNat)
theorem HB.cut {n : Nat} {t : T} (h : HB n t) (i : Int) : HB n (cutP t i).1 := by
 unfold cutP
 split
 ·exact h
 ·exact h.upd _ (h i.toNat)
theorem HB.add {n : Nat} {t : T} (h : HB n t) (d : Nat) (s : Bs) (x : Nat) : HB n (add t d s x) := fun k => by rw [add_holds]; exact h k
theorem HB.rem {n : Nat} {t : T} (h : HB n t) (d : Nat) (s : Bs) (x : Nat) : HB n (rem t d s x) := fun k => by rw [rem_holds]; exact h k
theorem HB.enter {n : Nat} {t : T} (h : HB n t) (d : Int) (s : Bs) (i : Int) : HB n (enterP t d s i).1 := by
 unfold enterP
 (repeat' split) <;> first | exact h | exact h.add _ _ _
theorem HB.remove {n : Nat} {t : T} (h : HB n t) (d : Int) (s : Bs) : HB n (removeP t d s).1 := by
 unfold removeP
 (repeat' split) <;> first | exact h | exact (h.rem _ _ _).gone
theorem HB.moved {n : Nat} {t : T} (h : HB n t) (d : Nat) (s : Bs) (to : Nat) (a : Bs) (x : Nat) : HB n (movedT t d s to a x) := by
 unfold movedT
 refine (HB.rem ?_ _ _ _).add _ _ _
 split
 ·exact h
 ·exact h.rem _ _ _
theorem HB.move {n : Nat} {t : T} (h : HB n t) (d : Int) (s : Bs) (to : Int) (a : Bs) : HB n (moveP t d s to a).1 := by
 unfold moveP
 (repeat' split) <;> first | exact h | exact (h.moved _ _ _ _ _).gone
end Go.Proofs.YtlpececggkdhmaaGreat.Ino
namespace Go.Proofs.YtlpececggkdhmaaGreat
section
open Go.RowKit Ino Go.Maps
variable {w0 w w' : World} {A C B : Nat} {t u : T} {K : Nat → Prop}
variable (h : TW K w0 w A C B t u)
include h
end
section
open Go.RowKit Go.ChangeShapes Go.WideShapes Go.Deep Ino
theorem int_wf2 {n : Int} (h : (Lit.int .i64 n).wf = true) : -9223372036854775808 ≤ n ∧ n ≤ 9223372036854775807 := by
 simp [Lit.wf] at h
 exact h
def InRow {α : Type} (mk : α → Value) (ok : α → Prop) (W : World) (p : Option Addr) (n : Nat) (zs : List α) : Prop :=
 zs.length = n ∧ ∀ (j : Nat) (z : α), zs[j]? = some z → ∃ g off, p = some ⟨g, off, none⟩ ∧ W.cell? ⟨g, off + j, none⟩ = some (mk z) ∧ ok z
abbrev InStrs := InRow Value.string (fun s : ByteArray => s.size ≤ maxLen)
theorem addr_plain {W : World} {a : Addr} {v0 : Value} (h0 : W.cell? a = some v0) : ∃ b off, a = ⟨b, off, none⟩ := by
 obtain ⟨b, off, spot⟩ := a
 have hs2 : spot = none := World.cell?_spot h0
 subst hs2
 exact ⟨b, off, rfl⟩
section
variable {H : Type} {enc : TypeId × Value → H} {w : World} {base : Nat} {held : Bool}
end
def InSt {α : Type} (mk : α → List Value) (ok : α → Prop) (c : Nat) (W : World) (p : Option Addr) (n : Nat) (zs : List α) : Prop :=
 zs.length = n ∧ ∀ (j : Nat) (z : α), zs[j]? = some z → ok z ∧ ∃ g off, p = some ⟨g, off, none⟩ ∧ ∀ (i : Nat) (v : Value), (mk z)[i]? = some v → W.cell? ⟨g, off + j * c + i, none⟩ = some v
section
variable {H : Type} {enc : TypeId × Value → H} {w : World} {base : Nat} {held : Bool}
structure Op6 where
 kind : Int
 a : Int
 b : Int
 c : Int
 d : Int
 s : ByteArray
 t : ByteArray
instance : Inhabited Op6 := ⟨⟨0, 0, 0, 0, 0, ⟨#[]⟩, ⟨#[]⟩⟩⟩
def Op6.cells (o : Op6) : List Value := [.int .i64 o.kind, .int .i64 o.a, .int .i64 o.b, .int .i64 o.c, .int .i64 o.d, .string o.s, .string o.t]
def Op6.val (o : Op6) : Value := .agg #[.int .i64 o.kind, .int .i64 o.a, .int .i64 o.b, .int .i64 o.c, .int .i64 o.d, .string o.s, .string o.t]
structure Op6.Ok (o : Op6) : Prop where
 kind : wfI o.kind
 a : wfI o.a
 b : wfI o.b
 c : wfI o.c
 d : wfI o.d
 s : o.s.size ≤ maxLen
 t : o.t.size ≤ maxLen
abbrev InOps := InSt Op6.cells Op6.Ok 7
end
theorem rMake_kinds (kind m o g tty : Int) (h : rMake kind m o g tty = true) : kind = 0 ∨ kind = 1 ∨ kind = 2 := by
 unfold rMake at h
 simp only [Bool.and_eq_true, decide_eq_true_eq] at h
 omega
noncomputable def Op6.step (o : Op6) (t : T) : T :=
 if o.kind = 1 then (makeP t (rMake o.a o.b o.c o.c o.d) o.a o.b o.c o.c o.d).1
 else if o.kind = 2 then (holdP t o.a).1
 else if o.kind = 3 then (dropP t o.a).1
 else if o.kind = 4 then (setP t o.a (rOk o.b o.c o.d) o.b o.c o.d).1
 else if o.kind = 5 then (putP t o.a o.b o.s.data.toList).1
 else if o.kind = 6 then (cutP t o.a).1
 else if o.kind = 7 then (enterP t o.a o.s.data.toList o.b).1
 else if o.kind = 8 then (removeP t o.a o.s.data.toList).1
 else (moveP t o.a o.s.data.toList o.b o.t.data.toList).1
theorem Op6.sound (o : Op6) {t : T} (h : Sound t) : Sound (o.step t) := by
 unfold Op6.step
 split
 ·exact sound_make h _ _ _ _ _ _ (rMake_kinds _ _ _ _ _)
 split
 ·exact sound_hold h _
 split
 ·exact sound_drop h _
 split
 ·exact sound_set h _ _ _ _ _
 split
 ·exact sound_put h _ _ _
 split
 ·exact sound_cut h _
 split
 ·exact sound_enter h _ _ _
 split
 ·exact sound_remove h _ _
 ·exact sound_move h _ _ _ _
theorem Op6.hb (o : Op6) {n : Nat} {t : T} (h : HB n t) : HB (n + 1) (o.step t) := by
 have h1 := h.mono (Nat.le_succ n)
 unfold Op6.step
 split
 ·exact h.make _ _ _ _ _ _
 split
 ·exact h.hold _
 split
 ·exact h1.drop _
 split
 ·exact h1.set _ _ _ _ _
 split
 ·exact h1.put _ _ _
 split
 ·exact h1.cut _
 split
 ·exact h1.enter _ _ _
 split
 ·exact h1.remove _ _
 ·exact h1.move _ _ _ _
end
end Go.Proofs.YtlpececggkdhmaaGreat
