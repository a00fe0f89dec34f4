import Derived.Test.YtlpececggkdhmaaGreatM18
import Derived.Deep.RegionHeld3
import Derived.Test.YtlpececggkdhmaaGreatN6
import Derived.Test.YtlpececggkdhmaaGreatN10
import Derived.Test.YtlpececggkdhmaaGreatN15
import Derived.Test.YtlpececggkdhmaaGreatN16
import Derived.Test.YtlpececggkdhmaaGreatN18
import Derived.Test.YtlpececggkdhmaaGreatN19
open Go.Lib (hid)
set_option linter.unusedVariables false
set_option linter.unusedSimpArgs false
set_option maxHeartbeats 4000000
set_option maxRecDepth 100000
namespace Go.Proofs.YtlpececggkdhmaaGreat
section
open Go.RowKit Ino Go.Maps Pa
variable {w0 w : World} {A C B n : Nat} {t v : T} {K : Nat → Prop}
structure Inv (n : Nat) (t : T) : Prop where
 s : Sound t
 m : Md t
 w : Mw t
 b : HB n t
theorem Inv.hb (h : Inv n t) (hn : n ≤ 999999) : HB 999999 t := h.b.mono hn
section
variable (h : TW K w0 w A C B t v)
include h
theorem p_find (ht : Inv n t) (cwd r u s k g : Int) (p : ByteArray) (hp : p.size ≤ maxLen) :
 Calls Tryz.prog 30 #[.pointer (some ⟨A, 0, none⟩), .int .i64 cwd, crd r u s k g, .string p] w fun e w' => e = .returned (makeV (findP t cwd u g p.data.toList)) ∧ TW K w0 w' A C B t v := by
 have h' := h
 obtain ⟨own, oR, hP, _⟩ := h'
 exact (wFind_any A cwd r u s k g p hp w hP ht.s.sd).mono fun e w' ⟨h1, h2⟩ => ⟨h1, h.read h2⟩
theorem d_find (ht : Inv n v) (cwd r u s k g : Int) (p : ByteArray) (hp : p.size ≤ 1048576) :
 Calls Tryz.prog 36 #[.pointer (some ⟨C, 0, none⟩), .int .i64 cwd, crd r u s k g, .string p] w fun e w' => e = .returned (makeV (findP v cwd u g p.data.toList)) ∧ TW K w0 w' A C B t v := by
 have h' := h
 obtain ⟨own, oR, hP, hR, _⟩ := h'
 exact (dFind_any cwd r u s k g p hp w hR ht.s.sd ht.w).mono fun e w' ⟨h1, h2⟩ => ⟨h1, h.read h2⟩
theorem p_parent (ht : Inv n t) (cwd r u s k g : Int) (p : ByteArray) (hp : p.size ≤ maxLen) :
 Calls Tryz.prog 16 #[.pointer (some ⟨A, 0, none⟩), .int .i64 cwd, crd r u s k g, .string p] w fun e w' => e = .returned (.tuple #[.int .i64 ((placeP t cwd u g p.data.toList).dir : Nat), .string ⟨(placeP t cwd u g p.data.toList).name.toArray⟩, .int .i64 ((placeP t cwd u g p.data.toList).err : Nat)]) ∧ TW K w0 w' A C B t v := by
 have h' := h
 obtain ⟨own, oR, hP, _⟩ := h'
 refine (wParent_any A cwd r u s k g p hp w hP ht.s.sd).mono fun e w' ⟨h1, h2⟩ => ⟨?_, h.read h2⟩
 rw [pla_dir ht.s.sd] at h1
 by_cases e0 : (placeP t cwd u g p.data.toList).err = 0
 ·rw [h1]
  unfold plaP
  rw [if_pos e0, e0]
 ·rw [h1, placeP_name t cwd u g _ e0, pla_err e0]
  rfl
theorem d_parent (ht : Inv n v) (cwd r u s k g : Int) (p : ByteArray) (hp : p.size ≤ 1048576) :
 Calls Tryz.prog 37 #[.pointer (some ⟨C, 0, none⟩), .int .i64 cwd, crd r u s k g, .string p] w fun e w' => e = .returned (plc4V (placeP v cwd u g p.data.toList)) ∧ TW K w0 w' A C B t v := by
 have h' := h
 obtain ⟨own, oR, hP, hR, _⟩ := h'
 exact (dParent_any cwd r u s k g p hp w hR ht.s.sd ht.w).mono fun e w' ⟨h1, h2⟩ => ⟨h1, h.read h2⟩
theorem p_open (ht : Inv n t) (cwd r u s k g : Int) (p : ByteArray) (hp : p.size ≤ maxLen) (want : Int) (mk al em en : Bool) (mode : Int) (hm : wfI mode) (hn : n ≤ 999999) :
 Calls Tryz.prog 20 #[.pointer (some ⟨A, 0, none⟩), .int .i64 cwd, crd r u s k g, .string p, .agg #[.int .i64 want, .bool mk, .bool al, .bool em, .bool en, .int .i64 mode]] w fun e w' => e = .returned (makeV (openP t cwd u g p.data.toList want mk al em mode).2) ∧ TW K w0 w' A C B (openP t cwd u g p.data.toList want mk al em mode).1 v :=
 h.prog fun own hP => (wOpen_any A cwd r u s k g p hp want mk al em en mode hm w hP ht.s (fun k => Nat.le_trans (ht.b k) hn) (fun x => (sound_hold ht.s _).sd) _ _ _ (toldI_ino t cwd u g _ (findP_none t cwd u g _)).1 (andNot_wf _ _) (pla_dir ht.s.sd cwd u g _) (pla_name t cwd u g _) (pla_entry ht.s.sd _) (andNot_wf _ _)).mono fun e w' ⟨h1, h2⟩ => by
  rw [tie_open ht.s ht.m] at h1 h2
  exact ⟨h1, h2⟩
theorem p_mkdir (ht : Inv n t) (cwd r u s k g : Int) (p : ByteArray) (hp : p.size ≤ maxLen) (mode : Int) (hm : wfI mode) (hn : n ≤ 999999) :
 Calls Tryz.prog 23 #[.pointer (some ⟨A, 0, none⟩), .int .i64 cwd, crd r u s k g, .string p, .int .i64 mode] w fun e w' => e = .returned (.int .i64 ((mkdirP t cwd u g p.data.toList mode).2 : Nat)) ∧ TW K w0 w' A C B (mkdirP t cwd u g p.data.toList mode).1 v :=
 h.prog fun own hP => (wMkdir_any A cwd r u s k g p hp mode hm w hP ht.s (fun k => Nat.le_trans (ht.b k) hn) _ (pla_dir ht.s.sd cwd u g _) (pla_name t cwd u g _)).mono fun e w' ⟨h1, h2⟩ => by
  rw [tie_mkdir ht.s.sd cwd u g _ mode _ (pla_dir ht.s.sd cwd u g _)] at h1 h2
  exact ⟨h1, h2⟩
theorem p_rm (ht : Inv n t) (cwd r u s k g : Int) (p : ByteArray) (hp : p.size ≤ maxLen) (want : Bool) :
 Calls Tryz.prog 24 #[.pointer (some ⟨A, 0, none⟩), .int .i64 cwd, crd r u s k g, .string p, .bool want] w fun e w' => e = .returned (.int .i64 ((rmP t cwd u g p.data.toList want).2 : Nat)) ∧ TW K w0 w' A C B (rmP t cwd u g p.data.toList want).1 v :=
 h.prog fun own hP => (wRemove_any A cwd r u s k g p hp want w hP ht.s (pla_name t cwd u g _)).mono fun e w' ⟨h1, h2⟩ => by
  rw [tie_rm ht.s.sd cwd u g _ _] at h1 h2
  exact ⟨h1, h2⟩
theorem p_link (ht : Inv n t) (cwd r u s k g : Int) (p a : ByteArray) (hp : p.size ≤ maxLen) (ha : a.size ≤ maxLen) :
 Calls Tryz.prog 25 #[.pointer (some ⟨A, 0, none⟩), .int .i64 cwd, crd r u s k g, .string p, .string a] w fun e w' => e = .returned (.int .i64 ((linkP t cwd u g p.data.toList a.data.toList).2 : Nat)) ∧ TW K w0 w' A C B (linkP t cwd u g p.data.toList a.data.toList).1 v :=
 h.prog fun own hP => (wLink_any A cwd r u s k g p a hp ha w hP ht.s.sd (pla_name t cwd u g _)).mono fun e w' ⟨h1, h2⟩ => by
  rw [tie_link ht.s.sd cwd u g _ _] at h1 h2
  exact ⟨h1, h2⟩
theorem p_ren (ht : Inv n t) (cwd r u s k g : Int) (p a : ByteArray) (hp : p.size ≤ maxLen) (ha : a.size ≤ maxLen) :
 Calls Tryz.prog 26 #[.pointer (some ⟨A, 0, none⟩), .int .i64 cwd, crd r u s k g, .string p, .string a] w fun e w' => e = .returned (.int .i64 ((renP t cwd u g p.data.toList a.data.toList).2 : Nat)) ∧ TW K w0 w' A C B (renP t cwd u g p.data.toList a.data.toList).1 v :=
 h.prog fun own hP => (wRename_any A cwd r u s k g p a hp ha w hP ht.s (pla_name t cwd u g _) (pla_name t cwd u g _)).mono fun e w' ⟨h1, h2⟩ => by
  rw [tie_ren ht.s.sd cwd u g _ _] at h1 h2
  exact ⟨h1, h2⟩
theorem p_chmod (ht : Inv n t) (cwd r u s k g : Int) (p : ByteArray) (hp : p.size ≤ maxLen) (m : Int) (hm : wfI m) :
 Calls Tryz.prog 28 #[.pointer (some ⟨A, 0, none⟩), .int .i64 cwd, crd r u s k g, .string p, .int .i64 m] w fun e w' => e = .returned (.int .i64 ((chmodP t cwd u g p.data.toList m).2 : Nat)) ∧ TW K w0 w' A C B (chmodP t cwd u g p.data.toList m).1 v :=
 h.prog fun own hP => (wChmod_any A cwd r u s k g p hp m w hP ht.s.sd hm).mono fun e w' ⟨h1, h2⟩ => by
  rw [tie_chmod cwd u g _ _] at h1 h2
  exact ⟨h1, h2⟩
theorem p_chown (ht : Inv n t) (cwd r u s k g : Int) (p : ByteArray) (hp : p.size ≤ maxLen) (o x : Int) :
 Calls Tryz.prog 29 #[.pointer (some ⟨A, 0, none⟩), .int .i64 cwd, crd r u s k g, .string p, .int .i64 o, .int .i64 x] w fun e w' => e = .returned (.int .i64 ((chownP t cwd u g p.data.toList o x).2 : Nat)) ∧ TW K w0 w' A C B (chownP t cwd u g p.data.toList o x).1 v :=
 h.prog fun own hP => (wChown_any A cwd r u s k g p hp o x w hP ht.s.sd (andNot_wf _ _)).mono fun e w' ⟨h1, h2⟩ => by
  rw [tie_chown cwd u g _ _ _] at h1 h2
  exact ⟨h1, h2⟩
theorem p_fput (ht : Inv n t) (i a : Int) (s : ByteArray) (ha : -9223372036854775808 ≤ a ∧ a ≤ 9223372036854775807) (hsz : s.size ≤ 1000000) :
 Calls Tryz.prog 45 #[.pointer (some ⟨A, 0, none⟩), .int .i64 i, .int .i64 a, .string s] w fun e w' => e = .returned (.int .i64 ((fputP t i a s.data.toList).2 : Nat)) ∧ TW K w0 w' A C B (fputP t i a s.data.toList).1 v :=
 h.prog fun own hP => (wPut_any A i a s w hP ht.s.sd ha hsz (sound_put ht.s _ _ _).sd (andNot_wf _ _)).mono fun e w' ⟨h1, h2⟩ => by
  rw [tie_fput ht.s ht.m] at h1 h2
  exact ⟨h1, h2⟩
theorem d_fput (ht : Inv n v) (i a : Int) (s : ByteArray) (ha : -9223372036854775808 ≤ a ∧ a ≤ 9223372036854775807) (hsz : s.size ≤ maxLen) :
 Calls Tryz.prog 46 #[.pointer (some ⟨C, 0, none⟩), .int .i64 i, .int .i64 a, .string s] w fun e w' => e = .returned (.int .i64 ((fputP v i a s.data.toList).2 : Nat)) ∧ TW K w0 w' A C B t (fputP v i a s.data.toList).1 :=
 h.doc2 fun oR hR => dPut_any i a s w hR ht.s.sd ha hsz
theorem d_open (ht : Inv n v) (hn : n ≤ 999999) (cwd r u s k g : Int) (p : ByteArray) (hp : p.size ≤ 1048576) (want : Int) (mk al em en : Bool) (mode : Int) :
 Calls Tryz.prog 38 #[.pointer (some ⟨C, 0, none⟩), .int .i64 cwd, crd r u s k g, .string p, .agg #[.int .i64 want, .bool mk, .bool al, .bool em, .bool en, .int .i64 mode]] w fun e w' => e = .returned (makeV (openP v cwd u g p.data.toList want mk al em mode).2) ∧ TW K w0 w' A C B t (openP v cwd u g p.data.toList want mk al em mode).1 :=
 h.doc fun oR hR => dOpen_any cwd r u s k g p hp want mk al em en mode w hR ht.s ht.w (ht.hb hn)
theorem d_mkdir (ht : Inv n v) (hn : n ≤ 999999) (cwd r u s k g : Int) (p : ByteArray) (hp : p.size ≤ 1048576) (mode : Int) :
 Calls Tryz.prog 39 #[.pointer (some ⟨C, 0, none⟩), .int .i64 cwd, crd r u s k g, .string p, .int .i64 mode] w fun e w' => e = .returned (.int .i64 ((mkdirP v cwd u g p.data.toList mode).2 : Nat)) ∧ TW K w0 w' A C B t (mkdirP v cwd u g p.data.toList mode).1 :=
 h.doc fun oR hR => dMkdir_any cwd r u s k g p hp mode w hR ht.s ht.w (ht.hb hn)
theorem d_rm (ht : Inv n v) (hn : n ≤ 999999) (cwd r u s k g : Int) (p : ByteArray) (hp : p.size ≤ 1048576) (want : Bool) :
 Calls Tryz.prog 40 #[.pointer (some ⟨C, 0, none⟩), .int .i64 cwd, crd r u s k g, .string p, .bool want] w fun e w' => e = .returned (.int .i64 ((rmP v cwd u g p.data.toList want).2 : Nat)) ∧ TW K w0 w' A C B t (rmP v cwd u g p.data.toList want).1 :=
 h.doc fun oR hR => dRemove_any cwd r u s k g p hp want w hR ht.s ht.w
theorem d_link (ht : Inv n v) (hn : n ≤ 999999) (cwd r u s k g : Int) (p a : ByteArray) (hp : p.size ≤ 1048576) (ha : a.size ≤ 1048576) :
 Calls Tryz.prog 41 #[.pointer (some ⟨C, 0, none⟩), .int .i64 cwd, crd r u s k g, .string p, .string a] w fun e w' => e = .returned (.int .i64 ((linkP v cwd u g p.data.toList a.data.toList).2 : Nat)) ∧ TW K w0 w' A C B t (linkP v cwd u g p.data.toList a.data.toList).1 :=
 h.doc fun oR hR => dLink_any cwd r u s k g p a hp ha w hR ht.s ht.w
theorem d_ren (ht : Inv n v) (hn : n ≤ 999999) (cwd r u s k g : Int) (p a : ByteArray) (hp : p.size ≤ 1048576) (ha : a.size ≤ 1048576) :
 Calls Tryz.prog 42 #[.pointer (some ⟨C, 0, none⟩), .int .i64 cwd, crd r u s k g, .string p, .string a] w fun e w' => e = .returned (.int .i64 ((renP v cwd u g p.data.toList a.data.toList).2 : Nat)) ∧ TW K w0 w' A C B t (renP v cwd u g p.data.toList a.data.toList).1 :=
 h.doc fun oR hR => dRename_any cwd r u s k g p a hp ha w hR ht.s ht.w (ht.hb hn)
theorem d_chmod (ht : Inv n v) (hn : n ≤ 999999) (cwd r u s k g : Int) (p : ByteArray) (hp : p.size ≤ 1048576) (m : Int) :
 Calls Tryz.prog 43 #[.pointer (some ⟨C, 0, none⟩), .int .i64 cwd, crd r u s k g, .string p, .int .i64 m] w fun e w' => e = .returned (.int .i64 ((chmodP v cwd u g p.data.toList m).2 : Nat)) ∧ TW K w0 w' A C B t (chmodP v cwd u g p.data.toList m).1 :=
 h.doc fun oR hR => dChmod_any cwd r u s k g p hp m w hR ht.s.sd ht.w
theorem d_chown (ht : Inv n v) (hn : n ≤ 999999) (cwd r u s k g : Int) (p : ByteArray) (hp : p.size ≤ 1048576) (o x : Int) :
 Calls Tryz.prog 44 #[.pointer (some ⟨C, 0, none⟩), .int .i64 cwd, crd r u s k g, .string p, .int .i64 o, .int .i64 x] w fun e w' => e = .returned (.int .i64 ((chownP v cwd u g p.data.toList o x).2 : Nat)) ∧ TW K w0 w' A C B t (chownP v cwd u g p.data.toList o x).1 :=
 h.doc fun oR hR => dChown_any cwd r u s k g p hp o x w hR ht.s.sd ht.w
end
end
section
open Go.RowKit Ino Go.Maps Pa
variable {w0 w : World} {A C B N : Nat} {t : T} {K : Nat → Prop}
structure Op7 where
 kind : Int
 cwd : Int
 u : Int
 g : Int
 s : ByteArray
 x : ByteArray
 m : Int
 n : Int
 a : Int
 b : Int
instance : Inhabited Op7 := ⟨⟨0, 0, 0, 0, ⟨#[]⟩, ⟨#[]⟩, 0, 0, 0, 0⟩⟩
def Op7.cells (o : Op7) : List Value := [.int .i64 o.kind, .int .i64 o.cwd, .int .i64 o.u, .int .i64 o.g, .string o.s, .string o.x, .int .i64 o.m, .int .i64 o.n, .int .i64 o.a, .int .i64 o.b]
def Op7.val (o : Op7) : Value := .agg #[.int .i64 o.kind, .int .i64 o.cwd, .int .i64 o.u, .int .i64 o.g, .string o.s, .string o.x, .int .i64 o.m, .int .i64 o.n, .int .i64 o.a, .int .i64 o.b]
noncomputable def Op7.step (o : Op7) (t : T) : T :=
 if o.kind = 1 then t
 else if o.kind = 2 then t
 else if o.kind = 3 then (openP t o.cwd o.u o.g o.s.data.toList (bits .and .i64 o.n 7) (bits .and .i64 o.n 8 != 0) (bits .and .i64 o.n 16 != 0) (bits .and .i64 o.n 32 != 0) o.m).1
 else if o.kind = 4 then (mkdirP t o.cwd o.u o.g o.s.data.toList o.m).1
 else if o.kind = 5 then (rmP t o.cwd o.u o.g o.s.data.toList (bits .and .i64 o.n 1 == 1)).1
 else if o.kind = 6 then (linkP t o.cwd o.u o.g o.s.data.toList o.x.data.toList).1
 else if o.kind = 7 then (renP t o.cwd o.u o.g o.s.data.toList o.x.data.toList).1
 else if o.kind = 8 then (chmodP t o.cwd o.u o.g o.s.data.toList o.m).1
 else if o.kind = 9 then (chownP t o.cwd o.u o.g o.s.data.toList o.a o.b).1
 else if o.kind = 10 then (fputP t o.a o.b o.x.data.toList).1
 else (dropP t o.a).1
structure Op7.Ok (o : Op7) : Prop where
 s : o.s.size ≤ 1048576
 x : o.x.size ≤ 5000
 m : wfI o.m
 b : -9223372036854775808 ≤ o.b ∧ o.b ≤ 9223372036854775807
theorem Op7.keeps (o : Op7) (ho : o.Ok) (h : Inv N t) : Inv (N + 1) (o.step t) := by
 have h' : Inv (N + 1) t := ⟨h.s, h.m, h.w, h.b.mono (by omega)⟩
 unfold Op7.step
 split
 ·exact h'
 split
 ·exact h'
 split
 ·exact ⟨sound_open h.s _ _ _ _ _ _ _ _ _, md_open h.m _ _ _ _ _ _ _ _ _, h.w.open_ _ _ _ _ _ _ _ _ _ ho.m, h.b.open_ _ _ _ _ _ _ _ _ _⟩
 split
 ·exact ⟨sound_mkdir h.s _ _ _ _ _, md_mkdir h.m _ _ _ _ _, h.w.mkdir _ _ _ _ _ ho.m, h.b.mkdir _ _ _ _ _⟩
 split
 ·exact ⟨sound_rm h.s _ _ _ _ _, md_rm h.m _ _ _ _ _, h.w.rm _ _ _ _ _, (h.b.rm _ _ _ _ _).mono (by omega)⟩
 split
 ·exact ⟨sound_link h.s _ _ _ _ _, md_link h.m _ _ _ _ _, h.w.link _ _ _ _ _, (h.b.link _ _ _ _ _).mono (by omega)⟩
 split
 ·exact ⟨sound_ren h.s _ _ _ _ _, md_ren h.m _ _ _ _ _, h.w.ren _ _ _ _ _, (h.b.ren _ _ _ _ _).mono (by omega)⟩
 split
 ·exact ⟨sound_chmod h.s _ _ _ _ _, md_chmod h.m _ _ _ _ _, h.w.chmod _ _ _ _ _ ho.m, (h.b.chmod _ _ _ _ _).mono (by omega)⟩
 split
 ·exact ⟨sound_chown h.s _ _ _ _ _ _, md_chown h.m _ _ _ _ _ _, h.w.chown _ _ _ _ _ _, (h.b.chown _ _ _ _ _ _).mono (by omega)⟩
 split
 ·exact ⟨sound_fput h.s _ _ _, md_fput h.m _ _ _, h.w.fput _ _ _, (h.b.fput _ _ _).mono (by omega)⟩
 ·exact ⟨sound_drop h.s _, h.m.drop _, h.w.drop _, (h.b.drop _).mono (by omega)⟩
theorem Blk.k10 {W : World} {B : Nat} {y : TypeId} {a b c d e f g h i j : Value} (z : Blk W B y #[a, b, c, d, e, f, g, h, i, j]) : W.cell? ⟨B, 0, none⟩ = some a ∧ W.cell? ⟨B, 1, none⟩ = some b ∧ W.cell? ⟨B, 2, none⟩ = some c ∧ W.cell? ⟨B, 3, none⟩ = some d ∧ W.cell? ⟨B, 4, none⟩ = some e ∧ W.cell? ⟨B, 5, none⟩ = some f ∧ W.cell? ⟨B, 6, none⟩ = some g ∧ W.cell? ⟨B, 7, none⟩ = some h ∧ W.cell? ⟨B, 8, none⟩ = some i ∧ W.cell? ⟨B, 9, none⟩ = some j := ⟨z.cell 0, z.cell 1, z.cell 2, z.cell 3, z.cell 4, z.cell 5, z.cell 6, z.cell 7, z.cell 8, z.cell 9⟩
theorem how_any (kind cwd u g : Int) (s x : ByteArray) (m n a b : Int) (w : World) : Calls Tryz.prog 14 #[.agg #[.int .i64 kind, .int .i64 cwd, .int .i64 u, .int .i64 g, .string s, .string x, .int .i64 m, .int .i64 n, .int .i64 a, .int .i64 b]] w fun e w' => e = .returned (.agg #[.int .i64 (bits .and .i64 n 7), .bool (bits .and .i64 n 8 != 0), .bool (bits .and .i64 n 16 != 0), .bool (bits .and .i64 n 32 != 0), .bool false, .int .i64 m]) ∧ Below w.heap.size w w' := by
 go_enter Tryz.func14, Tryz.ntmps14
 go_wp2
 exact bodyPost_ret (v := .agg #[.int .i64 (bits .and .i64 n 7), .bool (bits .and .i64 n 8 != 0), .bool (bits .and .i64 n 16 != 0), .bool (bits .and .i64 n 32 != 0), .bool false, .int .i64 m]) (by simp [results, Tryz.results14, go_sem]) rfl ⟨rfl, bel2 _ _ _⟩
end
section
open Go.RowKit Ino Go.Maps Pa
variable {w0 w : World} {A C B N : Nat} {t : T} {K : Nat → Prop}
theorem does7_find (cwd u g : Int) (s x : ByteArray) (m n a b : Int) (hs : s.size ≤ 1048576) (hx : x.size ≤ 5000) (hm : wfI m) (hb : -9223372036854775808 ≤ b ∧ b ≤ 9223372036854775807) (h : TW K w0 w A C B t t) (ht : Inv N t) (hN : N ≤ 999999) :
 Calls Tryz.prog 11 #[.pointer (some ⟨A, 0, none⟩), .pointer (some ⟨C, 0, none⟩), .agg #[.int .i64 1, .int .i64 cwd, .int .i64 u, .int .i64 g, .string s, .string x, .int .i64 m, .int .i64 n, .int .i64 a, .int .i64 b]] w fun e w' => e = .returned (.bool true) ∧ TW K w0 w' A C B t t := by
 have hz : s.size ≤ maxLen := by unfold maxLen; omega
 have hxz : x.size ≤ maxLen := by unfold maxLen; omega
 have hx6 : x.size ≤ 1000000 := by omega
 have hx7 : x.size ≤ 1048576 := by omega
 have HS := hid hs
 have HZ := hid hz
 have HXZ := hid hxz
 have HX6 := hid hx6
 have HX7 := hid hx7
 have HM := hid hm
 have HBB := hid hb
 have HT := hid ht
 have HN := hid hN
 clear hs hx hm hb ht hN hz hxz hx6 hx7
 go_enter Tryz.func11, Tryz.ntmps11
 go_wp2_with fail
 refine (who_any _ _ _).mono ?_
 rintro e W1 ⟨rfl, bw⟩
 have kb : Blk W1 w.heap.size 29 #[.int .i64 1, .int .i64 cwd, .int .i64 u, .int .i64 g, .string s, .string x, .int .i64 m, .int .i64 n, .int .i64 a, .int .i64 b] := Blk.up (Blk.new w _ _) bw
 have hG := kb.lt
 have k1 := kb.alloc (.cells #[.int .i64 u, .int .i64 u, .int .i64 u, .int .i64 g, .int .i64 g] 42)
 have k2 := Blk.new W1 42 #[.int .i64 u, .int .i64 u, .int .i64 u, .int .i64 g, .int .i64 g]
 have hbl : Below w.heap.size w (W1.alloc (.cells #[.int .i64 u, .int .i64 u, .int .i64 u, .int .i64 g, .int .i64 g] 42)) := bal (bnext (bel1 w _) bw) _
 obtain ⟨q0, q1, q2, q3, q4, q5, q6, q7, q8, q9⟩ := Blk.k10 k1
 obtain ⟨r0, r1, r2, r3, r4⟩ := Blk.k5 k2
 clear kb k1 k2 bw
 go_wp2_with fail
 generalize hw1 : W1.alloc (.cells #[.int .i64 u, .int .i64 u, .int .i64 u, .int .i64 g, .int .i64 g] 42) = w1 at *
 have hsz : W1.heap.size < w1.heap.size := by rw [← hw1]; simp
 have h1 := h.rebase hbl
 have hK : KN K w w1 w.heap.size := .inr ⟨Nat.le_refl _, by omega⟩
 have hJ : KN K w w1 W1.heap.size := .inr ⟨by omega, hsz⟩
 have HB := hid (fun w' u (h' : TW (KN K w w1) w1 w' A C B u u) => h'.unbase h hbl)
 clear hw1 hbl hsz h hG
 generalize w.heap.size = G at *
 generalize W1.heap.size = J at *
 generalize KN K w w1 = K1 at *
 have hq := fun wx (hx : TW K1 w1 wx A C B t t) => p_find hx HT.out cwd u u u g g s HZ.out
 have hq2 := fun wx (hx : TW K1 w1 wx A C B t t) => d_find hx HT.out cwd u u u g g s HS.out
 unfold makeV at hq hq2
 generalize findP t cwd u g s.data.toList = f at *
 obtain ⟨f1, f2⟩ := f
 simp only at hq hq2
 have H1 := hid hq
 have H2 := hid hq2
 clear hq hq2
 go_wp2_with (first
  | (go_at_call 30; refine (H1.out _ h1).mono ?_; rintro e w2 ⟨rfl, p1⟩; have s1 := p1.cell hK q1; have s4 := p1.cell hK q4; have u0 := p1.cell hJ r0; have u1 := p1.cell hJ r1; have u2 := p1.cell hJ r2; have u3 := p1.cell hJ r3; have u4 := p1.cell hJ r4)
  | (go_at_call 36; refine (H2.out _ p1).mono ?_; rintro e w3 ⟨rfl, p2⟩))
 go_ret
 exact ⟨ret_bool (by simp), HB.out _ _ p2⟩
theorem does7_parent (cwd u g : Int) (s x : ByteArray) (m n a b : Int) (hs : s.size ≤ 1048576) (hx : x.size ≤ 5000) (hm : wfI m) (hb : -9223372036854775808 ≤ b ∧ b ≤ 9223372036854775807) (h : TW K w0 w A C B t t) (ht : Inv N t) (hN : N ≤ 999999) :
 Calls Tryz.prog 11 #[.pointer (some ⟨A, 0, none⟩), .pointer (some ⟨C, 0, none⟩), .agg #[.int .i64 2, .int .i64 cwd, .int .i64 u, .int .i64 g, .string s, .string x, .int .i64 m, .int .i64 n, .int .i64 a, .int .i64 b]] w fun e w' => e = .returned (.bool true) ∧ TW K w0 w' A C B t t := by
 have hz : s.size ≤ maxLen := by unfold maxLen; omega
 have hxz : x.size ≤ maxLen := by unfold maxLen; omega
 have hx6 : x.size ≤ 1000000 := by omega
 have hx7 : x.size ≤ 1048576 := by omega
 have HS := hid hs
 have HZ := hid hz
 have HXZ := hid hxz
 have HX6 := hid hx6
 have HX7 := hid hx7
 have HM := hid hm
 have HBB := hid hb
 have HT := hid ht
 have HN := hid hN
 clear hs hx hm hb ht hN hz hxz hx6 hx7
 go_enter Tryz.func11, Tryz.ntmps11
 go_wp2_with fail
 refine (who_any _ _ _).mono ?_
 rintro e W1 ⟨rfl, bw⟩
 have kb : Blk W1 w.heap.size 29 #[.int .i64 2, .int .i64 cwd, .int .i64 u, .int .i64 g, .string s, .string x, .int .i64 m, .int .i64 n, .int .i64 a, .int .i64 b] := Blk.up (Blk.new w _ _) bw
 have hG := kb.lt
 have k1 := kb.alloc (.cells #[.int .i64 u, .int .i64 u, .int .i64 u, .int .i64 g, .int .i64 g] 42)
 have k2 := Blk.new W1 42 #[.int .i64 u, .int .i64 u, .int .i64 u, .int .i64 g, .int .i64 g]
 have hbl : Below w.heap.size w (W1.alloc (.cells #[.int .i64 u, .int .i64 u, .int .i64 u, .int .i64 g, .int .i64 g] 42)) := bal (bnext (bel1 w _) bw) _
 obtain ⟨q0, q1, q2, q3, q4, q5, q6, q7, q8, q9⟩ := Blk.k10 k1
 obtain ⟨r0, r1, r2, r3, r4⟩ := Blk.k5 k2
 clear kb k1 k2 bw
 go_wp2_with fail
 generalize hw1 : W1.alloc (.cells #[.int .i64 u, .int .i64 u, .int .i64 u, .int .i64 g, .int .i64 g] 42) = w1 at *
 have hsz : W1.heap.size < w1.heap.size := by rw [← hw1]; simp
 have h1 := h.rebase hbl
 have hK : KN K w w1 w.heap.size := .inr ⟨Nat.le_refl _, by omega⟩
 have hJ : KN K w w1 W1.heap.size := .inr ⟨by omega, hsz⟩
 have HB := hid (fun w' u (h' : TW (KN K w w1) w1 w' A C B u u) => h'.unbase h hbl)
 clear hw1 hbl hsz h hG
 generalize w.heap.size = G at *
 generalize W1.heap.size = J at *
 generalize KN K w w1 = K1 at *
 have hq := fun wx (hx : TW K1 w1 wx A C B t t) => p_parent hx HT.out cwd u u u g g s HZ.out
 have hq2 := fun wx (hx : TW K1 w1 wx A C B t t) => d_parent hx HT.out cwd u u u g g s HS.out
 unfold plc4V at hq2
 generalize placeP t cwd u g s.data.toList = f at *
 obtain ⟨f1, f2, f3, f4⟩ := f
 simp only at hq hq2
 generalize (⟨f2.toArray⟩ : ByteArray) = nm at *
 have H1 := hid hq
 have H2 := hid hq2
 clear hq hq2
 go_wp2_with (first
  | (go_at_call 16; refine (H1.out _ h1).mono ?_; rintro e w2 ⟨rfl, p1⟩; have s1 := p1.cell hK q1; have s4 := p1.cell hK q4; have u0 := p1.cell hJ r0; have u1 := p1.cell hJ r1; have u2 := p1.cell hJ r2; have u3 := p1.cell hJ r3; have u4 := p1.cell hJ r4)
  | (go_at_call 37; refine (H2.out _ p1).mono ?_; rintro e w3 ⟨rfl, p2⟩))
 go_ret
 exact ⟨ret_bool (by simp), HB.out _ _ p2⟩
end
section
open Go.RowKit Ino Go.Maps Pa
variable {w0 w : World} {A C B N : Nat} {t : T} {K : Nat → Prop}
theorem does7_open (cwd u g : Int) (s x : ByteArray) (m n a b : Int) (hs : s.size ≤ 1048576) (hx : x.size ≤ 5000) (hm : wfI m) (hb : -9223372036854775808 ≤ b ∧ b ≤ 9223372036854775807) (h : TW K w0 w A C B t t) (ht : Inv N t) (hN : N ≤ 999999) :
 Calls Tryz.prog 11 #[.pointer (some ⟨A, 0, none⟩), .pointer (some ⟨C, 0, none⟩), .agg #[.int .i64 3, .int .i64 cwd, .int .i64 u, .int .i64 g, .string s, .string x, .int .i64 m, .int .i64 n, .int .i64 a, .int .i64 b]] w fun e w' => e = .returned (.bool true) ∧ TW K w0 w' A C B (openP t cwd u g s.data.toList (bits .and .i64 n 7) (bits .and .i64 n 8 != 0) (bits .and .i64 n 16 != 0) (bits .and .i64 n 32 != 0) m).1 (openP t cwd u g s.data.toList (bits .and .i64 n 7) (bits .and .i64 n 8 != 0) (bits .and .i64 n 16 != 0) (bits .and .i64 n 32 != 0) m).1 := by
 obtain ⟨y, f1, f2, hr⟩ : ∃ y f1 f2, openP t cwd u g s.data.toList (bits .and .i64 n 7) (bits .and .i64 n 8 != 0) (bits .and .i64 n 16 != 0) (bits .and .i64 n 32 != 0) m = (y, f1, f2) := ⟨_, _, _, rfl⟩
 rw [hr]
 have HR := hid hr
 clear hr
 have hz : s.size ≤ maxLen := by unfold maxLen; omega
 have hxz : x.size ≤ maxLen := by unfold maxLen; omega
 have hx6 : x.size ≤ 1000000 := by omega
 have hx7 : x.size ≤ 1048576 := by omega
 have HS := hid hs
 have HZ := hid hz
 have HXZ := hid hxz
 have HX6 := hid hx6
 have HX7 := hid hx7
 have HM := hid hm
 have HBB := hid hb
 have HT := hid ht
 have HN := hid hN
 clear hs hx hm hb ht hN hz hxz hx6 hx7
 go_enter Tryz.func11, Tryz.ntmps11
 go_wp2_with fail
 refine (who_any _ _ _).mono ?_
 rintro e W1 ⟨rfl, bw⟩
 have kb : Blk W1 w.heap.size 29 #[.int .i64 3, .int .i64 cwd, .int .i64 u, .int .i64 g, .string s, .string x, .int .i64 m, .int .i64 n, .int .i64 a, .int .i64 b] := Blk.up (Blk.new w _ _) bw
 have hG := kb.lt
 have k1 := kb.alloc (.cells #[.int .i64 u, .int .i64 u, .int .i64 u, .int .i64 g, .int .i64 g] 42)
 have k2 := Blk.new W1 42 #[.int .i64 u, .int .i64 u, .int .i64 u, .int .i64 g, .int .i64 g]
 have hbl : Below w.heap.size w (W1.alloc (.cells #[.int .i64 u, .int .i64 u, .int .i64 u, .int .i64 g, .int .i64 g] 42)) := bal (bnext (bel1 w _) bw) _
 obtain ⟨q0, q1, q2, q3, q4, q5, q6, q7, q8, q9⟩ := Blk.k10 k1
 obtain ⟨r0, r1, r2, r3, r4⟩ := Blk.k5 k2
 clear kb k1 k2 bw
 go_wp2_with fail
 generalize hw1 : W1.alloc (.cells #[.int .i64 u, .int .i64 u, .int .i64 u, .int .i64 g, .int .i64 g] 42) = w1 at *
 have hsz : W1.heap.size < w1.heap.size := by rw [← hw1]; simp
 have h1 := h.rebase hbl
 have hK : KN K w w1 w.heap.size := .inr ⟨Nat.le_refl _, by omega⟩
 have hJ : KN K w w1 W1.heap.size := .inr ⟨by omega, hsz⟩
 have HB := hid (fun w' u (h' : TW (KN K w w1) w1 w' A C B u u) => h'.unbase h hbl)
 clear hw1 hbl hsz h hG
 generalize w.heap.size = G at *
 generalize W1.heap.size = J at *
 generalize KN K w w1 = K1 at *
 have hq := fun wx (hx : TW K1 w1 wx A C B t t) => p_open hx HT.out cwd u u u g g s HZ.out (bits .and .i64 n 7) (bits .and .i64 n 8 != 0) (bits .and .i64 n 16 != 0) (bits .and .i64 n 32 != 0) false m HM.out HN.out
 have hq2 := fun wx (hx : TW K1 w1 wx A C B y t) => d_open hx HT.out HN.out cwd u u u g g s HS.out (bits .and .i64 n 7) (bits .and .i64 n 8 != 0) (bits .and .i64 n 16 != 0) (bits .and .i64 n 32 != 0) false m
 rw [HR.out] at hq hq2
 unfold makeV at hq hq2
 simp only at hq hq2
 have H1 := hid hq
 have H2 := hid hq2
 clear hq hq2
 go_region_held3 (fun w' => w'.cell? ⟨G, 0, none⟩ = some (.int .i64 3) ∧ w'.cell? ⟨G, 1, none⟩ = some (.int .i64 cwd) ∧ w'.cell? ⟨G, 2, none⟩ = some (.int .i64 u) ∧ w'.cell? ⟨G, 3, none⟩ = some (.int .i64 g) ∧ w'.cell? ⟨G, 4, none⟩ = some (.string s) ∧ w'.cell? ⟨G, 5, none⟩ = some (.string x) ∧ w'.cell? ⟨G, 6, none⟩ = some (.int .i64 m) ∧ w'.cell? ⟨G, 7, none⟩ = some (.int .i64 n) ∧ w'.cell? ⟨G, 8, none⟩ = some (.int .i64 a) ∧ w'.cell? ⟨G, 9, none⟩ = some (.int .i64 b) ∧ w'.cell? ⟨J, 0, none⟩ = some (.int .i64 u) ∧ w'.cell? ⟨J, 1, none⟩ = some (.int .i64 u) ∧ w'.cell? ⟨J, 2, none⟩ = some (.int .i64 u) ∧ w'.cell? ⟨J, 3, none⟩ = some (.int .i64 g) ∧ w'.cell? ⟨J, 4, none⟩ = some (.int .i64 g))
  (first | exact ⟨q0, q1, q2, q3, q4, q5, q6, q7, q8, q9, r0, r1, r2, r3, r4⟩ | exact ⟨p0.cell hK q0, p0.cell hK q1, p0.cell hK q2, p0.cell hK q3, p0.cell hK q4, p0.cell hK q5, p0.cell hK q6, p0.cell hK q7, p0.cell hK q8, p0.cell hK q9, p0.cell hJ r0, p0.cell hJ r1, p0.cell hJ r2, p0.cell hJ r3, p0.cell hJ r4⟩ | exact ⟨p1.cell hK q0, p1.cell hK q1, p1.cell hK q2, p1.cell hK q3, p1.cell hK q4, p1.cell hK q5, p1.cell hK q6, p1.cell hK q7, p1.cell hK q8, p1.cell hK q9, p1.cell hJ r0, p1.cell hJ r1, p1.cell hJ r2, p1.cell hJ r3, p1.cell hJ r4⟩)
  (first
    | (go_at_call 14; refine (how_any _ _ _ _ _ _ _ _ _ _ _).mono ?_; rintro e w2 ⟨rfl, bh⟩; have p0 := h1.drew.read bh; clear bh)
    | (go_at_call 20; refine (H1.out _ p0).mono ?_; rintro e w3 ⟨rfl, p1⟩))
 go_wp2_with fail
 go_region_held3 (fun w' => w'.cell? ⟨G, 0, none⟩ = some (.int .i64 3) ∧ w'.cell? ⟨G, 1, none⟩ = some (.int .i64 cwd) ∧ w'.cell? ⟨G, 2, none⟩ = some (.int .i64 u) ∧ w'.cell? ⟨G, 3, none⟩ = some (.int .i64 g) ∧ w'.cell? ⟨G, 4, none⟩ = some (.string s) ∧ w'.cell? ⟨G, 5, none⟩ = some (.string x) ∧ w'.cell? ⟨G, 6, none⟩ = some (.int .i64 m) ∧ w'.cell? ⟨G, 7, none⟩ = some (.int .i64 n) ∧ w'.cell? ⟨G, 8, none⟩ = some (.int .i64 a) ∧ w'.cell? ⟨G, 9, none⟩ = some (.int .i64 b) ∧ w'.cell? ⟨J, 0, none⟩ = some (.int .i64 u) ∧ w'.cell? ⟨J, 1, none⟩ = some (.int .i64 u) ∧ w'.cell? ⟨J, 2, none⟩ = some (.int .i64 u) ∧ w'.cell? ⟨J, 3, none⟩ = some (.int .i64 g) ∧ w'.cell? ⟨J, 4, none⟩ = some (.int .i64 g))
  (first | exact ⟨p1.cell hK q0, p1.cell hK q1, p1.cell hK q2, p1.cell hK q3, p1.cell hK q4, p1.cell hK q5, p1.cell hK q6, p1.cell hK q7, p1.cell hK q8, p1.cell hK q9, p1.cell hJ r0, p1.cell hJ r1, p1.cell hJ r2, p1.cell hJ r3, p1.cell hJ r4⟩ | exact ⟨p3.cell hK q0, p3.cell hK q1, p3.cell hK q2, p3.cell hK q3, p3.cell hK q4, p3.cell hK q5, p3.cell hK q6, p3.cell hK q7, p3.cell hK q8, p3.cell hK q9, p3.cell hJ r0, p3.cell hJ r1, p3.cell hJ r2, p3.cell hJ r3, p3.cell hJ r4⟩ | exact ⟨p2.cell hK q0, p2.cell hK q1, p2.cell hK q2, p2.cell hK q3, p2.cell hK q4, p2.cell hK q5, p2.cell hK q6, p2.cell hK q7, p2.cell hK q8, p2.cell hK q9, p2.cell hJ r0, p2.cell hJ r1, p2.cell hJ r2, p2.cell hJ r3, p2.cell hJ r4⟩)
  (first
    | (go_at_call 14; refine (how_any _ _ _ _ _ _ _ _ _ _ _).mono ?_; rintro e w4 ⟨rfl, bh⟩; have p3 := p1.drew.read bh; clear bh)
    | (go_at_call 38; refine (H2.out _ p3).mono ?_; rintro e w5 ⟨rfl, p2⟩))
 go_wp2
 go_ret
 exact ⟨ret_bool (by simp), HB.out _ _ p2⟩
end
end Go.Proofs.YtlpececggkdhmaaGreat
