import Derived.Laws.StructEq
import Derived.Lib.LazyBuf
import Derived.Test.YtlpececggkdhmaaGreatN25
import Derived.Test.YtlpececggkdhmaaGreatN6
import Derived.Test.YtlpececggkdhmaaGreatN10
open Go.Lib (hid)
set_option linter.unusedVariables false
set_option linter.unusedSimpArgs false
namespace Go.Proofs.YtlpececggkdhmaaGreat
section
open Go.RowKit Ino Go.Maps
def someRel (w : World) (A C B : Nat) (iv : Value) (wr : World) : Prop := ∃ (k : Nat) (t : T), iv = .int .i64 k ∧ k ≤ 60 ∧ TW (KB w) w wr A C B t t ∧ Inv k t
set_option maxHeartbeats 8000000 in
set_option maxRecDepth 100000 in
theorem some7_any (p0 : Option Addr) (n0 c0 : Nat) (z0 : List Op7) (w : World) (h0 : InOps7 w p0 n0 z0) (l0 : n0 ≤ maxLen) :
 Calls Tryz.prog 13 #[.slice p0 n0 c0] w fun e w' => ∃ A t, e = .returned (.pointer (some ⟨A, 0, none⟩)) ∧ PS w w' A t ∧ Inv 60 t := by
 have hm : wfI 511 := by unfold wfI; omega
 have hk : rOk 511 0 0 = true := by decide
 have I0 : Inv 0 (Ino.newP 511 0 0) := ⟨sound_new _ _ _, md_new hk, mw_new hm, HB.new _ _ _⟩
 have H0 := hid h0
 unfold maxLen at l0
 clear h0
 go_enter Tryz.func13, Tryz.ntmps13
 go_wp2_with (first
  | (go_at_call 9; refine (ps_new (Below.refl w.heap.size w) 511 0 0 hm hk).mono ?_; rintro e w2 ⟨A, rfl, p2⟩)
  | (go_at_call 10; refine (td_new 511 0 0 p2 (by decide) (by decide) (by decide)).mono ?_; rintro e w3 ⟨C, B, rfl, p3⟩))
 clear p2
 go_loopw [5] (fun iv wr => someRel w A C B iv wr) (fun iv _ => 60 - (intOf iv).toNat)
 case atStart => exact ⟨0, _, rfl, by decide, p3, I0⟩
 case round =>
  obtain ⟨k, t, rfl, hk60, hp, hI⟩ := hrel
  clear p3 I0
  by_cases hlt : k < n0 ∧ k < 60
  ·obtain ⟨k0, k2⟩ := hlt
   have hz0 : z0[k]? = some (z0[k]'(by rw [H0.out.1]; exact k0)) := List.getElem?_eq_getElem _
   obtain ⟨ok0, g0, o0, rfl, hc⟩ := H0.out.2 k _ hz0
   generalize z0[k]'(by rw [H0.out.1]; exact k0) = z at hz0 ok0 hc
   have hg : g0 < w.heap.size := cell_lt (hc 0 _ rfl)
   have e0 : wr.cell? ⟨g0, o0 + k * 10, none⟩ = some (.int .i64 z.kind) := hp.cell hg (hc 0 _ rfl)
   have e1 : wr.cell? ⟨g0, o0 + k * 10 + 1, none⟩ = some (.int .i64 z.cwd) := hp.cell hg (hc 1 _ rfl)
   have e2 : wr.cell? ⟨g0, o0 + k * 10 + 2, none⟩ = some (.int .i64 z.u) := hp.cell hg (hc 2 _ rfl)
   have e3 : wr.cell? ⟨g0, o0 + k * 10 + 3, none⟩ = some (.int .i64 z.g) := hp.cell hg (hc 3 _ rfl)
   have e4 : wr.cell? ⟨g0, o0 + k * 10 + 4, none⟩ = some (.string z.s) := hp.cell hg (hc 4 _ rfl)
   have e5 : wr.cell? ⟨g0, o0 + k * 10 + 5, none⟩ = some (.string z.x) := hp.cell hg (hc 5 _ rfl)
   have e6 : wr.cell? ⟨g0, o0 + k * 10 + 6, none⟩ = some (.int .i64 z.m) := hp.cell hg (hc 6 _ rfl)
   have e7 : wr.cell? ⟨g0, o0 + k * 10 + 7, none⟩ = some (.int .i64 z.n) := hp.cell hg (hc 7 _ rfl)
   have e8 : wr.cell? ⟨g0, o0 + k * 10 + 8, none⟩ = some (.int .i64 z.a) := hp.cell hg (hc 8 _ rfl)
   have e9 : wr.cell? ⟨g0, o0 + k * 10 + 9, none⟩ = some (.int .i64 z.b) := hp.cell hg (hc 9 _ rfl)
   have i1 : (0 : Int) ≤ (k : Int) := by omega
   have i2 : (k : Int) < n0 := by omega
   have i5 : (k : Int) < 60 := by omega
   have HI := hid hI
   clear hz0 hI hc
   obtain ⟨kd, cwd, u, g, s, x, om, n, a, b⟩ := z
   simp only at e0 e1 e2 e3 e4 e5 e6 e7 e8 e9
   obtain ⟨os, ox, oom, ob⟩ := ok0
   simp only at os ox oom ob
   by_cases hsz : x.size ≤ 5000
   ·have i3 : (x.size : Int) ≤ 5000 := by omega
    have ok : Op7.Ok ⟨kd, cwd, u, g, s, x, om, n, a, b⟩ := ⟨os, hsz, oom, ob⟩
    have hd := does7_any ⟨kd, cwd, u, g, s, x, om, n, a, b⟩ ok hp HI.out (by omega)
    have hI2 := Op7.keeps ⟨kd, cwd, u, g, s, x, om, n, a, b⟩ ok HI.out
    simp only [Op7.val] at hd
    have HD := hid hd
    have HI2 := hid hI2
    clear hd hI2 ok hp HI
    generalize Op7.step ⟨kd, cwd, u, g, s, x, om, n, a, b⟩ t = t' at *
    go_wp2_with (first
     | (go_at_call 11; refine HD.out.mono ?_; rintro e w4 ⟨rfl, p4⟩))
    go_roundw
    case rel => exact ⟨k + 1, t', by go_num, by omega, p4, HI2.out⟩
    case measure => simp [intOf]; omega
   ·have i3 : ¬ (x.size : Int) ≤ 5000 := by omega
    have HP := hid hp
    clear hp
    go_wp2_with fail
    go_roundw
    case rel => exact ⟨k + 1, t, by go_num, by omega, HP.out, ⟨HI.out.s, HI.out.m, HI.out.w, HI.out.b.mono (by omega)⟩⟩
    case measure => simp [intOf]; omega
  ·have HP := hid hp.ps
   have HI : Hid (Inv 60 t) := hid ⟨hI.s, hI.m, hI.w, hI.b.mono hk60⟩
   clear hI hp
   by_cases hk0 : k < n0
   ·have hk1 : ¬ k < 60 := fun h => hlt ⟨hk0, h⟩
    have i1 : (k : Int) < n0 := by omega
    have i2 : ¬ (k : Int) < 60 := by omega
    go_wp2_with fail
    go_ret
    first | exact ⟨_, t, rfl, HP.out, HI.out⟩ | exact ⟨_, rfl, t, HP.out, HI.out⟩
   ·have i1 : ¬ (k : Int) < n0 := by omega
    go_wp2_with fail
    go_ret
    first | exact ⟨_, t, rfl, HP.out, HI.out⟩ | exact ⟨_, rfl, t, HP.out, HI.out⟩
end
section
open Go.RowKit Ino Go.Maps Pa
section
variable {w0 w w' : World} {A n G : Nat} {t : T} {L : Nat → Prop} {U g : Int}
def CU2 (W : World) (G : Nat) (U g : Int) : Prop := W.cell? ⟨G, 0, none⟩ = some (.int .i64 U) ∧ W.cell? ⟨G, 1, none⟩ = some (.int .i64 U) ∧ W.cell? ⟨G, 2, none⟩ = some (.int .i64 U) ∧ W.cell? ⟨G, 3, none⟩ = some (.int .i64 g) ∧ W.cell? ⟨G, 4, none⟩ = some (.int .i64 g)
theorem CU2.kp (h : CU2 w G U g) (k : Kp L w w') (hL : L G) : CU2 w' G U g := ⟨k.cell hL h.1, k.cell hL h.2.1, k.cell hL h.2.2.1, k.cell hL h.2.2.2.1, k.cell hL h.2.2.2.2⟩
theorem CU2.up (h : CU2 w G U g) (b : Below w.heap.size w w') : CU2 w' G U g := ⟨up1 h.1 b, up1 h.2.1 b, up1 h.2.2.1 b, up1 h.2.2.2.1 b, up1 h.2.2.2.2 b⟩
theorem and_le9 (n : Int) (k : Nat) (hk : k < 9223372036854775808) : ∃ m : Nat, bits .and .i64 n (k : Int) = (m : Int) ∧ m ≤ k := by
 refine ⟨(n % 18446744073709551616).toNat &&& k, ?_, Nat.and_le_right⟩
 show IntKind.i64.wrap ((BitVec.ofInt 64 n &&& BitVec.ofInt 64 (k : Int)).toNat : Int) = _
 rw [BitVec.toNat_and, BitVec.toNat_ofInt, BitVec.toNat_ofInt]
 have e : ((k : Int) % ((2 ^ 64 : Nat) : Int)).toNat = k := by omega
 have e2 : (2 ^ 64 : Nat) = 18446744073709551616 := by decide
 rw [e, e2]
 have h : (n % ((18446744073709551616 : Nat) : Int)).toNat &&& k ≤ k := Nat.and_le_right
 rw [IntKind.wrap_i64]
 have e3 : (((18446744073709551616 : Nat) : Int)) = 18446744073709551616 := rfl
 rw [e3] at h ⊢
 omega
theorem InSt.up9 {α : Type} {mk : α → List Value} {ok : α → Prop} {c : Nat} {W W' : World} {p : Option Addr} {n : Nat} {zs : List α} (h : InSt mk ok c W p n zs) (b : Below W.heap.size W W') : InSt mk ok c W' p n zs :=
 ⟨h.1, fun j z hz => by
  obtain ⟨k0, g, off, k1, k2⟩ := h.2 j z hz
  exact ⟨k0, g, off, k1, fun i v hv => (b.cell (p := ⟨g, off + j * c + i, none⟩) (cell_lt (k2 i v hv))).trans (k2 i v hv)⟩⟩
end
section
open Go.ChangeShapes Go.WideShapes Go.Deep
set_option maxRecDepth 100000 in
theorem open_op7 {H : Type} {enc : TypeId × Value → H} {w : World} {base : Nat} {spare : Nat → Bool} {held : Bool} {r : Reach} {b0 : Nat} {v : Value} {d : DataW H} {p : List MemPlace} (hv : Value.okWide Tryz.prog w r b0 29 v) (h : DataW.Trod enc Tryz.prog w base spare held 29 v d p) (hM : Rows.uptoBulk d ≤ 1048576) :
 ∃ z : Op7, v = z.val ∧ z.In := by
 obtain ⟨cs, rfl, hsz⟩ := okWide_struct op7T hv
 obtain ⟨fuel, hf⟩ := h
 obtain ⟨u, hu, hi⟩ := cells_op7 hf hM
 obtain ⟨l⟩ := cs
 have e : l = u.cells := hu
 refine ⟨u, ?_, hi⟩
 rw [e]
 rfl
end
end
section
open Ino Pa Mo
open Go.RowKit
variable {t : T}
theorem and_mask9 (m : Int) (k : Nat) (hk : k < 9223372036854775808) : bits .and .i64 m (k : Int) = (((m % 18446744073709551616).toNat &&& k : Nat) : Int) := by
 show IntKind.i64.wrap ((BitVec.ofInt 64 m &&& BitVec.ofInt 64 (k : Int)).toNat : Int) = _
 rw [BitVec.toNat_and, toNat_ofInt, toNat_ofInt, show ((k : Int) % 18446744073709551616).toNat = k from by omega]
 have h : (m % 18446744073709551616).toNat &&& k ≤ k := Nat.and_le_right
 rw [IntKind.wrap_i64]; omega
theorem plain_clear (m : Int) : bits .and .i64 (bits .andNot .i64 m 2048) 2048 = 0 := by
 have e0 : (BitVec.ofInt 64 m &&& ~~~ BitVec.ofInt 64 2048).toNat = (m % 18446744073709551616).toNat &&& 18446744073709549567 := by
  rw [BitVec.toNat_and, toNat_ofInt]; rfl
 have e1 : bits .andNot .i64 m 2048 = IntKind.i64.wrap (((m % 18446744073709551616).toNat &&& 18446744073709549567 : Nat) : Int) := by
  rw [← e0]; rfl
 rw [e1, show (2048 : Int) = ((2048 : Nat) : Int) from rfl, and_mask9 _ _ (by decide)]
 have hz : ((m % 18446744073709551616).toNat &&& 18446744073709549567) &&& 2048 = 0 := by
  rw [Nat.and_assoc, show (18446744073709549567 &&& 2048 : Nat) = 0 by decide, Nat.and_zero]
 have hr : (m % 18446744073709551616).toNat &&& 18446744073709549567 ≤ 18446744073709549567 := Nat.and_le_right
 generalize (m % 18446744073709551616).toNat &&& 18446744073709549567 = r at *
 have e2 : (IntKind.i64.wrap (r : Int) % 18446744073709551616).toNat = r := by rw [IntKind.wrap_i64]; omega
 rw [e2, hz]
 rfl
theorem stat_own (x : Nat) (m o g : Int) (i : Int) : statP (upd t x { t x with mode := m, owner := o, group := g }) i = statP t i ∨ (i.toNat = x ∧ statP (upd t x { t x with mode := m, owner := o, group := g }) i = ({ (statP t i).1 with mode := m, owner := o, group := g }, true) ∧ (statP t i).1.owner = (t x).owner) := by
 by_cases hi : i.toNat = x
 ·by_cases h1 : isI t i = true
  ·have h2 : isI (upd t x { t x with mode := m, owner := o, group := g }) i = true := by
    unfold isI at h1 ⊢
    rw [hi] at h1 ⊢
    rw [upd_same]
    exact h1
   refine .inr ⟨hi, ?_, ?_⟩
   ·unfold statP
    rw [if_pos h2, if_pos h1, hi, upd_same, links_upd_same]
    rfl
   ·unfold statP
    rw [if_pos h1, hi]
  ·have h2 : ¬ isI (upd t x { t x with mode := m, owner := o, group := g }) i = true := by
    unfold isI at h1 ⊢
    rw [hi] at h1 ⊢
    rw [upd_same]
    exact h1
   left
   unfold statP
   rw [if_neg h2, if_neg h1]
 ·left
  have e : isI (upd t x { t x with mode := m, owner := o, group := g }) i = isI t i := by
   unfold isI
   rw [upd_other _ _ hi]
  unfold statP
  rw [e, upd_other _ _ hi, links_upd_same]
  rfl
def Sm (u : Int) (a b : Inf) : Prop := b = a ∨ u = 0 ∨ (u = a.owner ∧ b.owner = a.owner)
theorem set_sm {u : Int} {x : Nat} {ok : Bool} {m o g : Int} (h : u = 0 ∨ (u = (t x).owner ∧ o = (t x).owner)) (i : Int) : Sm u (statP t i).1 (statP (setP t (x : Int) ok m o g).1 i).1 := by
 unfold setP
 split
 ·split
  ·show Sm u (statP t i).1 (statP (upd t (x : Int).toNat _) i).1
   rw [Int.toNat_natCast]
   rcases stat_own (t := t) x m o g i with e | ⟨e1, e2, e3⟩
   ·exact .inl (congrArg Prod.fst e)
   ·rcases h with h | ⟨h1, h2⟩
    ·exact .inr (.inl h)
    ·refine .inr (.inr ⟨by rw [e3]; exact h1, ?_⟩)
     have e4 : (statP (upd t x { t x with mode := m, owner := o, group := g }) i).1.owner = o := by rw [e2]
     exact e4.trans (h2.trans e3.symm)
  ·exact .inl rfl
 ·exact .inl rfl
theorem chmod_sm (cwd u g : Int) (s : Bs) (m i : Int) : Sm u (statP t i).1 (statP (chmodP t cwd u g s m).1 i).1 := by
 unfold chmodP
 split
 ·split
  ·rename_i h
   exact set_sm (h.imp id fun q => ⟨q, rfl⟩) i
  ·exact .inl rfl
 ·exact .inl rfl
theorem chown_sm (cwd u g : Int) (s : Bs) (o k i : Int) : Sm u (statP t i).1 (statP (chownP t cwd u g s o k).1 i).1 := by
 unfold chownP
 split
 ·split
  ·rename_i h
   exact set_sm (h.imp id fun q => ⟨q.1, q.2.1⟩) i
  ·exact .inl rfl
 ·exact .inl rfl
theorem look_scal (x : Nat) (v : Nod) (h1 : v.is = (t x).is) (h2 : v.kind = (t x).kind) (h3 : v.ents = (t x).ents) (h4 : v.parent = (t x).parent) (d : Int) (n : Bs) : lookP (upd t x v) d n = lookP t d n := by
 have e : ∀ j, (upd t x v j).is = (t j).is ∧ (upd t x v j).kind = (t j).kind ∧ (upd t x v j).ents = (t j).ents ∧ (upd t x v j).parent = (t j).parent := fun j => by
  by_cases q : j = x
  ·subst q; rw [upd_same]; exact ⟨h1, h2, h3, h4⟩
  ·rw [upd_other _ _ q]; exact ⟨rfl, rfl, rfl, rfl⟩
 unfold lookP isD isI
 rw [(e d.toNat).1, (e d.toNat).2.1, (e d.toNat).2.2.1, (e d.toNat).2.2.2]
theorem down_same {t' : T} (hl : ∀ d n, lookP t' d n = lookP t d n) (u g : Int) : ∀ (l : List Bs) (x : Nat), (downT t u g x l).2 = 0 → (downT t' u g x l).2 = 0 → (downT t' u g x l).1 = (downT t u g x l).1
 | [], x, _, _ => rfl
 | n :: r, x, h1, h2 => by
  unfold downT at h1 h2 ⊢
  by_cases a1 : lookE t x u g = 0
  ·rw [if_pos a1] at h1 ⊢
   by_cases a2 : lookE t' x u g = 0
   ·rw [if_pos a2, hl] at h2 ⊢
    by_cases a3 : (lookP t x n).2 = true
    ·rw [if_pos a3] at h1 h2 ⊢
     rw [if_pos a3]
     exact down_same hl u g r _ h1 h2
    ·rw [if_neg a3] at h1; cases h1
   ·rw [if_neg a2] at h2; exact absurd h2 a2
  ·rw [if_neg a1] at h1; exact absurd h1 a1
theorem find_down {cwd u g : Int} {s : Bs} (h : (findP t cwd u g s).2 = 0) : (downP t cwd u g (absP s) (nam s)).2 = 0 ∧ (findP t cwd u g s).1 = (downP t cwd u g (absP s) (nam s)).1 := by
 unfold findP at h ⊢
 by_cases h1 : splE s = 0
 ·rw [if_pos h1] at h ⊢
  by_cases h2 : (downP t cwd u g (absP s) (nam s)).2 = 0
  ·rw [if_pos h2] at h ⊢
   by_cases h3 : dirP s = true ∧ (t (downP t cwd u g (absP s) (nam s)).1).kind ≠ 1
   ·rw [if_pos h3] at h; cases h
   ·rw [if_neg h3]; exact ⟨h2, rfl⟩
  ·rw [if_neg h2] at h; exact absurd h h2
 ·rw [if_neg h1] at h; exact absurd h h1
theorem find_same {t' : T} (hl : ∀ d n, lookP t' d n = lookP t d n) {cwd u g : Int} {s : Bs} (h1 : (findP t cwd u g s).2 = 0) (h2 : (findP t' cwd u g s).2 = 0) : (findP t' cwd u g s).1 = (findP t cwd u g s).1 := by
 obtain ⟨a1, a2⟩ := find_down h1
 obtain ⟨b1, b2⟩ := find_down h2
 rw [a2, b2]
 unfold downP at a1 b1 ⊢
 by_cases c1 : isI t (startI cwd (absP s)) = true
 ·by_cases c2 : isI t' (startI cwd (absP s)) = true
  ·rw [if_pos c1] at a1 ⊢
   rw [if_pos c2] at b1 ⊢
   exact down_same hl u g _ _ a1 b1
  ·rw [if_neg c2] at b1; cases b1
 ·rw [if_neg c1] at a1; cases a1
theorem chown_end {cwd u g : Int} {s : Bs} {o k : Int} (h1 : (chownP t cwd u g s o k).2 = 0) (h2 : (findP (chownP t cwd u g s o k).1 cwd u g s).2 = 0) :
 ∃ a : Inf, statP (chownP t cwd u g s o k).1 (((findP (chownP t cwd u g s o k).1 cwd u g s).1 : Nat) : Int) = (a, true) ∧ bits .and .i64 a.mode 2048 = 0 ∧ a.owner = o ∧ a.group = k := by
 by_cases f1 : (findP t cwd u g s).2 = 0
 ·by_cases f2 : u = 0 ∨ (u = (t (findP t cwd u g s).1).owner ∧ o = (t (findP t cwd u g s).1).owner ∧ (k = g ∨ k = (t (findP t cwd u g s).1).group))
  ·have e0 : chownP t cwd u g s o k = setP t (findP t cwd u g s).1 (rMode (bits .andNot .i64 (t (findP t cwd u g s).1).mode 2048) && (rId o && rId k)) (bits .andNot .i64 (t (findP t cwd u g s).1).mode 2048) o k := by
    unfold chownP
    rw [if_pos f1, if_pos f2]
   rw [e0] at h1 h2 ⊢
   by_cases f3 : isI t ((findP t cwd u g s).1 : Int) = true
   ·by_cases f4 : (rMode (bits .andNot .i64 (t (findP t cwd u g s).1).mode 2048) && (rId o && rId k)) = true
    ·have e1 : setP t (findP t cwd u g s).1 (rMode (bits .andNot .i64 (t (findP t cwd u g s).1).mode 2048) && (rId o && rId k)) (bits .andNot .i64 (t (findP t cwd u g s).1).mode 2048) o k = (upd t (findP t cwd u g s).1 { t (findP t cwd u g s).1 with mode := bits .andNot .i64 (t (findP t cwd u g s).1).mode 2048, owner := o, group := k }, 0) := by
      unfold setP
      rw [if_pos f3, if_pos f4, Int.toNat_natCast]
     rw [e1] at h2 ⊢
     have e2 := find_same (t := t) (t' := upd t (findP t cwd u g s).1 { t (findP t cwd u g s).1 with mode := bits .andNot .i64 (t (findP t cwd u g s).1).mode 2048, owner := o, group := k }) (fun d n => look_scal (findP t cwd u g s).1 { t (findP t cwd u g s).1 with mode := bits .andNot .i64 (t (findP t cwd u g s).1).mode 2048, owner := o, group := k } rfl rfl rfl rfl d n) f1 h2
     show ∃ a : Inf, statP (upd t (findP t cwd u g s).1 _) (((findP (upd t (findP t cwd u g s).1 _) cwd u g s).1 : Nat) : Int) = (a, true) ∧ _
     rw [e2]
     generalize (findP t cwd u g s).1 = x at *
     have f5 : isI (upd t x { t x with mode := bits .andNot .i64 (t x).mode 2048, owner := o, group := k }) (x : Int) = true := by
      unfold isI at f3 ⊢
      rw [Int.toNat_natCast] at f3 ⊢
      rw [upd_same]
      exact f3
     refine ⟨⟨x, (t x).kind, bits .andNot .i64 (t x).mode 2048, o, k, links (upd t x { t x with mode := bits .andNot .i64 (t x).mode 2048, owner := o, group := k }) x, ((t x).data.length : Int) + ((t x).ents.length : Int), (t x).tty⟩, ?_, plain_clear _, rfl, rfl⟩
     unfold statP
     rw [if_pos f5, Int.toNat_natCast, upd_same]
    ·unfold setP at h1
     rw [if_pos f3, if_neg f4] at h1; cases h1
   ·unfold setP at h1
    rw [if_neg f3] at h1; cases h1
  ·unfold chownP at h1
   rw [if_pos f1, if_neg f2] at h1; cases h1
 ·unfold chownP at h1
  rw [if_neg f1] at h1; exact absurd h1 f1
end
section
open Go.RowKit Ino Go.Maps Pa
set_option maxRecDepth 100000
section
theorem eq_same (a b c d e f g h : Int) (w : World) : (Op.equalIn 10000 50 (.agg #[.int .i64 a, .int .i64 b, .int .i64 c, .int .i64 d, .int .i64 e, .int .i64 f, .int .i64 g, .int .i64 h]) (.agg #[.int .i64 a, .int .i64 b, .int .i64 c, .int .i64 d, .int .i64 e, .int .i64 f, .int .i64 g, .int .i64 h])).run Tryz.prog w = .ok true w := by
 have hS : Tryz.prog.underlying 50 = some (.struct (Tryz.prog.fieldsOf 50)) := by kernel_rfl
 have hp : Tryz.prog.stoodInHeld 50 = false := by kernel_rfl
 rw [show (10000 : Nat) = 9999 + 1 from rfl, run_equalIn_agg w 9999 _ _ _ hS hp]
 simp only [Program.fieldsOf, Tryz.underlying50]
 go_simp
theorem eq_diff (a b c d e f g h a' b' c' d' e' f' g' h' : Int) (k : ¬ (a = a' ∧ b = b' ∧ c = c' ∧ d = d' ∧ e = e' ∧ f = f' ∧ g = g' ∧ h = h')) (w : World) : (Op.equalIn 10000 50 (.agg #[.int .i64 a, .int .i64 b, .int .i64 c, .int .i64 d, .int .i64 e, .int .i64 f, .int .i64 g, .int .i64 h]) (.agg #[.int .i64 a', .int .i64 b', .int .i64 c', .int .i64 d', .int .i64 e', .int .i64 f', .int .i64 g', .int .i64 h'])).run Tryz.prog w = .ok false w := by
 have hS : Tryz.prog.underlying 50 = some (.struct (Tryz.prog.fieldsOf 50)) := by kernel_rfl
 have hp : Tryz.prog.stoodInHeld 50 = false := by kernel_rfl
 rw [show (10000 : Nat) = 9999 + 1 from rfl, run_equalIn_agg w 9999 _ _ _ hS hp]
 simp only [Program.fieldsOf, Tryz.underlying50]
 go_simp
 first | exact fun e1 e2 e3 e4 e5 e6 e7 e8 => k ⟨e1, e2, e3, e4, e5, e6, e7, e8⟩ | ((repeat' split) <;> first | rfl | (rename_i e1 e2 e3 e4 e5 e6 e7 e8; exact absurd ⟨e1, e2, e3, e4, e5, e6, e7, e8⟩ k))
theorem guard_inf (op : BinOp) (a b : Operand) (xs ys : Array Value) (w : World) : (eqGuard op 50 a b (.agg xs) (.agg ys)).run Tryz.prog w = .ok () w := run_eqGuard_agg w op _ a b _ _ (by kernel_rfl)
variable {w0 w w' : World} {A n : Nat} {t : T} {L : Nat → Prop}
def infL (a : Inf) : List Value := [.int .i64 a.ino, .int .i64 a.kind, .int .i64 a.mode, .int .i64 a.owner, .int .i64 a.group, .int .i64 a.links, .int .i64 a.size, .int .i64 a.tty]
def rowI (f : Nat → Inf) (p : Nat) : Value := ((infL (f (p / 8)))[p % 8]?).getD default
def stF (t : T) (k i : Nat) : Inf := if i < k then (statP t (i : Int)).1 else noInf
theorem stF_at {k i : Nat} (h : i < k) : stF t k i = (statP t (i : Int)).1 := if_pos h
theorem rowI_cell {f : Nat → Inf} {G : Nat} {ty : TypeId} (h : w.rowIs G ty 1608 (rowI f)) {i : Nat} (hi : i ≤ 200) {j : Nat} (hj : j < 8) {v : Value} (hv : (infL (f i))[j]? = some v) : w.cell? ⟨G, i * 8 + j, none⟩ = some v := by
 rw [h.cell (i := i * 8 + j) (by omega)]
 unfold rowI
 rw [show (i * 8 + j) / 8 = i by omega, show (i * 8 + j) % 8 = j by omega, hv]
 rfl
def T8 (W : World) (G : Nat) (a0 a1 a2 a3 a4 a5 a6 a7 : Int) : Prop := W.cell? ⟨G, 0, none⟩ = some (.int .i64 a0) ∧ W.cell? ⟨G, 1, none⟩ = some (.int .i64 a1) ∧ W.cell? ⟨G, 2, none⟩ = some (.int .i64 a2) ∧ W.cell? ⟨G, 3, none⟩ = some (.int .i64 a3) ∧ W.cell? ⟨G, 4, none⟩ = some (.int .i64 a4) ∧ W.cell? ⟨G, 5, none⟩ = some (.int .i64 a5) ∧ W.cell? ⟨G, 6, none⟩ = some (.int .i64 a6) ∧ W.cell? ⟨G, 7, none⟩ = some (.int .i64 a7)
def I8 (W : World) (G o : Nat) (a0 a1 a2 a3 a4 a5 a6 a7 : Int) : Prop := W.cell? ⟨G, o, none⟩ = some (.int .i64 a0) ∧ W.cell? ⟨G, o + 1, none⟩ = some (.int .i64 a1) ∧ W.cell? ⟨G, o + 2, none⟩ = some (.int .i64 a2) ∧ W.cell? ⟨G, o + 3, none⟩ = some (.int .i64 a3) ∧ W.cell? ⟨G, o + 4, none⟩ = some (.int .i64 a4) ∧ W.cell? ⟨G, o + 5, none⟩ = some (.int .i64 a5) ∧ W.cell? ⟨G, o + 6, none⟩ = some (.int .i64 a6) ∧ W.cell? ⟨G, o + 7, none⟩ = some (.int .i64 a7)
theorem T8.new (V : World) (a0 a1 a2 a3 a4 a5 a6 a7 : Int) : T8 (V.alloc (.cells #[.int .i64 a0, .int .i64 a1, .int .i64 a2, .int .i64 a3, .int .i64 a4, .int .i64 a5, .int .i64 a6, .int .i64 a7] 50)) V.heap.size a0 a1 a2 a3 a4 a5 a6 a7 :=
 ⟨top_cell _ _ _ rfl, top_cell _ _ _ rfl, top_cell _ _ _ rfl, top_cell _ _ _ rfl, top_cell _ _ _ rfl, top_cell _ _ _ rfl, top_cell _ _ _ rfl, top_cell _ _ _ rfl⟩
theorem T8.drew {W : World} {G : Nat} {a0 a1 a2 a3 a4 a5 a6 a7 : Int} (h : T8 W G a0 a1 a2 a3 a4 a5 a6 a7) : T8 W.drew G a0 a1 a2 a3 a4 a5 a6 a7 := h
theorem I8.drew {W : World} {G o : Nat} {a0 a1 a2 a3 a4 a5 a6 a7 : Int} (h : I8 W G o a0 a1 a2 a3 a4 a5 a6 a7) : I8 W.drew G o a0 a1 a2 a3 a4 a5 a6 a7 := h
theorem I8.of {W : World} {f : Nat → Inf} {G i : Nat} {ty : TypeId} {a0 a1 a2 a3 a4 a5 a6 a7 : Int} (h : W.rowIs G ty 1608 (rowI f)) (hi : i ≤ 200) (e : f i = ⟨a0, a1, a2, a3, a4, a5, a6, a7⟩) : I8 W G (i * 8) a0 a1 a2 a3 a4 a5 a6 a7 :=
 ⟨rowI_cell h hi (j := 0) (by decide) (by rw [e]; rfl), rowI_cell h hi (j := 1) (by decide) (by rw [e]; rfl), rowI_cell h hi (j := 2) (by decide) (by rw [e]; rfl), rowI_cell h hi (j := 3) (by decide) (by rw [e]; rfl), rowI_cell h hi (j := 4) (by decide) (by rw [e]; rfl), rowI_cell h hi (j := 5) (by decide) (by rw [e]; rfl), rowI_cell h hi (j := 6) (by decide) (by rw [e]; rfl), rowI_cell h hi (j := 7) (by decide) (by rw [e]; rfl)⟩
theorem rowI_put {f : Nat → Inf} {G : Nat} {ty : TypeId} (h : w.rowIs G ty 1608 (rowI f)) (k : Nat) (a : Inf) : (w.setCells G (k * 8) (infL a)).rowIs G ty 1608 (rowI fun i => if i = k then a else f i) := by
 refine (rowIs_setCells (infL a) (k * 8) w (rowI f) h).congr fun p hp => ?_
 have hl : (infL a).length = 8 := rfl
 rw [hl]
 unfold rowI
 dsimp only
 by_cases e : p / 8 = k
 ·rw [if_pos (by omega), if_pos e, show p - k * 8 = p % 8 by omega]
 ·rw [if_neg (by omega), if_neg e]
theorem wpList_storeRow {w : World} {ops : Array Oper} {rest : List Oper} {o : Oper} {a : Act} {Q : Exit → Act → World → Prop} (hg : o.guard = none) (ty : TypeId) (x y : Operand) (ho : o.op = .store ty x y) (hd : o.dst = none)
 (G off : Nat) (T : TypeId) (N : Nat) (f : Nat → Value) (cs : Array Value) (hx : a.eval x = .pointer (some ⟨G, off, none⟩)) (hy : a.eval y = .agg cs) (hb : w.rowIs G T N f) (hs : off + cs.size ≤ N) (ht : AggOf Tryz.prog ty cs.size) (h1 : ∀ v ∈ cs.toList, v.oneCell' = true)
 (h : wpList Tryz.prog ops Q rest a (w.setCells G off cs.toList)) : wpList Tryz.prog ops Q (o :: rest) a w := by
 refine wpList_plain hg fun K hK => ?_
 have hst := run_storeCells_cells (P := Tryz.prog) G off cs.toList 0 w (fun j hj => by
  simp at hj
  rw [Nat.add_zero, hb.cell (i := off + j) (by omega)]
  simp) (fun j hj => hb.frozen _) h1
 have hv : (storeVar ty ⟨G, off, none⟩ (.agg cs)).run Tryz.prog w = .ok () (w.setCells G off cs.toList) := by
  simp [storeVar, Value.cells, ht.2, hst]
 unfold Oper.wp
 simp [execOp, ho, hx, hy, Instr.storeAt, Instr.sureAddr, hv, asAddr, Result.andThen]
 rw [Oper.upon_skip, hd]
 exact hK a _ h
theorem Fr.setCells9 {S : Nat → Prop} {a : World} {g : Nat} (hp : S g) : ∀ (vs : List Value) (o : Nat) (b : World), Fr S a b → Fr S a (b.setCells g o vs)
 | [], o, b, h => h
 | v :: r, o, b, h => Fr.setCells9 hp r (o + 1) _ (h.setCell (p := ⟨g, o, none⟩) (.inl hp) v)
theorem WL.write {B : Nat} (h : WL L w0 w A t n) (f : Fr (fun g => g = B) w w') (hB : L B) (hb : w0.heap.size ≤ B) : WL L w0 w' A t n := by
 obtain ⟨own, hP, hO, hb0, hL⟩ := h.p
 exact ⟨⟨own, hP.fr f (fun g hg e => (hL B hB).1 (by rw [← e]; exact hg)), hO, below_fr hb0 f (fun g hg => by rw [hg]; exact hb), fun g hg => ⟨(hL g hg).1, Nat.lt_of_lt_of_le (hL g hg).2 f.size⟩⟩, h.s, h.m, h.b⟩
def w1Rel (W1 : World) (A J G : Nat) (t : T) (u g : Int) (iv : Value) (W : World) : Prop := ∃ k : Nat, iv = .int .i64 k ∧ 1 ≤ k ∧ k ≤ 201 ∧ WL (fun q => q = J ∨ q = G) W1 W A t 60 ∧ CU2 W J u g ∧ W.rowIs G 64 1608 (rowI (stF t k))
def w2Rel (W1 : World) (A J G : Nat) (t t' : T) (iv : Value) (W : World) : Prop := ∃ k : Nat, iv = .int .i64 k ∧ 1 ≤ k ∧ k ≤ 201 ∧ WL (fun q => q = J ∨ q = G) W1 W A t' 60 ∧ W.rowIs G 64 1608 (rowI (stF t 201))
end
set_option maxHeartbeats 8000000 in
set_option maxRecDepth 100000 in
theorem owners7_walk (p0 : Option Addr) (n0 c0 : Nat) (z0 : List Op7) (kd cwd u g : Int) (s x : ByteArray) (m n a b : Int) (w : World) (h0 : InOps7 w p0 n0 z0) (l0 : n0 ≤ maxLen) (hs1 : s.size ≤ 1048576) (hm : wfI m) :
 Calls Tryz.prog 6 #[.slice p0 n0 c0, .agg #[.int .i64 kd, .int .i64 cwd, .int .i64 u, .int .i64 g, .string s, .string x, .int .i64 m, .int .i64 n, .int .i64 a, .int .i64 b]] w fun e w' => e = .returned (.bool true) ∧ Below w.heap.size w w' := by
 have hz : s.size ≤ maxLen := by unfold maxLen; omega
 have H0 := hid h0
 have HM := hid hm
 have HL0 := hid l0
 have HZ := hid hz
 obtain ⟨R, hr', hr⟩ := and_le9 kd 1 (by decide)
 have hK : bits .and .i64 kd 1 = 0 ∨ bits .and .i64 kd 1 = 1 := by
  have h : bits .and .i64 kd 1 = (R : Int) := hr'
  omega
 clear h0 hm l0 hs1 hr' hr hz
 go_enter Tryz.func6, Tryz.ntmps6
 go_wp2_with fail
 refine (shown7_any _).mono ?_
 rintro e W1 ⟨rfl, b1⟩
 have kb : Blk W1 w.heap.size 29 #[.int .i64 kd, .int .i64 cwd, .int .i64 u, .int .i64 g, .string s, .string x, .int .i64 m, .int .i64 n, .int .i64 a, .int .i64 b] := Blk.up (Blk.new w _ _) b1
 have hB1 : Below w.heap.size w W1 := bnext (bel1 w _) b1
 have hGl := kb.lt
 clear b1
 go_wp2_with fail
 refine (some7_any p0 n0 c0 z0 W1 (H0.out.up9 hB1) HL0.out).mono ?_
 rintro e W2 ⟨A, t, rfl, p2, hI⟩
 have HB1 := hid hB1
 have P2 := hid (show WL (fun _ => False) W1 W2 A t 60 from WP.kept ⟨p2, hI.s, hI.m, hI.b⟩)
 have HQ := hid (fun W' (q : Below W1.heap.size W1 W') => Blk.k10 (kb.up q))
 have HFN := hid (fun W' (q : Below W1.heap.size W1 W') => bnext hB1 q)
 clear kb hB1 p2 hI H0
 obtain ⟨q0, q1, q2, q3, q4, q5, q6, q7, q8, q9⟩ := HQ.out _ P2.out.below
 go_wp2_with fail
 refine (who_any _ _ _).mono ?_
 rintro e V1 ⟨rfl, b1⟩
 have hz0 : Tryz.zeroCells64 = Array.replicate 1608 (.int .i64 0) := by kernel_rfl
 have pm := ((P2.out.read b1).more (bel1 V1 (.cells #[.int .i64 u, .int .i64 u, .int .i64 u, .int .i64 g, .int .i64 g] 42))).more (bel1 (V1.alloc (.cells #[.int .i64 u, .int .i64 u, .int .i64 u, .int .i64 g, .int .i64 g] 42)) (.cells Tryz.zeroCells64 64))
 have hs1 : (V1.alloc (.cells #[.int .i64 u, .int .i64 u, .int .i64 u, .int .i64 g, .int .i64 g] 42)).heap.size = V1.heap.size + 1 := by simp
 have hs2 : ((V1.alloc (.cells #[.int .i64 u, .int .i64 u, .int .i64 u, .int .i64 g, .int .i64 g] 42)).alloc (.cells Tryz.zeroCells64 64)).heap.size = V1.heap.size + 2 := by simp
 have P3 := hid (show WL (fun q => q = V1.heap.size ∨ q = V1.heap.size + 1) W1 ((V1.alloc (.cells #[.int .i64 u, .int .i64 u, .int .i64 u, .int .i64 g, .int .i64 g] 42)).alloc (.cells Tryz.zeroCells64 64)) A t 60 from pm.weak (fun q hq => by rcases hq with rfl | rfl <;> omega))
 have C3 := hid ((show CU2 (V1.alloc (.cells #[.int .i64 u, .int .i64 u, .int .i64 u, .int .i64 g, .int .i64 g] 42)) V1.heap.size u g from ⟨top_cell _ _ _ rfl, top_cell _ _ _ rfl, top_cell _ _ _ rfl, top_cell _ _ _ rfl, top_cell _ _ _ rfl⟩).up (bel1 (V1.alloc (.cells #[.int .i64 u, .int .i64 u, .int .i64 u, .int .i64 g, .int .i64 g] 42)) (.cells Tryz.zeroCells64 64)))
 have R3 := hid (show ((V1.alloc (.cells #[.int .i64 u, .int .i64 u, .int .i64 u, .int .i64 g, .int .i64 g] 42)).alloc (.cells Tryz.zeroCells64 64)).rowIs (V1.heap.size + 1) 64 1608 (rowI (stF t 1)) from by
  have h := World.rowIs_alloc (V1.alloc (.cells #[.int .i64 u, .int .i64 u, .int .i64 u, .int .i64 g, .int .i64 g] 42)) Tryz.zeroCells64 64 (fun _ => .int .i64 0) (fun i hi => by
   rw [hz0] at hi ⊢
   rw [Array.getElem?_replicate, if_pos (by simpa using hi)])
  rw [show Tryz.zeroCells64.size = 1608 by rw [hz0]; simp, hs1] at h
  refine h.congr fun p hp => ?_
  have e1 : stF t 1 (p / 8) = noInf := by
   unfold stF
   split
   ·have : p / 8 = 0 := by omega
    rw [this]
    unfold statP isI
    rfl
   ·rfl
  unfold rowI
  rw [e1]
  have h8 : p % 8 < 8 := Nat.mod_lt _ (by decide)
  generalize p % 8 = r at h8
  match r, h8 with
  | 0, _ => rfl
  | 1, _ => rfl
  | 2, _ => rfl
  | 3, _ => rfl
  | 4, _ => rfl
  | 5, _ => rfl
  | 6, _ => rfl
  | 7, _ => rfl)
 have hJW : W1.heap.size ≤ V1.heap.size := Nat.le_trans P2.out.below.size b1.size
 clear pm b1 P2 q0 q1 q2 q3 q4 q5 q6 q7 q8 q9 hz0 hs1 hs2
 go_wp2_with fail
 go_loopw [9] (fun iv wr => w1Rel W1 A V1.heap.size (V1.heap.size + 1) t u g iv wr) (fun iv _ => 201 - (intOf iv).toNat)
 case atStart => exact ⟨1, rfl, Nat.le_refl _, by decide, P3.out, C3.out, R3.out⟩
 case round =>
  obtain ⟨k, rfl, hk1, hk2, hp, hc, hrow⟩ := hrel
  clear P3 C3 R3
  generalize hJ : V1.heap.size = J at *
  generalize hGG : w.heap.size = GG at *
  generalize hJ1 : J + 1 = JA at *
  have hJne : J ≠ JA := by omega
  have hJW2 : W1.heap.size ≤ JA := by omega
  clear hJ1
  have HP := hid hp
  have HC := hid hc
  have HR := hid hrow
  clear hp hc hrow
  by_cases hk : k ≤ 200
  ·have i1 : (k : Int) ≤ 200 := by omega
   have i2 : (0 : Int) ≤ (k : Int) := by omega
   have i3 : (k : Int) < 201 := by omega
   have HST0 := wl_stat HP.out (k : Int)
   unfold infV at HST0
   have HF := hid (show ∀ a, (statP t (k : Int)).1 = a → ∀ W : World, W.rowIs JA 64 1608 (rowI (stF t k)) → (W.setCells JA (k * 8) (infL a)).rowIs JA 64 1608 (rowI (stF t (k + 1))) from fun a ha W h => (rowI_put h k a).congr fun p hp => by
    have e : (if p / 8 = k then a else stF t k (p / 8)) = stF t (k + 1) (p / 8) := by
     by_cases q : p / 8 = k
     ·rw [if_pos q, stF_at (by omega), q, ha]
     ·rw [if_neg q]
      unfold stF
      by_cases q2 : p / 8 < k
      ·rw [if_pos q2, if_pos (by omega)]
      ·rw [if_neg q2, if_neg (by omega)]
    unfold rowI
    dsimp only
    rw [e])
   generalize statP t (k : Int) = sp at *
   obtain ⟨⟨a0, a1, a2, a3, a4, a5, a6, a7⟩, ab⟩ := sp
   simp only at HST0
   have HST := hid HST0
   clear HST0
   have HF2 := hid (fun W hW => HF.out _ rfl W hW)
   clear HF
   go_wp2_with fail
   refine HST.out.mono ?_
   rintro e V2 ⟨rfl, p2, k2, b2⟩
   have P2' := hid p2
   have C2 := hid (HC.out.kp k2 (.inl rfl))
   have R2 := hid (HR.out.of_block (k2 JA (.inr rfl)))
   generalize hsk : stF t k k = sk at *
   obtain ⟨s0, s1, s2, s3, s4, s5, s6, s7⟩ := sk
   have z0 := R2.out.frozen (k * 8)
   have z1 := R2.out.frozen (k * 8 + 1)
   have z2 := R2.out.frozen (k * 8 + 2)
   have z3 := R2.out.frozen (k * 8 + 3)
   have z4 := R2.out.frozen (k * 8 + 4)
   have z5 := R2.out.frozen (k * 8 + 5)
   have z6 := R2.out.frozen (k * 8 + 6)
   have z7 := R2.out.frozen (k * 8 + 7)
   obtain ⟨y0, y1, y2, y3, y4, y5, y6, y7⟩ := I8.of R2.out hk hsk
   clear p2 k2 b2 HST HP HC HR hsk
   go_wp2_with fail
   go_roundw
   case rel =>
    have hfr : Fr (fun q => q = JA) V2 (V2.setCells JA (k * 8) (infL ⟨a0, a1, a2, a3, a4, a5, a6, a7⟩)) := Fr.setCells9 (S := fun q => q = JA) rfl _ _ _ (Fr.refl _ _)
    have hC : CU2 (V2.setCells JA (k * 8) (infL ⟨a0, a1, a2, a3, a4, a5, a6, a7⟩)) J u g := C2.out.kp (L := fun q => q = J) (fun q hq => hfr.block q (by rw [hq]; exact cell_lt C2.out.1) (by intro h; exact hJne (hq.symm.trans h))) rfl
    exact ⟨k + 1, by go_num, by omega, by omega, P2'.out.write hfr (.inr rfl) hJW2, hC, HF2.out V2 R2.out⟩
   case measure => simp [intOf]; omega
  ·have hk201 : k = 201 := by omega
   subst hk201
   have j1 : ¬ ((201 : Nat) : Int) ≤ 200 := by decide
   obtain ⟨c0, c1, c2, c3, c4⟩ := HC.out
   obtain ⟨q0, q1, q2, q3, q4, q5, q6, q7, q8, q9⟩ := HQ.out _ HP.out.below
   rcases hK with hb | hb
   ·have HCH := hid (wl_chown HP.out cwd u u u g g s HZ.out a b)
    have HSM := hid (fun i => chown_sm (t := t) cwd u g s.data.toList a b i)
    have HEND := hid (fun h1 h2 => chown_end (t := t) (cwd := cwd) (u := u) (g := g) (s := s.data.toList) (o := a) (k := b) h1 h2)
    generalize chownP t cwd u g s.data.toList a b = rr at *
    obtain ⟨t', er⟩ := rr
    simp only at HSM HCH HEND
    go_wp2_with fail
    refine HCH.out.mono ?_
    rintro e V2 ⟨rfl, p2, k2⟩
    have P4 := hid p2
    have C4 := hid (HC.out.kp k2 (.inl rfl))
    have R4 := hid (HR.out.of_block (k2 JA (.inr rfl)))
    clear p2 k2 HC HR HP HCH c0 c1 c2 c3 c4 q0 q1 q2 q3 q4 q5 q6 q7 q8 q9
    obtain ⟨c0, c1, c2, c3, c4⟩ := C4.out
    obtain ⟨q0, q1, q2, q3, q4, q5, q6, q7, q8, q9⟩ := HQ.out _ P4.out.below
    have HFI0 := wl_find P4.out cwd u u u g g s HZ.out
    unfold makeV at HFI0
    have HFI := hid HFI0
    clear HFI0
    generalize findP t' cwd u g s.data.toList = fr at *
    obtain ⟨xi, f⟩ := fr
    simp only at HFI HEND
    go_wp2_with fail
    refine HFI.out.mono ?_
    rintro e V3 ⟨rfl, p3, b3, k3⟩
    have P5 := hid p3
    have R5 := hid (R4.out.of_block (k3 JA (.inr rfl)))
    clear p3 b3 k3 P4 C4 R4 HFI c0 c1 c2 c3 c4 q0 q1 q2 q3 q4 q5 q6 q7 q8 q9
    go_wp2_with fail
    go_loopw [13] (fun iv wr => w2Rel W1 A J JA t t' iv wr) (fun iv _ => 201 - (intOf iv).toNat)
    case atStart => exact ⟨1, rfl, Nat.le_refl _, by decide, P5.out, R5.out⟩
    case round =>
     obtain ⟨k, rfl, hk1, hk2, hp, hrow⟩ := hrel
     clear P5 R5 j1
     by_cases hk : k ≤ 200
     ·have i1 : (k : Int) ≤ 200 := by omega
      have i2 : (0 : Int) ≤ (k : Int) := by omega
      have i3 : (k : Int) < 201 := by omega
      have HST0 := wl_stat hp (k : Int)
      unfold infV at HST0
      have SM := HSM.out (k : Int)
      have hsa : stF t 201 k = (statP t (k : Int)).1 := stF_at (by omega)
      clear hp
      generalize statP t' (k : Int) = sp at *
      generalize (statP t (k : Int)).1 = sa at *
      obtain ⟨⟨b0, b1, b2, b3, b4, b5, b6, b7⟩, bb⟩ := sp
      simp only at HST0
      have HST := hid HST0
      clear HST0
      obtain ⟨a0, a1, a2, a3, a4, a5, a6, a7⟩ := sa
      simp only at SM
      have HSA := hid hsa
      clear hsa
      by_cases heq : b0 = a0 ∧ b1 = a1 ∧ b2 = a2 ∧ b3 = a3 ∧ b4 = a4 ∧ b5 = a5 ∧ b6 = a6 ∧ b7 = a7
      ·obtain ⟨e0, e1, e2, e3, e4, e5, e6, e7⟩ := heq
       subst e0 e1 e2 e3 e4 e5 e6 e7
       clear SM
       go_wp2_with fail
       refine HST.out.mono ?_
       rintro e V4 ⟨rfl, p4, kk4, bl4⟩
       have R4 := (hrow.of_block (kk4 JA (.inr rfl))).alloc (.cells #[.int .i64 b0, .int .i64 b1, .int .i64 b2, .int .i64 b3, .int .i64 b4, .int .i64 b5, .int .i64 b6, .int .i64 b7] 50)
       have P4 := hid ((p4.read (bel1 V4 (.cells #[.int .i64 b0, .int .i64 b1, .int .i64 b2, .int .i64 b3, .int .i64 b4, .int .i64 b5, .int .i64 b6, .int .i64 b7] 50))))
       have R4' := hid R4
       clear p4 kk4 bl4 HST
       have Y := hid (I8.of R4 hk HSA.out)
       obtain ⟨x0, x1, x2, x3, x4, x5, x6, x7⟩ := (T8.new V4 b0 b1 b2 b3 b4 b5 b6 b7)
       obtain ⟨y0, y1, y2, y3, y4, y5, y6, y7⟩ := Y.out
       obtain ⟨x0d, x1d, x2d, x3d, x4d, x5d, x6d, x7d⟩ := (T8.new V4 b0 b1 b2 b3 b4 b5 b6 b7).drew
       obtain ⟨y0d, y1d, y2d, y3d, y4d, y5d, y6d, y7d⟩ := Y.out.drew
       have QQ := HQ.out _ P4.out.below
       obtain ⟨q0, q1, q2, q3, q4, q5, q6, q7, q8, q9⟩ := QQ
       have q2d : (V4.alloc (.cells #[.int .i64 b0, .int .i64 b1, .int .i64 b2, .int .i64 b3, .int .i64 b4, .int .i64 b5, .int .i64 b6, .int .i64 b7] 50)).drew.cell? ⟨GG, 2, none⟩ = some (.int .i64 u) := q2
       clear R4 hrow Y
       have qg := fun op a b xs ys w => guard_inf op a b xs ys w
       have qe := fun w => eq_same b0 b1 b2 b3 b4 b5 b6 b7 w
       go_wp2_with fail
       go_quiet (fail)
       go_wp2
       go_roundw
       case rel => first | exact ⟨k + 1, by go_num, by omega, by omega, P4.out.read ⟨rfl, rfl, rfl, Nat.le_refl _, fun _ _ => rfl⟩, R4'.out⟩ | exact ⟨k + 1, by go_num, by omega, by omega, P4.out, R4'.out⟩
       case measure => simp [intOf]; omega
      ·have hS : u = 0 ∨ (u ≠ 0 ∧ u = a3 ∧ b3 = a3) := by
        rcases SM with h | h | ⟨h1, h2⟩
        ·exfalso
         apply heq
         injection h with e0 e1 e2 e3 e4 e5 e6 e7
         exact ⟨e0, e1, e2, e3, e4, e5, e6, e7⟩
        ·exact .inl h
        ·by_cases h0 : u = 0
         ·exact .inl h0
         ·exact .inr ⟨h0, h1, h2⟩
       clear SM
       have qe := fun w => eq_diff b0 b1 b2 b3 b4 b5 b6 b7 a0 a1 a2 a3 a4 a5 a6 a7 heq w
       clear heq
       rcases hS with hu | ⟨hu, hu1, hu2⟩
       ·have u1 : (u != 0) = false := by simp [hu]
        go_wp2_with fail
        refine HST.out.mono ?_
        rintro e V4 ⟨rfl, p4, kk4, bl4⟩
        have R4 := (hrow.of_block (kk4 JA (.inr rfl))).alloc (.cells #[.int .i64 b0, .int .i64 b1, .int .i64 b2, .int .i64 b3, .int .i64 b4, .int .i64 b5, .int .i64 b6, .int .i64 b7] 50)
        have P4 := hid ((p4.read (bel1 V4 (.cells #[.int .i64 b0, .int .i64 b1, .int .i64 b2, .int .i64 b3, .int .i64 b4, .int .i64 b5, .int .i64 b6, .int .i64 b7] 50))))
        have R4' := hid R4
        clear p4 kk4 bl4 HST
        have Y := hid (I8.of R4 hk HSA.out)
        obtain ⟨x0, x1, x2, x3, x4, x5, x6, x7⟩ := (T8.new V4 b0 b1 b2 b3 b4 b5 b6 b7)
        obtain ⟨y0, y1, y2, y3, y4, y5, y6, y7⟩ := Y.out
        obtain ⟨x0d, x1d, x2d, x3d, x4d, x5d, x6d, x7d⟩ := (T8.new V4 b0 b1 b2 b3 b4 b5 b6 b7).drew
        obtain ⟨y0d, y1d, y2d, y3d, y4d, y5d, y6d, y7d⟩ := Y.out.drew
        have QQ := HQ.out _ P4.out.below
        obtain ⟨q0, q1, q2, q3, q4, q5, q6, q7, q8, q9⟩ := QQ
        have q2d : (V4.alloc (.cells #[.int .i64 b0, .int .i64 b1, .int .i64 b2, .int .i64 b3, .int .i64 b4, .int .i64 b5, .int .i64 b6, .int .i64 b7] 50)).drew.cell? ⟨GG, 2, none⟩ = some (.int .i64 u) := q2
        clear R4 hrow Y
        have qg := fun op a b xs ys w => guard_inf op a b xs ys w
        clear hu
        go_wp2_with fail
        go_quiet (fail)
        go_wp2_with fail
        go_quiet (fail)
        go_wp2
        go_roundw
        case rel => first | exact ⟨k + 1, by go_num, by omega, by omega, P4.out.read ⟨rfl, rfl, rfl, Nat.le_refl _, fun _ _ => rfl⟩, R4'.out⟩ | exact ⟨k + 1, by go_num, by omega, by omega, P4.out, R4'.out⟩
        case measure => simp [intOf]; omega
       ·subst hu1 hu2
        have u1 : (b3 != 0) = true := by simpa using hu
        have u2 : (b3 != b3) = false := by simp
        go_wp2_with fail
        refine HST.out.mono ?_
        rintro e V4 ⟨rfl, p4, kk4, bl4⟩
        have R4 := (hrow.of_block (kk4 JA (.inr rfl))).alloc (.cells #[.int .i64 b0, .int .i64 b1, .int .i64 b2, .int .i64 b3, .int .i64 b4, .int .i64 b5, .int .i64 b6, .int .i64 b7] 50)
        have P4 := hid ((p4.read (bel1 V4 (.cells #[.int .i64 b0, .int .i64 b1, .int .i64 b2, .int .i64 b3, .int .i64 b4, .int .i64 b5, .int .i64 b6, .int .i64 b7] 50))))
        have R4' := hid R4
        clear p4 kk4 bl4 HST
        have Y := hid (I8.of R4 hk HSA.out)
        obtain ⟨x0, x1, x2, x3, x4, x5, x6, x7⟩ := (T8.new V4 b0 b1 b2 b3 b4 b5 b6 b7)
        obtain ⟨y0, y1, y2, y3, y4, y5, y6, y7⟩ := Y.out
        obtain ⟨x0d, x1d, x2d, x3d, x4d, x5d, x6d, x7d⟩ := (T8.new V4 b0 b1 b2 b3 b4 b5 b6 b7).drew
        obtain ⟨y0d, y1d, y2d, y3d, y4d, y5d, y6d, y7d⟩ := Y.out.drew
        have QQ := HQ.out _ P4.out.below
        obtain ⟨q0, q1, q2, q3, q4, q5, q6, q7, q8, q9⟩ := QQ
        have q2d : (V4.alloc (.cells #[.int .i64 b0, .int .i64 b1, .int .i64 b2, .int .i64 b3, .int .i64 b4, .int .i64 b5, .int .i64 b6, .int .i64 b7] 50)).drew.cell? ⟨GG, 2, none⟩ = some (.int .i64 b3) := q2
        clear R4 hrow Y
        have qg := fun op a b xs ys w => guard_inf op a b xs ys w
        clear hu
        go_wp2_with fail
        go_quiet (fail)
        go_wp2_with fail
        go_quiet (fail)
        go_wp2
        go_roundw
        case rel => first | exact ⟨k + 1, by go_num, by omega, by omega, P4.out.read ⟨rfl, rfl, rfl, Nat.le_refl _, fun _ _ => rfl⟩, R4'.out⟩ | exact ⟨k + 1, by go_num, by omega, by omega, P4.out, R4'.out⟩
        case measure => simp [intOf]; omega
     ·have j1 : ¬ (k : Int) ≤ 200 := by omega
      obtain ⟨q0, q1, q2, q3, q4, q5, q6, q7, q8, q9⟩ := HQ.out _ hp.below
      have FIN := hid (HFN.out _ hp.below)
      by_cases h1 : er = 0
      ·by_cases h2 : f = 0
       ·obtain ⟨⟨z0, z1, z2, z3, z4, z5, z6, z7⟩, hs, hm0, ho, hg0⟩ := HEND.out h1 h2
        simp only at hm0 ho hg0
        subst h1 h2 ho hg0
        have HST0 := wl_stat hp ((xi : Nat) : Int)
        rw [hs] at HST0
        unfold infV at HST0
        simp only at HST0
        have HST := hid HST0
        clear HST0 hs hrow hp HEND
        go_wp2_with fail
        refine HST.out.mono ?_
        rintro e V4 ⟨rfl, p4, k4, b4⟩
        have P4 := p4.read (bel1 V4 (.cells #[.int .i64 z0, .int .i64 z1, .int .i64 z2, .int .i64 z3, .int .i64 z4, .int .i64 z5, .int .i64 z6, .int .i64 z7] 50))
        have QQ := HQ.out _ P4.below
        have FI2 := hid (HFN.out _ P4.below)
        clear q0 q1 q2 q3 q4 q5 q6 q7 q8 q9
        obtain ⟨q0, q1, q2, q3, q4, q5, q6, q7, q8, q9⟩ := QQ
        clear p4 k4 b4 P4 HST
        go_wp2
        go_ret
        exact ⟨rfl, by first | exact FI2.out | (rw [hGG]; exact FI2.out)⟩
       ·have f1 : ((f : Int) == 0) = false := by simp; omega
        subst h1
        clear hrow hp HEND
        go_wp2
        go_ret
        exact ⟨rfl, by first | exact FIN.out | (rw [hGG]; exact FIN.out)⟩
      ·have f1 : ((er : Int) == 0) = false := by simp; omega
       clear hrow hp HEND
       go_wp2
       go_ret
       exact ⟨rfl, by first | exact FIN.out | (rw [hGG]; exact FIN.out)⟩
   ·have HCH := hid (wl_chmod HP.out cwd u u u g g s HZ.out m HM.out)
    have HSM := hid (fun i => chmod_sm (t := t) cwd u g s.data.toList m i)
    generalize chmodP t cwd u g s.data.toList m = rr at *
    obtain ⟨t', er⟩ := rr
    simp only at HSM HCH
    go_wp2_with fail
    refine HCH.out.mono ?_
    rintro e V2 ⟨rfl, p2, k2⟩
    have P4 := hid p2
    have C4 := hid (HC.out.kp k2 (.inl rfl))
    have R4 := hid (HR.out.of_block (k2 JA (.inr rfl)))
    clear p2 k2 HC HR HP HCH c0 c1 c2 c3 c4 q0 q1 q2 q3 q4 q5 q6 q7 q8 q9
    obtain ⟨c0, c1, c2, c3, c4⟩ := C4.out
    obtain ⟨q0, q1, q2, q3, q4, q5, q6, q7, q8, q9⟩ := HQ.out _ P4.out.below
    have HFI0 := wl_find P4.out cwd u u u g g s HZ.out
    unfold makeV at HFI0
    have HFI := hid HFI0
    clear HFI0
    generalize findP t' cwd u g s.data.toList = fr at *
    obtain ⟨xi, f⟩ := fr
    simp only at HFI
    go_wp2_with fail
    refine HFI.out.mono ?_
    rintro e V3 ⟨rfl, p3, b3, k3⟩
    have P5 := hid p3
    have R5 := hid (R4.out.of_block (k3 JA (.inr rfl)))
    clear p3 b3 k3 P4 C4 R4 HFI c0 c1 c2 c3 c4 q0 q1 q2 q3 q4 q5 q6 q7 q8 q9
    go_wp2_with fail
    go_loopw [13] (fun iv wr => w2Rel W1 A J JA t t' iv wr) (fun iv _ => 201 - (intOf iv).toNat)
    case atStart => exact ⟨1, rfl, Nat.le_refl _, by decide, P5.out, R5.out⟩
    case round =>
     obtain ⟨k, rfl, hk1, hk2, hp, hrow⟩ := hrel
     clear P5 R5 j1
     by_cases hk : k ≤ 200
     ·have i1 : (k : Int) ≤ 200 := by omega
      have i2 : (0 : Int) ≤ (k : Int) := by omega
      have i3 : (k : Int) < 201 := by omega
      have HST0 := wl_stat hp (k : Int)
      unfold infV at HST0
      have SM := HSM.out (k : Int)
      have hsa : stF t 201 k = (statP t (k : Int)).1 := stF_at (by omega)
      clear hp
      generalize statP t' (k : Int) = sp at *
      generalize (statP t (k : Int)).1 = sa at *
      obtain ⟨⟨b0, b1, b2, b3, b4, b5, b6, b7⟩, bb⟩ := sp
      simp only at HST0
      have HST := hid HST0
      clear HST0
      obtain ⟨a0, a1, a2, a3, a4, a5, a6, a7⟩ := sa
      simp only at SM
      have HSA := hid hsa
      clear hsa
      by_cases heq : b0 = a0 ∧ b1 = a1 ∧ b2 = a2 ∧ b3 = a3 ∧ b4 = a4 ∧ b5 = a5 ∧ b6 = a6 ∧ b7 = a7
      ·obtain ⟨e0, e1, e2, e3, e4, e5, e6, e7⟩ := heq
       subst e0 e1 e2 e3 e4 e5 e6 e7
       clear SM
       go_wp2_with fail
       refine HST.out.mono ?_
       rintro e V4 ⟨rfl, p4, kk4, bl4⟩
       have R4 := (hrow.of_block (kk4 JA (.inr rfl))).alloc (.cells #[.int .i64 b0, .int .i64 b1, .int .i64 b2, .int .i64 b3, .int .i64 b4, .int .i64 b5, .int .i64 b6, .int .i64 b7] 50)
       have P4 := hid ((p4.read (bel1 V4 (.cells #[.int .i64 b0, .int .i64 b1, .int .i64 b2, .int .i64 b3, .int .i64 b4, .int .i64 b5, .int .i64 b6, .int .i64 b7] 50))))
       have R4' := hid R4
       clear p4 kk4 bl4 HST
       have Y := hid (I8.of R4 hk HSA.out)
       obtain ⟨x0, x1, x2, x3, x4, x5, x6, x7⟩ := (T8.new V4 b0 b1 b2 b3 b4 b5 b6 b7)
       obtain ⟨y0, y1, y2, y3, y4, y5, y6, y7⟩ := Y.out
       obtain ⟨x0d, x1d, x2d, x3d, x4d, x5d, x6d, x7d⟩ := (T8.new V4 b0 b1 b2 b3 b4 b5 b6 b7).drew
       obtain ⟨y0d, y1d, y2d, y3d, y4d, y5d, y6d, y7d⟩ := Y.out.drew
       have QQ := HQ.out _ P4.out.below
       obtain ⟨q0, q1, q2, q3, q4, q5, q6, q7, q8, q9⟩ := QQ
       have q2d : (V4.alloc (.cells #[.int .i64 b0, .int .i64 b1, .int .i64 b2, .int .i64 b3, .int .i64 b4, .int .i64 b5, .int .i64 b6, .int .i64 b7] 50)).drew.cell? ⟨GG, 2, none⟩ = some (.int .i64 u) := q2
       clear R4 hrow Y
       have qg := fun op a b xs ys w => guard_inf op a b xs ys w
       have qe := fun w => eq_same b0 b1 b2 b3 b4 b5 b6 b7 w
       go_wp2_with fail
       go_quiet (fail)
       go_wp2
       go_roundw
       case rel => first | exact ⟨k + 1, by go_num, by omega, by omega, P4.out.read ⟨rfl, rfl, rfl, Nat.le_refl _, fun _ _ => rfl⟩, R4'.out⟩ | exact ⟨k + 1, by go_num, by omega, by omega, P4.out, R4'.out⟩
       case measure => simp [intOf]; omega
      ·have hS : u = 0 ∨ (u ≠ 0 ∧ u = a3 ∧ b3 = a3) := by
        rcases SM with h | h | ⟨h1, h2⟩
        ·exfalso
         apply heq
         injection h with e0 e1 e2 e3 e4 e5 e6 e7
         exact ⟨e0, e1, e2, e3, e4, e5, e6, e7⟩
        ·exact .inl h
        ·by_cases h0 : u = 0
         ·exact .inl h0
         ·exact .inr ⟨h0, h1, h2⟩
       clear SM
       have qe := fun w => eq_diff b0 b1 b2 b3 b4 b5 b6 b7 a0 a1 a2 a3 a4 a5 a6 a7 heq w
       clear heq
       rcases hS with hu | ⟨hu, hu1, hu2⟩
       ·have u1 : (u != 0) = false := by simp [hu]
        go_wp2_with fail
        refine HST.out.mono ?_
        rintro e V4 ⟨rfl, p4, kk4, bl4⟩
        have R4 := (hrow.of_block (kk4 JA (.inr rfl))).alloc (.cells #[.int .i64 b0, .int .i64 b1, .int .i64 b2, .int .i64 b3, .int .i64 b4, .int .i64 b5, .int .i64 b6, .int .i64 b7] 50)
        have P4 := hid ((p4.read (bel1 V4 (.cells #[.int .i64 b0, .int .i64 b1, .int .i64 b2, .int .i64 b3, .int .i64 b4, .int .i64 b5, .int .i64 b6, .int .i64 b7] 50))))
        have R4' := hid R4
        clear p4 kk4 bl4 HST
        have Y := hid (I8.of R4 hk HSA.out)
        obtain ⟨x0, x1, x2, x3, x4, x5, x6, x7⟩ := (T8.new V4 b0 b1 b2 b3 b4 b5 b6 b7)
        obtain ⟨y0, y1, y2, y3, y4, y5, y6, y7⟩ := Y.out
        obtain ⟨x0d, x1d, x2d, x3d, x4d, x5d, x6d, x7d⟩ := (T8.new V4 b0 b1 b2 b3 b4 b5 b6 b7).drew
        obtain ⟨y0d, y1d, y2d, y3d, y4d, y5d, y6d, y7d⟩ := Y.out.drew
        have QQ := HQ.out _ P4.out.below
        obtain ⟨q0, q1, q2, q3, q4, q5, q6, q7, q8, q9⟩ := QQ
        have q2d : (V4.alloc (.cells #[.int .i64 b0, .int .i64 b1, .int .i64 b2, .int .i64 b3, .int .i64 b4, .int .i64 b5, .int .i64 b6, .int .i64 b7] 50)).drew.cell? ⟨GG, 2, none⟩ = some (.int .i64 u) := q2
        clear R4 hrow Y
        have qg := fun op a b xs ys w => guard_inf op a b xs ys w
        clear hu
        go_wp2_with fail
        go_quiet (fail)
        go_wp2_with fail
        go_quiet (fail)
        go_wp2
        go_roundw
        case rel => first | exact ⟨k + 1, by go_num, by omega, by omega, P4.out.read ⟨rfl, rfl, rfl, Nat.le_refl _, fun _ _ => rfl⟩, R4'.out⟩ | exact ⟨k + 1, by go_num, by omega, by omega, P4.out, R4'.out⟩
        case measure => simp [intOf]; omega
       ·subst hu1 hu2
        have u1 : (b3 != 0) = true := by simpa using hu
        have u2 : (b3 != b3) = false := by simp
        go_wp2_with fail
        refine HST.out.mono ?_
        rintro e V4 ⟨rfl, p4, kk4, bl4⟩
        have R4 := (hrow.of_block (kk4 JA (.inr rfl))).alloc (.cells #[.int .i64 b0, .int .i64 b1, .int .i64 b2, .int .i64 b3, .int .i64 b4, .int .i64 b5, .int .i64 b6, .int .i64 b7] 50)
        have P4 := hid ((p4.read (bel1 V4 (.cells #[.int .i64 b0, .int .i64 b1, .int .i64 b2, .int .i64 b3, .int .i64 b4, .int .i64 b5, .int .i64 b6, .int .i64 b7] 50))))
        have R4' := hid R4
        clear p4 kk4 bl4 HST
        have Y := hid (I8.of R4 hk HSA.out)
        obtain ⟨x0, x1, x2, x3, x4, x5, x6, x7⟩ := (T8.new V4 b0 b1 b2 b3 b4 b5 b6 b7)
        obtain ⟨y0, y1, y2, y3, y4, y5, y6, y7⟩ := Y.out
        obtain ⟨x0d, x1d, x2d, x3d, x4d, x5d, x6d, x7d⟩ := (T8.new V4 b0 b1 b2 b3 b4 b5 b6 b7).drew
        obtain ⟨y0d, y1d, y2d, y3d, y4d, y5d, y6d, y7d⟩ := Y.out.drew
        have QQ := HQ.out _ P4.out.below
        obtain ⟨q0, q1, q2, q3, q4, q5, q6, q7, q8, q9⟩ := QQ
        have q2d : (V4.alloc (.cells #[.int .i64 b0, .int .i64 b1, .int .i64 b2, .int .i64 b3, .int .i64 b4, .int .i64 b5, .int .i64 b6, .int .i64 b7] 50)).drew.cell? ⟨GG, 2, none⟩ = some (.int .i64 b3) := q2
        clear R4 hrow Y
        have qg := fun op a b xs ys w => guard_inf op a b xs ys w
        clear hu
        go_wp2_with fail
        go_quiet (fail)
        go_wp2_with fail
        go_quiet (fail)
        go_wp2
        go_roundw
        case rel => first | exact ⟨k + 1, by go_num, by omega, by omega, P4.out.read ⟨rfl, rfl, rfl, Nat.le_refl _, fun _ _ => rfl⟩, R4'.out⟩ | exact ⟨k + 1, by go_num, by omega, by omega, P4.out, R4'.out⟩
        case measure => simp [intOf]; omega
     ·have j1 : ¬ (k : Int) ≤ 200 := by omega
      obtain ⟨q0, q1, q2, q3, q4, q5, q6, q7, q8, q9⟩ := HQ.out _ hp.below
      have FIN := hid (HFN.out _ hp.below)
      clear hrow hp
      go_wp2
      go_ret
      exact ⟨rfl, by first | exact FIN.out | (rw [hGG]; exact FIN.out)⟩
theorem owners7_law (p0 : Option Addr) (n0 c0 : Nat) (z0 : List Op7) (o : Op7) (w : World) (h0 : InOps7 w p0 n0 z0) (l0 : n0 ≤ maxLen) (ho : o.In) :
 Calls Tryz.prog 6 #[.slice p0 n0 c0, o.val] w fun e w' => e = .returned (.bool true) ∧ Below w.heap.size w w' :=
 owners7_walk p0 n0 c0 z0 o.kind o.cwd o.u o.g o.s o.x o.m o.n o.a o.b w h0 l0 ho.s ho.m
end
end Go.Proofs.YtlpececggkdhmaaGreat
