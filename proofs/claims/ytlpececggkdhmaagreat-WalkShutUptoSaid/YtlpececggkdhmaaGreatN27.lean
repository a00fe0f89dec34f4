import Derived.Deep.Slices
import Derived.DataReads
import Derived.Deep.Fields
import Derived.ChangeSame
import Derived.Test.YtlpececggkdhmaaGreatN25
import Derived.Test.YtlpececggkdhmaaGreatN6
import Derived.Test.YtlpececggkdhmaaGreatN10
import Derived.Test.YtlpececggkdhmaaGreatM10
open Go.Lib (hid)
set_option linter.unusedVariables false
set_option linter.unusedSimpArgs false
namespace Go.Proofs.YtlpececggkdhmaaGreat
section
open Go.RowKit Ino Go.Maps
def someRel (w : World) (A C B : Nat) (iv : Value) (wr : World) : Prop := ∃ (k : Nat) (t : T), iv = .int .i64 k ∧ k ≤ 60 ∧ TW (KB w) w wr A C B t t ∧ Inv k t
set_option maxHeartbeats 8000000 in
set_option maxRecDepth 100000 in
theorem some7_any (p0 : Option Addr) (n0 c0 : Nat) (z0 : List Op7) (w : World) (h0 : InOps7 w p0 n0 z0) (l0 : n0 ≤ maxLen) :
 Calls Tryz.prog 13 #[.slice p0 n0 c0] w fun e w' => ∃ A t, e = .returned (.pointer (some ⟨A, 0, none⟩)) ∧ PS w w' A t ∧ Inv 60 t := by
 have hm : wfI 511 := by unfold wfI; omega
 have hk : rOk 511 0 0 = true := by decide
 have I0 : Inv 0 (Ino.newP 511 0 0) := ⟨sound_new _ _ _, md_new hk, mw_new hm, HB.new _ _ _⟩
 have H0 := hid h0
 unfold maxLen at l0
 clear h0
 go_enter Tryz.func13, Tryz.ntmps13
 go_wp2_with (first
  | (go_at_call 9; refine (ps_new (Below.refl w.heap.size w) 511 0 0 hm hk).mono ?_; rintro e w2 ⟨A, rfl, p2⟩)
  | (go_at_call 10; refine (td_new 511 0 0 p2 (by decide) (by decide) (by decide)).mono ?_; rintro e w3 ⟨C, B, rfl, p3⟩))
 clear p2
 go_loopw [5] (fun iv wr => someRel w A C B iv wr) (fun iv _ => 60 - (intOf iv).toNat)
 case atStart => exact ⟨0, _, rfl, by decide, p3, I0⟩
 case round =>
  obtain ⟨k, t, rfl, hk60, hp, hI⟩ := hrel
  clear p3 I0
  by_cases hlt : k < n0 ∧ k < 60
  ·obtain ⟨k0, k2⟩ := hlt
   have hz0 : z0[k]? = some (z0[k]'(by rw [H0.out.1]; exact k0)) := List.getElem?_eq_getElem _
   obtain ⟨ok0, g0, o0, rfl, hc⟩ := H0.out.2 k _ hz0
   generalize z0[k]'(by rw [H0.out.1]; exact k0) = z at hz0 ok0 hc
   have hg : g0 < w.heap.size := cell_lt (hc 0 _ rfl)
   have e0 : wr.cell? ⟨g0, o0 + k * 10, none⟩ = some (.int .i64 z.kind) := hp.cell hg (hc 0 _ rfl)
   have e1 : wr.cell? ⟨g0, o0 + k * 10 + 1, none⟩ = some (.int .i64 z.cwd) := hp.cell hg (hc 1 _ rfl)
   have e2 : wr.cell? ⟨g0, o0 + k * 10 + 2, none⟩ = some (.int .i64 z.u) := hp.cell hg (hc 2 _ rfl)
   have e3 : wr.cell? ⟨g0, o0 + k * 10 + 3, none⟩ = some (.int .i64 z.g) := hp.cell hg (hc 3 _ rfl)
   have e4 : wr.cell? ⟨g0, o0 + k * 10 + 4, none⟩ = some (.string z.s) := hp.cell hg (hc 4 _ rfl)
   have e5 : wr.cell? ⟨g0, o0 + k * 10 + 5, none⟩ = some (.string z.x) := hp.cell hg (hc 5 _ rfl)
   have e6 : wr.cell? ⟨g0, o0 + k * 10 + 6, none⟩ = some (.int .i64 z.m) := hp.cell hg (hc 6 _ rfl)
   have e7 : wr.cell? ⟨g0, o0 + k * 10 + 7, none⟩ = some (.int .i64 z.n) := hp.cell hg (hc 7 _ rfl)
   have e8 : wr.cell? ⟨g0, o0 + k * 10 + 8, none⟩ = some (.int .i64 z.a) := hp.cell hg (hc 8 _ rfl)
   have e9 : wr.cell? ⟨g0, o0 + k * 10 + 9, none⟩ = some (.int .i64 z.b) := hp.cell hg (hc 9 _ rfl)
   have i1 : (0 : Int) ≤ (k : Int) := by omega
   have i2 : (k : Int) < n0 := by omega
   have i5 : (k : Int) < 60 := by omega
   have HI := hid hI
   clear hz0 hI hc
   obtain ⟨kd, cwd, u, g, s, x, om, n, a, b⟩ := z
   simp only at e0 e1 e2 e3 e4 e5 e6 e7 e8 e9
   obtain ⟨os, ox, oom, ob⟩ := ok0
   simp only at os ox oom ob
   by_cases hsz : x.size ≤ 5000
   ·have i3 : (x.size : Int) ≤ 5000 := by omega
    have ok : Op7.Ok ⟨kd, cwd, u, g, s, x, om, n, a, b⟩ := ⟨os, hsz, oom, ob⟩
    have hd := does7_any ⟨kd, cwd, u, g, s, x, om, n, a, b⟩ ok hp HI.out (by omega)
    have hI2 := Op7.keeps ⟨kd, cwd, u, g, s, x, om, n, a, b⟩ ok HI.out
    simp only [Op7.val] at hd
    have HD := hid hd
    have HI2 := hid hI2
    clear hd hI2 ok hp HI
    generalize Op7.step ⟨kd, cwd, u, g, s, x, om, n, a, b⟩ t = t' at *
    go_wp2_with (first
     | (go_at_call 11; refine HD.out.mono ?_; rintro e w4 ⟨rfl, p4⟩))
    go_roundw
    case rel => exact ⟨k + 1, t', by go_num, by omega, p4, HI2.out⟩
    case measure => simp [intOf]; omega
   ·have i3 : ¬ (x.size : Int) ≤ 5000 := by omega
    have HP := hid hp
    clear hp
    go_wp2_with fail
    go_roundw
    case rel => exact ⟨k + 1, t, by go_num, by omega, HP.out, ⟨HI.out.s, HI.out.m, HI.out.w, HI.out.b.mono (by omega)⟩⟩
    case measure => simp [intOf]; omega
  ·have HP := hid hp.ps
   have HI : Hid (Inv 60 t) := hid ⟨hI.s, hI.m, hI.w, hI.b.mono hk60⟩
   clear hI hp
   by_cases hk0 : k < n0
   ·have hk1 : ¬ k < 60 := fun h => hlt ⟨hk0, h⟩
    have i1 : (k : Int) < n0 := by omega
    have i2 : ¬ (k : Int) < 60 := by omega
    go_wp2_with fail
    go_ret
    first | exact ⟨_, t, rfl, HP.out, HI.out⟩ | exact ⟨_, rfl, t, HP.out, HI.out⟩
   ·have i1 : ¬ (k : Int) < n0 := by omega
    go_wp2_with fail
    go_ret
    first | exact ⟨_, t, rfl, HP.out, HI.out⟩ | exact ⟨_, rfl, t, HP.out, HI.out⟩
end
section
open Ino Pa Mo
def pth : List Bs → Bs
 | [] => []
 | n :: l => 47 :: (n ++ pth l)
theorem pth_snoc : ∀ (l : List Bs) (n : Bs), pth (l ++ [n]) = pth l ++ 47 :: n
 | [], n => by simp [pth]
 | m :: l, n => by
  show 47 :: (m ++ pth (l ++ [n])) = (47 :: (m ++ pth l)) ++ 47 :: n
  rw [pth_snoc l n]
  simp
theorem name_chars {n : Bs} (h : nameOk n = true) : 1 ≤ n.length ∧ n.length ≤ 14 ∧ n ≠ [46] ∧ n ≠ [46, 46] ∧ ∀ c ∈ n, ¬ c < 32 ∧ c ≠ 127 ∧ c ≠ 47 := by
 unfold nameOk at h
 simp only [Bool.and_eq_true, decide_eq_true_eq, bne_iff_ne, ne_eq, List.all_eq_true, Bool.not_eq_true', Bool.or_eq_false_iff, decide_eq_false_iff_not, beq_eq_false_iff_ne] at h
 exact ⟨h.1.1, h.1.2, h.2.1, h.2.2.1, fun c hc => ⟨(h.2.2.2 c hc).1.1, (h.2.2.2 c hc).1.2, (h.2.2.2 c hc).2⟩⟩
theorem spl_pth : ∀ (l : List Bs), (∀ n ∈ l, nameOk n = true) → spl (pth l) = [] :: l
 | [], _ => rfl
 | n :: l, h => by
  have hn := name_chars (h n (by simp))
  show spl (47 :: (n ++ pth l)) = _
  rw [spl_sep, spl_plain n (pth l) (fun c hc => (hn.2.2.2.2 c hc).2.2), spl_pth l (fun m hm => h m (by simp [hm]))]
  simp [glue]
theorem keep_name {n : Bs} (h : nameOk n = true) : keepN n = true := by
 have hn := name_chars h
 unfold keepN
 have h1 : n ≠ [] := fun e => by rw [e] at hn; exact absurd hn.1 (by decide)
 simp [h1, hn.2.2.1]
theorem filter_names {l : List Bs} (h : ∀ n ∈ l, nameOk n = true) : l.filter keepN = l := List.filter_eq_self.2 fun n hn => keep_name (h n hn)
theorem nam_pth {l : List Bs} (h : ∀ n ∈ l, nameOk n = true) : nam (pth l) = l := by
 unfold nam
 rw [spl_pth l h, List.filter_cons, if_neg (by decide), filter_names h]
theorem len_pth : ∀ {l : List Bs}, (∀ n ∈ l, nameOk n = true) → (pth l).length ≤ 15 * l.length
 | [], _ => by simp [pth]
 | n :: l, h => by
  have hn := name_chars (h n (by simp))
  have := len_pth (l := l) (fun m hm => h m (by simp [hm]))
  show (47 :: (n ++ pth l)).length ≤ _
  simp only [List.length_cons, List.length_append]
  omega
theorem bad_pth : ∀ {l : List Bs}, (∀ n ∈ l, nameOk n = true) → anyBad (pth l) = false
 | [], _ => rfl
 | n :: l, h => by
  have hn := name_chars (h n (by simp))
  have ih := bad_pth (l := l) (fun m hm => h m (by simp [hm]))
  unfold anyBad at ih ⊢
  show (47 :: (n ++ pth l)).any badC = false
  rw [List.any_cons, List.any_append, ih, Bool.or_false]
  have h1 : badC 47 = false := by decide
  have h2 : n.any badC = false := by
   rw [List.any_eq_false]
   intro c hc
   obtain ⟨a1, a2, a3⟩ := hn.2.2.2.2 c hc
   unfold badC
   have b1 : ¬ c.toNat < 32 := fun k => a1 (UInt8.lt_iff_toNat_lt.2 k)
   have b2 : ¬ c.toNat = 127 := fun k => a2 (UInt8.toNat_inj.1 k)
   simp [b1, b2]
  rw [h1, h2]; rfl
theorem long_pth {l : List Bs} (h : ∀ n ∈ l, nameOk n = true) (x : Bs) (hx : x.length ≤ 14) (hs : ∀ c ∈ x, c ≠ 47) : anyLong (pth l ++ 47 :: x) = false := by
 unfold anyLong
 rw [spl_append, spl_pth l h, spl_one x hs, List.any_append, List.any_cons]
 have h1 : longN [] = false := by decide
 have h2 : l.any longN = false := by
  rw [List.any_eq_false]
  intro n hn
  have := (name_chars (h n hn)).2.1
  unfold longN
  simp; exact this
 have h3 : [x].any longN = false := by unfold longN; simp; exact hx
 rw [h1, h2, h3]; rfl
theorem splE_pth {l : List Bs} (h : ∀ n ∈ l, nameOk n = true) (hl : l.length ≤ 4) (x : Bs) (hx : x.length ≤ 14) (hs : ∀ c ∈ x, c ≠ 47) (hb : anyBad x = false) : splE (pth l ++ 47 :: x) = 0 := by
 have h1 := len_pth h
 refine splE_ok (by simp) (by simp; omega) (long_pth h x hx hs) ?_
 have h2 := bad_pth h
 unfold anyBad at h2 hb ⊢
 rw [List.any_append, List.any_cons, h2, hb]
 rfl
theorem abs_pth (l : List Bs) (x : Bs) : absP (pth l ++ 47 :: x) = true := by
 cases l with
 | nil => rfl
 | cons n l => rfl
theorem last_pth {l : List Bs} (h : ∀ n ∈ l, nameOk n = true) (x : Bs) (hs : ∀ c ∈ x, c ≠ 47) : lastP (pth l ++ 47 :: x) = x := by
 unfold lastP
 rw [spl_append, spl_pth l h, spl_one x hs]
 exact List.getLastD_concat
theorem nam_pth2 {l : List Bs} (h : ∀ n ∈ l, nameOk n = true) (x : Bs) (hs : ∀ c ∈ x, c ≠ 47) : nam (pth l ++ 47 :: x) = l ++ [x].filter keepN := by
 rw [nam_append, nam_pth h]
 unfold nam
 rw [spl_one x hs]
end
section
open Ino Pa Mo
open Go.RowKit
variable {t : T}
def shutB : Bs := [115, 104, 117, 116]
def shutS : Bs := [47, 115, 104, 117, 116]
theorem shut_ok : nameOk shutB = true := by kernel_rfl
theorem shut_e1 : splE shutS = 0 := by kernel_rfl
theorem shut_e2 : nam shutS = [shutB] := by kernel_rfl
theorem shut_e3 : absP shutS = true := by kernel_rfl
theorem shut_e4 : dirP shutS = false := by kernel_rfl
theorem shut_n1 : shutB ≠ [46] := by decide
theorem shut_n2 : shutB ≠ [46, 46] := by decide
theorem shut_r : rMode 448 = true := by decide +kernel
theorem shut_k : rMake 1 448 0 0 0 = true := by decide +kernel
def Bars (t : T) (o : Int) : Prop := ∀ x, lookP t ((1 : Nat) : Int) shutB = (x, true) → (t x).kind ≠ 1 ∨ ((t x).mode = 448 ∧ (t x).owner = o)
theorem may_bars {u g o k : Int} (hu : u ≠ 0) (ho : u ≠ o) (d : Bool) : mayB 448 o k d u g 1 = false := by
 have h1 : rightB 448 = true := by decide +kernel
 unfold mayB
 rw [if_pos ⟨h1, by decide, by decide⟩, if_neg hu, if_neg ho]
 split
 ·decide +kernel
 ·decide +kernel
theorem look_bars {o u g : Int} (h : Bars t o) (hu : u ≠ 0) (ho : u ≠ o) {x : Nat} (hx : lookP t ((1 : Nat) : Int) shutB = (x, true)) : lookE t x u g ≠ 0 := by
 unfold lookE
 rcases h x hx with k | ⟨k1, k2⟩
 ·rw [if_neg k]; decide
 ·split
  ·rw [if_neg]
   ·decide
   ·unfold mayT
    rw [k1, k2, may_bars hu ho]
    exact Bool.false_ne_true
  ·decide
theorem down_bars {o u g : Int} (h : Bars t o) (hu : u ≠ 0) (ho : u ≠ o) (n : Bs) (r : List Bs) : (downT t u g 1 (shutB :: n :: r)).2 ≠ 0 := by
 unfold downT
 by_cases h1 : lookE t 1 u g = 0
 ·rw [if_pos h1]
  by_cases h2 : (lookP t ((1 : Nat) : Int) shutB).2 = true
  ·rw [if_pos h2]
   have h3 := look_bars (g := g) h hu ho (x := (lookP t ((1 : Nat) : Int) shutB).1) (Prod.ext rfl h2)
   unfold downT
   rw [if_neg h3]
   exact h3
  ·rw [if_neg h2]; decide
 ·rw [if_neg h1]; exact h1
theorem downP_bars {o u g : Int} (h : Bars t o) (hu : u ≠ 0) (ho : u ≠ o) (n : Bs) (r : List Bs) : (downP t 1 u g true (shutB :: n :: r)).2 ≠ 0 := by
 unfold downP
 split
 ·exact down_bars h hu ho n r
 ·decide
theorem find_bars {o u g : Int} (h : Bars t o) (hu : u ≠ 0) (ho : u ≠ o) {n : Bs} {r : List Bs} {s : Bs} (hs : nam s = shutB :: n :: r) (ha : absP s = true) : (findP t 1 u g s).2 ≠ 0 ∧ (findP t 1 u g s).1 = 0 := by
 unfold findP
 by_cases h1 : splE s = 0
 ·rw [if_pos h1, hs, ha, if_neg (downP_bars h hu ho n r)]
  exact ⟨downP_bars h hu ho n r, rfl⟩
 ·rw [if_neg h1]
  exact ⟨h1, rfl⟩
theorem place_bars {o u g : Int} (h : Bars t o) (hu : u ≠ 0) (ho : u ≠ o) {n : Bs} {r : List Bs} {s : Bs} (hs : nam s = shutB :: n :: r) (ha : absP s = true) : (placeP t 1 u g s).err ≠ 0 := by
 unfold placeP
 by_cases h1 : splE s = 0
 ·rw [if_pos h1, hs, ha]
  by_cases h2 : (shutB :: n :: r) = [] ∨ lastN (shutB :: n :: r) = [46, 46]
  ·rw [if_pos h2]; decide
  ·rw [if_neg h2]
   cases r with
   | nil =>
    have e1 : ([shutB, n] : List Bs).dropLast = [shutB] := rfl
    rw [e1]
    by_cases h3 : (downP t 1 u g true [shutB]).2 = 0
    ·rw [if_pos h3]
     have h4 : lookE t (downP t 1 u g true [shutB]).1 u g ≠ 0 := by
      unfold downP at h3 ⊢
      by_cases h5 : isI t (startI 1 true) = true
      ·rw [if_pos h5] at h3 ⊢
       have e1 : (startI 1 true).toNat = 1 := rfl
       rw [e1] at h3 ⊢
       unfold downT at h3 ⊢
       by_cases h6 : lookE t 1 u g = 0
       ·rw [if_pos h6] at h3 ⊢
        by_cases h7 : (lookP t ((1 : Nat) : Int) shutB).2 = true
        ·rw [if_pos h7] at h3 ⊢
         exact look_bars (g := g) h hu ho (x := (lookP t ((1 : Nat) : Int) shutB).1) (Prod.ext rfl h7)
        ·rw [if_neg h7] at h3; cases h3
       ·rw [if_neg h6] at h3; exact absurd h3 h6
      ·rw [if_neg h5] at h3; cases h3
     rw [if_neg h4]
     exact h4
    ·rw [if_neg h3]
     exact h3
   | cons m r =>
    have e1 : (shutB :: n :: m :: r).dropLast = shutB :: n :: (m :: r).dropLast := rfl
    rw [e1, if_neg (downP_bars h hu ho n _)]
    exact downP_bars h hu ho n _
 ·rw [if_neg h1]
  exact h1
section
variable {cwd u g : Int} {s : Bs}
theorem mkdir_no (h : (placeP t cwd u g s).err ≠ 0) (m : Int) : ∃ e : Nat, e ≠ 0 ∧ mkdirP t cwd u g s m = (t, e) := by
 unfold mkdirP
 by_cases h1 : rMode m = true
 ·rw [if_pos h1, if_neg h]; exact ⟨_, h, rfl⟩
 ·rw [if_neg h1]; exact ⟨1, by decide, rfl⟩
theorem rm_no (h : (placeP t cwd u g s).err ≠ 0) (b : Bool) : ∃ e : Nat, e ≠ 0 ∧ rmP t cwd u g s b = (t, e) := by
 unfold rmP
 rw [if_neg h]; exact ⟨_, h, rfl⟩
theorem ren_no (h : (placeP t cwd u g s).err ≠ 0) (a : Bs) : ∃ e : Nat, e ≠ 0 ∧ renP t cwd u g s a = (t, e) := by
 unfold renP
 rw [if_neg h]; exact ⟨_, h, rfl⟩
theorem link_no (h : (findP t cwd u g s).2 ≠ 0) (a : Bs) : ∃ e : Nat, e ≠ 0 ∧ linkP t cwd u g s a = (t, e) := by
 unfold linkP
 rw [if_neg h]; exact ⟨_, h, rfl⟩
theorem chmod_no (h : (findP t cwd u g s).2 ≠ 0) (m : Int) : ∃ e : Nat, e ≠ 0 ∧ chmodP t cwd u g s m = (t, e) := by
 unfold chmodP
 rw [if_neg h]; exact ⟨_, h, rfl⟩
theorem open_no (h : (placeP t cwd u g s).err ≠ 0) (k : (findP t cwd u g s).2 ≠ 0) (want m : Int) (mk al em : Bool) : ∃ e : Nat, e ≠ 0 ∧ openP t cwd u g s want mk al em m = (t, 0, e) := by
 unfold openP
 by_cases h1 : wantOk want = true ∧ rMode m = true
 ·rw [if_pos h1]
  by_cases h2 : mk = true
  ·rw [if_pos h2, if_neg h]; exact ⟨_, h, rfl⟩
  ·rw [if_neg h2, if_neg k]; exact ⟨_, k, rfl⟩
 ·rw [if_neg h1]; exact ⟨1, by decide, rfl⟩
end
theorem right_md (hm : Md t) (x : Nat) : rightB (t x).mode = true := by
 have h := hm x
 unfold rOk rMode at h
 unfold rightB
 simp only [Bool.and_eq_true] at h
 exact h.1.2
theorem root_may (hm : Md t) {x : Nat} (hk : (t x).kind = 1) (want : Int) (h1 : 1 ≤ want) (h7 : want ≤ 7) : mayT t x 0 0 want = true := by
 unfold mayT mayB
 rw [if_pos ⟨right_md hm x, h1, h7⟩, if_pos rfl, hk]
 simp
theorem one_is (hs : Sound t) : isI t ((1 : Nat) : Int) = true := by rw [isI_cast hs.sd]; exact hs.sd.root.1
theorem shut_down0 (hs : Sound t) (l : List Bs) : downP t 1 0 0 true l = downT t 0 0 1 l := by
 unfold downP
 rw [show startI 1 true = ((1 : Nat) : Int) from rfl, if_pos (one_is hs)]
 rfl
theorem shut_look (hs : Sound t) (hm : Md t) : lookE t 1 0 0 = 0 := by
 unfold lookE
 rw [if_pos hs.sd.root.2.1, if_pos (root_may hm hs.sd.root.2.1 1 (by decide) (by decide))]
theorem shut_place (hs : Sound t) (hm : Md t) : placeP t 1 0 0 shutS = ⟨1, shutB, false, 0⟩ := by
 have hd : downP t 1 0 0 true ([shutB] : List Bs).dropLast = (1, 0) := (shut_down0 hs _).trans rfl
 unfold placeP
 rw [if_pos shut_e1, shut_e2, shut_e3, shut_e4, if_neg (by decide), hd]
 show (if (0 : Nat) = 0 then (if lookE t 1 0 0 = 0 then _ else _) else _ : Plc) = _
 rw [if_pos rfl, if_pos (shut_look hs hm)]
 rfl
theorem shut_find (hs : Sound t) (hm : Md t) {x : Nat} (hx : lookP t ((1 : Nat) : Int) shutB = (x, true)) : findP t 1 0 0 shutS = (x, 0) := by
 have hd : downP t 1 0 0 true [shutB] = (x, 0) := by
  rw [shut_down0 hs]
  unfold downT
  rw [if_pos (shut_look hs hm), hx, if_pos rfl]
  rfl
 unfold findP
 rw [if_pos shut_e1, shut_e2, shut_e3, shut_e4, hd, if_pos rfl, if_neg (fun q => Bool.false_ne_true q.1)]
theorem shut_none (hs : Sound t) (hl : ¬ (lookP t ((1 : Nat) : Int) shutB).2 = true) : findE (t 1).ents shutB = none := by
 have hD : isD t ((1 : Nat) : Int) = true := by
  unfold isD
  rw [one_is hs]
  simp [hs.sd.root.2.1]
 unfold lookP at hl
 rw [if_pos hD, if_neg shut_n1, if_neg shut_n2, Int.toNat_natCast] at hl
 cases q : findE (t 1).ents shutB with
 | none => rfl
 | some y => rw [q] at hl; exact absurd rfl hl
theorem mkdir_err (hp : placeP t 1 0 0 shutS = ⟨1, shutB, false, 0⟩) (hl : ¬ (lookP t ((1 : Nat) : Int) shutB).2 = true) {t' : T} {e : Nat} (he : e ≠ 0) (hM : makesP t 0 0 1 shutB 1 448 = (t', 0, e)) : (mkdirP t 1 0 0 shutS 448).2 = e := by
 unfold mkdirP
 rw [if_pos shut_r, hp]
 show (if (0 : Nat) = 0 then (if (lookP t ((1 : Nat) : Int) shutB).2 = true then _ else _) else _ : T × Nat).2 = e
 rw [if_pos rfl, if_neg hl, hM]
 show (if e = 0 then _ else _ : T × Nat).2 = e
 rw [if_neg he]
theorem shut_mkdir (hs : Sound t) (hm : Md t) : (mkdirP t 1 0 0 shutS 448).2 = 9 ∨ (((mkdirP t 1 0 0 shutS 448).2 = 0 ∨ (mkdirP t 1 0 0 shutS 448).2 = 5) ∧ ∃ x, lookP (mkdirP t 1 0 0 shutS 448).1 ((1 : Nat) : Int) shutB = (x, true)) := by
 have hp := shut_place hs hm
 have hmay := root_may hm hs.sd.root.2.1 2 (by decide) (by decide)
 have s2 := sound_mkdir hs 1 0 0 shutS 448
 by_cases hl : (lookP t ((1 : Nat) : Int) shutB).2 = true
 ·have e : mkdirP t 1 0 0 shutS 448 = (t, 5) := by
   unfold mkdirP
   rw [if_pos shut_r, hp]
   show (if (0 : Nat) = 0 then (if (lookP t ((1 : Nat) : Int) shutB).2 = true then _ else _) else _ : T × Nat) = _
   rw [if_pos rfl, if_pos hl]
  rw [e]
  exact .inr ⟨.inr rfl, _, Prod.ext rfl hl⟩
 ·have he := shut_none hs hl
  cases hf : freeP t with
  | none =>
   refine .inl (mkdir_err hp hl (by decide) (t' := t) ?_)
   have hM : makeP t (rMake 1 448 0 0 0) 1 448 0 0 0 = (t, 0, 9) := by
    unfold makeP
    rw [if_pos shut_k, hf]
   unfold makesP createP
   rw [if_pos hmay, hM]
   rfl
  | some i =>
   obtain ⟨i1, i2, i3⟩ := free_facts hf
   have hne : 1 ≠ i := fun e => by rw [← e, hs.sd.root.1] at i3; cases i3
   by_cases h40 : (t 1).ents.length < 40
   ·have e := mkdir_ok hs (cwd := 1) (s := shutS) shut_r hp hf shut_k hs.sd.root.1 hs.sd.root.2.1 shut_ok he h40 hmay (by simpa using hl)
    rw [e] at s2 ⊢
    refine .inr ⟨.inl rfl, i, (look_name s2.sd ?_).1⟩
    show (shutB, i) ∈ (mkT t 0 0 1 shutB 1 448 i 1).ents
    unfold mkT
    rw [upd_other _ _ hne]
    unfold madeT
    rw [add_ents, if_pos rfl]
    simp
   ·have s1 : Sound (upd t i (madeN 1 448 0 0 0 i)) := by
     have := sound_make hs (rMake 1 448 0 0 0) 1 448 0 0 0 (rMake_kinds _ _ _ _ _)
     rw [make_ok hf shut_k] at this
     exact this
    have hL : links (upd t i (madeN 1 448 0 0 0 i)) i = 0 := by
     have := links_upd t i (madeN 1 448 0 0 0 i) i i2
     rw [links_fresh hs.sd i3] at this
     have h2 : cnt (madeN 1 448 0 0 0 i).ents i = 0 := rfl
     omega
    have hE : enterP (upd t i (madeN 1 448 0 0 0 i)) ((1 : Nat) : Int) shutB (i : Int) = (upd t i (madeN 1 448 0 0 0 i), 9) := by
     unfold enterP
     rw [if_pos ⟨by rw [isI_cast s1.sd, upd_other _ _ hne]; exact hs.sd.root.1, by rw [isI_cast s1.sd, upd_same]; rfl⟩, Int.toNat_natCast, Int.toNat_natCast, upd_other _ _ hne, if_pos hs.sd.root.2.1, if_pos shut_ok,
      if_neg (by rw [he]; exact Bool.false_ne_true), if_neg (by rw [hL]; rintro (q | ⟨_, q⟩ | q) <;> omega), if_pos (by omega)]
    refine .inl (mkdir_err hp hl (by decide) (t' := (dropP (upd t i (madeN 1 448 0 0 0 i)) (i : Int)).1) ?_)
    unfold makesP createP
    rw [if_pos hmay, make_ok hf shut_k]
    show (if (0 : Nat) = 0 then (if (enterP (upd t i (madeN 1 448 0 0 0 i)) ((1 : Nat) : Int) shutB (i : Int)).2 = 0 then _ else (((dropP (enterP (upd t i (madeN 1 448 0 0 0 i)) ((1 : Nat) : Int) shutB (i : Int)).1 (i : Int)).1, 0, (enterP (upd t i (madeN 1 448 0 0 0 i)) ((1 : Nat) : Int) shutB (i : Int)).2))) else _ : T × Nat × Nat) = _
    rw [if_pos rfl, hE]
    rfl
theorem look_upd (x : Nat) (v : Nod) (h1 : v.is = (t x).is) (h2 : v.kind = (t x).kind) (h3 : v.ents = (t x).ents) : lookP (upd t x v) ((1 : Nat) : Int) shutB = lookP t ((1 : Nat) : Int) shutB := by
 unfold lookP isD isI
 rw [upd_is _ _ _ _ h1, upd_kind _ _ _ _ h2, upd_ents _ _ _ _ h3, if_neg shut_n1, if_neg shut_n2, if_neg shut_n1, if_neg shut_n2]
theorem shut_own (hs : Sound t) (hm : Md t) {x : Nat} (hx : lookP t ((1 : Nat) : Int) shutB = (x, true)) {o : Int} (h0 : 0 ≤ o) (h1 : o ≤ 65535) :
 (chownP t 1 0 0 shutS o 3).2 = 0 ∧ lookP (chownP t 1 0 0 shutS o 3).1 ((1 : Nat) : Int) shutB = (x, true) ∧ ((chownP t 1 0 0 shutS o 3).1 x).owner = o ∧ ((chownP t 1 0 0 shutS o 3).1 x).group = 3 := by
 have hi : isI t (x : Int) = true := by
  have := look_to hs.sd (x := 1) (n := shutB) (by rw [hx])
  rw [hx] at this
  exact this
 have hr : (rMode (bits .andNot .i64 (t x).mode 2048) && (rId o && rId 3)) = true := by
  have h := hm x
  unfold rOk at h
  simp only [Bool.and_eq_true] at h
  rw [rMode_plain h.1]
  unfold rId
  simp [h0, h1]
 have e : chownP t 1 0 0 shutS o 3 = (upd t x { t x with mode := bits .andNot .i64 (t x).mode 2048, owner := o, group := 3 }, 0) := by
  unfold chownP
  rw [shut_find hs hm hx]
  show (if (0 : Nat) = 0 then (if (0 : Int) = 0 ∨ _ then setP t (x : Int) (rMode (bits .andNot .i64 (t x).mode 2048) && (rId o && rId 3)) (bits .andNot .i64 (t x).mode 2048) o 3 else _) else _ : T × Nat) = _
  rw [if_pos rfl, if_pos (.inl rfl)]
  unfold setP
  rw [if_pos hi, if_pos hr, Int.toNat_natCast]
 rw [e]
 refine ⟨rfl, (look_upd x { t x with mode := bits .andNot .i64 (t x).mode 2048, owner := o, group := 3 } rfl rfl rfl).trans hx, ?_, ?_⟩
 ·show (upd t x _ x).owner = o
  rw [upd_same]
 ·show (upd t x _ x).group = 3
  rw [upd_same]
theorem shut_mode (hs : Sound t) (hm : Md t) {x : Nat} (hx : lookP t ((1 : Nat) : Int) shutB = (x, true)) {o : Int} (ho : (t x).owner = o) (hg : (t x).group = 3) (h0 : 0 ≤ o) (h1 : o ≤ 65535) :
 (chmodP t 1 0 0 shutS 448).2 = 0 ∧ Bars (chmodP t 1 0 0 shutS 448).1 o := by
 have hi : isI t (x : Int) = true := by
  have := look_to hs.sd (x := 1) (n := shutB) (by rw [hx])
  rw [hx] at this
  exact this
 have hr : (rMode 448 && (rId (t x).owner && rId (t x).group)) = true := by
  rw [shut_r, ho, hg]
  unfold rId
  simp [h0, h1]
 have e : chmodP t 1 0 0 shutS 448 = (upd t x { t x with mode := 448, owner := (t x).owner, group := (t x).group }, 0) := by
  unfold chmodP
  rw [shut_find hs hm hx]
  show (if (0 : Nat) = 0 then (if (0 : Int) = 0 ∨ _ then setP t (x : Int) (rMode 448 && (rId (t x).owner && rId (t x).group)) 448 (t x).owner (t x).group else _) else _ : T × Nat) = _
  rw [if_pos rfl, if_pos (.inl rfl)]
  unfold setP
  rw [if_pos hi, if_pos hr, Int.toNat_natCast]
 rw [e]
 refine ⟨rfl, fun y hy => ?_⟩
 have hy2 : lookP t ((1 : Nat) : Int) shutB = (y, true) := (look_upd x { t x with mode := 448, owner := (t x).owner, group := (t x).group } rfl rfl rfl).symm.trans hy
 rw [hx] at hy2
 cases hy2
 refine .inr ⟨?_, ?_⟩
 ·show (upd t x _ x).mode = 448
  rw [upd_same]
 ·show (upd t x _ x).owner = o
  rw [upd_same]
  exact ho
end
section
open Go.RowKit Ino Go.Maps Pa
section
variable {w0 w w' : World} {A n G : Nat} {t : T} {L : Nat → Prop} {U g : Int}
def CU2 (W : World) (G : Nat) (U g : Int) : Prop := W.cell? ⟨G, 0, none⟩ = some (.int .i64 U) ∧ W.cell? ⟨G, 1, none⟩ = some (.int .i64 U) ∧ W.cell? ⟨G, 2, none⟩ = some (.int .i64 U) ∧ W.cell? ⟨G, 3, none⟩ = some (.int .i64 g) ∧ W.cell? ⟨G, 4, none⟩ = some (.int .i64 g)
theorem CU2.kp (h : CU2 w G U g) (k : Kp L w w') (hL : L G) : CU2 w' G U g := ⟨k.cell hL h.1, k.cell hL h.2.1, k.cell hL h.2.2.1, k.cell hL h.2.2.2.1, k.cell hL h.2.2.2.2⟩
theorem CU2.up (h : CU2 w G U g) (b : Below w.heap.size w w') : CU2 w' G U g := ⟨up1 h.1 b, up1 h.2.1 b, up1 h.2.2.1 b, up1 h.2.2.2.1 b, up1 h.2.2.2.2 b⟩
theorem and_le9 (n : Int) (k : Nat) (hk : k < 9223372036854775808) : ∃ m : Nat, bits .and .i64 n (k : Int) = (m : Int) ∧ m ≤ k := by
 refine ⟨(n % 18446744073709551616).toNat &&& k, ?_, Nat.and_le_right⟩
 show IntKind.i64.wrap ((BitVec.ofInt 64 n &&& BitVec.ofInt 64 (k : Int)).toNat : Int) = _
 rw [BitVec.toNat_and, BitVec.toNat_ofInt, BitVec.toNat_ofInt]
 have e : ((k : Int) % ((2 ^ 64 : Nat) : Int)).toNat = k := by omega
 have e2 : (2 ^ 64 : Nat) = 18446744073709551616 := by decide
 rw [e, e2]
 have h : (n % ((18446744073709551616 : Nat) : Int)).toNat &&& k ≤ k := Nat.and_le_right
 rw [IntKind.wrap_i64]
 have e3 : (((18446744073709551616 : Nat) : Int)) = 18446744073709551616 := rfl
 rw [e3] at h ⊢
 omega
theorem InSt.up9 {α : Type} {mk : α → List Value} {ok : α → Prop} {c : Nat} {W W' : World} {p : Option Addr} {n : Nat} {zs : List α} (h : InSt mk ok c W p n zs) (b : Below W.heap.size W W') : InSt mk ok c W' p n zs :=
 ⟨h.1, fun j z hz => by
  obtain ⟨k0, g, off, k1, k2⟩ := h.2 j z hz
  exact ⟨k0, g, off, k1, fun i v hv => (b.cell (p := ⟨g, off + j * c + i, none⟩) (cell_lt (k2 i v hv))).trans (k2 i v hv)⟩⟩
def Far (t : T) (u g : Int) (s : Bs) : Prop := ((findP t 1 u g s).2 ≠ 0 ∧ (findP t 1 u g s).1 = 0) ∧ (placeP t 1 u g s).err ≠ 0
theorem Bars.far {o u g : Int} (h : Bars t o) (hu : u ≠ 0) (ho : u ≠ o) {l : List Bs} (hl : l ≠ []) (hn : ∀ m ∈ shutB :: l, nameOk m = true) : Far t u g (pth (shutB :: l)) := by
 cases l with
 | nil => exact absurd rfl hl
 | cons n r =>
  have e := nam_pth hn
  exact ⟨find_bars h hu ho e rfl, place_bars h hu ho e rfl⟩
theorem sh9_rm (p : WL L w0 w A t n) : Calls Tryz.prog 24 #[.pointer (some ⟨A, 0, none⟩), .int .i64 1, crd 0 0 0 0 0, .string ⟨#[47, 115, 104, 117, 116]⟩, .bool false] w fun e w' => ∃ (i : Int) (t' : T), e = .returned (.int .i64 i) ∧ WL L w0 w' A t' n ∧ Kp L w w' :=
 (wl_rm p 1 0 0 0 0 0 ⟨#[47, 115, 104, 117, 116]⟩ (by unfold maxLen; decide) false).mono fun e w' h => ⟨_, _, h.1, h.2.1, h.2.2⟩
theorem sh9_mk (p : WL L w0 w A t n) (hn : n ≤ 999999) : Calls Tryz.prog 23 #[.pointer (some ⟨A, 0, none⟩), .int .i64 1, crd 0 0 0 0 0, .string ⟨#[47, 115, 104, 117, 116]⟩, .int .i64 448] w fun e w' => ∃ (i : Int) (t' : T), e = .returned (.int .i64 i) ∧ WL L w0 w' A t' (n + 1) ∧ Kp L w w' ∧ (i = 9 ∨ ((i = 0 ∨ i = 5) ∧ ∃ x, lookP t' ((1 : Nat) : Int) shutB = (x, true))) := by
 have h1 := shut_mkdir p.s p.m
 refine (wl_mkdir p hn 1 0 0 0 0 0 ⟨#[47, 115, 104, 117, 116]⟩ (by unfold maxLen; decide) 448 (by unfold wfI; decide)).mono fun e w' h => ⟨_, _, h.1, h.2.1, h.2.2, ?_⟩
 show (((mkdirP t 1 0 0 shutS 448).2 : Nat) : Int) = 9 ∨ (((((mkdirP t 1 0 0 shutS 448).2 : Nat) : Int) = 0 ∨ (((mkdirP t 1 0 0 shutS 448).2 : Nat) : Int) = 5) ∧ ∃ x, lookP (mkdirP t 1 0 0 shutS 448).1 ((1 : Nat) : Int) shutB = (x, true))
 rcases h1 with k | ⟨k | k, k2⟩
 ·rw [k]; exact .inl rfl
 ·exact .inr ⟨.inl (by rw [k]; rfl), k2⟩
 ·exact .inr ⟨.inr (by rw [k]; rfl), k2⟩
theorem sh9_own (p : WL L w0 w A t n) {x : Nat} (hx : lookP t ((1 : Nat) : Int) shutB = (x, true)) {o : Int} (h0 : 0 ≤ o) (h1 : o ≤ 65535) : Calls Tryz.prog 29 #[.pointer (some ⟨A, 0, none⟩), .int .i64 1, crd 0 0 0 0 0, .string ⟨#[47, 115, 104, 117, 116]⟩, .int .i64 o, .int .i64 3] w fun e w' => ∃ (t' : T), e = .returned (.int .i64 0) ∧ WL L w0 w' A t' n ∧ Kp L w w' ∧ lookP t' ((1 : Nat) : Int) shutB = (x, true) ∧ (t' x).owner = o ∧ (t' x).group = 3 := by
 obtain ⟨k1, k2, k3, k4⟩ := shut_own p.s p.m hx h0 h1
 refine (wl_chown p 1 0 0 0 0 0 ⟨#[47, 115, 104, 117, 116]⟩ (by unfold maxLen; decide) o 3).mono fun e w' h => ⟨_, ?_, h.2.1, h.2.2, k2, k3, k4⟩
 have h' := h.1
 rw [show (⟨#[47, 115, 104, 117, 116]⟩ : ByteArray).data.toList = shutS from rfl, k1] at h'
 exact h'
theorem sh9_mode (p : WL L w0 w A t n) {x : Nat} (hx : lookP t ((1 : Nat) : Int) shutB = (x, true)) {o : Int} (ho : (t x).owner = o) (hg : (t x).group = 3) (h0 : 0 ≤ o) (h1 : o ≤ 65535) : Calls Tryz.prog 28 #[.pointer (some ⟨A, 0, none⟩), .int .i64 1, crd 0 0 0 0 0, .string ⟨#[47, 115, 104, 117, 116]⟩, .int .i64 448] w fun e w' => ∃ (t' : T), e = .returned (.int .i64 0) ∧ WL L w0 w' A t' n ∧ Kp L w w' ∧ Bars t' o := by
 obtain ⟨k1, k2⟩ := shut_mode p.s p.m hx ho hg h0 h1
 refine (wl_chmod p 1 0 0 0 0 0 ⟨#[47, 115, 104, 117, 116]⟩ (by unfold maxLen; decide) 448 (by unfold wfI; decide)).mono fun e w' h => ⟨_, ?_, h.2.1, h.2.2, k2⟩
 have h' := h.1
 rw [show (⟨#[47, 115, 104, 117, 116]⟩ : ByteArray).data.toList = shutS from rfl, k1] at h'
 exact h'
variable {u r s k : Int} {q : ByteArray}
theorem no_find (p : WL L w0 w A t n) (hq : q.size ≤ maxLen) (f : Far t u g q.data.toList) : Calls Tryz.prog 30 #[.pointer (some ⟨A, 0, none⟩), .int .i64 1, crd r u s k g, .string q] w fun e w' => ∃ i : Int, i ≠ 0 ∧ e = .returned (.tuple #[.int .i64 0, .int .i64 i]) ∧ WL L w0 w' A t n ∧ Kp L w w' := by
 refine (wl_find p 1 r u s k g q hq).mono fun e w' h => ⟨((findP t 1 u g q.data.toList).2 : Nat), fun z => f.1.1 (by omega), ?_, h.2.1, h.2.2.2⟩
 rw [h.1]
 unfold makeV
 rw [f.1.2]
 rfl
theorem no_open (p : WL L w0 w A t n) (hn : n ≤ 999999) (hq : q.size ≤ maxLen) (f : Far t u g q.data.toList) (want : Int) (mk al em en : Bool) (mode : Int) (hm : wfI mode) : Calls Tryz.prog 20 #[.pointer (some ⟨A, 0, none⟩), .int .i64 1, crd r u s k g, .string q, .agg #[.int .i64 want, .bool mk, .bool al, .bool em, .bool en, .int .i64 mode]] w fun e w' => ∃ i : Int, i ≠ 0 ∧ e = .returned (.tuple #[.int .i64 0, .int .i64 i]) ∧ WL L w0 w' A t (n + 1) ∧ Kp L w w' := by
 obtain ⟨i, hi, e1⟩ := open_no f.2 f.1.1 want mode mk al em
 refine (wl_open p hn 1 r u s k g q hq want mk al em en mode hm).mono fun e w' h => ⟨(i : Nat), fun z => hi (by omega), ?_, ?_, h.2.2⟩
 ·rw [h.1, e1]; rfl
 ·have := h.2.1
  rw [e1] at this
  exact this
theorem no_mkdir (p : WL L w0 w A t n) (hq : q.size ≤ maxLen) (f : Far t u g q.data.toList) (hn : n ≤ 999999) (mode : Int) (hm : wfI mode) : Calls Tryz.prog 23 #[.pointer (some ⟨A, 0, none⟩), .int .i64 1, crd r u s k g, .string q, .int .i64 mode] w fun e w' => ∃ i : Int, i ≠ 0 ∧ e = .returned (.int .i64 i) ∧ WL L w0 w' A t (n + 1) ∧ Kp L w w' := by
 obtain ⟨i, hi, e1⟩ := mkdir_no f.2 mode
 refine (wl_mkdir p hn 1 r u s k g q hq mode hm).mono fun e w' h => ⟨(i : Nat), fun z => hi (by omega), ?_, ?_, h.2.2⟩
 ·rw [h.1, e1]
 ·have := h.2.1
  rw [e1] at this
  exact this
theorem no_rm (p : WL L w0 w A t n) (hq : q.size ≤ maxLen) (f : Far t u g q.data.toList) (b : Bool) : Calls Tryz.prog 24 #[.pointer (some ⟨A, 0, none⟩), .int .i64 1, crd r u s k g, .string q, .bool b] w fun e w' => ∃ i : Int, i ≠ 0 ∧ e = .returned (.int .i64 i) ∧ WL L w0 w' A t (n) ∧ Kp L w w' := by
 obtain ⟨i, hi, e1⟩ := rm_no f.2 b
 refine (wl_rm p 1 r u s k g q hq b).mono fun e w' h => ⟨(i : Nat), fun z => hi (by omega), ?_, ?_, h.2.2⟩
 ·rw [h.1, e1]
 ·have := h.2.1
  rw [e1] at this
  exact this
theorem no_ren (p : WL L w0 w A t n) (hq : q.size ≤ maxLen) (f : Far t u g q.data.toList) (a : ByteArray) (ha : a.size ≤ maxLen) : Calls Tryz.prog 26 #[.pointer (some ⟨A, 0, none⟩), .int .i64 1, crd r u s k g, .string q, .string a] w fun e w' => ∃ i : Int, i ≠ 0 ∧ e = .returned (.int .i64 i) ∧ WL L w0 w' A t (n) ∧ Kp L w w' := by
 obtain ⟨i, hi, e1⟩ := ren_no f.2 a.data.toList
 refine (wl_ren p 1 r u s k g q a hq ha).mono fun e w' h => ⟨(i : Nat), fun z => hi (by omega), ?_, ?_, h.2.2⟩
 ·rw [h.1, e1]
 ·have := h.2.1
  rw [e1] at this
  exact this
theorem no_link (p : WL L w0 w A t n) (hq : q.size ≤ maxLen) (f : Far t u g q.data.toList) (a : ByteArray) (ha : a.size ≤ maxLen) : Calls Tryz.prog 25 #[.pointer (some ⟨A, 0, none⟩), .int .i64 1, crd r u s k g, .string q, .string a] w fun e w' => ∃ i : Int, i ≠ 0 ∧ e = .returned (.int .i64 i) ∧ WL L w0 w' A t (n) ∧ Kp L w w' := by
 obtain ⟨i, hi, e1⟩ := link_no f.1.1 a.data.toList
 refine (wl_link p 1 r u s k g q a hq ha).mono fun e w' h => ⟨(i : Nat), fun z => hi (by omega), ?_, ?_, h.2.2⟩
 ·rw [h.1, e1]
 ·have := h.2.1
  rw [e1] at this
  exact this
theorem no_chmod (p : WL L w0 w A t n) (hq : q.size ≤ maxLen) (f : Far t u g q.data.toList) (mode : Int) (hm : wfI mode) : Calls Tryz.prog 28 #[.pointer (some ⟨A, 0, none⟩), .int .i64 1, crd r u s k g, .string q, .int .i64 mode] w fun e w' => ∃ i : Int, i ≠ 0 ∧ e = .returned (.int .i64 i) ∧ WL L w0 w' A t (n) ∧ Kp L w w' := by
 obtain ⟨i, hi, e1⟩ := chmod_no f.1.1 mode
 refine (wl_chmod p 1 r u s k g q hq mode hm).mono fun e w' h => ⟨(i : Nat), fun z => hi (by omega), ?_, ?_, h.2.2⟩
 ·rw [h.1, e1]
 ·have := h.2.1
  rw [e1] at this
  exact this
def shRel (W1 : World) (A n : Nat) (t : T) (sv iv : Value) (W : World) : Prop :=
 ∃ (l : List Bs) (s : ByteArray), iv = .int .i64 (l.length : Nat) ∧ sv = .string s ∧ s.data.toList = pth (shutB :: l) ∧ l.length ≤ 5 ∧ (∀ m ∈ l, nameOk m = true) ∧ WL (fun _ => False) W1 W A t n
end
set_option maxHeartbeats 8000000 in
set_option maxRecDepth 100000 in
theorem shut7_walk (p0 : Option Addr) (n0 c0 : Nat) (z0 : List Op7) (ow ud : Int) (p1 : Option Addr) (n1 c1 : Nat) (z1 : List ByteArray) (kd cwd u g : Int) (s x : ByteArray) (m n a b : Int) (w : World) (h0 : InOps7 w p0 n0 z0) (l0 : n0 ≤ maxLen) (h1 : InStrs w p1 n1 z1) (l1 : n1 ≤ maxLen) (hm : wfI m) :
 Calls Tryz.prog 7 #[.slice p0 n0 c0, .int .i64 ow, .int .i64 ud, .slice p1 n1 c1, .agg #[.int .i64 kd, .int .i64 cwd, .int .i64 u, .int .i64 g, .string s, .string x, .int .i64 m, .int .i64 n, .int .i64 a, .int .i64 b]] w fun e w' => e = .returned (.bool true) ∧ Below w.heap.size w w' := by
 have HH := fun W => how_any kd cwd u g s x m n a b W
 generalize bits .and .i64 n 7 = want at HH
 generalize (bits .and .i64 n 8 != 0) = mk at HH
 generalize (bits .and .i64 n 16 != 0) = al at HH
 generalize (bits .and .i64 n 32 != 0) = em at HH
 have HW := hid HH
 have H0 := hid h0
 have H1 := hid h1
 have HM := hid hm
 have HL0 := hid l0
 unfold maxLen at l1
 obtain ⟨R, hr', hr⟩ := and_le9 ow 255 (by decide)
 obtain ⟨Q, hq', hq⟩ := and_le9 ud 255 (by decide)
 have ha : bits .and .i64 ow 255 = (R : Int) := hr'
 have hb : bits .and .i64 ud 255 = (Q : Int) := hq'
 have hRR : (1 + (R : Int)) = ((1 + R : Nat) : Int) := by omega
 have hQQ : (1 + (Q : Int)) = ((1 + Q : Nat) : Int) := by omega
 have hR1 : 1 ≤ 1 + R ∧ 1 + R ≤ 256 := by omega
 have hQ1 : 1 ≤ 1 + Q ∧ 1 + Q ≤ 256 := by omega
 clear HH h0 h1 hm l0 hr' hq'
 generalize hR2 : 1 + R = Rn at *
 generalize hQ2 : 1 + Q = Qn at *
 clear hR2 hQ2 hr hq
 go_enter Tryz.func7, Tryz.ntmps7
 go_wp2_with fail
 refine (shown7_any _).mono ?_
 rintro e W1 ⟨rfl, b1⟩
 have kb : Blk W1 w.heap.size 29 #[.int .i64 kd, .int .i64 cwd, .int .i64 u, .int .i64 g, .string s, .string x, .int .i64 m, .int .i64 n, .int .i64 a, .int .i64 b] := Blk.up (Blk.new w _ _) b1
 have hB1 : Below w.heap.size w W1 := bnext (bel1 w _) b1
 have hGl := kb.lt
 clear b1
 go_wp2_with fail
 refine (some7_any p0 n0 c0 z0 W1 (H0.out.up9 hB1) HL0.out).mono ?_
 rintro e W2 ⟨A, t, rfl, p2, hI⟩
 have KB := hid kb
 have HB1 := hid hB1
 have P2 := hid (show WL (fun _ => False) W1 W2 A t 60 from WP.kept ⟨p2, hI.s, hI.m, hI.b⟩)
 clear kb hB1 p2 hI H0
 by_cases hne : Rn = Qn
 ·have e1 : ((Rn : Int) == (Qn : Int)) = true := by simp; omega
  have FIN := hid (bnext HB1.out P2.out.below)
  go_wp2_with fail
  go_ret
  exact ⟨rfl, FIN.out⟩
 ·have e1 : ((Rn : Int) == (Qn : Int)) = false := by simp; omega
  have e2 : ¬ (Rn : Int) = (Qn : Int) := by omega
  go_wp2_with fail
  refine (who_any _ _ _).mono ?_
  rintro e W3 ⟨rfl, b3⟩
  have P3 := hid (P2.out.read b3)
  clear b3 P2
  go_wp2_with fail
  refine (sh9_rm P3.out).mono ?_
  rintro e W4 ⟨i4, t4, rfl, p4, -⟩
  have P4 := hid p4
  clear p4 P3
  go_wp2_with fail
  refine (who_any _ _ _).mono ?_
  rintro e W5 ⟨rfl, b5⟩
  have P5 := hid (P4.out.read b5)
  clear b5 P4
  go_wp2_with fail
  refine (sh9_mk P5.out (by omega)).mono ?_
  rintro e W6 ⟨i6, t6, rfl, p6, -, hi6⟩
  have P6 := hid p6
  clear p6 P5
  rcases hi6 with rfl | ⟨h05, xi, hx⟩
  ·have FIN := hid (bnext HB1.out P6.out.below)
   go_wp2_with fail
   go_ret
   exact ⟨rfl, FIN.out⟩
  ·have HX := hid hx
   clear hx
   rcases h05 with rfl | rfl
   all_goals
    go_wp2_with fail
    refine (who_any _ _ _).mono ?_
    rintro e W7 ⟨rfl, b7⟩
    have P7 := hid (P6.out.read b7)
    clear b7 P6
    go_wp2_with fail
    refine (sh9_own P7.out HX.out (by omega) (by omega)).mono ?_
    rintro e W8 ⟨t8, rfl, p8, -, hx8, ho8, hg8⟩
    have P8 := hid p8
    have HX8 := hid hx8
    have HO8 := hid ho8
    have HG8 := hid hg8
    clear p8 P7 hx8 ho8 hg8 HX
    go_wp2_with fail
    refine (who_any _ _ _).mono ?_
    rintro e W9 ⟨rfl, b9⟩
    have P9 := hid (P8.out.read b9)
    clear b9 P8
    go_wp2_with fail
    refine (sh9_mode P9.out HX8.out HO8.out HG8.out (by omega) (by omega)).mono ?_
    rintro e W10 ⟨t10, rfl, p10, -, hb10⟩
    have P10 := hid p10
    have HBAR := hid hb10
    clear p10 P9 hb10 HX8 HO8 HG8
    go_wp2_with fail
    go_loopw [14, 15] (fun sv iv wr => shRel W1 A 61 t10 sv iv wr) (fun _ iv _ => 5 - (intOf iv).toNat)
    case atStart => exact ⟨[], _, rfl, rfl, rfl, by decide, by simp, P10.out⟩
    case round =>
     obtain ⟨l, sb, rfl, rfl, hsd, hl5, hno, hp⟩ := hrel
     clear P10
     have HP := hid hp
     have HNO := hid hno
     have HSD := hid hsd
     have HNX := hid (show ∀ m ∈ shutB :: l, nameOk m = true from fun m hm => (List.mem_cons.1 hm).elim (fun h => by rw [h]; exact shut_ok) (hno m))
     have hsz : sb.size ≤ 90 := by
      have h1 := len_pth HNX.out
      rw [← hsd] at h1
      have h2 : sb.data.toList.length = sb.size := rfl
      have h3 : (shutB :: l).length = l.length + 1 := rfl
      omega
     have FIN := hid (bnext HB1.out hp.below)
     clear hp hno hsd
     by_cases hlt : l.length < n1 ∧ l.length < 5
     ·obtain ⟨k0, k2⟩ := hlt
      obtain ⟨g0, o0, rfl, hc0, hxm⟩ := H1.out.2 l.length (z1[l.length]'(by rw [H1.out.1]; exact k0)) (List.getElem?_eq_getElem _)
      generalize z1[l.length]'(by rw [H1.out.1]; exact k0) = y at hc0 hxm
      have e0 := (Below.cell FIN.out (p := ⟨g0, o0 + l.length, none⟩) (cell_lt hc0)).trans hc0
      clear hc0
      have j1 : (0 : Int) ≤ (l.length : Int) := by omega
      have j2 : (l.length : Int) < n1 := by omega
      have j3 : (l.length : Int) < 5 := by omega
      generalize hkl : l.length = k at *
      have HKL := hid hkl
      clear hkl
      cases hnx : nameOk y.data.toList
      ·have HN := fun W => pname_any y hxm W
       rw [hnx] at HN
       go_wp2_with fail
       refine (HN _).mono ?_
       rintro e w4 ⟨rfl, rfl⟩
       go_wp2
       go_ret
       exact ⟨rfl, FIN.out⟩
      ·have HN := fun W => pname_any y hxm W
       rw [hnx] at HN
       have hx14 : y.size ≤ 14 := (name_chars hnx).2.1
       have hS : (sb ++ ⟨#[47]⟩ ++ y).data.toList = pth (shutB :: (l ++ [y.data.toList])) := by
        rw [show shutB :: (l ++ [y.data.toList]) = (shutB :: l) ++ [y.data.toList] from rfl, pth_snoc, ByteArray.data_append, ByteArray.data_append, Array.toList_append, Array.toList_append, HSD.out]
        simp
       have HS := hid hS
       have HNO2 := hid (show ∀ m ∈ l ++ [y.data.toList], nameOk m = true from fun m hm => (List.mem_append.1 hm).elim (HNO.out m) (fun h => by rw [List.mem_singleton.1 h]; exact hnx))
       have HL2 := hid (show (l ++ [y.data.toList]).length = k + 1 by rw [List.length_append, HKL.out]; rfl)
       clear hS
       go_wp2_with fail
       refine (HN _).mono ?_
       rintro e w4 ⟨rfl, rfl⟩
       clear HN
       go_wp2
       go_roundw
       case rel => exact ⟨l ++ [y.data.toList], _, by rw [HL2.out]; go_num, rfl, HS.out, by rw [HL2.out]; omega, HNO2.out, HP.out⟩
       case measure => simp [intOf]; omega
     ·by_cases hn0 : n1 = 0
      ·subst hn0
       have j1 : ¬ (l.length : Int) < ((0 : Nat) : Int) := by omega
       go_wp2_with fail
       go_ret
       exact ⟨rfl, FIN.out⟩
      ·have hle : l ≠ [] := fun h => by
        rw [h] at hlt
        exact hlt ⟨by show 0 < n1; omega, by decide⟩
       have hfar := HBAR.out.far (u := (Qn : Int)) (g := g) (by omega) (by omega) hle HNX.out
       rw [← HSD.out] at hfar
       have FAR := hid hfar
       have hqm : sb.size ≤ maxLen := by unfold maxLen; omega
       have HQ := hid (fun W' (q : Below W1.heap.size W1 W') => Blk.k10 (KB.out.up q))
       have HFN := hid (fun W' (q : Below W1.heap.size W1 W') => bnext HB1.out q)
       obtain ⟨q0, q1, q2, q3, q4, q5, q6, q7, q8, q9⟩ := HQ.out _ HP.out.below
       have i0 : ((n1 : Int) == 0) = false := by simp; omega
       have i00 : ¬ (n1 : Int) = 0 := by omega
       have i9 : ¬ (128 : Int) < (sb.size : Int) := by omega
       have hend : (l.length : Int) < n1 ∧ ¬ (l.length : Int) < 5 ∨ ¬ (l.length : Int) < n1 := by omega
       clear hlt hfar FIN hle
       rcases hend with ⟨i1, i2⟩ | i1
       all_goals
       go_wp2_with fail
       refine (who_any _ _ _).mono ?_
       rintro e V1 ⟨rfl, b1⟩
       have pm := (HP.out.read b1).more (bel1 V1 (.cells #[.int .i64 (Qn : Nat), .int .i64 (Qn : Nat), .int .i64 (Qn : Nat), .int .i64 g, .int .i64 g] 42))
       have P1c := hid (show WL (· = V1.heap.size) W1 (V1.alloc (.cells #[.int .i64 (Qn : Nat), .int .i64 (Qn : Nat), .int .i64 (Qn : Nat), .int .i64 g, .int .i64 g] 42)) A t10 61 from pm.weak (fun g hg => .inr ⟨by omega, by subst hg; simp⟩))
       have C1 := hid (show CU2 (V1.alloc (.cells #[.int .i64 (Qn : Nat), .int .i64 (Qn : Nat), .int .i64 (Qn : Nat), .int .i64 g, .int .i64 g] 42)) V1.heap.size (Qn : Nat) g from ⟨top_cell _ _ _ rfl, top_cell _ _ _ rfl, top_cell _ _ _ rfl, top_cell _ _ _ rfl, top_cell _ _ _ rfl⟩)
       clear pm b1 HP q0 q1 q2 q3 q4 q5 q6 q7 q8 q9
       generalize hJ : V1.heap.size = J at *
       generalize hGG : w.heap.size = G at *
       obtain ⟨c0, c1, c2, c3, c4⟩ := C1.out
       obtain ⟨q0, q1, q2, q3, q4, q5, q6, q7, q8, q9⟩ := HQ.out _ P1c.out.below
       go_wp2_with fail
       refine (no_find P1c.out hqm FAR.out).mono ?_
       rintro e V2 ⟨r1, hr1, rfl, p2, k2⟩
       have m1 : (r1 != 0) = true := by simpa using hr1
       have m1' : (r1 == 0) = false := by simpa using hr1
       have P2c := hid p2
       have C2 := hid (C1.out.kp k2 rfl)
       clear p2 k2 P1c C1 hr1 c0 c1 c2 c3 c4 q0 q1 q2 q3 q4 q5 q6 q7 q8 q9
       obtain ⟨c0, c1, c2, c3, c4⟩ := C2.out
       obtain ⟨q0, q1, q2, q3, q4, q5, q6, q7, q8, q9⟩ := HQ.out _ P2c.out.below
       go_wp2_with fail
       go_region_held3 (fun w' => w'.cell? ⟨J, 0, none⟩ = some (.int .i64 (Qn : Nat)) ∧ w'.cell? ⟨J, 1, none⟩ = some (.int .i64 (Qn : Nat)) ∧ w'.cell? ⟨J, 2, none⟩ = some (.int .i64 (Qn : Nat)) ∧ w'.cell? ⟨J, 3, none⟩ = some (.int .i64 g) ∧ w'.cell? ⟨J, 4, none⟩ = some (.int .i64 g) ∧ w'.cell? ⟨G, 0, none⟩ = some (.int .i64 kd) ∧ w'.cell? ⟨G, 1, none⟩ = some (.int .i64 cwd) ∧ w'.cell? ⟨G, 2, none⟩ = some (.int .i64 u) ∧ w'.cell? ⟨G, 3, none⟩ = some (.int .i64 g) ∧ w'.cell? ⟨G, 4, none⟩ = some (.string s) ∧ w'.cell? ⟨G, 5, none⟩ = some (.string x) ∧ w'.cell? ⟨G, 6, none⟩ = some (.int .i64 m) ∧ w'.cell? ⟨G, 7, none⟩ = some (.int .i64 n) ∧ w'.cell? ⟨G, 8, none⟩ = some (.int .i64 a) ∧ w'.cell? ⟨G, 9, none⟩ = some (.int .i64 b))
        (first | exact ⟨c0, c1, c2, c3, c4, q0, q1, q2, q3, q4, q5, q6, q7, q8, q9⟩ | (obtain ⟨c0, c1, c2, c3, c4⟩ := C3; obtain ⟨q0, q1, q2, q3, q4, q5, q6, q7, q8, q9⟩ := HQ.out _ p3.below; exact ⟨c0, c1, c2, c3, c4, q0, q1, q2, q3, q4, q5, q6, q7, q8, q9⟩) | (obtain ⟨c0, c1, c2, c3, c4⟩ := C4.out; obtain ⟨q0, q1, q2, q3, q4, q5, q6, q7, q8, q9⟩ := HQ.out _ P4c.out.below; exact ⟨c0, c1, c2, c3, c4, q0, q1, q2, q3, q4, q5, q6, q7, q8, q9⟩))
        (first
          | (go_at_call 14; refine (HW.out _).mono ?_; rintro e V3 ⟨rfl, b3⟩; have p3 := P2c.out.read (((Below.refl V2.heap.size V2).drew).trans b3); have C3 := C2.out.up (((Below.refl V2.heap.size V2).drew).trans b3); clear b3)
          | (go_at_call 20; refine (no_open p3 (by decide) hqm FAR.out _ _ _ _ _ _ HM.out).mono ?_; rintro e V4 ⟨r2, hr2, rfl, p4, k4⟩; have P4c := hid p4; have C4 := hid (C3.kp k4 rfl); clear k4 p4))
       all_goals
        have m2 : (r2 != 0) = true := by simpa using hr2
        have m2' : (r2 == 0) = false := by simpa using hr2
        clear p3 C3 P2c C2 hr2 c0 c1 c2 c3 c4 q0 q1 q2 q3 q4 q5 q6 q7 q8 q9
        obtain ⟨c0, c1, c2, c3, c4⟩ := C4.out
        obtain ⟨q0, q1, q2, q3, q4, q5, q6, q7, q8, q9⟩ := HQ.out _ P4c.out.below
        go_wp2_with fail
        refine (no_mkdir P4c.out hqm FAR.out (by decide) 493 (by unfold wfI; decide)).mono ?_
        rintro e V5 ⟨r3, hr3, rfl, p5, k5⟩
        have m3 : (r3 != 0) = true := by simpa using hr3
        have m3' : (r3 == 0) = false := by simpa using hr3
        have P5c := hid p5
        have C5 := hid (C4.out.kp k5 rfl)
        clear p5 k5 P4c C4 hr3 c0 c1 c2 c3 c4 q0 q1 q2 q3 q4 q5 q6 q7 q8 q9
        obtain ⟨c0, c1, c2, c3, c4⟩ := C5.out
        obtain ⟨q0, q1, q2, q3, q4, q5, q6, q7, q8, q9⟩ := HQ.out _ P5c.out.below
        go_wp2_with fail
        refine (no_rm P5c.out hqm FAR.out _).mono ?_
        rintro e V6 ⟨r4, hr4, rfl, p6, k6⟩
        have m4 : (r4 != 0) = true := by simpa using hr4
        have m4' : (r4 == 0) = false := by simpa using hr4
        have P6c := hid p6
        have C6 := hid (C5.out.kp k6 rfl)
        clear p6 k6 P5c C5 hr4 c0 c1 c2 c3 c4 q0 q1 q2 q3 q4 q5 q6 q7 q8 q9
        obtain ⟨c0, c1, c2, c3, c4⟩ := C6.out
        obtain ⟨q0, q1, q2, q3, q4, q5, q6, q7, q8, q9⟩ := HQ.out _ P6c.out.below
        go_wp2_with fail
        refine (no_ren P6c.out hqm FAR.out ⟨#[47, 120]⟩ (by unfold maxLen; decide)).mono ?_
        rintro e V7 ⟨r5, hr5, rfl, p7, k7⟩
        have m5 : (r5 != 0) = true := by simpa using hr5
        have m5' : (r5 == 0) = false := by simpa using hr5
        have P7c := hid p7
        have C7 := hid (C6.out.kp k7 rfl)
        clear p7 k7 P6c C6 hr5 c0 c1 c2 c3 c4 q0 q1 q2 q3 q4 q5 q6 q7 q8 q9
        obtain ⟨c0, c1, c2, c3, c4⟩ := C7.out
        obtain ⟨q0, q1, q2, q3, q4, q5, q6, q7, q8, q9⟩ := HQ.out _ P7c.out.below
        go_wp2_with fail
        refine (no_link P7c.out hqm FAR.out ⟨#[47, 121]⟩ (by unfold maxLen; decide)).mono ?_
        rintro e V8 ⟨r6, hr6, rfl, p8, k8⟩
        have m6 : (r6 != 0) = true := by simpa using hr6
        have m6' : (r6 == 0) = false := by simpa using hr6
        have P8c := hid p8
        have C8 := hid (C7.out.kp k8 rfl)
        clear p8 k8 P7c C7 hr6 c0 c1 c2 c3 c4 q0 q1 q2 q3 q4 q5 q6 q7 q8 q9
        obtain ⟨c0, c1, c2, c3, c4⟩ := C8.out
        obtain ⟨q0, q1, q2, q3, q4, q5, q6, q7, q8, q9⟩ := HQ.out _ P8c.out.below
        go_wp2_with fail
        refine (no_chmod P8c.out hqm FAR.out 511 (by unfold wfI; decide)).mono ?_
        rintro e V9 ⟨r7, hr7, rfl, p9, k9⟩
        have m7 : (r7 != 0) = true := by simpa using hr7
        have m7' : (r7 == 0) = false := by simpa using hr7
        have P9c := hid p9
        have C9 := hid (C8.out.kp k9 rfl)
        clear p9 k9 P8c C8 hr7 c0 c1 c2 c3 c4 q0 q1 q2 q3 q4 q5 q6 q7 q8 q9
        obtain ⟨c0, c1, c2, c3, c4⟩ := C9.out
        obtain ⟨q0, q1, q2, q3, q4, q5, q6, q7, q8, q9⟩ := HQ.out _ P9c.out.below
        have FIN := hid (HFN.out _ P9c.out.below)
        clear c0 c1 c2 c3 c4 q0 q1 q2 q3 q4 q5 q6 q7 q8 q9 C9 P9c HQ HFN
        go_wp2
        go_ret
        exact ⟨ret_bool (by simp), by first | exact FIN.out | (rw [hGG]; exact FIN.out)⟩
theorem shut7_law (p0 : Option Addr) (n0 c0 : Nat) (z0 : List Op7) (ow ud : Int) (p1 : Option Addr) (n1 c1 : Nat) (z1 : List ByteArray) (o : Op7) (w : World) (h0 : InOps7 w p0 n0 z0) (l0 : n0 ≤ maxLen) (wa : (Lit.int .i64 ow).wf = true) (wb : (Lit.int .i64 ud).wf = true) (h1 : InStrs w p1 n1 z1) (l1 : n1 ≤ maxLen) (ho : o.In) :
 Calls Tryz.prog 7 #[.slice p0 n0 c0, .int .i64 ow, .int .i64 ud, .slice p1 n1 c1, o.val] w fun e w' => e = .returned (.bool true) ∧ Below w.heap.size w w' :=
 shut7_walk p0 n0 c0 z0 ow ud p1 n1 c1 z1 o.kind o.cwd o.u o.g o.s o.x o.m o.n o.a o.b w h0 l0 h1 l1 ho.m
section
open Go.ChangeShapes Go.WideShapes Go.Deep
set_option maxRecDepth 100000 in
theorem open_op7 {H : Type} {enc : TypeId × Value → H} {w : World} {base : Nat} {spare : Nat → Bool} {held : Bool} {r : Reach} {b0 : Nat} {v : Value} {d : DataW H} {p : List MemPlace} (hv : Value.okWide Tryz.prog w r b0 29 v) (h : DataW.Trod enc Tryz.prog w base spare held 29 v d p) (hM : Rows.uptoBulk d ≤ 1048576) :
 ∃ z : Op7, v = z.val ∧ z.In := by
 obtain ⟨cs, rfl, hsz⟩ := okWide_struct op7T hv
 obtain ⟨fuel, hf⟩ := h
 obtain ⟨u, hu, hi⟩ := cells_op7 hf hM
 obtain ⟨l⟩ := cs
 have e : l = u.cells := hu
 refine ⟨u, ?_, hi⟩
 rw [e]
 rfl
end
end
section
open Go.RowKit Go.ChangeShapes Go.WideShapes Go.Deep Ino
theorem addr_plain9 {W : World} {a : Addr} {v0 : Value} (h0 : W.cell? a = some v0) : ∃ b off, a = ⟨b, off, none⟩ := by
 obtain ⟨b, off, spot⟩ := a
 have hs2 : spot = none := World.cell?_spot h0
 subst hs2
 exact ⟨b, off, rfl⟩
section
variable {H : Type} {enc : TypeId × Value → H} {w : World} {base : Nat} {held : Bool}
theorem open_row9 {α : Type} [Inhabited α] (mk : α → Value) (ok : α → Prop) {t e : TypeId} (ht : Tryz.prog.underlying t = some (.slice e)) (hc : Tryz.prog.cellsOf e = 1)
 (inv : ∀ (n : Nat) (cs : List Value) (y : DataW H × List MemPlace), DataW.trod enc Tryz.prog w base (fun _ => true) held n e cs = some y → ∃ z, cs = [mk z] ∧ ok z)
 {n : Nat} {p : Option Addr} {len cap : Nat} {x : DataW H × List MemPlace} (h : DataW.trod enc Tryz.prog w base (fun _ => true) held n t [.slice p len cap] = some x) :
 ∃ zs, InRow mk ok w p len zs ∧ len ≤ maxLen := by
 rcases open_slice ht h with ⟨hcs, _⟩ | ⟨a, len', cap', m, n', D, Pl, hcs, _, hl, hm, hmm, _, hi⟩
 ·cases hcs
  exact ⟨[], ⟨rfl, fun j u hj => by cases hj⟩, Nat.zero_le _⟩
 ·cases hcs
  have hmm' : m = cap := hmm
  subst hmm'
  rw [hc] at hi
  have hu : ∀ i, i < m → ∃ u : α, w.cell? (a.add (i * 1)) = some (mk u) ∧ ok u := by
   intro i him
   obtain ⟨cs', hc', ht'⟩ := hi i him
   obtain ⟨u, hu, hok⟩ := inv _ _ _ ht'
   obtain ⟨_, hcl, hat⟩ := World.cells?_some hc'
   refine ⟨u, ?_, hok⟩
   have := hat 0 (by decide)
   rw [hu] at this
   have hz : ∀ x : Addr, x.add 0 = x := fun x => if_pos rfl
   rw [hz] at this
   exact this
  have hex : ∃ f : Nat → α, ∀ i, i < m → w.cell? (a.add (i * 1)) = some (mk (f i)) ∧ ok (f i) :=
   ⟨fun i => if h : i < m then Classical.choose (hu i h) else default, fun i h => by
    simp only [dif_pos h]; exact Classical.choose_spec (hu i h)⟩
  obtain ⟨f, hf⟩ := hex
  refine ⟨(List.range len).map f, ⟨by simp, fun j u hj => ?_⟩, by omega⟩
  have hjl : j < len := by have := (List.getElem?_eq_some_iff.1 hj).1; simpa using this
  rw [List.getElem?_map, List.getElem?_range hjl] at hj
  cases hj
  have h0 := (hf 0 (by omega)).1
  rw [Nat.zero_mul] at h0
  have hz : ∀ x : Addr, x.add 0 = x := fun x => if_pos rfl
  rw [hz] at h0
  obtain ⟨b, off, rfl⟩ := addr_plain9 h0
  have hj2 := hf j (by omega)
  rw [Nat.mul_one, Addr.add_lit] at hj2
  exact ⟨b, off, rfl, hj2⟩
theorem open_strs {n : Nat} {p : Option Addr} {len cap : Nat} {x : DataW H × List MemPlace} (h : DataW.trod enc Tryz.prog w base (fun _ => true) held n 54 [.slice p len cap] = some x) : ∃ zs, InStrs w p len zs ∧ len ≤ maxLen :=
 open_row9 Value.string _ Tryz.underlying54 (by kernel_rfl) (fun n cs y h => by obtain ⟨s, h1, _, h2⟩ := DataW.trod_string Tryz.underlying9 h; exact ⟨s, h1, h2⟩) h
end
end
end Go.Proofs.YtlpececggkdhmaaGreat
