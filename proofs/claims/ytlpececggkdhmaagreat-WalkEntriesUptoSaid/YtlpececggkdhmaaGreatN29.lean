import Derived.Lib.IndexLaws
import Derived.WalkKit
import Derived.BigQuiet
import Derived.Lib.LazyBuf
import Derived.Deep.CutRange
import Derived.Deep.CutBlock
import Derived.Deep.RegionHeld3
import Derived.Test.YtlpececggkdhmaaGreatN25
import Derived.Test.YtlpececggkdhmaaGreatM1
import Derived.Test.YtlpececggkdhmaaGreatM10
import Derived.Test.YtlpececggkdhmaaGreatShelf
import Derived.Test.YtlpececggkdhmaaGreatM7
import Derived.Test.YtlpececggkdhmaaGreatM15
import Derived.Test.YtlpececggkdhmaaGreatN6
import Derived.Test.YtlpececggkdhmaaGreatN10
open Go.Lib (hid)
set_option linter.unusedVariables false
set_option linter.unusedSimpArgs false
namespace Go.Proofs.YtlpececggkdhmaaGreat
section
open Go.RowKit Ino Go.Maps
def someRel (w : World) (A C B : Nat) (iv : Value) (wr : World) : Prop := ∃ (k : Nat) (t : T), iv = .int .i64 k /\ k <= 60 /\ TW (KB w) w wr A C B t t /\ Inv k t
set_option maxHeartbeats 8000000 in
set_option maxRecDepth 100000 in
theorem some7_any (p0 : Option Addr) (n0 c0 : Nat) (z0 : List Op7) (w : World) (h0 : InOps7 w p0 n0 z0) (l0 : n0 <= maxLen) :
 Calls Tryz.prog 13 #[.slice p0 n0 c0] w fun e w' => ∃ A t, e = .returned (.pointer (some ⟨A, 0, none⟩)) /\ PS w w' A t /\ Inv 60 t := by
 have hm : wfI 511 := by unfold wfI; omega
 have hk : rOk 511 0 0 = true := by decide
 have I0 : Inv 0 (Ino.newP 511 0 0) := ⟨sound_new _ _ _, md_new hk, mw_new hm, HB.new _ _ _⟩
 have H0 := hid h0
 unfold maxLen at l0
 clear h0
 go_enter Tryz.func13, Tryz.ntmps13
 go_wp2_with (first
  | (go_at_call 9; refine (ps_new (Below.refl w.heap.size w) 511 0 0 hm hk).mono ?_; rintro e w2 ⟨A, rfl, p2⟩)
  | (go_at_call 10; refine (td_new 511 0 0 p2 (by decide) (by decide) (by decide)).mono ?_; rintro e w3 ⟨C, B, rfl, p3⟩))
 clear p2
 go_loopw [5] (fun iv wr => someRel w A C B iv wr) (fun iv _ => 60 - (intOf iv).toNat)
 case atStart => exact ⟨0, _, rfl, by decide, p3, I0⟩
 case round =>
  obtain ⟨k, t, rfl, hk60, hp, hI⟩ := hrel
  clear p3 I0
  by_cases hlt : k < n0 /\ k < 60
  ·obtain ⟨k0, k2⟩ := hlt
   have hz0 : z0[k]? = some (z0[k]'(by rw [H0.out.1]; exact k0)) := List.getElem?_eq_getElem _
   obtain ⟨ok0, g0, o0, rfl, hc⟩ := H0.out.2 k _ hz0
   generalize z0[k]'(by rw [H0.out.1]; exact k0) = z at hz0 ok0 hc
   have hg : g0 < w.heap.size := cell_lt (hc 0 _ rfl)
   have e0 : wr.cell? ⟨g0, o0 + k * 10, none⟩ = some (.int .i64 z.kind) := hp.cell hg (hc 0 _ rfl)
   have e1 : wr.cell? ⟨g0, o0 + k * 10 + 1, none⟩ = some (.int .i64 z.cwd) := hp.cell hg (hc 1 _ rfl)
   have e2 : wr.cell? ⟨g0, o0 + k * 10 + 2, none⟩ = some (.int .i64 z.u) := hp.cell hg (hc 2 _ rfl)
   have e3 : wr.cell? ⟨g0, o0 + k * 10 + 3, none⟩ = some (.int .i64 z.g) := hp.cell hg (hc 3 _ rfl)
   have e4 : wr.cell? ⟨g0, o0 + k * 10 + 4, none⟩ = some (.string z.s) := hp.cell hg (hc 4 _ rfl)
   have e5 : wr.cell? ⟨g0, o0 + k * 10 + 5, none⟩ = some (.string z.x) := hp.cell hg (hc 5 _ rfl)
   have e6 : wr.cell? ⟨g0, o0 + k * 10 + 6, none⟩ = some (.int .i64 z.m) := hp.cell hg (hc 6 _ rfl)
   have e7 : wr.cell? ⟨g0, o0 + k * 10 + 7, none⟩ = some (.int .i64 z.n) := hp.cell hg (hc 7 _ rfl)
   have e8 : wr.cell? ⟨g0, o0 + k * 10 + 8, none⟩ = some (.int .i64 z.a) := hp.cell hg (hc 8 _ rfl)
   have e9 : wr.cell? ⟨g0, o0 + k * 10 + 9, none⟩ = some (.int .i64 z.b) := hp.cell hg (hc 9 _ rfl)
   have i1 : (0 : Int) <= (k : Int) := by omega
   have i2 : (k : Int) < n0 := by omega
   have i5 : (k : Int) < 60 := by omega
   have HI := hid hI
   clear hz0 hI hc
   obtain ⟨kd, cwd, u, g, s, x, om, n, a, b⟩ := z
   simp only at e0 e1 e2 e3 e4 e5 e6 e7 e8 e9
   obtain ⟨os, ox, oom, ob⟩ := ok0
   simp only at os ox oom ob
   by_cases hsz : x.size <= 5000
   ·have i3 : (x.size : Int) <= 5000 := by omega
    have ok : Op7.Ok ⟨kd, cwd, u, g, s, x, om, n, a, b⟩ := ⟨os, hsz, oom, ob⟩
    have hd := does7_any ⟨kd, cwd, u, g, s, x, om, n, a, b⟩ ok hp HI.out (by omega)
    have hI2 := Op7.keeps ⟨kd, cwd, u, g, s, x, om, n, a, b⟩ ok HI.out
    simp only [Op7.val] at hd
    have HD := hid hd
    have HI2 := hid hI2
    clear hd hI2 ok hp HI
    generalize Op7.step ⟨kd, cwd, u, g, s, x, om, n, a, b⟩ t = t' at *
    go_wp2_with (first
     | (go_at_call 11; refine HD.out.mono ?_; rintro e w4 ⟨rfl, p4⟩))
    go_roundw
    case rel => exact ⟨k + 1, t', by go_num, by omega, p4, HI2.out⟩
    case measure => simp [intOf]; omega
   ·have i3 : ¬ (x.size : Int) <= 5000 := by omega
    have HP := hid hp
    clear hp
    go_wp2_with fail
    go_roundw
    case rel => exact ⟨k + 1, t, by go_num, by omega, HP.out, ⟨HI.out.s, HI.out.m, HI.out.w, HI.out.b.mono (by omega)⟩⟩
    case measure => simp [intOf]; omega
  ·have HP := hid hp.ps
   have HI : Hid (Inv 60 t) := hid ⟨hI.s, hI.m, hI.w, hI.b.mono hk60⟩
   clear hI hp
   by_cases hk0 : k < n0
   ·have hk1 : ¬ k < 60 := fun h => hlt ⟨hk0, h⟩
    have i1 : (k : Int) < n0 := by omega
    have i2 : ¬ (k : Int) < 60 := by omega
    go_wp2_with fail
    go_ret
    first | exact ⟨_, t, rfl, HP.out, HI.out⟩ | exact ⟨_, rfl, t, HP.out, HI.out⟩
   ·have i1 : ¬ (k : Int) < n0 := by omega
    go_wp2_with fail
    go_ret
    first | exact ⟨_, t, rfl, HP.out, HI.out⟩ | exact ⟨_, rfl, t, HP.out, HI.out⟩
end
end Go.Proofs.YtlpececggkdhmaaGreat
namespace Go.Proofs.YtlpececggkdhmaaGreat.Ino
section
theorem bs_lt_trans {a b c : Bs} (h : a < b) (k : b < c) : a < c := List.lt_trans h k
theorem bs_lt_irrefl (a : Bs) : ¬ a < a := List.lt_irrefl a
theorem bs_lt_asymm {a b : Bs} (h : a < b) : ¬ b < a := fun k => bs_lt_irrefl a (bs_lt_trans h k)
theorem bs_eq_of {a b : Bs} (h : ¬ a < b) (k : ¬ b < a) : a = b := List.le_antisymm (List.not_lt.1 k) (List.not_lt.1 h)
theorem insN_perm (n : Bs) : ∀ l, (insN n l).Perm (n :: l)
 | [] => List.Perm.refl _
 | m :: l => by
  unfold insN
  split
  ·exact List.Perm.refl _
  ·exact ((insN_perm n l).cons m).trans (List.Perm.swap n m l)
theorem insN_mem {n a : Bs} {l : List Bs} : a ∈ insN n l ↔ a = n \/ a ∈ l := by
 rw [(insN_perm n l).mem_iff, List.mem_cons]
theorem insN_sorted {n : Bs} : ∀ {l : List Bs}, n ∉ l -> l.Pairwise (· < ·) -> (insN n l).Pairwise (· < ·)
 | [], _, _ => List.pairwise_singleton _ _
 | m :: l, hn, hs => by
  rw [List.pairwise_cons] at hs
  unfold insN
  split
  ·rename_i h
   rw [List.pairwise_cons, List.pairwise_cons]
   refine ⟨fun a ha => ?_, hs⟩
   rcases List.mem_cons.1 ha with e | e
   ·rw [e]; exact h
   ·exact bs_lt_trans h (hs.1 a e)
  ·rename_i h
   rw [List.pairwise_cons]
   refine ⟨fun a ha => ?_, insN_sorted (fun e => hn (List.mem_cons_of_mem _ e)) hs.2⟩
   rcases insN_mem.1 ha with e | e
   ·rw [e]
    by_cases k : m < n
    ·exact k
    ·exact absurd (bs_eq_of h k) (fun e2 => hn (by rw [e2]; exact List.mem_cons_self))
   ·exact hs.1 a e
theorem namesE_perm : ∀ l : List (Bs × Nat), (namesE l).Perm (l.map (·.1))
 | [] => List.Perm.refl _
 | e :: l => (insN_perm e.1 (namesE l)).trans ((namesE_perm l).cons _)
theorem namesE_sorted : ∀ {l : List (Bs × Nat)}, (l.map (·.1)).Nodup -> (namesE l).Pairwise (· < ·)
 | [], _ => List.Pairwise.nil
 | e :: l, h => by
  rw [List.map_cons, List.nodup_cons] at h
  exact insN_sorted (fun k => h.1 ((namesE_perm l).mem_iff.1 k)) (namesE_sorted h.2)
theorem namesE_unique {l : List (Bs × Nat)} {o : List Bs} (hu : (l.map (·.1)).Nodup) (hp : o.Perm (l.map (·.1))) (hs : o.Pairwise (· < ·)) : o = namesE l :=
 List.Perm.eq_of_pairwise (le := fun a b => a < b) (fun _ _ _ _ h k => absurd k (bs_lt_asymm h)) hs (namesE_sorted hu) (hp.trans (namesE_perm l).symm)
theorem namesE_length (l : List (Bs × Nat)) : (namesE l).length = l.length := by
 rw [(namesE_perm l).length_eq, List.length_map]
end
end Go.Proofs.YtlpececggkdhmaaGreat.Ino
namespace Go.Proofs.YtlpececggkdhmaaGreat
section
section
open Go.RowKit Ino Go.Maps Go.Sort
variable {A : Nat} {own : Nat -> Prop} {t : T}
theorem keys_perm {W : World} {b n : Nat} {D : DataW Unit} {R : Value -> Option (DataW Unit × List MemPlace)} {l : List (Bs × Nat)} (h : W.ownsMap Tryz.prog 9 R b n D) (hAg : Ag D l) (hu : (l.map (·.1)).Nodup) : (strKeys D).Perm (l.map (·.1)) := by
 have hT := h.tidy strLaw
 have hks : ∀ es, D = .map es -> ∀ p ∈ es, ∃ s : Bs, p.1 = .string s := by
  intro es e p hp
  obtain ⟨es0, clock, hb, F, _, rfl⟩ := h
  cases e
  obtain ⟨key, hkey⟩ := fit_keys F p (mem_sorted.1 hp)
  obtain ⟨s, _, hs⟩ := keyOf_str_inv hkey
  exact ⟨_, hs⟩
 obtain ⟨es, rfl, hne⟩ := hT
 have hks := hks es rfl
 have hmem : ∀ n : Bs, n ∈ es.map (fun p => strOf p.1) ↔ Maps.has (.map es : DataW Unit) (.string n) = true := by
  intro n
  rw [List.mem_map]
  constructor
  ·rintro ⟨p, hp, rfl⟩
   obtain ⟨s, hs⟩ := hks p hp
   refine List.any_eq_true.2 ⟨p, hp, ?_⟩
   rw [hs]
   exact WideAt.sameKey_self (keyLit _)
  ·intro hh
   obtain ⟨p, hp, hk⟩ := List.any_eq_true.1 hh
   exact ⟨p, hp, by rw [WideAt.sameKey_eq hk]; rfl⟩
 show (es.map fun p => strOf p.1).Perm _
 refine (List.perm_ext_iff_of_nodup ?_ hu).2 fun n => ?_
 ·rw [List.nodup_iff_pairwise_ne, List.pairwise_map]
  refine List.Pairwise.imp_of_mem ?_ hne
  intro p q hp hq hpq e
  obtain ⟨s, hs⟩ := hks p hp
  obtain ⟨s', hs'⟩ := hks q hq
  rw [hs, hs'] at e hpq
  exact hpq (congrArg Lit.string e)
 ·rw [hmem, hAg.has, Option.isSome_iff_exists]
  constructor
  ·rintro ⟨x, hx⟩
   exact List.mem_map.2 ⟨_, findE_mem hx, rfl⟩
  ·intro hn
   obtain ⟨e, he, rfl⟩ := List.mem_map.1 hn
   exact ⟨e.2, findE_of_mem hu he⟩
theorem sorted_names {ss : List Bs} {l : List (Bs × Nat)} (hp : ss.Perm (l.map (·.1))) (hu : (l.map (·.1)).Nodup) : ss.mergeSort (fun x y => decide (x <= y)) = namesE l := by
 have hperm := (List.mergeSort_perm ss (fun x y => decide (x <= y))).trans hp
 refine namesE_unique hu hperm ?_
 have hs : (ss.mergeSort (fun x y => decide (x <= y))).Pairwise (fun a b => decide (a <= b) = true) :=
  List.pairwise_mergeSort (le := fun x y : Bs => decide (x <= y)) (fun a b c h1 h2 => decide_eq_true (List.le_trans (of_decide_eq_true h1) (of_decide_eq_true h2))) (fun a b => by
   rcases List.le_total a b with h | h
   ·rw [decide_eq_true h]; rfl
   ·rw [decide_eq_true h, Bool.or_true]) ss
 have hn : (ss.mergeSort (fun x y => decide (x <= y))).Nodup := hperm.nodup_iff.2 hu
 refine List.Pairwise.imp_of_mem ?_ (hs.and (List.nodup_iff_pairwise_ne.1 hn))
 intro a b _ _ h
 by_cases hab : a < b
 ·exact hab
 ·exact absurd (List.le_antisymm (of_decide_eq_true h.1) (List.not_lt.1 hab)) h.2
set_option maxHeartbeats 1000000 in
theorem pnames_any (i : Int) (w : World) (h : PTo w A own t) (hs : Sd t) :
 Calls Tryz.prog 22 #[.pointer (some ⟨A, 0, none⟩), .int .i64 i] w fun e w' => ∃ v, e = .returned v /\ w'.ownsRow w.heap.size 9 1 v (namesP t i).length ((namesP t i).map strC) /\ Below w.heap.size w w' := by
 obtain ⟨nb, mb, hP, hO⟩ := h
 have hg := get_any i w hP
 cases hi : isI t i
 ·rw [getV_none hi] at hg
  have Hr := hid (show namesP t i = [] by unfold namesP; rw [hi, if_neg Bool.false_ne_true])
  clear hP hO hi hs
  go_enter Tryz.func22, Tryz.ntmps22
  go_wp2_with (go_at_call 56; refine hg.mono ?_; rintro e w' ⟨rfl, rfl⟩)
  go_ret
  exact ⟨_, rfl, by rw [Hr.out]; exact World.ownsRow_nil _ _ _ _, Below.refl _ _⟩
 ·obtain ⟨k, rfl, h1, h2, hki⟩ := isI_nat hi
  rw [getV_nat hi] at hg
  obtain ⟨-, -, -, -, -, -, -, c7, -⟩ := hP.cells hki
  have Hr := hid (show namesP t (k : Int) = namesE (t k).ents by unfold namesP; rw [hi, if_pos rfl, Int.toNat_natCast])
  have hlen := hs.len k
  have Hu := hid (hs.uniq k)
  unfold mapV at c7
  by_cases hk : (t k).kind = 1
  ·rw [if_pos hk] at c7
   obtain ⟨D, hown, hAg⟩ := hP.maps k hk
   have hsz := hAg.size
   have HAg := hid hAg
   have Hown := hid hown
   clear hP hO hi hs hk hki
   generalize (t k).ents = l at *
   refine (callsIn_wide (n := 6)).1 ?_
   have hfK : Fence.wide.fn 66 := trivial
   have hfS : Fence.wide.fn 65 := trivial
   have hfG : Fence.wide.fn 56 := trivial
   have hgI := callsIn_wide (n := 5) |>.2 hg
   have HG := hid hgI
   clear hg hgI hAg hown
   refine callsIn_of_wp Tryz.func22 rfl trivial ?_ rfl
   simp only [Tryz.ntmps22, List.size_toArray, List.length_cons, List.length_nil, Nat.reduceAdd, Nat.reduceSub, Array.replicate_succ, Array.replicate_zero, List.push_toArray, List.append_toArray, List.nil_append, List.cons_append]
   gi_wp2_with (first
    | (gi_at_call 56; refine HG.out.mono ?_; rintro e w' ⟨rfl, rfl⟩)
    | (gi_at_call 66; refine (Tryz.maps_Keys_66 _ _).mono ?_; rintro e w' ⟨rfl, rfl⟩)
    | (gi_at_call 65; refine (Tryz.slices_Sorted_keys_65_66 _ _ D _ _ Hown.out (by rw [hsz]; unfold maxLen; omega) (by rw [hsz]; omega)).mono ?_; rintro e w' ⟨v, ss, rfl, hS, hrow, hnil, hb⟩))
   go_ret
   have hp := hS.trans (keys_perm Hown.out HAg.out Hu.out)
   have e2 := sorted_names hp Hu.out
   have e3 : ss.length = (namesE l).length := by rw [namesE_length, hp.length_eq, List.length_map]
   rw [e2, e3] at hrow
   refine ⟨v, rfl, ?_, ((Below.refl _ w).alloc (Nat.le_refl _) _).trans (hb.mono (by simp))⟩
   rw [Hr.out]
   exact ownsRow_base_a hrow (by simp)
  ·rw [if_neg hk] at c7
   have he : (t k).ents = [] := by
    cases hcs : (t k).ents with
    | nil => rfl
    | cons a l => exact absurd (hs.dirs k (by rw [hcs]; simp)) hk
   rw [he] at Hr
   clear hP hO hi hs hk hki Hu hlen
   refine (callsIn_wide (n := 6)).1 ?_
   have hfK : Fence.wide.fn 66 := trivial
   have hfS : Fence.wide.fn 65 := trivial
   have hfG : Fence.wide.fn 56 := trivial
   have hgI := callsIn_wide (n := 5) |>.2 hg
   have HG := hid hgI
   clear hg hgI
   refine callsIn_of_wp Tryz.func22 rfl trivial ?_ rfl
   simp only [Tryz.ntmps22, List.size_toArray, List.length_cons, List.length_nil, Nat.reduceAdd, Nat.reduceSub, Array.replicate_succ, Array.replicate_zero, List.push_toArray, List.append_toArray, List.nil_append, List.cons_append]
   gi_wp2_with (first
    | (gi_at_call 56; refine HG.out.mono ?_; rintro e w' ⟨rfl, rfl⟩)
    | (gi_at_call 66; refine (Tryz.maps_Keys_66 _ _).mono ?_; rintro e w' ⟨rfl, rfl⟩)
    | (gi_at_call 65; refine (Tryz.slices_Sorted_keys_nil_65_66 _).mono ?_; rintro e w' ⟨v, ss, rfl, hS, hrow, hnil, hb⟩))
   go_ret
   subst hS
   rw [List.mergeSort_nil] at hrow
   refine ⟨v, rfl, ?_, ((Below.refl _ w).alloc (Nat.le_refl _) _).trans (hb.mono (by simp))⟩
   rw [Hr.out]
   exact ownsRow_base_a hrow (by simp)
end
end
section
section
open Go.RowKit Ino Go.Maps
variable {w0 w : World} {A : Nat} {t u : T}
theorem ps_names (h : PS w0 w A t) (hs : Sd t) (i : Int) :
 Calls Tryz.prog 22 #[.pointer (some ⟨A, 0, none⟩), .int .i64 i] w fun e w' => ∃ v, e = .returned v /\ w'.ownsRow w.heap.size 9 1 v (namesP t i).length ((namesP t i).map strC) /\ PS w0 w' A t /\ Below w.heap.size w w' := by
 have H := h
 obtain ⟨own, hP, hB, hb2⟩ := h
 exact (pnames_any i w hP hs).mono fun e w' ⟨v, he, hr, hp⟩ => ⟨v, he, hr, H.read hp, hp⟩
end
end
section
section
open Go.RowKit Ino
theorem same_step {a b : List (Bs)} {k : Nat} {x : Bs} (hx : a[k]? = some x) (hy : b[k]? = some x) (h : a.take k = b.take k) : a.take (k + 1) = b.take (k + 1) := by
 rw [List.take_add_one, List.take_add_one, h, hx, hy]
theorem same_stop {a b : List (Bs)} {k : Nat} {x y : Bs} (hx : a[k]? = some x) (hy : b[k]? = some y) (h : x ≠ y) : decide (a = b) = false :=
 decide_eq_false (fun e => by subst e; rw [hx] at hy; exact h (Option.some.inj hy))
theorem same_end {a b : List (Bs)} {k : Nat} (h1 : a.length = k) (h2 : b.length = k) (h : a.take k = b.take k) : decide (a = b) = true := by
 rw [List.take_of_length_le (by omega), List.take_of_length_le (by omega)] at h
 exact decide_eq_true h
set_option maxHeartbeats 1000000 in
theorem same_any (v u : Value) (a b : List (Bs)) (w : World) (hv : Rd w v a) (hu : Rd w u b) :
 Calls Tryz.prog 27 #[v, u] w fun e w' => e = .returned (.bool (decide (a = b))) /\ Dr w w' := by
 obtain ⟨p, cap, rfl, h1, h2, hc⟩ := hv
 obtain ⟨p', cap', rfl, h1', h2', hc'⟩ := hu
 have HC := hid hc
 have HC' := hid hc'
 obtain ⟨n, hn⟩ : ∃ n, a.length = n := ⟨_, rfl⟩
 obtain ⟨m, hm⟩ : ∃ m, b.length = m := ⟨_, rfl⟩
 have hmax : n <= maxLen := by omega
 unfold maxLen at hmax
 rw [hn, hm]
 clear h1 h2 h1' h2' hc hc'
 by_cases hl : n = m
 ·subst hl
  have Hn := hid hn
  have Hm := hid hm
  clear hn hm
  go_enter Tryz.func27, Tryz.ntmps27
  go_wp2
  go_loopw [5] (fun i wr => sameRel a b w i wr) (fun i _ => n - (intOf i).toNat)
  case atStart => exact ⟨0, Nat.zero_le _, rfl, Dr.refl _, rfl⟩
  case round =>
   obtain ⟨k, hk, rfl, ⟨nw, rfl⟩, ht⟩ := hrel
   rw [Hn.out] at hk
   have Ht := hid ht
   clear ht
   by_cases hlt : k < n
   ·obtain ⟨x, hx⟩ : ∃ x, a[k]? = some x := ⟨_, List.getElem?_eq_getElem (by rw [Hn.out]; exact hlt)⟩
    obtain ⟨y, hy⟩ : ∃ y, b[k]? = some y := ⟨_, List.getElem?_eq_getElem (by rw [Hm.out]; exact hlt)⟩
    obtain ⟨g, rfl, ca⟩ := HC.out k x hx
    obtain ⟨g', rfl, cb⟩ := HC'.out k y hy
    unfold strC at ca cb
    by_cases hxy : x = y
    ·subst hxy
     have Hs := hid (same_step hx hy Ht.out)
     clear hx hy
     go_wp2
     go_quiet (fail)
     go_wp2
     go_roundw
     case rel => exact ⟨k + 1, by rw [Hn.out]; omega, by go_num, ⟨_, rfl⟩, Hs.out⟩
     case measure => simp [intOf]; omega
    ·have Hs := hid (same_stop hx hy hxy)
     have hb : (x == y) = false := beq_eq_false_iff_ne.2 hxy
     clear hx hy hxy
     go_wp2
     go_quiet (fail)
     go_wp2
     go_ret
     exact ⟨ret_bool Hs.out.symm, nw + nq, World.drewN_drewN ..⟩
   ·have hkn : k = n := by omega
    subst hkn
    have Hs := hid (same_end Hn.out Hm.out Ht.out)
    go_wp2
    go_ret
    exact ⟨ret_bool Hs.out.symm, nw, rfl⟩
 ·have Hs := hid (show decide (a = b) = false from decide_eq_false (fun e => hl (by rw [<- hn, <- hm, e])))
  have hb : (((n : Int) != (m : Int)) : Bool) = true := by rw [bne_iff_ne]; omega
  clear hn hm
  go_enter Tryz.func27, Tryz.ntmps27
  go_wp2
  go_ret
  exact ⟨ret_bool Hs.out.symm, Dr.refl _⟩
end
end
section
open Ino Pa Mo
open Go.RowKit
variable {t : T}
theorem gone_run : ∀ (l : List Nat) (t : T) (x : Nat), (run t l x).is = true -> (t x).is = true /\ (run t l x).ents = (t x).ents
 | [], t, x, h => ⟨h, rfl⟩
 | i :: l, t, x, h => by
  obtain ⟨h1, h2⟩ := gone_run l (del t i) x h
  have hx : x ≠ i := fun e => by rw [e, del_self] at h1; cases h1
  rw [del_is t hx] at h1
  rw [del_ents t hx] at h2
  exact ⟨h1, h2⟩
theorem gone_ents {x : Nat} (h : (goneP t x).is = true) : (t x).is = true /\ (goneP t x).ents = (t x).ents := by
 obtain ⟨l, -, h2, -⟩ := goneP_gone t
 rw [<- h2] at h ⊢
 exact gone_run l t x h
def Kpe (t t' : T) (u g : Int) : Prop := ∀ x, (t x).is = true -> (t' x).is = true -> (t' x).ents = (t x).ents \/ (mayT t x u g 2 = true /\ ∀ n y, findE (t x).ents n = some y -> (findE (t' x).ents n).isSome = true \/ stickyT t u x y = true)
theorem Kpe.refl (t : T) (u g : Int) : Kpe t t u g := fun x _ _ => .inl rfl
theorem find_more : ∀ {l : List (Bs × Nat)} {n : Bs} (m : List (Bs × Nat)), (findE l n).isSome = true -> (findE (l ++ m) n).isSome = true
 | e :: l, n, m, h => by
  show (if e.1 = n then some e.2 else findE (l ++ m) n).isSome = true
  have h' : (if e.1 = n then some e.2 else findE l n).isSome = true := h
  split
  ·rfl
  ·rename_i hn
   rw [if_neg hn] at h'
   exact find_more m h'
theorem find_last : ∀ {l : List (Bs × Nat)} {n : Bs} {y : Nat}, (findE (l ++ [(n, y)]) n).isSome = true
 | [], n, y => by
  show (if n = n then some y else none).isSome = true
  rw [if_pos rfl]; rfl
 | e :: l, n, y => by
  show (if e.1 = n then some e.2 else findE (l ++ [(n, y)]) n).isSome = true
  split
  ·rfl
  ·exact find_last
theorem kpe_rem {d : Nat} {n : Bs} {y : Nat} {u g : Int} (h : mayT t d u g 2 = true) (hf : findE (t d).ents n = some y) (hs : stickyT t u d y = true) : Kpe t (rem t d n y) u g := fun x h1 h2 => by
 rw [rem_ents]
 split
 ·rename_i e
  subst e
  refine .inr ⟨h, fun m z hz => ?_⟩
  by_cases e : m = n
  ·subst e
   rw [hf] at hz
   cases hz
   exact .inr hs
  ·exact .inl (by rw [erE_other e, hz]; rfl)
 ·exact .inl rfl
theorem Kpe.gone {t' : T} {u g : Int} (h : Kpe t t' u g) : Kpe t (goneP t') u g := fun x h1 h2 => by
 obtain ⟨k1, k2⟩ := gone_ents h2
 rw [k2]
 exact h x h1 k1
theorem Kpe.upd {t' : T} {u g : Int} (h : Kpe t t' u g) (i : Nat) (v : Nod) (h1 : v.is = (t' i).is) (h2 : v.ents = (t' i).ents) : Kpe t (upd t' i v) u g := fun x hx hx' => by
 by_cases e : x = i
 ·subst e
  rw [upd_same] at hx' ⊢
  rw [h2]
  exact h x hx (by rw [<- h1]; exact hx')
 ·rw [upd_other _ _ e] at hx' ⊢
  exact h x hx hx'
theorem kpe_drop {t' : T} {u g : Int} (h : Kpe t t' u g) (i : Int) : Kpe t (dropP t' i).1 u g := by
 unfold dropP
 split
 ·exact (h.upd _ { t' i.toNat with holds := (t' i.toNat).holds - 1 } rfl rfl).gone
 ·exact h
theorem kpe_enter {t' : T} {u g : Int} {d : Nat} (n : Bs) (y : Int) (hm : mayT t d u g 2 = true) (h : ∀ x, (t x).is = true -> (t' x).is = true /\ (t' x).ents = (t x).ents) : Kpe t (enterP t' (d : Int) n y).1 u g := by
 have h0 : Kpe t t' u g := fun x hx _ => .inl (h x hx).2
 unfold enterP
 repeat' split
 all_goals first | exact h0 | skip
 intro x hx hx'
 show (add t' (d : Int).toNat n y.toNat x).ents = _ \/ (_ /\ ∀ m z, _ -> (findE (add t' (d : Int).toNat n y.toNat x).ents m).isSome = true \/ _)
 rw [Int.toNat_natCast, add_ents]
 split
 ·rename_i e
  subst e
  refine .inr ⟨hm, fun m z hz => .inl (find_more _ ?_)⟩
  rw [(h x hx).2, hz]; rfl
 ·exact .inl (h x hx).2
theorem kpe_makes (u g : Int) (d : Nat) (n : Bs) (kind mode : Int) : Kpe t (makesP t u g d n kind mode).1 u g := by
 unfold makesP
 split
 ·rename_i hm
  unfold createP
  have hM : (makeP t (rMake kind mode u g 0) kind mode u g 0).2.2 ≠ 0 -> (makeP t (rMake kind mode u g 0) kind mode u g 0).1 = t := by
   unfold makeP
   split
   ·split
    ·exact fun _ => rfl
    ·exact fun h => absurd rfl h
   ·exact fun _ => rfl
  have hN : ∀ x, (t x).is = true -> ((makeP t (rMake kind mode u g 0) kind mode u g 0).1 x).is = true /\ ((makeP t (rMake kind mode u g 0) kind mode u g 0).1 x).ents = (t x).ents := by
   unfold makeP
   split
   ·split
    ·exact fun x hx => ⟨hx, rfl⟩
    ·rename_i i hf
     intro x hx
     have e : x ≠ i := fun e => by rw [e, (free_facts hf).2.2] at hx; cases hx
     show (upd t i _ x).is = true /\ (upd t i _ x).ents = _
     rw [upd_other _ _ e]
     exact ⟨hx, rfl⟩
   ·exact fun x hx => ⟨hx, rfl⟩
  split
  ·split
   ·exact kpe_enter n _ hm hN
   ·exact kpe_drop (kpe_enter n _ hm hN) _
  ·rename_i h
   show Kpe t (makeP t (rMake kind mode u g 0) kind mode u g 0).1 u g
   rw [hM h]
   exact Kpe.refl t u g
 ·exact Kpe.refl t u g
theorem kpe_mkdir (cwd u g : Int) (s : Bs) (m : Int) : Kpe t (mkdirP t cwd u g s m).1 u g := by
 unfold mkdirP
 repeat' split
 all_goals first | exact Kpe.refl t u g | exact kpe_drop (kpe_makes u g _ _ 1 m) _ | exact kpe_makes u g _ _ 1 m
theorem kpe_link (cwd u g : Int) (s a : Bs) : Kpe t (linkP t cwd u g s a).1 u g := by
 unfold linkP
 repeat' split
 all_goals first | exact Kpe.refl t u g | (rename_i hm; exact kpe_enter _ _ hm fun x hx => ⟨hx, rfl⟩)
theorem look_find (hs : Sd t) {d : Nat} {n : Bs} {x : Nat} (h : findE (t d).ents n = some x) : lookP t (d : Int) n = (x, true) := (look_name hs (findE_mem h)).1
theorem kpe_rem1 (hs : Sd t) {d : Nat} {n : Bs} {u g : Int} (hm : mayT t d u g 2 = true) (hst : stickyT t u d (lookP t d n).1 = true) : Kpe t (removeP t d n).1 u g := by
 unfold removeP
 repeat' split
 all_goals first | exact Kpe.refl t u g | skip
 rename_i x hf _
 rw [Int.toNat_natCast] at hf
 rw [look_find hs hf] at hst
 show Kpe t (goneP (rem t ((d : Nat) : Int).toNat _ x)) u g
 rw [Int.toNat_natCast]
 exact (kpe_rem hm hf hst).gone
theorem kpe_rm (hs : Sd t) (cwd u g : Int) (s : Bs) (b : Bool) : Kpe t (rmP t cwd u g s b).1 u g := by
 unfold rmP
 repeat' split
 all_goals first | exact Kpe.refl t u g | (rename_i hm hst; exact kpe_rem1 hs hm hst)
theorem kpe_moved {d tq i : Nat} {n a : Bs} {u g : Int} (hf : findE (t d).ents n = some i) (h1 : mayT t d u g 2 = true) (h2 : mayT t tq u g 2 = true) (hst : stickyT t u d i = true) : Kpe t (movedT t d n tq a i) u g := by
 intro x hx hx'
 obtain ⟨t1, ht, e1, e0⟩ : ∃ t1 : T, movedT t d n tq a i = add (rem t1 d n i) tq a i /\ (∀ m, ¬ (x = tq /\ m = a) -> findE (t1 x).ents m = findE (t x).ents m) /\ (x ≠ tq -> (t1 x).ents = (t x).ents) := by
  unfold movedT
  cases findE (t tq).ents a with
  | none => exact ⟨t, rfl, fun m _ => rfl, fun _ => rfl⟩
  | some th =>
   refine ⟨rem t tq a th, rfl, fun m hm => ?_, fun h => ?_⟩
   ·rw [rem_ents]
    split
    ·rename_i e
     subst e
     exact erE_other fun q => hm ⟨rfl, q⟩
    ·rfl
   ·rw [rem_ents, if_neg h]
 rw [ht]
 rw [add_ents]
 have hK : ∀ m z, findE (t x).ents m = some z -> ¬ (x = d /\ m = n) -> ¬ (x = tq /\ m = a) -> (findE (rem t1 d n i x).ents m).isSome = true := fun m z hz q1 q2 => by
  rw [rem_ents]
  split
  ·rename_i e
   subst e
   rw [erE_other fun q => q1 ⟨rfl, q⟩, e1 m q2, hz]; rfl
  ·rw [e1 m q2, hz]; rfl
 split
 ·rename_i e
  subst e
  refine .inr ⟨h2, fun m z hz => ?_⟩
  by_cases q2 : m = a
  ·subst q2
   exact .inl find_last
  ·by_cases q1 : x = d /\ m = n
   ·obtain ⟨q3, q4⟩ := q1
    subst q3 q4
    rw [hf] at hz
    cases hz
    exact .inr hst
   ·exact .inl (find_more _ (hK m z hz q1 fun q => q2 q.2))
 ·rename_i e
  by_cases q : x = d
  ·subst q
   refine .inr ⟨h1, fun m z hz => ?_⟩
   by_cases q1 : m = n
   ·subst q1
    rw [hf] at hz
    cases hz
    exact .inr hst
   ·exact .inl (hK m z hz (fun q => q1 q.2) fun q => e q.1)
  ·left
   rw [rem_ents, if_neg q, e0 e]
theorem kpe_move (hs : Sd t) {d tq : Nat} {n a : Bs} {u g : Int} (h1 : mayT t d u g 2 = true) (h2 : mayT t tq u g 2 = true) (hst : stickyT t u d (lookP t d n).1 = true) : Kpe t (moveP t d n tq a).1 u g := by
 unfold moveP
 repeat' split
 all_goals first | exact Kpe.refl t u g | skip
 rename_i x hf _ _ _ _ _
 rw [Int.toNat_natCast] at hf
 rw [look_find hs hf] at hst
 show Kpe t (goneP (movedT t ((d : Nat) : Int).toNat _ ((tq : Nat) : Int).toNat _ x)) u g
 rw [Int.toNat_natCast, Int.toNat_natCast]
 exact (kpe_moved hf h1 h2 hst).gone
theorem kpe_ren (hs : Sd t) (cwd u g : Int) (s a : Bs) : Kpe t (renP t cwd u g s a).1 u g := by
 unfold renP
 repeat' split
 all_goals first | exact Kpe.refl t u g | (rename_i hm hst; exact kpe_move hs hm.1 hm.2 hst.1)
def mayQ (t : T) (i u g want : Int) : Bool := (statP t i).2 && Mo.mayB (statP t i).1.mode (statP t i).1.owner (statP t i).1.group ((statP t i).1.kind == 1) u g want
theorem mayQ_is {x : Nat} (h : isI t (x : Int) = true) (u g want : Int) : mayQ t x u g want = mayT t x u g want := by
 unfold mayQ
 rw [stat_inf h]
 rfl
def ownQ (t : T) (i : Int) (n : Bs) : Int := (statP t ((lookP t i n).1 : Int)).1.owner
theorem mem_names {l : List (Bs × Nat)} (hu : (l.map (·.1)).Nodup) {n : Bs} (h : n ∈ namesE l) : ∃ y, findE l n = some y := by
 obtain ⟨e, he, rfl⟩ := List.mem_map.1 ((namesE_perm l).mem_iff.1 h)
 exact ⟨e.2, findE_of_mem hu he⟩
theorem kpe_end (hs : Sd t) {t' : T} (hs' : Sd t') {u g : Int} (h : Kpe t t' u g) {i : Nat} {a b : Inf} (ha : statP t (i : Int) = (a, true)) (hb : statP t' (i : Int) = (b, true)) (hb1 : b.kind = 1) :
 (namesP t' (i : Int) = namesP t (i : Int) \/ mayQ t (i : Int) u g 2 = true) /\
 ∀ n, n ∈ namesP t (i : Int) -> (lookP t' (i : Int) n).2 = true \/ (bits .and .i64 a.mode 512 = 0 \/ u = 0 \/ u = a.owner \/ u = ownQ t (i : Int) n) := by
 have i1 : isI t (i : Int) = true := by
  unfold statP at ha
  split at ha
  ·assumption
  ·cases ha
 have i2 : isI t' (i : Int) = true := by
  unfold statP at hb
  split at hb
  ·assumption
  ·cases hb
 have j1 : (t i).is = true := by have := isI_cast hs i; rw [<- this]; exact i1
 have j2 : (t' i).is = true := by have := isI_cast hs' i; rw [<- this]; exact i2
 rw [stat_inf i1] at ha
 rw [stat_inf i2] at hb
 obtain rfl : infT t i = a := congrArg Prod.fst ha
 obtain rfl : infT t' i = b := congrArg Prod.fst hb
 have hk : (t' i).kind = 1 := hb1
 have n1 : namesP t (i : Int) = namesE (t i).ents := by unfold namesP; rw [if_pos i1, Int.toNat_natCast]
 have n2 : namesP t' (i : Int) = namesE (t' i).ents := by unfold namesP; rw [if_pos i2, Int.toNat_natCast]
 have hl : ∀ n y, findE (t i).ents n = some y -> (findE (t' i).ents n).isSome = true -> (lookP t' (i : Int) n).2 = true := fun n y hy hsome => by
  cases q : findE (t' i).ents n with
  | none => rw [q] at hsome; cases hsome
  | some z => rw [look_find hs' q]
 rw [n1, n2, mayQ_is i1]
 rcases h i j1 j2 with e | ⟨e1, e2⟩
 ·refine ⟨.inl (by rw [e]), fun n hn => .inl ?_⟩
  obtain ⟨y, hy⟩ := mem_names (hs.uniq i) hn
  exact hl n y hy (by rw [e, hy]; rfl)
 ·refine ⟨.inr e1, fun n hn => ?_⟩
  obtain ⟨y, hy⟩ := mem_names (hs.uniq i) hn
  rcases e2 n y hy with q | q
  ·exact .inl (hl n y hy q)
  ·right
   have hy1 : (t y).is = true := hs.tgt i (n, y) (findE_mem hy)
   have hiy : isI t (y : Int) = true := by rw [isI_cast hs]; exact hy1
   have ho : ownQ t (i : Int) n = (t y).owner := by
    unfold ownQ
    rw [look_find hs hy]
    show (statP t (y : Int)).1.owner = _
    rw [stat_inf hiy]
    rfl
   rw [ho]
   unfold stickyT at q
   simp only [Bool.or_eq_true, beq_iff_eq] at q
   exact q
end
section
open Go.RowKit Ino Go.Maps
open Pa (Blk)
section
variable {w0 w : World} {A : Nat} {t : T}
set_option maxHeartbeats 1000000 in
theorem may7_any (h : PS w0 w A t) (hs : Sd t) (i u g want : Int) :
 Calls Tryz.prog 19 #[.pointer (some ⟨A, 0, none⟩), .int .i64 i, .int .i64 u, .int .i64 g, .int .i64 want] w fun e w' => e = .returned (.bool (mayQ t i u g want)) /\ Below w.heap.size w w' := by
 have q := ps_stat h hs i
 have hr : mayQ t i u g want = ((statP t i).2 && Mo.mayB (statP t i).1.mode (statP t i).1.owner (statP t i).1.group ((statP t i).1.kind == 1) u g want) := rfl
 generalize mayQ t i u g want = r at *
 generalize statP t i = st at *
 obtain ⟨⟨ni, kd, md, ow, gr, nl, sz, ty⟩, ok⟩ := st
 simp only [infV] at q hr
 have HM := hid (fun W => Mo.may_any md ow gr (kd == 1) u g want W)
 generalize Mo.mayB md ow gr (kd == 1) u g want = mb at *
 have Q := hid q
 clear q h
 cases ok
 ·have hr2 : r = false := hr
  subst hr2
  clear hr HM
  go_enter Tryz.func19, Tryz.ntmps19
  go_wp2_with (go_at_call 21; refine Q.out.mono ?_; rintro e w1 ⟨rfl, p1, b1⟩)
  go_ret
  exact ⟨rfl, bal b1 _⟩
 ·have hr2 : r = mb := hr
  subst hr2
  clear hr
  go_enter Tryz.func19, Tryz.ntmps19
  go_wp2_with (first
   | (go_at_call 21; refine Q.out.mono ?_; rintro e w1 ⟨rfl, p1, b1⟩)
   | (go_at_call 58; refine (HM.out _).mono ?_; rintro e w2 ⟨rfl, rfl⟩))
  go_ret
  exact ⟨ret_bool rfl, bal b1 _⟩
end
section
structure DI where
 is : Bool
 np : Option Addr
 nn : Nat
 nc : Nat
 op : Option Addr
 on : Nat
 oc : Nat
 mode : Int
 owner : Int
 wr : Bool
def noDI : DI := ⟨false, none, 0, 0, none, 0, 0, 0, 0, false⟩
def dirL (d : DI) : List Value := [.bool d.is, .slice d.np d.nn d.nc, .slice d.op d.on d.oc, .int .i64 d.mode, .int .i64 d.owner, .bool d.wr]
def rowD (f : Nat -> DI) (p : Nat) : Value := ((dirL (f (p / 6)))[p % 6]?).getD default
set_option maxRecDepth 100000 in
theorem zero_dirs : Tryz.zeroCells58 = ((List.range 1206).map (rowD fun _ => noDI)).toArray := by kernel_rfl
theorem rowD_new (W : World) : (W.alloc (.cells Tryz.zeroCells58 58)).rowIs W.heap.size 58 1206 (rowD fun _ => noDI) := by
 have h := World.rowIs_alloc W Tryz.zeroCells58 58 (rowD fun _ => noDI) (fun i hi => by
  rw [zero_dirs] at hi ⊢
  rw [List.getElem?_toArray, List.getElem?_map, List.getElem?_range (by simpa using hi)]
  rfl)
 rwa [show Tryz.zeroCells58.size = 1206 by rw [zero_dirs]; simp] at h
theorem rowD_cell {W : World} {f : Nat -> DI} {G : Nat} {ty : TypeId} (h : W.rowIs G ty 1206 (rowD f)) {i : Nat} (hi : i <= 200) {j : Nat} (hj : j < 6) {v : Value} (hv : (dirL (f i))[j]? = some v) : W.cell? ⟨G, i * 6 + j, none⟩ = some v := by
 rw [h.cell (i := i * 6 + j) (by omega)]
 unfold rowD
 rw [show (i * 6 + j) / 6 = i by omega, show (i * 6 + j) % 6 = j by omega, hv]
 rfl
theorem rowD_put {W : World} {f : Nat -> DI} {G : Nat} {ty : TypeId} (h : W.rowIs G ty 1206 (rowD f)) (k : Nat) (a : DI) : (W.setCells G (k * 6) (dirL a)).rowIs G ty 1206 (rowD fun i => if i = k then a else f i) := by
 refine (rowIs_setCells (dirL a) (k * 6) W (rowD f) h).congr fun p hp => ?_
 have hl : (dirL a).length = 6 := rfl
 rw [hl]
 unfold rowD
 dsimp only
 by_cases e : p / 6 = k
 ·rw [if_pos (by omega), if_pos e, show p - k * 6 = p % 6 by omega]
 ·rw [if_neg (by omega), if_neg e]
variable {w0 w1 w w' : World} {A n : Nat} {t : T} {L L' S : Nat -> Prop} {u g : Int} {p : Option Addr} {k c : Nat}
theorem WL.base (h : WL L w1 w A t n) (b : Below w0.heap.size w0 w1) : WL (fun q => w0.heap.size <= q /\ q < w1.heap.size) w0 w A t n := by
 obtain ⟨own, hP, hO, hb0, hL⟩ := h.p
 exact ⟨⟨own, hP, fun g hg => Nat.le_trans b.size (hO g hg), bnext b hb0, fun q hq => ⟨fun ho => by have := hO q ho; omega, Nat.lt_of_lt_of_le hq.2 hb0.size⟩⟩, h.s, h.m, h.b⟩
theorem WL.grow (h : WL L w0 w A t n) (f : Fr S w w') (hS : ∀ g, g < w.heap.size -> S g -> L g /\ w0.heap.size <= g) : WL (fun q => L q \/ (w.heap.size <= q /\ q < w'.heap.size)) w0 w' A t n := by
 obtain ⟨own, hP, hO, hb0, hL⟩ := h.p
 have f' : Fr (fun g => S g /\ g < w.heap.size) w w' := f.mono fun k hk hs => ⟨hs, hk⟩
 refine ⟨⟨fun g => own g /\ g < w.heap.size, hP.kept.fr f' (fun g hg hs => (hL g (hS g hs.2 hs.1).1).1 hg.1), fun g hg => hO g hg.1, below_fr hb0 f' (fun g hg => (hS g hg.2 hg.1).2), fun g hg => ?_⟩, h.s, h.m, h.b⟩
 rcases hg with hg | hg
 ·exact ⟨fun k => (hL g hg).1 k.1, Nat.lt_of_lt_of_le (hL g hg).2 f.size⟩
 ·exact ⟨fun k => by have := k.2; omega, hg.2⟩
def RwR {α : Type} (f : α -> Value) (L : Nat -> Prop) (W : World) (p : Option Addr) (k c : Nat) (l : List α) : Prop := k = l.length /\ l.length <= c /\ c <= maxLen /\ ∀ j x, l[j]? = some x -> ∃ b, p = some ⟨b, 0, none⟩ /\ L b /\ W.cell? ⟨b, j, none⟩ = some (f x)
theorem RwR.mv {α : Type} {f : α -> Value} {l : List α} (h : RwR f L w p k c l) (q : ∀ b j v, L b -> w.cell? ⟨b, j, none⟩ = some v -> L' b /\ w'.cell? ⟨b, j, none⟩ = some v) : RwR f L' w' p k c l :=
 ⟨h.1, h.2.1, h.2.2.1, fun j x hx => by
  obtain ⟨b, h1, h2, h3⟩ := h.2.2.2 j x hx
  exact ⟨b, h1, q b j _ h2 h3⟩⟩
theorem RwR.of {α : Type} {f : α -> Value} {T : TypeId} {base : Nat} {v : Value} {l : List α} (h : w.ownsRow base T 1 v l.length (l.map f)) : ∃ p c, v = .slice p l.length c /\ RwR f (fun b => base <= b) w p l.length c l := by
 rcases h.2 with ⟨hv, h0⟩ | ⟨g, cap, cur, hv, hb, hg, hn, hc, hs, ht⟩
 ·have := List.length_eq_zero_iff.1 h0
  subst this
  exact ⟨none, 0, hv, rfl, Nat.le_refl _, Nat.zero_le _, fun j x hx => by simp at hx⟩
 ·subst hv
  refine ⟨_, cap, rfl, rfl, hn, hc, fun j x hx => ⟨g, rfl, hb, ?_⟩⟩
  have hj := (List.getElem?_eq_some_iff.1 hx).1
  rw [h.cellAt j (by omega), List.getElem?_map, hx]; rfl
abbrev NmR (L : Nat -> Prop) (W : World) (p : Option Addr) (k c : Nat) (l : List Bs) : Prop := RwR strC L W p k c l
abbrev OwR (L : Nat -> Prop) (W : World) (p : Option Addr) (k c : Nat) (l : List Int) : Prop := RwR (Value.int .i64) L W p k c l
theorem NmR.rd {l : List Bs} (h : NmR L w p k c l) : Rd w (.slice p k c) l := by
 obtain ⟨rfl, h1, h2, h3⟩ := h
 exact ⟨p, c, rfl, h1, h2, fun j x hx => by
  obtain ⟨b, k1, -, k2⟩ := h3 j x hx
  exact ⟨b, k1, k2⟩⟩
def isDir (t : T) (i : Nat) : Prop := (statP t (i : Int)).2 = true /\ (statP t (i : Int)).1.kind = 1
def Dg (L : Nat -> Prop) (W : World) (t : T) (u g : Int) (i : Nat) (d : DI) : Prop :=
 d.is = true /\ NmR L W d.np d.nn d.nc (namesP t (i : Int)) /\ OwR L W d.op d.on d.oc ((namesP t (i : Int)).map (ownQ t (i : Int))) /\ d.mode = (statP t (i : Int)).1.mode /\ d.owner = (statP t (i : Int)).1.owner /\ d.wr = mayQ t (i : Int) u g 2
theorem Dg.mv {i : Nat} {d : DI} (h : Dg L w t u g i d) (f : ∀ b j v, L b -> w.cell? ⟨b, j, none⟩ = some v -> L' b /\ w'.cell? ⟨b, j, none⟩ = some v) : Dg L' w' t u g i d :=
 ⟨h.1, h.2.1.mv f, h.2.2.1.mv f, h.2.2.2⟩
def Ds (L : Nat -> Prop) (W : World) (t : T) (u g : Int) (k : Nat) (f : Nat -> DI) : Prop := ∀ i, 1 <= i -> i < k -> (isDir t i /\ Dg L W t u g i (f i)) \/ (¬ isDir t i /\ f i = noDI)
theorem Ds.mv {f : Nat -> DI} (h : Ds L w t u g k f) (q : ∀ b j v, L b -> w.cell? ⟨b, j, none⟩ = some v -> L' b /\ w'.cell? ⟨b, j, none⟩ = some v) : Ds L' w' t u g k f := fun i h1 h2 =>
 (h i h1 h2).imp (fun ⟨a, b⟩ => ⟨a, b.mv q⟩) id
theorem Ds.more {f : Nat -> DI} {d : DI} (h : Ds L w t u g k f) (hd : (isDir t k /\ Dg L w t u g k d) \/ (¬ isDir t k /\ d = noDI)) : Ds L w t u g (k + 1) (fun i => if i = k then d else f i) := fun i h1 h2 => by
 dsimp only
 by_cases e : i = k
 ·subst e
  rw [if_pos rfl]
  exact hd
 ·rw [if_neg e]
  exact h i h1 (by omega)
def eRel (V0 : World) (G : Nat) (t : T) (u g : Int) (iv : Value) (W : World) : Prop :=
 ∃ (k : Nat) (f : Nat -> DI), iv = .int .i64 k /\ 1 <= k /\ k <= 201 /\ Fr (fun q => q = G) V0 W /\ W.rowIs G 58 1206 (rowD f) /\ Ds (fun q => V0.heap.size <= q) W t u g k f /\ ∀ i, k <= i -> f i = noDI
abbrev C4 (W : World) (X G : Nat) (a b c d : Int) : Prop := W.cell? ⟨X, 2, none⟩ = some (.int .i64 a) /\ W.cell? ⟨X, 3, none⟩ = some (.int .i64 b) /\ W.cell? ⟨G, 2, none⟩ = some (.int .i64 c) /\ W.cell? ⟨G, 3, none⟩ = some (.int .i64 d)
theorem up4 {W W' : World} {X G : Nat} {a b c d : Int} (h : C4 W X G a b c d) (q : Below W.heap.size W W') :
 C4 W' X G a b c d := ⟨up1 h.1 q, up1 h.2.1 q, up1 h.2.2.1 q, up1 h.2.2.2 q⟩
theorem names_len (hs : Sd t) (i : Int) : (namesP t i).length <= 40 := by
 unfold namesP
 split
 ·rw [namesE_length]; exact hs.len _
 ·exact Nat.zero_le _
theorem names_short (hs : Sd t) {i : Int} {x : Bs} (h : x ∈ namesP t i) : x.length <= 14 := by
 unfold namesP at h
 split at h
 ·obtain ⟨y, hy⟩ := mem_names (hs.uniq _) h
  have := (look_name hs (findE_mem hy)).2.1
  unfold nameOk at this
  simp only [Bool.and_eq_true, decide_eq_true_eq] at this
  exact this.1.2
 ·cases h
theorem InSt.upE {α : Type} {mk : α -> List Value} {ok : α -> Prop} {c : Nat} {W W' : World} {p : Option Addr} {n : Nat} {zs : List α} (h : InSt mk ok c W p n zs) (b : Below W.heap.size W W') : InSt mk ok c W' p n zs :=
 ⟨h.1, fun j z hz => by
  obtain ⟨k0, g, off, k1, k2⟩ := h.2 j z hz
  exact ⟨k0, g, off, k1, fun i v hv => (b.cell (p := ⟨g, off + j * c + i, none⟩) (cell_lt (k2 i v hv))).trans (k2 i v hv)⟩⟩
theorem fr_grown {a b : World} {row : Option Nat} (h : a.grownBy b row) : Fr (fun k => some k = row) a b := ⟨h.os, h.tape, h.output, h.size, fun k hk hn => h.block k hk hn⟩
theorem own_keep {B size : Nat} {e : TypeId} {v : Value} {xs : List Value} (h : w.ownsRow B e size v k xs) (f : Fr S w w') (hs : ∀ g, B <= g -> ¬ S g) : w'.ownsRow B e size v k xs := by
 refine ⟨h.1, h.2.imp id ?_⟩
 rintro ⟨g, cap, cur, hv, hb, hg, r⟩
 exact ⟨g, cap, cur, hv, hb, (f.block g (Array.getElem?_eq_some_iff.1 hg).1 (hs g hb)).trans hg, r⟩
theorem own_ge {B size : Nat} {e : TypeId} {v : Value} {xs : List Value} (h : w.ownsRow B e size v k xs) {g : Nat} (hg : some g = v.ownBlock) : B <= g := by
 rcases h.2 with ⟨hv, -⟩ | ⟨b, cap, cur, hv, hb, -⟩
 ·rw [hv] at hg; cases hg
 ·rw [hv] at hg; cases hg; exact hb
theorem own_form {B size : Nat} {e : TypeId} {v : Value} {xs : List Value} (h : w.ownsRow B e size v k xs) : ∃ po co, v = .slice po k co := by
 rcases h.2 with ⟨hv, h0⟩ | ⟨b, cap, cur, hv, -⟩
 ·exact ⟨none, 0, by rw [hv, h0]⟩
 ·exact ⟨_, _, hv⟩
def inRel (Wd : World) (D : Nat) (nv : Value) (md ow : Int) (wr : Bool) (l : List Int) (N : Nat) (jv : Value) (W : World) : Prop :=
 ∃ (j : Nat) (po : Option Addr) (co : Nat), jv = .int .i64 j /\ j <= N /\ Fr (fun q => q = D) Wd W /\ Blk W D 57 #[.bool true, nv, .slice po j co, .int .i64 md, .int .i64 ow, .bool wr] /\ W.ownsRow Wd.heap.size 3 1 (.slice po j co) j ((l.take j).map (Value.int .i64))
theorem in_step {Wd W W7 W8 : World} {D j N co : Nat} {po : Option Addr} {nv v' : Value} {md ow : Int} {wr : Bool} {l : List Int} {x : Int} (hD : D < Wd.heap.size) (hF : Fr (fun q => q = D) Wd W) (kD : Blk W D 57 #[.bool true, nv, .slice po j co, .int .i64 md, .int .i64 ow, .bool wr])
 (h7 : Below W.heap.size W W7) (hj : j < N) (hx : l[j]? = some x) (ho : W7.ownsRow Wd.heap.size 3 1 (.slice po j co) j ((l.take j).map (Value.int .i64)))
 (hown : W8.ownsRow Wd.heap.size 3 1 v' (j + 1) ((l.take j).map (Value.int .i64) ++ [.int .i64 x])) (hg : W7.grownBy W8 (Value.slice po j co).ownBlock) : inRel Wd D nv md ow wr l N (.int .i64 ((j + 1 : Nat) : Int)) (W8.setCell ⟨D, 2, none⟩ v') := by
 obtain ⟨po', co', rfl⟩ := own_form hown
 have f8 := fr_grown hg
 have hne : ∀ g, some g = (Value.slice po j co).ownBlock -> Wd.heap.size <= g := fun g hg => own_ge ho hg
 have hk8 : Blk W8 D 57 #[.bool true, nv, .slice po j co, .int .i64 md, .int .i64 ow, .bool wr] := (kD.up h7).fr f8 fun q => by have := hne _ q; omega
 refine ⟨j + 1, po', co', rfl, by omega, ?_, hk8.set 2 _, ?_⟩
 ·have a1 : Fr (fun q => q = D \/ Wd.heap.size <= q) Wd W := hF.mono fun _ _ h => .inl h
  have a2 : Fr (fun q => q = D \/ Wd.heap.size <= q) W W7 := Fr.of_below h7
  have a3 : Fr (fun q => q = D \/ Wd.heap.size <= q) W7 W8 := f8.mono fun q _ h => .inr (hne q h)
  exact (((a1.trans a2).trans a3).setCell (p := ⟨D, 2, none⟩) (.inl (.inl rfl)) _).mono fun g hg h => by rcases h with h | h <;> omega
 ·have e : (l.take (j + 1)).map (Value.int .i64) = (l.take j).map (Value.int .i64) ++ [.int .i64 x] := by
   rw [List.take_add_one, hx, List.map_append]; rfl
  rw [e]
  exact own_keep hown ((Fr.refl (fun q => q = D) W8).setCell (p := ⟨D, 2, none⟩) (.inl rfl) _) fun g hg h => by subst h; omega
abbrev six (W : World) (D : Nat) (b0 b1 b2 b3 b4 b5 : Value) : World := (((((W.setCell ⟨D, 0, none⟩ b0).setCell ⟨D, 1, none⟩ b1).setCell ⟨D, 2, none⟩ b2).setCell ⟨D, 3, none⟩ b3).setCell ⟨D, 4, none⟩ b4).setCell ⟨D, 5, none⟩ b5
theorem set6 {W : World} {G : Nat} {T : TypeId} {a0 a1 a2 a3 a4 a5 : Value} (h : Blk W G T #[a0, a1, a2, a3, a4, a5]) (b0 b1 b2 b3 b4 b5 : Value) :
 Blk (six W G b0 b1 b2 b3 b4 b5) G T #[b0, b1, b2, b3, b4, b5] :=
 (((((h.set 0 b0).set 1 b1).set 2 b2).set 3 b3).set 4 b4).set 5 b5
theorem frC {G : Nat} : ∀ (vs : List Value) (o : Nat) (b : World), Fr (fun q => q = G) w b -> Fr (fun q => q = G) w (b.setCells G o vs)
 | [], o, b, h => h
 | v :: r, o, b, h => frC r (o + 1) _ (h.setCell (p := ⟨G, o, none⟩) (.inl rfl) v)
theorem Ds.skip {f : Nat -> DI} (h : Ds L w t u g k f) (hd : ¬ isDir t k /\ f k = noDI) : Ds L w t u g (k + 1) f := fun i h1 h2 => by
 by_cases e : i = k
 ·subst e
  exact .inr hd
 ·exact h i h1 (by omega)
theorem Kp.next {a b c : World} (h : Kp L a b) (k : Kp L b c) : Kp L a c := fun q hq => (k q hq).trans (h q hq)
def oRel (W4 : World) (iv : Value) (W : World) : Prop := ∃ i : Nat, iv = .int .i64 i /\ 1 <= i /\ i <= 201 /\ Below W4.heap.size W4 W
def qRel (W4 : World) (N : Nat) (jv : Value) (W : World) : Prop := ∃ j : Nat, jv = .int .i64 j /\ j <= N /\ Below W4.heap.size W4 W
theorem fr6 (W : World) (D : Nat) (b0 b1 b2 b3 b4 b5 : Value) : Fr (fun q => q = D) W (six W D b0 b1 b2 b3 b4 b5) := frC [b0, b1, b2, b3, b4, b5] 0 W (Fr.refl _ W)
theorem up4s {W : World} {X G D : Nat} {a b c d : Int} (h : C4 W X G a b c d) (hX : X < D) (hG : G < D) (b0 b1 b2 b3 b4 b5 : Value) :
 C4 (six W D b0 b1 b2 b3 b4 b5) X G a b c d :=
 ⟨(fr6 W D b0 b1 b2 b3 b4 b5).cell h.1 (by omega), (fr6 W D b0 b1 b2 b3 b4 b5).cell h.2.1 (by omega), (fr6 W D b0 b1 b2 b3 b4 b5).cell h.2.2.1 (by omega), (fr6 W D b0 b1 b2 b3 b4 b5).cell h.2.2.2 (by omega)⟩
theorem up4a {W : World} {X G : Nat} {a b c d : Int} (h : C4 W X G a b c d) (o : Obj) :
 C4 (W.alloc o) X G a b c d := up4 h (bel1 W o)
theorem drewle {V : World} {o : Obj} {b : Nat} (h : (V.alloc o).drew.heap.size <= b) : V.heap.size <= b /\ b ≠ V.heap.size := by
 have h' : (V.alloc o).heap.size <= b := h
 rw [World.size_alloc] at h'
 omega
theorem news1 (W : World) (o : Obj) (v : Value) (T : TypeId) : ∀ (j : Nat) (u : Value), [v][j]? = some u -> ((W.alloc o).alloc (.cells #[v] T)).cell? ((⟨W.heap.size + 1, 0, none⟩ : Addr).add j) = some u := by
 intro j u hj
 match j, hj with
 | 0, hj =>
  simp at hj
  subst hj
  exact top_cell1 W o #[v] T (j := 0) rfl
 | (j + 1), hj => simp at hj
theorem blkd (V : World) (T : TypeId) (cs : Array Value) : Blk (V.alloc (.cells cs T)).drew V.heap.size T cs := by
 have h := Blk.new V T cs
 unfold Blk at h ⊢
 exact h
theorem cutA {V3 w4 w5 : World} {pn : Option Addr} {k cn : Nat} {l : List Bs} (E : Fr (fun _ => False) V3 w5) (q : Below w4.heap.size w4 w5) (n4 : NmR (fun b => V3.drew.heap.size <= b) w4 pn k cn l) (cs : Array Value) :
 V3.heap.size <= w5.heap.size /\ Blk (w5.alloc (.cells cs 57)) w5.heap.size 57 cs /\ NmR (fun q => V3.heap.size <= q /\ q ≠ w5.heap.size) (w5.alloc (.cells cs 57)) pn k cn l /\ Fr (fun _ => False) V3 (w5.alloc (.cells cs 57)) :=
 ⟨E.size, Blk.new _ _ _, n4.mv fun b j v h hc => ⟨⟨h, by have h1 : b < w4.heap.size := cell_lt hc; have := q.size; omega⟩, up1 (up1 hc q) (bel1 _ _)⟩, E.alloc _⟩
theorem cutB {V3 w4 w5 : World} {pn : Option Addr} {k cn D : Nat} {l : List Bs} {a0 a1 a2 a3 a4 a5 : Value} (E : Fr (fun _ => False) V3 w5) (q : Below w4.heap.size w4 w5) (hD : V3.heap.size <= D) (n4 : NmR (fun b => V3.heap.size <= b /\ b ≠ D) w4 pn k cn l) (h : Blk w5 D 57 #[a0, a1, a2, a3, a4, a5]) (b0 b1 b2 b3 b4 b5 : Value) :
 V3.heap.size <= D /\ Blk (six w5 D b0 b1 b2 b3 b4 b5) D 57 #[b0, b1, b2, b3, b4, b5] /\ NmR (fun q => V3.heap.size <= q /\ q ≠ D) (six w5 D b0 b1 b2 b3 b4 b5) pn k cn l /\ Fr (fun _ => False) V3 (six w5 D b0 b1 b2 b3 b4 b5) :=
 ⟨hD, set6 h _ _ _ _ _ _, n4.mv fun b j v h hc => ⟨h, (fr6 w5 D b0 b1 b2 b3 b4 b5).cell (up1 hc q) h.2⟩, ((E.mono (S' := fun q => q = D) fun _ _ h => h.elim).trans (fr6 w5 D b0 b1 b2 b3 b4 b5)).mono fun g hg h => by omega⟩
theorem round_end {V0 wr : World} {G k : Nat} {f : Nat -> DI} {d : DI} (hk : 1 <= k /\ k <= 200) (hG : G < V0.heap.size) (hF : Fr (fun z => z = G) V0 wr) (hR : wr.rowIs G 58 1206 (rowD f)) (hD : Ds (fun q => V0.heap.size <= q) wr t u g k f) (hz : ∀ i, k <= i -> f i = noDI) (hd : isDir t k) (h : Dg (fun q => V0.heap.size <= q) wr t u g k d) :
 eRel V0 G t u g (.int .i64 ((k + 1 : Nat) : Int)) (wr.setCells G (k * 6) (dirL d)) := by
 have hf : Fr (fun z => z = G) wr (wr.setCells G (k * 6) (dirL d)) := frC (dirL d) (k * 6) wr (Fr.refl _ wr)
 refine ⟨k + 1, fun i => if i = k then d else f i, rfl, by omega, by omega, hF.trans hf, rowD_put hR k d, Ds.mv (Ds.more hD (.inl ⟨hd, h⟩)) fun q j v hq hc => ⟨hq, hf.cell hc (by omega)⟩, fun i hi => ?_⟩
 dsimp only
 rw [if_neg (by omega)]
 exact hz i (by omega)
theorem in_end {Wd wr : World} {po : Option Addr} {co : Nat} {V : Nat} {f : Bs -> Int} {l : List Bs} (hV : V <= Wd.heap.size) (h : wr.ownsRow Wd.heap.size 3 1 (.slice po l.length co) l.length (((l.map f).take l.length).map (Value.int .i64))) : OwR (fun q => V <= q) wr po l.length co (l.map f) := by
 rw [List.take_of_length_le (by rw [List.length_map]; exact Nat.le_refl _)] at h
 have hl : l.length = (l.map f).length := (List.length_map ..).symm
 rw [hl] at h
 obtain ⟨p, c, e, k⟩ := RwR.of h
 cases e
 rw [<- hl] at k
 exact k.mv fun q j v hq hc => ⟨Nat.le_trans hV hq, hc⟩
abbrev iO (a b c d e f g h : Int) : Obj := .cells #[.int .i64 a, .int .i64 b, .int .i64 c, .int .i64 d, .int .i64 e, .int .i64 f, .int .i64 g, .int .i64 h] 50
abbrev oC (kd cwd u g : Int) (s x : ByteArray) (m n a b : Int) : Array Value := #[.int .i64 kd, .int .i64 cwd, .int .i64 u, .int .i64 g, .string s, .string x, .int .i64 m, .int .i64 n, .int .i64 a, .int .i64 b]
abbrev zV : Array Value := #[.bool false, .slice none 0 0, .slice none 0 0, .int .i64 0, .int .i64 0, .bool false]
abbrev zD : Obj := .cells zV 57
def D6 (W : World) (G i : Nat) (is : Bool) (np : Option Addr) (nn nc : Nat) (op : Option Addr) (on oc : Nat) (m o : Int) (wr : Bool) : Prop := W.cell? ⟨G, i * 6, none⟩ = some (.bool is) /\ W.cell? ⟨G, i * 6 + 1, none⟩ = some (.slice np nn nc) /\ W.cell? ⟨G, i * 6 + 2, none⟩ = some (.slice op on oc) /\ W.cell? ⟨G, i * 6 + 3, none⟩ = some (.int .i64 m) /\ W.cell? ⟨G, i * 6 + 4, none⟩ = some (.int .i64 o) /\ W.cell? ⟨G, i * 6 + 5, none⟩ = some (.bool wr)
theorem D6.of {W W' : World} {f : Nat -> DI} {G i : Nat} {ty : TypeId} {is : Bool} {np : Option Addr} {nn nc : Nat} {op : Option Addr} {on oc : Nat} {m o : Int} {wr : Bool} (h : W.rowIs G ty 1206 (rowD f)) (hi : i <= 200) (e : f i = ⟨is, np, nn, nc, op, on, oc, m, o, wr⟩) (q : Below W.heap.size W W') : D6 W' G i is np nn nc op on oc m o wr :=
 ⟨up1 (W' := W') (rowD_cell h hi (j := 0) (by decide) (by rw [e]; rfl)) q, up1 (rowD_cell h hi (j := 1) (by decide) (by rw [e]; rfl)) q, up1 (rowD_cell h hi (j := 2) (by decide) (by rw [e]; rfl)) q, up1 (rowD_cell h hi (j := 3) (by decide) (by rw [e]; rfl)) q, up1 (rowD_cell h hi (j := 4) (by decide) (by rw [e]; rfl)) q, up1 (rowD_cell h hi (j := 5) (by decide) (by rw [e]; rfl)) q⟩
def F6 (W : World) (G o : Nat) : Prop := W.frozen? ⟨G, o, none⟩ = false /\ W.frozen? ⟨G, o + 1, none⟩ = false /\ W.frozen? ⟨G, o + 2, none⟩ = false /\ W.frozen? ⟨G, o + 3, none⟩ = false /\ W.frozen? ⟨G, o + 4, none⟩ = false /\ W.frozen? ⟨G, o + 5, none⟩ = false
theorem f6 {W : World} {f : Nat -> DI} {G : Nat} {ty : TypeId} (h : W.rowIs G ty 1206 (rowD f)) (o : Nat) : F6 W G o := ⟨h.frozen _, h.frozen _, h.frozen _, h.frozen _, h.frozen _, h.frozen _⟩
theorem Blk.f6 {W : World} {D : Nat} {T : TypeId} {cs : Array Value} (h : Blk W D T cs) : W.frozen? ⟨D, 0, none⟩ = false /\ W.frozen? ⟨D, 1, none⟩ = false /\ W.frozen? ⟨D, 2, none⟩ = false /\ W.frozen? ⟨D, 3, none⟩ = false /\ W.frozen? ⟨D, 4, none⟩ = false /\ W.frozen? ⟨D, 5, none⟩ = false := ⟨h.frozen 0, h.frozen 1, h.frozen 2, h.frozen 3, h.frozen 4, h.frozen 5⟩
def C5 (W : World) (J : Nat) (u g : Int) : Prop := W.cell? ⟨J, 0, none⟩ = some (.int .i64 u) /\ W.cell? ⟨J, 1, none⟩ = some (.int .i64 u) /\ W.cell? ⟨J, 2, none⟩ = some (.int .i64 u) /\ W.cell? ⟨J, 3, none⟩ = some (.int .i64 g) /\ W.cell? ⟨J, 4, none⟩ = some (.int .i64 g)
theorem C5.new (V : World) (u g : Int) : C5 (V.alloc (.cells #[.int .i64 u, .int .i64 u, .int .i64 u, .int .i64 g, .int .i64 g] 42)) V.heap.size u g := ⟨top_cell _ _ _ rfl, top_cell _ _ _ rfl, top_cell _ _ _ rfl, top_cell _ _ _ rfl, top_cell _ _ _ rfl⟩
abbrev Qk (V0 V3 : World) (JA X G : Nat) (a b c d : Int) (W : World) : Prop := Fr (fun z => z = JA) V0 W /\ Fr (fun _ => False) V3 W /\ C4 W X G a b c d
variable {V0 V3 : World} {JA X G : Nat} {a b c d : Int}
theorem Qk.step (h : Qk V0 V3 JA X G a b c d w) (q : Below w.heap.size w w') : Qk V0 V3 JA X G a b c d w' := ⟨h.1.trans (Fr.of_below q), h.2.1.trans (Fr.of_below q), up4 h.2.2 q⟩
theorem Qk.al (h : Qk V0 V3 JA X G a b c d w) (o : Obj) : Qk V0 V3 JA X G a b c d (w.alloc o) := h.step (bel1 w o)
end
end
section
open Go.RowKit Ino Go.Maps
open Pa (Blk)
set_option maxHeartbeats 8000000 in
set_option maxRecDepth 100000 in
theorem entries7_law (p0 : Option Addr) (n0 c0 : Nat) (z0 : List Op7) (o : Op7) (w : World) (h0 : InOps7 w p0 n0 z0) (l0 : n0 <= maxLen) (ho : o.In) :
 Calls Tryz.prog 5 #[.slice p0 n0 c0, o.val] w fun e w' => e = .returned (.bool true) /\ Below w.heap.size w w' := by
 obtain ⟨kd, cwd, u, g, s, x, m, n, a, b⟩ := o
 obtain ⟨hs1, hx1, hm, -⟩ := ho
 unfold Op7.val
 simp only at hs1 hx1 hm ⊢
 have hz : s.size <= maxLen := by unfold maxLen; omega
 have hzx : x.size <= maxLen := by unfold maxLen; omega
 have H0 := hid h0
 have HM := hid hm
 have HL0 := hid l0
 have HZ := hid hz
 have HZX := hid hzx
 clear h0 hm l0 hs1 hx1 hz hzx
 obtain ⟨i0, hi0, hz0, hz1, hz2⟩ := Go.info_parts (P := Tryz.prog) (e := 3) (z := .int .i64 0) (size := 1) (bytes := 8) (by kernel_rfl)
 go_enter Tryz.func5, Tryz.ntmps5
 go_wp2_with fail
 refine (shown7_any _).mono ?_
 rintro e W1 ⟨rfl, b1⟩
 have kb : Blk W1 w.heap.size 29 (oC kd cwd u g s x m n a b) := Blk.up (Blk.new w _ _) b1
 have hB1 : Below w.heap.size w W1 := bnext (bel1 w _) b1
 have hGl := kb.lt
 clear b1
 go_wp2_with fail
 refine (some7_any p0 n0 c0 z0 W1 (H0.out.upE hB1) HL0.out).mono ?_
 rintro e W2 ⟨A, t, rfl, p2, hI⟩
 have pw : WL (fun _ => False) W1 W2 A t 60 := WP.kept ⟨p2, hI.s, hI.m, hI.b⟩
 have kb2 := hid (kb.up pw.below)
 have P2 := hid ((pw.base hB1).weak (L' := fun q => q = w.heap.size) fun q hq => by subst hq; exact ⟨Nat.le_refl _, hGl⟩)
 have HS := hid hI.s
 clear kb hB1 p2 pw hI H0 hGl
 obtain ⟨q0, -, -, -, -, -, -, -, -, -⟩ := Blk.k10 kb2.out
 go_upto_region 5 with fail
 go_cut [43] from 36 to 44 (fun c wx => ∃ v, c = .bool v /\ (v = false -> 4 <= kd /\ kd <= 7) /\ wx = W2)
 case first =>
  by_cases h1 : kd < 4
  ·go_wp2_with fail
   go_meet
   exact ⟨true, rfl, fun h => (by cases h), rfl⟩
  ·by_cases h2 : 7 < kd
   ·go_wp2_with fail
    go_meet
    exact ⟨true, rfl, fun h => (by cases h), rfl⟩
   ·go_wp2_with fail
    go_meet
    exact ⟨false, rfl, fun _ => (by omega), rfl⟩
 obtain ⟨v, rfl, hv, rfl⟩ := hcut
 go_upto_if 43 with fail
 generalize hGG : w.heap.size = GG at *
 go_cut [] from 36 to 44 (fun wx => ∃ KK : Int, 4 <= KK /\ KK <= 7 /\ Blk wx GG 29 (oC KK cwd u g s x m n a b) /\ WL (fun q => q = GG) w wx A t 60)
 case first =>
  cases v
  ·go_wp2_with fail
   go_meet
   exact ⟨kd, (hv (by trivial)).1, (hv (by trivial)).2, kb2.out, P2.out⟩
  ·have f0 := kb2.out.frozen 0
   go_wp2_with fail
   go_meet
   exact ⟨5, by decide, by decide, kb2.out.set 0 _, (P2.out.grow ((Fr.refl (fun q => q = GG) _).setCell (p := ⟨GG, 0, none⟩) (.inl rfl) _) (fun q _ h => ⟨h, by omega⟩)).weak fun q h => .inl h⟩
 obtain ⟨KK, hK4, hK7, kb3, p3⟩ := hcut
 clear kb2 P2 q0 hv HL0
 obtain ⟨V0, hV0⟩ : ∃ V, V = wc.alloc (.cells Tryz.zeroCells58 58) := ⟨_, rfl⟩
 have hne : GG ≠ wc.heap.size := Nat.ne_of_lt kb3.lt
 have hJl : wc.heap.size < V0.heap.size := by rw [hV0]; simp
 have hwG : w.heap.size <= wc.heap.size := p3.below.size
 have p4 : WL (fun q => q = GG \/ q = wc.heap.size) w V0 A t 60 := (p3.more (hV0 ▸ bel1 wc _)).weak fun q h => h.imp id fun e => by subst e; exact ⟨Nat.le_refl _, hJl⟩
 have kb4 := hid (kb3.up (hV0 ▸ bel1 wc _))
 have HR0 := hid (show V0.rowIs wc.heap.size 58 1206 (rowD fun _ => noDI) from hV0 ▸ rowD_new wc)
 have HT := hid (fun (W : World) (q : Fr (fun z => z = wc.heap.size) V0 W) => p4.grow q fun z _ e => ⟨.inr e, by subst e; exact hwG⟩)
 have hGV := p4.below.size
 clear kb3 p3 p4
 go_wp2_with fail
 rw [<- hV0]
 generalize wc.heap.size = JA at *
 clear hV0
 have START := hid (show eRel V0 JA t u g (.int .i64 1) V0 from ⟨1, fun _ => noDI, rfl, Nat.le_refl _, by decide, Fr.refl _ _, HR0.out, fun i h1 h2 => by omega, fun _ _ => rfl⟩)
 clear HR0
 go_loopw [8] (fun iv wr => eRel V0 JA t u g iv wr) (fun iv _ => 201 - (intOf iv).toNat)
 case atStart => exact START.out
 obtain ⟨k, f, rfl, hk1, hk2, hF, hrow, hds, hzf⟩ := hrel
 clear START
 by_cases hk : k <= 200
 ·have i1 : (k : Int) <= 200 := by omega
  have i2 : (0 : Int) <= (k : Int) := by omega
  have i3 : (k : Int) < 201 := by omega
  have HK := hid (⟨hk1, hk⟩ : 1 <= k /\ k <= 200)
  obtain ⟨⟨⟨a0, a1, a2, a3, a4, a5, a6, a7⟩, ab⟩, hst⟩ : ∃ sp, statP t (k : Int) = sp := ⟨_, rfl⟩
  have HST0 := wl_stat (HT.out _ hF) (k : Int)
  rw [hst] at HST0
  unfold infV at HST0
  simp only at HST0
  have HST := hid HST0
  have HSP := hid hst
  have HF := hid hF
  have HR := hid hrow
  have HD := hid hds
  have HZF := hid hzf
  clear HST0 hst hF hrow hds hzf
  have HV := hid (fun (V2 : World) (b2 : Below wr.heap.size wr V2) (o : Obj) => (show Fr (fun z => z = JA) V0 (V2.alloc o) /\ (V2.alloc o).rowIs JA 58 1206 (rowD f) /\ Ds (fun q => V0.heap.size <= q) (V2.alloc o) t u g k f from
   ⟨(HF.out.trans (Fr.of_below b2)).alloc _, (HR.out.of_block (b2.block JA (by have := HF.out.size; omega))).alloc _, HD.out.mv fun q j v hq hc => ⟨hq, up1 (up1 hc b2) (bel1 V2 _)⟩⟩))
  by_cases hd : ab = true /\ a1 = 1
  rotate_left
  ·have hnd : ¬ isDir t k := fun q => hd (by unfold isDir at q; rw [HSP.out] at q; exact q)
   have hfk := HZF.out k (Nat.le_refl _)
   have hc : ab = false \/ (ab = true /\ ((a1 != 1) : Bool) = true) := by
    cases ab
    ·exact .inl rfl
    ·exact .inr ⟨rfl, by rw [bne_iff_ne]; exact fun h => hd ⟨rfl, h⟩⟩
   clear hd
   rcases hc with rfl | ⟨rfl, ha1⟩
   all_goals
    go_wp2_with fail
    refine HST.out.mono ?_
    rintro e V2 ⟨rfl, p2, k2, b2⟩
    have hh := HV.out V2 b2 (iO a0 a1 a2 a3 a4 a5 a6 a7)
    have x1 : (V2.alloc (iO a0 a1 a2 a3 a4 a5 a6 a7)).cell? ⟨V2.heap.size, 1, none⟩ = some (.int .i64 a1) := top_cell _ _ _ rfl
    have REL := hid (show eRel V0 JA t u g (.int .i64 ((k + 1 : Nat) : Int)) _ from ⟨k + 1, f, rfl, by omega, by omega, hh.1, hh.2.1, hh.2.2.skip ⟨hnd, hfk⟩, fun i hi => HZF.out i (by omega)⟩)
    clear hh p2 k2 b2 hnd hfk HST
    go_wp2
    go_roundw
    case rel => exact REL.out
    case measure => simp [intOf]; omega
  obtain ⟨rfl, rfl⟩ := hd
  go_wp2_with fail
  refine HST.out.mono ?_
  rintro e V2 ⟨rfl, p2, k2, b2⟩
  have x1 : (V2.alloc (iO a0 1 a2 a3 a4 a5 a6 a7)).cell? ⟨V2.heap.size, 1, none⟩ = some (.int .i64 1) := top_cell _ _ _ rfl
  obtain ⟨V3, hV3⟩ : ∃ V, V = V2.alloc (iO a0 1 a2 a3 a4 a5 a6 a7) := ⟨_, rfl⟩
  have hXl : V2.heap.size < V3.heap.size := by rw [hV3]; simp
  have hX0 : V0.heap.size <= V2.heap.size := Nat.le_trans HF.out.size b2.size
  have h3 := HV.out V2 b2 (iO a0 1 a2 a3 a4 a5 a6 a7)
  rw [<- hV3] at h3
  obtain ⟨f3, r3, d3⟩ := h3
  have kg := kb4.out.fr f3 hne
  have S3 := hid (show C4 V3 V2.heap.size GG a2 a3 u g from ⟨hV3 ▸ top_cell _ _ _ rfl, hV3 ▸ top_cell _ _ _ rfl, kg.cell 2, kg.cell 3⟩)
  have F3 := hid f3
  have R3 := hid r3
  have D3 := hid d3
  have HNM0 := fun (W : World) (q : Fr (fun z => z = JA) V0 W) => ps_names (WL.to (HT.out W q)).p (HT.out W q).s.sd (k : Int)
  have HMY0 := fun (W : World) (q : Fr (fun z => z = JA) V0 W) => may7_any (WL.to (HT.out W q)).p (HT.out W q).s.sd (k : Int) u g 2
  obtain ⟨l, hl⟩ : ∃ l, namesP t (k : Int) = l := ⟨_, rfl⟩
  obtain ⟨wrt, hwrt⟩ : ∃ v, mayQ t (k : Int) u g 2 = v := ⟨_, rfl⟩
  simp only [hl] at HNM0
  simp only [hwrt] at HMY0
  have hl40 : l.length <= 40 := by rw [<- hl]; exact names_len HS.out.sd _
  have HL := hid hl
  have HW := hid hwrt
  have HNM := hid HNM0
  have HMY := hid HMY0
  clear HNM0 HMY0 hl hwrt f3 r3 d3 kg p2 k2 b2 HF HR HD HV HST
  go_wp2_with fail
  rw [<- hV3]
  clear x1 hV3
  generalize V2.heap.size = X at *
  go_cut [11] from 62 to 76 (fun d wx => ∃ (D : Nat) (pn : Option Addr) (cn : Nat), d = .pointer (some ⟨D, 0, none⟩) /\ V3.heap.size <= D /\ Blk wx D 57 #[.bool true, .slice pn l.length cn, .slice none 0 0, .int .i64 a2, .int .i64 a3, .bool wrt] /\ NmR (fun q => V3.heap.size <= q /\ q ≠ D) wx pn l.length cn l /\ Fr (fun _ => False) V3 wx)
  case first =>
   obtain ⟨x2, x3, g2, g3⟩ := S3.out
   have PD := hid (show Qk V0 V3 JA X GG a2 a3 u g V3.drew from ⟨F3.out.drew, (Fr.refl _ V3).drew, S3.out⟩)
   have PA := hid (show Qk V0 V3 JA X GG a2 a3 u g (V3.alloc zD).drew from ⟨(F3.out.alloc _).drew, ((Fr.refl _ V3).alloc _).drew, up4a S3.out zD⟩)
   go_region_held3 (fun w' => w'.cell? ⟨X, 2, none⟩ = some (.int .i64 a2) /\ w'.cell? ⟨X, 3, none⟩ = some (.int .i64 a3) /\ w'.cell? ⟨GG, 2, none⟩ = some (.int .i64 u) /\ w'.cell? ⟨GG, 3, none⟩ = some (.int .i64 g))
    (first | with_reducible exact PD.out.2.2 | with_reducible exact PA.out.2.2 | with_reducible exact PN.out.2.2 | with_reducible exact PM.out.2.2 | with_reducible exact up4a PN.out.2.2 _ | with_reducible exact up4a PM.out.2.2 _ | with_reducible exact up4s PM.out.2.2 (cell_lt PN.out.2.2.1) (cell_lt PN.out.2.2.2.2.1) _ _ _ _ _ _ | with_reducible exact up4s PM.out.2.2 (cell_lt S3.out.1) (cell_lt S3.out.2.2.1) _ _ _ _ _ _)
    (first
      | (go_at_call 19; with_reducible refine (HMY.out _ PN.out.1).mono ?_; rintro e w5 ⟨rfl, b5⟩; have PM := hid (PN.out.step b5); have BE := hid (BD.out.up b5); obtain ⟨c0, c1, c2, c3, c4, c5⟩ := Blk.k6 BE.out; obtain ⟨z0, z1, z2, z3, z4, z5⟩ := Blk.f6 BE.out)
      | (go_at_call 19; with_reducible refine (HMY.out _ PN.out.1).mono ?_; rintro e w5 ⟨rfl, b5⟩; have PM := hid (PN.out.step b5))
      | (go_at_call 19; with_reducible refine (HMY.out _ (PN.out.al zD).1).mono ?_; rintro e w5 ⟨rfl, b5⟩; have PM := hid ((PN.out.al _).step b5); have BE := hid (Blk.up (Blk.new w4 57 zV) b5); obtain ⟨c0, c1, c2, c3, c4, c5⟩ := Blk.k6 BE.out; obtain ⟨z0, z1, z2, z3, z4, z5⟩ := Blk.f6 BE.out)
      | (go_at_call 22; with_reducible refine (HNM.out _ PD.out.1).mono ?_; rintro e w4 ⟨v, rfl, r4, -, b4⟩; obtain ⟨pn, cn, rfl, n4⟩ := RwR.of r4; have PN := hid (PD.out.step b4))
      | (go_at_call 22; with_reducible refine (HNM.out _ PA.out.1).mono ?_; rintro e w4 ⟨v, rfl, r4, -, b4⟩; obtain ⟨pn, cn, rfl, n4⟩ := RwR.of r4; have PN := hid (PA.out.step b4); have BD := hid (Blk.up (blkd V3 57 zV) b4)))
   all_goals
    go_wp2_with fail
    go_meet
    first
     | exact ⟨_, _, _, rfl, cutA PM.out.2.1 b5 n4 _⟩
     | exact ⟨_, _, _, rfl, cutB PM.out.2.1 b5 PN.out.2.1.size (n4.mv fun b j v h hc => ⟨⟨h, Nat.ne_of_lt (cell_lt hc)⟩, up1 hc (bel1 _ _)⟩) BE.out _ _ _ _ _ _⟩
     | exact ⟨_, _, _, rfl, cutB PM.out.2.1 b5 (Nat.le_refl _) (n4.mv fun b j v h hc => ⟨drewle h, hc⟩) BE.out _ _ _ _ _ _⟩
  obtain ⟨D, pn, cn, rfl, hD, kD, hN, hFx⟩ := hcut
  have fw := F3.out.trans (hFx.mono (S' := fun z => z = JA) fun _ _ h => h.elim)
  have hD0 : V0.heap.size <= D := by omega
  have hDl := kD.lt
  have hDJ : D ≠ JA := by omega
  have hDG : D ≠ GG := by omega
  have hD2 := hid (R3.out.of_block (hFx.block JA (by have := F3.out.size; omega) id))
  have hD3 := hid (D3.out.mv (w' := wc) (L' := fun q => V0.heap.size <= q /\ q ≠ D) fun q j v hq hc => ⟨⟨hq, by have h1 : q < V3.heap.size := cell_lt hc; omega⟩, hFx.cell hc id⟩)
  have FW := hid fw
  have HN := hid hN
  have KD := hid kD
  have hV3l := hid F3.out.size
  clear fw hFx hN S3 F3 R3 D3 HNM HMY hXl hX0
  have hD1 : V0.heap.size <= wc.heap.size := FW.out.size
  have START := hid (show inRel wc D (.slice pn l.length cn) a2 a3 wrt (l.map (ownQ t (k : Int))) l.length (.int .i64 0) wc from ⟨0, none, 0, rfl, Nat.zero_le _, Fr.refl _ _, KD.out, ⟨rfl, .inl ⟨rfl, rfl⟩⟩⟩)
  go_wp2_with fail
  go_loopw [12] (fun jv wr => inRel wc D (.slice pn l.length cn) a2 a3 wrt (l.map (ownQ t (k : Int))) l.length jv wr) (fun jv _ => l.length - (intOf jv).toNat)
  case atStart => exact START.out
  obtain ⟨j, po, co, rfl, hj, hF2, kD2, hown⟩ := hrel
  clear START
  have HF2 := hid hF2
  have F02 := hid (show Fr (fun z => z = JA) V0 wr from ((FW.out.mono (S' := fun z => z = JA \/ z = D) fun _ _ h => .inl h).trans (hF2.mono fun _ _ h => .inr h)).mono fun q hq h => by rcases h with h | h; exact h; omega)
  by_cases hlt : j < l.length
  rotate_left
  ·have j2 : ¬ (j : Int) < (l.length : Int) := by omega
   obtain rfl : j = l.length := by omega
   have hda : isDir t k := by unfold isDir; rw [HSP.out]; exact ⟨rfl, rfl⟩
   have hDN := hD2.out.of_block (HF2.out.block JA (by have := FW.out.size; omega) hDJ.symm)
   have hfk := HZF.out k (Nat.le_refl _)
   obtain ⟨d0, d1, d2, d3, d4, d5⟩ := Blk.k6 kD2
   have hDl2 := kD2.lt
   obtain ⟨y0, y1, y2, y3, y4, y5⟩ := D6.of hDN hk hfk (Below.refl _ _)
   obtain ⟨z0, z1, z2, z3, z4, z5⟩ := f6 hDN (k * 6)
   have hJw : JA < wr.heap.size := by have := F02.out.size; omega
   have REL := hid (round_end (d := ⟨true, pn, l.length, cn, po, l.length, co, a2, a3, wrt⟩) HK.out hJl F02.out hDN (hD3.out.mv (w' := wr) (L' := fun q => V0.heap.size <= q) fun q j v hq hc => ⟨hq.1, HF2.out.cell hc hq.2⟩) HZF.out hda
    ⟨rfl, by rw [HL.out]; exact HN.out.mv fun q j v hq hc => ⟨by have := hV3l.out; omega, HF2.out.cell hc hq.2⟩, by rw [HL.out]; exact in_end hD1 hown, by rw [HSP.out], by rw [HSP.out], HW.out.symm⟩)
   clear hda hDN hfk hown hF2 F02 HF2 HN hD2 hD3 FW
   go_wp2
   go_roundw
   case rel => exact REL.out
   case measure => simp [intOf]; omega
  obtain ⟨xn, hxn⟩ : ∃ y, l[j]? = some y := ⟨_, List.getElem?_eq_getElem hlt⟩
  obtain ⟨b0, rfl, ⟨hb1, hb2⟩, hb3⟩ := HN.out.2.2.2 j xn hxn
  have c1 := hF2.cell hb3 hb2
  unfold strC at c1
  have hx14 : xn.length <= 14 := names_short HS.out.sd (i := (k : Int)) (by rw [HL.out]; exact List.mem_of_getElem? hxn)
  have hso : (l.map (ownQ t (k : Int)))[j]? = some (ownQ t (k : Int) xn) := by rw [List.getElem?_map, hxn]; rfl
  have HLK0 := ps_look (WL.to (HT.out _ F02.out)).p HS.out.sd (k : Int) ⟨xn.toArray⟩ (by show xn.length <= maxLen; unfold maxLen; omega)
  rw [show (⟨xn.toArray⟩ : ByteArray).data.toList = xn from rfl] at HLK0
  obtain ⟨⟨yn, yb⟩, hlk⟩ : ∃ q, lookP t (k : Int) xn = q := ⟨_, rfl⟩
  rw [hlk] at HLK0
  unfold lookV at HLK0
  simp only at HLK0
  have HLK := hid HLK0
  obtain ⟨⟨⟨y0, y1, y2, y3, y4, y5, y6, y7⟩, ys⟩, hsy⟩ : ∃ q, statP t ((yn : Nat) : Int) = q := ⟨_, rfl⟩
  have HST0 := wl_stat (HT.out _ F02.out) ((yn : Nat) : Int)
  rw [hsy] at HST0
  unfold infV at HST0
  simp only at HST0
  have HST := hid HST0
  have hoq : ownQ t (k : Int) xn = y3 := by unfold ownQ; rw [hlk]; show (statP t ((yn : Nat) : Int)).1.owner = y3; rw [hsy]
  rw [hoq] at hso
  have j1 : (0 : Int) <= (j : Int) := by omega
  have j2 : (j : Int) < (l.length : Int) := by omega
  have e0 := kD2.cell 0
  obtain ⟨d0, d1, d2, d3, d4, d5⟩ := (Blk.k6 kD2)
  have hDl2 := kD2.lt
  have KD2 := hid kD2
  have HOW := hid hown
  have HSO := hid hso
  generalize (⟨xn.toArray⟩ : ByteArray) = xs at *
  clear hoq HST0 HLK0 hso hx14 hlk hsy hb3 hF2 kD2 hown e0 hxn
  go_wp2_with fail
  refine HLK.out.mono ?_
  rintro e w4 ⟨rfl, rfl⟩
  go_wp2_with fail
  refine HST.out.mono ?_
  rintro e w5 ⟨rfl, p5, k5, b5⟩
  have kd5 := KD2.out.up b5
  obtain ⟨e0, e1, e2, e3, e4, e5⟩ := (Blk.k6 kd5)
  have hDl5 := kd5.lt
  have KD5 := hid kd5
  have hw5 : wc.heap.size <= w5.heap.size := Nat.le_trans HF2.out.size b5.size
  have HO5 := hid (own_keep (S := fun _ => False) HOW.out (Fr.of_below b5) fun _ _ => id)
  have HIN := hid (fun W7 (h7 : Below wr.heap.size wr W7) ho W8 v' hown' hg => in_step (W8 := W8) (v' := v') hDl HF2.out KD2.out h7 hlt HSO.out ho hown' hg)
  generalize ((l.map (ownQ t (k : Int))).take j).map (Value.int .i64) = XS at HIN HO5
  have B5 := hid b5
  clear p5 k5 b5 d0 d1 d2 d3 d4 d5 c1 KD2 HOW HSO HST HLK kd5
  have t3 : (w5.alloc (iO y0 y1 y2 y3 y4 y5 y6 y7)).cell? ⟨w5.heap.size, 3, none⟩ = some (.int .i64 y3) := top_cell _ _ _ rfl
  go_wp2_with (refine wpList_append_own_at _ rfl _ _ 55 rfl wc.heap.size 3 i0 (.int .i64 0) 1 8 Tryz.underlying55 hi0 hz0 hz1 hz2 rfl (by decide) (.slice po j co) j XS rfl ((HO5.out.alloc _).alloc _) ⟨w5.heap.size + 1, 0, none⟩ 1 1 [.int .i64 y3] rfl rfl (news1 _ _ _ _) (by intro x hx; simp at hx; subst hx; rfl) (by unfold maxLen; omega) (by omega) (by simp; omega) ?_)
  intro v' w8 hown' hgrow hnil hat
  obtain ⟨po2, co2, rfl⟩ := own_form hown'
  have REL := hid (HIN.out _ ((B5.out.alloc B5.out.size _).alloc (by simp; have := B5.out.size; omega) _) ((HO5.out.alloc _).alloc _) w8 _ hown' hgrow)
  have k8 : Blk w8 D 57 #[.bool true, .slice (some ⟨b0, 0, none⟩) l.length cn, .slice po j co, .int .i64 a2, .int .i64 a3, .bool wrt] := by
   refine Blk.kept (((KD5.out).alloc _).alloc _) hgrow ?_
   intro e
   have := own_ge HO5.out e
   omega
  have z2 := k8.frozen 2
  have s2 := k8.cell 2
  clear hown' hgrow hnil hat k8 HIN HO5 B5 KD5 t3
  go_wp2
  go_roundw
  case rel => exact REL.out
  case measure => simp [intOf]; omega
 have hk201 : k = 201 := by omega
 subst hk201
 have j1 : ¬ ((201 : Nat) : Int) <= 200 := by decide
 generalize wr = WE at *
 have PE : WL (fun q => (q = GG \/ q = JA) \/ (V0.heap.size <= q /\ q < WE.heap.size)) w WE A t 60 := HT.out _ hF
 have kg := kb4.out.fr hF hne
 obtain ⟨q0, q1, q2, q3, q4, q5, q6, q7, q8, q9⟩ := Blk.k10 kg
 have HKG := hid kg
 have HRE := hid hrow
 have HDE := hid hds
 clear hrow hds hzf kg
 go_wp2_with fail
 refine (who_any _ _ _).mono ?_
 rintro e V1 ⟨rfl, b1⟩
 obtain ⟨VC, hVC⟩ : ∃ V, V = V1.alloc (.cells #[.int .i64 u, .int .i64 u, .int .i64 u, .int .i64 g, .int .i64 g] 42) := ⟨_, rfl⟩
 have b2 : Below WE.heap.size WE VC := hVC ▸ bal b1 _
 have P1 := hid (PE.read b2)
 have KP1 := hid (PE.kp b2)
 have HKG2 := hid (HKG.out.up b2)
 have HJ := hid (show C5 VC V1.heap.size u g from hVC ▸ C5.new V1 u g)
 clear PE q0 q1 q2 q3 q4 q5 q6 q7 q8 q9
 have q0 : (V1.alloc (.cells #[.int .i64 u, .int .i64 u, .int .i64 u, .int .i64 g, .int .i64 g] 42)).cell? ⟨GG, 0, none⟩ = some (.int .i64 KK) := hVC ▸ HKG2.out.cell 0
 have q2 := (HKG.out.up b1).cell 2
 have q3 := (HKG.out.up b1).cell 3
 clear b1 b2
 go_upto_block 4 with fail
 rw [<- hVC]
 clear q0 q2 q3 hVC
 generalize V1.heap.size = J at *
 obtain ⟨q0, q1, q2, q3, q4, q5, q6, q7, q8, q9⟩ := Blk.k10 HKG2.out
 obtain ⟨c0, c1, c2, c3, c4⟩ := HJ.out
 go_cut [] from 118 to 163 (fun wx => ∃ (t' : T) (n' : Nat), Kpe t t' u g /\ WL (fun q => (q = GG \/ q = JA) \/ (V0.heap.size <= q /\ q < WE.heap.size)) w wx A t' n' /\ Kp (fun q => (q = GG \/ q = JA) \/ (V0.heap.size <= q /\ q < WE.heap.size)) WE wx)
 case first =>
  have h4 : KK = 4 \/ KK = 5 \/ KK = 6 \/ KK = 7 := by omega
  have C4 := hid (wl_mkdir P1.out (by decide) cwd u u u g g s HZ.out m HM.out)
  have C5 := hid (wl_rm P1.out cwd u u u g g s HZ.out (bits .and .i64 n 1 == 1))
  have C6 := hid (wl_link P1.out cwd u u u g g s x HZ.out HZX.out)
  have C7 := hid (wl_ren P1.out cwd u u u g g s x HZ.out HZX.out)
  clear hF HT HKG HKG2 HRE HDE P1
  rcases h4 with rfl | rfl | rfl | rfl
  all_goals
   go_wp2_with fail
   first | with_reducible refine C4.out.mono ?_ | with_reducible refine C5.out.mono ?_ | with_reducible refine C6.out.mono ?_ | with_reducible refine C7.out.mono ?_
   rintro e wz ⟨rfl, p5, k5⟩
   have P5 := hid p5
   have K5 := hid k5
   clear p5 k5 C4 C5 C6 C7
   go_wp2_with fail
   go_meet
   refine ⟨_, _, ?_, P5.out, KP1.out.next K5.out⟩
   first | exact kpe_mkdir _ _ _ _ _ | exact kpe_rm HS.out.sd _ _ _ _ _ | exact kpe_link _ _ _ _ _ | exact kpe_ren HS.out.sd _ _ _ _ _
 obtain ⟨t', n', hK, p4, k4⟩ := hcut
 generalize wc = W4 at *
 have HR4 := hid (HRE.out.of_block (k4 JA (.inl (.inr rfl))))
 have HD4 := hid (HDE.out.mv (w' := W4) (L' := fun q => V0.heap.size <= q) fun q j v hq hc => ⟨hq, k4.cell (.inr ⟨hq, by have h1 : q < WE.heap.size := cell_lt hc; exact h1⟩) hc⟩)
 have HQ2 := hid (show W4.cell? ⟨GG, 2, none⟩ = some (.int .i64 u) from k4.cell (.inl (.inl rfl)) (HKG.out.cell 2))
 have HEND := hid (fun (i : Nat) (a b : Inf) ha hb h1 => kpe_end HS.out.sd p4.s.sd hK (i := i) (a := a) (b := b) ha hb h1)
 have FIN := hid p4.below
 have P4 := hid p4
 have HS4 := hid p4.s.sd
 have START := hid (show oRel W4 (.int .i64 1) W4 from ⟨1, rfl, Nat.le_refl _, by decide, Below.refl _ _⟩)
 clear hK p4 k4 P1 KP1 HKG HKG2 HJ HRE HDE hF HT q0 q1 q2 q3 q4 q5 q6 q7 q8 q9 c0 c1 c2 c3 c4 j1 hk hk1 hk2
 go_wp2_with fail
 go_loopw [18] (fun iv wr => oRel W4 iv wr) (fun iv _ => 201 - (intOf iv).toNat)
 case atStart => exact START.out
 obtain ⟨i, rfl, hi1, hi2, hb⟩ := hrel
 clear START
 by_cases hi : i <= 200
 rotate_left
 ·have i1 : ¬ (i : Int) <= 200 := by omega
  have FIN2 := hid (bnext FIN.out hb)
  clear hb
  go_wp2
  go_ret
  exact ⟨rfl, by first | exact FIN2.out | (rw [hGG]; exact FIN2.out) | (rw [<- hGG]; exact FIN2.out)⟩
 have i1 : (i : Int) <= 200 := by omega
 have i2 : (0 : Int) <= (i : Int) := by omega
 have i3 : (i : Int) < 201 := by omega
 obtain ⟨⟨⟨b0, b1, b2, b3, b4, b5, b6, b7⟩, bb⟩, hsb⟩ : ∃ q, statP t' (i : Int) = q := ⟨_, rfl⟩
 have HST0 := wl_stat (P4.out.read hb) (i : Int)
 rw [hsb] at HST0
 unfold infV at HST0
 simp only at HST0
 have HST := hid HST0
 have HSB := hid hsb
 obtain ⟨⟨dis, np, nn, nc, op, on, oc, dm, dw, dwr⟩, hfi⟩ : ∃ d, f i = d := ⟨_, rfl⟩
 have HY := hid (fun (W : World) (q : Below W4.heap.size W4 W) => D6.of HR4.out hi hfi q)
 have hdi := HD4.out i hi1 (by omega)
 rw [hfi] at hdi
 have HDI := hid hdi
 clear HST0 hsb hfi hdi
 have hc : (bb = true /\ dis = true /\ b1 = 1) \/ bb = false \/ (bb = true /\ dis = false) \/ (bb = true /\ dis = true /\ ((b1 != 1) : Bool) = true) := by
  cases bb
  ·exact .inr (.inl rfl)
  ·cases dis
   ·exact .inr (.inr (.inl ⟨rfl, rfl⟩))
   ·by_cases h : b1 = 1
    ·exact .inl ⟨rfl, rfl, h⟩
    ·exact .inr (.inr (.inr ⟨rfl, rfl, by rw [bne_iff_ne]; exact h⟩))
 rcases hc with ⟨rfl, rfl, rfl⟩ | rfl | ⟨rfl, rfl⟩ | ⟨rfl, rfl, hb2⟩
 ·obtain ⟨hda, hDg⟩ : isDir t i /\ Dg (fun q => V0.heap.size <= q) W4 t u g i ⟨true, np, nn, nc, op, on, oc, dm, dw, dwr⟩ := by
   rcases HDI.out with h | ⟨-, h⟩
   ·exact h
   ·have h2 : (true : Bool) = false := congrArg DI.is h
    cases h2
  have hN : NmR (fun q => V0.heap.size <= q) W4 np nn nc (namesP t (i : Int)) := hDg.2.1
  have hO : OwR (fun q => V0.heap.size <= q) W4 op on oc ((namesP t (i : Int)).map (ownQ t (i : Int))) := hDg.2.2.1
  have hdm : dm = (statP t (i : Int)).1.mode := hDg.2.2.2.1
  have hdw : dw = (statP t (i : Int)).1.owner := hDg.2.2.2.2.1
  have hdwr : dwr = mayQ t (i : Int) u g 2 := hDg.2.2.2.2.2
  have he := HEND.out i _ _ (Prod.ext rfl hda.1) HSB.out rfl
  rw [<- hdm, <- hdw, <- hdwr] at he
  have hl40 := names_len HS.out.sd (i : Int)
  have hsh := fun x hx => names_short HS.out.sd (i := (i : Int)) (x := x) hx
  have HNM := hid (fun W (q : Below W4.heap.size W4 W) => ps_names (WL.to (P4.out.read q)).p HS4.out (i : Int))
  clear hda hDg hdm hdw hdwr HDI
  generalize namesP t (i : Int) = l at *
  generalize ownQ t (i : Int) = fo at *
  generalize namesP t' (i : Int) = l' at *
  have HE := hid he
  have HN := hid hN
  have HO := hid hO
  have HSH := hid hsh
  clear he hN hO hsh
  go_wp2_with fail
  refine HST.out.mono ?_
  rintro e V2 ⟨rfl, p2, k2, bw⟩
  have x1 : (V2.alloc (iO b0 1 b2 b3 b4 b5 b6 b7)).cell? ⟨V2.heap.size, 1, none⟩ = some (.int .i64 1) := top_cell _ _ _ rfl
  obtain ⟨V3, hV3⟩ : ∃ V, V = V2.alloc (iO b0 1 b2 b3 b4 b5 b6 b7) := ⟨_, rfl⟩
  have B3 : Below W4.heap.size W4 V3 := hV3 ▸ bal (bnext hb bw) _
  have HB3 := hid B3
  obtain ⟨y0, y1, y2, y3, y4, y5⟩ := HY.out _ (hV3 ▸ B3 : Below W4.heap.size W4 (V2.alloc (iO b0 1 b2 b3 b4 b5 b6 b7)))
  clear p2 k2 bw HST B3
  go_wp2_with fail
  rw [<- hV3]
  clear x1 hV3 y0 y1 y2 y3 y4 y5
  generalize V2.heap.size = X at *
  refine (HNM.out _ HB3.out).mono ?_
  rintro e w5 ⟨v, rfl, r5, -, bw⟩
  obtain ⟨pm, cm, rfl, n5⟩ := RwR.of r5
  have B5 := bnext HB3.out bw
  obtain ⟨y0, y1, y2, y3, y4, y5⟩ := HY.out _ B5
  have HSM := hid (same_any _ _ l' l w5 (NmR.rd n5) (NmR.rd (HN.out.mv (w' := w5) (L' := fun q => V0.heap.size <= q) fun q j v hq hc => ⟨hq, up1 hc B5⟩)))
  have HB5 := hid B5
  clear bw r5 n5 B5 HB3
  go_wp2_with fail
  refine HSM.out.mono ?_
  rintro e w6 ⟨rfl, nd, rfl⟩
  have B6 : Below W4.heap.size W4 (w5.drewN nd) := bnext HB5.out (Dr.below ⟨nd, rfl⟩)
  obtain ⟨V6, hV6⟩ : ∃ V, V = w5.drewN nd := ⟨_, rfl⟩
  rw [<- hV6] at B6 ⊢
  clear hV6 HSM HB5 y0 y1 y2 y3 y4 y5
  have hdq : decide (l' = l) = true \/ dwr = true := HE.out.1.imp (fun h => decide_eq_true h) id
  generalize decide (l' = l) = dq at *
  obtain ⟨y0, y1, y2, y3, y4, y5⟩ := HY.out _ B6
  have HB6 := hid B6
  clear B6
  go_upto_region 38 with fail
  go_cut [205] from 164 to 205 (fun c wx => c = .bool false /\ wx = V6)
  case first =>
   cases dq
   ·obtain rfl : dwr = true := by rcases hdq with h | h; cases h; exact h
    go_wp2_with fail
    go_meet
    exact ⟨rfl, rfl⟩
   ·go_wp2_with fail
    go_meet
    exact ⟨rfl, rfl⟩
  obtain ⟨rfl, rfl⟩ := hcut
  clear y0 y1 y2 y3 y4 y5 hdq
  have START := hid (show qRel W4 l.length (.int .i64 0) wc from ⟨0, rfl, Nat.zero_le _, HB6.out⟩)
  go_wp2_with fail
  go_loopw [23] (fun jv wr => qRel W4 l.length jv wr) (fun jv _ => l.length - (intOf jv).toNat)
  case atStart => exact START.out
  obtain ⟨j, rfl, hj, hb3⟩ := hrel
  clear START
  have hnn : nn = l.length := HN.out.1
  have hon : on = l.length := by rw [HO.out.1, List.length_map]
  subst hnn hon
  obtain ⟨y0, y1, y2, y3, y4, y5⟩ := HY.out _ hb3
  have HB3 := hid hb3
  by_cases hlt : j < l.length
  rotate_left
  ·have j2 : ¬ (j : Int) < (l.length : Int) := by omega
   have REL := hid (show oRel W4 (.int .i64 ((i + 1 : Nat) : Int)) wr from ⟨i + 1, rfl, by omega, by omega, hb3⟩)
   clear hb3
   go_wp2
   go_roundw
   case rel => exact REL.out
   case measure => simp [intOf]; omega
  obtain ⟨xn, hxn⟩ : ∃ y, l[j]? = some y := ⟨_, List.getElem?_eq_getElem hlt⟩
  obtain ⟨bn, rfl, -, hcn⟩ := HN.out.2.2.2 j xn hxn
  obtain ⟨bo, rfl, -, hco⟩ := HO.out.2.2.2 j (fo xn) (by rw [List.getElem?_map, hxn]; rfl)
  have r1 := up1 hcn hb3
  have r2 := up1 hco hb3
  have r3 := up1 HQ2.out hb3
  unfold strC at r1
  have hmem : xn ∈ l := List.mem_of_getElem? hxn
  have hx14 := HSH.out xn hmem
  have hst := HE.out.2 xn hmem
  have HLK0 := ps_look (WL.to (P4.out.read hb3)).p HS4.out (i : Int) ⟨xn.toArray⟩ (by show xn.length <= maxLen; unfold maxLen; omega)
  rw [show (⟨xn.toArray⟩ : ByteArray).data.toList = xn from rfl] at HLK0
  generalize lookP t' (i : Int) xn = lk at *
  obtain ⟨yn, st⟩ := lk
  unfold lookV at HLK0
  simp only at HLK0 hst
  have HLK := hid HLK0
  have HST2 := hid hst
  have j1 : (0 : Int) <= (j : Int) := by omega
  have j2 : (j : Int) < (l.length : Int) := by omega
  generalize (⟨xn.toArray⟩ : ByteArray) = xs at *
  generalize fo xn = ow at *
  clear hmem hx14 hst HLK0 hcn hco hxn hb3
  go_wp2_with fail
  refine HLK.out.mono ?_
  rintro e w7 ⟨rfl, rfl⟩
  clear HLK
  go_upto_region 44 with fail
  go_cut [26] from 228 to 259 (fun c wx => ∃ q, c = .bool q /\ (st = true \/ q = true) /\ Below W4.heap.size W4 wx)
  case first =>
   have hs := HST2.out
   have f1 : ((bits .and .i64 dm 512 == 0) : Bool) = decide (bits .and .i64 dm 512 = 0) := rfl
   obtain ⟨p1, h1⟩ : ∃ p, ((bits .and .i64 dm 512 == 0) : Bool) = p := ⟨_, rfl⟩
   obtain ⟨p2, h2⟩ : ∃ p, ((u == 0) : Bool) = p := ⟨_, rfl⟩
   obtain ⟨p3, h3⟩ : ∃ p, ((u == dw) : Bool) = p := ⟨_, rfl⟩
   obtain ⟨p4, h4⟩ : ∃ p, ((u == ow) : Bool) = p := ⟨_, rfl⟩
   have hq : st = true \/ p1 = true \/ p2 = true \/ p3 = true \/ p4 = true := by
    rcases hs with h | h | h | h | h
    ·exact .inl h
    ·exact .inr (.inl (by rw [<- h1]; simp [h]))
    ·exact .inr (.inr (.inl (by rw [<- h2]; simp [h])))
    ·exact .inr (.inr (.inr (.inl (by rw [<- h3]; simp [h]))))
    ·exact .inr (.inr (.inr (.inr (by rw [<- h4]; simp [h]))))
   clear f1 hs
   rcases p1 with _ | _
   rcases p2 with _ | _
   rcases p3 with _ | _
   rcases p4 with _ | _
   all_goals
    go_wp2_with fail
    go_quiet (fail)
    go_wp2_with fail
    go_meet
    exact ⟨_, rfl, by first | exact .inr rfl | (rcases hq with h | h | h | h | h; exact .inl h; all_goals cases h), by first | exact HB3.out | exact bnext HB3.out (Dr.below ⟨_, rfl⟩)⟩
  obtain ⟨q, rfl, hq, hb4⟩ := hcut
  have REL := hid (show qRel W4 l.length (.int .i64 ((j + 1 : Nat) : Int)) wc from ⟨j + 1, rfl, by omega, hb4⟩)
  cases st
  ·obtain rfl : q = true := by rcases hq with h | h; cases h; exact h
   go_wp2
   go_roundw
   case rel => exact REL.out
   case measure => simp [intOf]; omega
  ·go_wp2
   go_roundw
   case rel => exact REL.out
   case measure => simp [intOf]; omega
 all_goals
  go_wp2_with fail
  refine HST.out.mono ?_
  rintro e V2 ⟨rfl, p2, k2, bw⟩
  have x1 : (V2.alloc (iO b0 b1 b2 b3 b4 b5 b6 b7)).cell? ⟨V2.heap.size, 1, none⟩ = some (.int .i64 b1) := top_cell _ _ _ rfl
  have B2 : Below W4.heap.size W4 (V2.alloc (iO b0 b1 b2 b3 b4 b5 b6 b7)) := bal (bnext hb bw) _
  have REL := hid (show oRel W4 (.int .i64 ((i + 1 : Nat) : Int)) _ from ⟨i + 1, rfl, by omega, by omega, B2⟩)
  obtain ⟨y0, y1, y2, y3, y4, y5⟩ := HY.out _ B2
  clear p2 k2 bw HST B2
  go_wp2
  go_roundw
  case rel => exact REL.out
  case measure => simp [intOf]; omega
end
end Go.Proofs.YtlpececggkdhmaaGreat
