import Derived.RangeFuncNested
import Derived.RangeFuncBound
import Derived.RangeFuncCalls
import Derived.RangeFuncLeaves
import Derived.RangeFuncBox
import Derived.Shelf.Abstract
import Derived.Shelf.RegionOpen
import Derived.WalkKit
import Derived.OwnWalkIn
import Derived.TacticsInMore
import Derived.LoopNIn
import Derived.LoopIn
import Derived.Maps.AppendAt
import Derived.Test.YtlpececggkdhmaaGreatM24
open Go.Lib (hid)
set_option linter.unusedVariables false
set_option linter.unusedSimpArgs false
namespace Go.Proofs.YtlpececggkdhmaaGreat.Pa
open Go.RowKit Go.Shelf
attribute [local go_sem] Oper.semAt_some
theorem names_in (n : Nat) (s : ByteArray) (w : World) :
 CallsIn Fence.wide n Tryz.prog 102 #[.string s] w fun e w' => e = .returned (.func (.func 129) #[] #[.pointer (some ⟨w.heap.size, 0, none⟩)]) ∧ w' = w.alloc (.cells #[.string s] 9) := by
 refine callsIn_of_wp Tryz.func102 rfl trivial ?_ rfl
 simp only [Tryz.ntmps102, List.size_toArray, List.length_cons, List.length_nil, Nat.reduceAdd, Nat.reduceSub, Array.replicate_succ, Array.replicate_zero, List.push_toArray, List.append_toArray, List.nil_append, List.cons_append]
 gi_wp2
 go_ret
 exact ⟨rfl, rfl⟩
theorem nam_head (t : List UInt8) : nam t = (if keepN (headP t) = true then [headP t] else []) ++ (if moreP t = true then nam (restP t) else []) := by
 unfold nam moreP restP
 by_cases h : (headP t).length < t.length
 ·rw [spl_head t h, List.filter_cons, decide_eq_true h, if_pos rfl]
  by_cases hk : keepN (headP t) = true
  ·rw [if_pos hk, if_pos hk]; rfl
  ·rw [if_neg hk, if_neg hk]; rfl
 ·have hl : (headP t).length = t.length := by have := headP_len t; omega
  rw [spl_last t hl, decide_eq_false h, headP_all t hl, List.filter_cons]
  simp
theorem abides_dr {J : List (List UInt8) → World → Prop} {B : Nat} (hJ : AbidesFrom B J) {pre : List (List UInt8)} {W W' : World} (h : J pre W) (hd : Dr W W') : J pre W' := by
 obtain ⟨n, rfl⟩ := hd
 exact hJ pre W _ none h ⟨rfl, rfl, rfl, Nat.le_refl _, fun _ _ _ => rfl⟩ (fun r e => by cases e)
def itRel (l : List UInt8) (J : List (List UInt8) → World → Prop) (rest more : Value) (wr : World) : Prop :=
 ∃ (pre : List (List UInt8)) (t : ByteArray) (b : Bool), rest = .string t ∧ more = .bool b ∧ t.size ≤ maxLen ∧ (if b = true then nam l = pre ++ nam t.data.toList else nam l = pre) ∧ J pre wr
def itLeft : Value → Value → Nat
 | .string t, .bool true => t.size + 1
 | _, _ => 0
theorem it_more (m : Bool) (L pre R : List (List UInt8)) (h : L = pre ++ (if m = true then R else [])) : if m = true then L = pre ++ R else L = pre := by
 cases m
 ·exact h.trans (List.append_nil _)
 ·exact h
set_option maxRecDepth 100000 in
set_option maxHeartbeats 1000000 in
theorem it1_in (n : Nat) (hn : 1 ≤ n) (l Bn : Nat) (s : ByteArray) (hs : s.size ≤ maxLen) (J Jx : List (List UInt8) → World → Prop) (B0 : Nat) (hJ : AbidesFrom B0 J) (Kp : World → World → Prop)
 (hY : ∀ pre x W, J pre W → pre.length < (nam s.data.toList).length → YieldAt Fence.wide (n - 1) Tryz.prog l #[.string ⟨x.toArray⟩] W fun e W' =>
   (e = .returned (.bool true) ∧ J (pre ++ [x]) W' ∧ Kp W W') ∨ (e = .returned (.bool false) ∧ Jx (pre ++ [x]) W'))
 (W : World) (hBn : W.cell? ⟨Bn, 0, none⟩ = some (.string s)) (h0 : J [] W) :
 CallsIn Fence.wide n Tryz.prog 129 #[.func (.yield l) #[] #[], .pointer (some ⟨Bn, 0, none⟩)] W fun e W' => (∃ v, e = .returned v) ∧
  ((∃ ys, ys = nam s.data.toList ∧ J ys W') ∨ (∃ pre, pre <+: nam s.data.toList ∧ Jx pre W')) := by
 refine callsIn_of_wp Tryz.func129 rfl trivial ?_ rfl
 simp only [Tryz.ntmps129, List.size_toArray, List.length_cons, List.length_nil, Nat.reduceAdd, Nat.reduceSub, Array.replicate_succ, Array.replicate_zero, List.push_toArray, List.append_toArray, List.nil_append, List.cons_append]
 gi_wp2
 gi_loopw [3, 4] (fun r m wr => itRel s.data.toList J r m wr) (fun r m _ => itLeft r m)
 case atStart => exact ⟨[], s, true, rfl, rfl, hs, rfl, h0⟩
 case round =>
  obtain ⟨pre, t, b, rfl, rfl, ht, hx, hJs⟩ := hrel
  cases b
  ·replace hx : nam s.data.toList = pre := hx
   gi_wp2
   go_end0
   exact ⟨⟨_, rfl⟩, .inl ⟨pre, hx.symm, hJs⟩⟩
  ·replace hx : nam s.data.toList = pre ++ nam t.data.toList := hx
   have hlt := headP_len t.data.toList
   obtain ⟨a, ha⟩ : ∃ a : ByteArray, (⟨(headP t.data.toList).toArray⟩ : ByteArray) = a := ⟨_, rfl⟩
   obtain ⟨r, hr⟩ : ∃ r : ByteArray, (⟨(restP t.data.toList).toArray⟩ : ByteArray) = r := ⟨_, rfl⟩
   obtain ⟨m, hm⟩ : ∃ m : Bool, moreP t.data.toList = m := ⟨_, rfl⟩
   have hal : a.data.toList = headP t.data.toList := by rw [← ha]
   have hrl : r.data.toList = restP t.data.toList := by rw [← hr]
   have hrs : r.size ≤ t.size := by
    have : r.data.toList.length ≤ t.data.toList.length := by rw [hrl]; unfold restP; rw [List.length_drop]; omega
    rw [size_len, size_len] at this; exact this
   have hrm : m = true → r.size < t.size := by
    intro e
    rw [e] at hm
    have h1 : (headP t.data.toList).length < t.data.toList.length := by unfold moreP at hm; exact of_decide_eq_true hm
    have : r.data.toList.length < t.data.toList.length := by rw [hrl]; unfold restP; rw [List.length_drop]; omega
    rw [size_len, size_len] at this; exact this
   have hC : ∀ w : World, Calls Tryz.prog 130 #[.string t, .string ⟨#[47]⟩] w fun e w' => e = .returned (.tuple #[.string a, .string r, .bool m]) ∧ Dr w w' := by
    intro w
    have := cut_any t ht w
    rw [ha, hr, hm] at this
    exact this
   rw [nam_head t.data.toList, hm, ← hal, ← hrl] at hx
   have Hm := hid (show itLeft (.string r) (.bool m) < t.size + 1 by
    cases m
    ·exact Nat.succ_pos _
    ·have := hrm rfl; show r.size + 1 < t.size + 1; omega)
   have hrs' : r.size ≤ maxLen := Nat.le_trans hrs ht
   have HC := hid hC
   clear ha hr hm hal hrl hrs hrm hC hlt
   cases he : a.toList.isEmpty
   ·cases hd : (a.toList == [46])
    ·have hk : keepN a.data.toList = true := by
      unfold keepN
      rw [ByteArray.toList_eq] at he hd
      rw [bne, bne, hd]
      cases hh : a.data.toList with
      | nil => rw [hh] at he; cases he
      | cons x y => rfl
     have Hx := hid (show nam s.data.toList = (pre ++ [a.data.toList]) ++ (if m = true then nam r.data.toList else []) by rw [hx, if_pos hk, List.append_assoc])
     clear hx hk
     have hlen : pre.length < (nam s.data.toList).length := by rw [Hx.out]; simp
     gi_wp2_with (refine ⟨trivial, ?_⟩; gi_at_call 130; refine (callsIn_wide.2 (HC.out _)).mono ?_; rintro e w' ⟨rfl, nd, rfl⟩)
     have hJ2 := abides_dr hJ hJs ⟨nd, rfl⟩
     have hY2 := hY pre a.data.toList _ hJ2 hlen
     rw [Lib.mk_data] at hY2
     obtain ⟨fn, tmps, assign, body, hy, hR⟩ := hY2
     clear hlen
     rw [hy]
     gi_wp2
     refine hR.mono ?_
     rintro e W3 (⟨rfl, hJ3, hk3⟩ | ⟨rfl, hJx3⟩)
     ·gi_wp2
      go_roundw
      case rel => exact ⟨_, r, m, rfl, rfl, hrs', it_more _ _ _ _ Hx.out, hJ3⟩
      case measure => exact Hm.out
     ·gi_wp2
      refine bodyPost_ret (results_none rfl _ _ _) rfl ?_
      exact ⟨⟨_, rfl⟩, .inr ⟨_, ⟨_, Hx.out.symm⟩, hJx3⟩⟩
    ·have hk : keepN a.data.toList = false := by
      unfold keepN
      rw [ByteArray.toList_eq] at hd
      rw [bne, bne, hd]
      cases (a.data.toList == []) <;> rfl
     have Hx := hid (show nam s.data.toList = pre ++ (if m = true then nam r.data.toList else []) by rw [hx, hk]; rfl)
     clear hx hk
     gi_wp2_with (refine ⟨trivial, ?_⟩; gi_at_call 130; refine (callsIn_wide.2 (HC.out _)).mono ?_; rintro e w' ⟨rfl, nd, rfl⟩)
     have hJ2 := abides_dr hJ hJs ⟨nd, rfl⟩
     go_roundw
     case rel => exact ⟨_, r, m, rfl, rfl, hrs', it_more _ _ _ _ Hx.out, hJ2⟩
     case measure => exact Hm.out
   ·have hk : keepN a.data.toList = false := by
     unfold keepN
     rw [ByteArray.toList_eq] at he
     rw [List.isEmpty_iff.1 he]; rfl
    have Hx := hid (show nam s.data.toList = pre ++ (if m = true then nam r.data.toList else []) by rw [hx, hk]; rfl)
    clear hx hk
    gi_wp2_with (refine ⟨trivial, ?_⟩; gi_at_call 130; refine (callsIn_wide.2 (HC.out _)).mono ?_; rintro e w' ⟨rfl, nd, rfl⟩)
    have hJ2 := abides_dr hJ hJs ⟨nd, rfl⟩
    go_roundw
    case rel => exact ⟨_, r, m, rfl, rfl, hrs', it_more _ _ _ _ Hx.out, hJ2⟩
    case measure => exact Hm.out
theorem it_stops (n : Nat) (hn : 1 ≤ n) (Bn n₀ : Nat) (s : ByteArray) (hs : s.size ≤ maxLen) (w : World) (hBn : Bn < w.heap.size) (hc : w.cell? ⟨Bn, 0, none⟩ = some (.string s)) :
 SeqStopsK Fence.wide n Tryz.prog 129 #[.pointer (some ⟨Bn, 0, none⟩)] (fun x : List UInt8 => #[Value.string ⟨x.toArray⟩]) (Below n₀) (fun ys => ys = nam s.data.toList) (fun pre => pre <+: nam s.data.toList) (nam s.data.toList).length w := fun l J Jx W hW hJ _ hY h0 =>
 it1_in n hn l Bn s hs J Jx W.heap.size hJ (Below n₀) hY W ((hW.cell (p := ⟨Bn, 0, none⟩) hBn).trans hc) h0
end Go.Proofs.YtlpececggkdhmaaGreat.Pa
namespace Go.Proofs.YtlpececggkdhmaaGreat.Pa
open Go.RowKit Go.Shelf
def st4 (W : World) (B : Nat) (a b c e : Value) : World :=
 (((W.setCell ⟨B, 0, none⟩ a).setCell ⟨B, 1, none⟩ b).setCell ⟨B, 2, none⟩ c).setCell ⟨B + 1, 0, none⟩ e
theorem st4_all {W : World} {B n : Nat} {a0 b0 c0 e0 : Value} (h : Blk W B 95 #[a0, b0, c0]) (g : Blk W (B + 1) 38 #[e0]) (hn : n ≤ B) (a b c e : Value) :
 Blk (st4 W B a b c e) B 95 #[a, b, c] ∧ Blk (st4 W B a b c e) (B + 1) 38 #[e] ∧ KeepsOthers W (st4 W B a b c e) ∧ Below n W (st4 W B a b c e) := by
 refine ⟨?_, ?_, ?_, ?_⟩
 ·exact (((h.set 0 a).set 1 b).set 2 c).other _ _ _ (by omega)
 ·exact (((g.other B 0 a (by omega)).other B 1 b (by omega)).other B 2 c (by omega)).set 0 e
 ·exact ((((KeepsOthers.setCell _ _ _).trans (KeepsOthers.setCell _ _ _)).trans (KeepsOthers.setCell _ _ _)).trans (KeepsOthers.setCell _ _ _))
 ·exact ((((Below.refl n W).setCell (p := ⟨B, 0, none⟩) hn _).setCell (p := ⟨B, 1, none⟩) hn _).setCell (p := ⟨B, 2, none⟩) hn _).setCell (p := ⟨B + 1, 0, none⟩) (by show n ≤ B + 1; omega) _
theorem st4_row {W : World} {B base : Nat} {a0 b0 c0 e0 : Value} (h : Blk W B 95 #[a0, b0, c0]) (g : Blk W (B + 1) 38 #[e0]) (a b c e : Value) {t : TypeId} {size k : Nat} {v : Value} {xs : List Value}
 (h1 : 95 ≠ t) (h2 : 38 ≠ t) (hr : W.ownsRow base t size v k xs) : (st4 W B a b c e).ownsRow base t size v k xs :=
 row_other (row_other (row_other (row_other hr h h1 0 a) (h.set 0 a) h1 1 b) ((h.set 0 a).set 1 b) h1 2 c) (((g.other B 0 a (by omega)).other B 1 b (by omega)).other B 2 c (by omega)) h2 0 e
end Go.Proofs.YtlpececggkdhmaaGreat.Pa
