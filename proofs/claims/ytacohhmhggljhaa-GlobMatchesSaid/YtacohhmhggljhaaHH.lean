/- The iterator over a pattern's parts. -/
import Derived.RangeFuncNested
import Derived.RangeFuncBound
import Derived.RangeFuncCalls
import Derived.RangeFuncLeaves
import Derived.RangeFuncBox
import Derived.Shelf.Abstract
import Derived.Shelf.RegionOpen
import Derived.OwnWalkIn
import Derived.TacticsInMore
import Derived.LoopNIn
import Derived.LoopIn
import Derived.Maps.AppendAt
import Derived.Test.YtacohhmhggljhaaHG
namespace Go.Proofs.Ytacohhmhggljhaa
open Go.RowKit Go.Shelf
set_option linter.unusedVariables false
set_option linter.unusedSimpArgs false
attribute [local go_sem] Oper.semAt_some
theorem parts_in (n : Nat) (s : ByteArray) (w : World) :
    CallsIn Fence.wide n Try.prog 19 #[.string s] w fun e w' => e = .returned (.func (.func 26) #[] #[.pointer (some ⟨w.heap.size, 0, none⟩)]) ∧ w' = w.alloc (.cells #[.string s] 9) := by
  refine callsIn_of_wp Try.func19 rfl trivial ?_ rfl
  simp only [Try.ntmps19, List.size_toArray, List.length_cons, List.length_nil, Nat.reduceAdd, Nat.reduceSub, Array.replicate_succ, Array.replicate_zero, List.push_toArray, List.append_toArray, List.nil_append, List.cons_append]
  gi_wp2
  go_ret
  exact ⟨rfl, rfl⟩
theorem grown_below {B : Nat} {W W' : World} (h : Below B W W') (hB : W.heap.size ≤ B) : W.grownBy W' none := ⟨h.os, h.tape, h.output, h.size, fun k hk _ => h.block k (Nat.lt_of_lt_of_le hk hB)⟩
theorem abides_bel {α : Type} {J : List α → World → Prop} {B : Nat} (hJ : AbidesFrom B J) {pre : List α} {W W' : World} (h : J pre W) (hb : Below W.heap.size W W') : J pre W' :=
  hJ pre W _ none h (grown_below hb (Nat.le_refl _)) (fun r e => by cases e)
/-- the box of the pattern is kept. -/
def KpB (Bn : Nat) (s : ByteArray) (W W' : World) : Prop := Blk W Bn 9 #[.string s] → Blk W' Bn 9 #[.string s]
def itRel (s : ByteArray) (Bn : Nat) (J : List Prt → World → Prop) (at_ : Value) (wr : World) : Prop :=
  ∃ (pre : List Prt) (ts : List Tok) (k : Nat), at_ = .int .i64 k ∧ Rch s k ts ∧ parts (toks s.data.toList) = pre ++ parts ts ∧ J pre wr ∧ Blk wr Bn 9 #[.string s]
theorem Rch.take {s : ByteArray} {k : Nat} {ts : List Tok} (h : Rch s k ts) (n : Nat) : Rch s (k + lenT (ts.take n)) (ts.drop n) := by
  refine Rch.skip (a := ts.take n) ?_
  rw [List.take_append_drop]; exact h
set_option maxRecDepth 100000 in
set_option maxHeartbeats 1000000 in
theorem it1_in (n : Nat) (hn : 1 ≤ n) (l Bn : Nat) (s : ByteArray) (hs : s.size ≤ 70368744177664) (J Jx : List Prt → World → Prop) (B0 : Nat) (hJ : AbidesFrom B0 J)
    (hY : ∀ pre x W, J pre W → pre.length < (parts (toks s.data.toList)).length → YieldAt Fence.wide (n - 1) Try.prog l #[prtV x] W fun e W' =>
      (e = .returned (.bool true) ∧ J (pre ++ [x]) W' ∧ KpB Bn s W W') ∨ (e = .returned (.bool false) ∧ Jx (pre ++ [x]) W'))
    (W : World) (hBn : Blk W Bn 9 #[.string s]) (h0 : J [] W) :
    CallsIn Fence.wide n Try.prog 26 #[.func (.yield l) #[] #[], .pointer (some ⟨Bn, 0, none⟩)] W fun e W' => (∃ v, e = .returned v) ∧
      ((∃ ys, ys = parts (toks s.data.toList) ∧ J ys W') ∨ (∃ pre, pre <+: parts (toks s.data.toList) ∧ Jx pre W')) := by
  have HL := Lib.hid (lastClose_any s (by unfold maxLen; omega) W)
  have HP := Lib.hid (fun k t r (h : Rch s k (t :: r)) w => partAt_any s k t r hs h w)
  generalize hz : lastI (toks s.data.toList) = z at *
  have hc0 := hBn.cell 0
  simp only [List.getElem?_toArray, List.getElem?_cons_zero] at hc0
  refine callsIn_of_wp Try.func26 rfl trivial ?_ rfl
  simp only [Try.ntmps26, List.size_toArray, List.length_cons, List.length_nil, Nat.reduceAdd, Nat.reduceSub, Array.replicate_succ, Array.replicate_zero, List.push_toArray, List.append_toArray, List.nil_append, List.cons_append]
  clear hz
  gi_wp2_with (refine ⟨trivial, ?_⟩; gi_at_call 27; refine (callsIn_wide.2 HL.out).mono ?_; rintro e w' ⟨rfl, rfl⟩)
  clear hc0
  gi_loopw [4, 5, 6] (fun i a b wr => itRel s Bn J i wr) (fun i _ _ _ => s.size - (intOf i).toNat)
  case atStart => exact ⟨[], toks s.data.toList, 0, rfl, Rch.start s, rfl, h0, hBn⟩
  case round =>
    obtain ⟨pre, ts, k, rfl, hR, hp, hJs, hB⟩ := hrel
    have hc1 := hB.cell 0
    simp only [List.getElem?_toArray, List.getElem?_cons_zero] at hc1
    cases ts with
    | nil =>
      have he := hR.at_.end
      have Hp := Lib.hid (show parts (toks s.data.toList) = pre by rw [hp]; exact List.append_nil _)
      subst he
      clear hp hR
      gi_wp2
      go_end0
      exact ⟨⟨_, rfl⟩, .inl ⟨pre, Hp.out.symm, hJs⟩⟩
    | cons t r =>
      have hlt := hR.at_.lt
      have hnx := hR.take (partT (t :: r)).2
      have hle := hnx.at_.1
      have HN := Lib.hid hnx
      have Hp := Lib.hid (show parts (toks s.data.toList) = (pre ++ [(partT (t :: r)).1]) ++ parts ((t :: r).drop (partT (t :: r)).2) by rw [hp, parts_cons]; simp)
      have hlen : pre.length < (parts (toks s.data.toList)).length := by rw [Hp.out]; simp
      have hpos : 1 ≤ lenT ((t :: r).take (partT (t :: r)).2) := by
        have := partT_pos (t :: r)
        obtain ⟨m, hm⟩ : ∃ m, (partT (t :: r)).2 = m + 1 := ⟨_, (Nat.succ_pred_eq_of_pos this).symm⟩
        rw [hm, List.take_succ_cons]; exact lenT_pos _ _
      have HPk := Lib.hid (HP.out k t r hR)
      have Hlen := Lib.hid hlen
      clear hnx hp hR hlen
      generalize (partT (t :: r)).1 = x at *
      generalize lenT ((t :: r).take (partT (t :: r)).2) = d at *
      generalize (t :: r).drop (partT (t :: r)).2 = ts at *
      have HX := Lib.hid (show prtV x = .agg #[.bool x.many, .bool x.special, wd x.set 0, wd x.set 1, wd x.set 2, wd x.set 3] from rfl)
      have HPj := Lib.hid (fun w => (show Calls Try.prog 28 #[.string s, .int .i64 k, .int .i64 z] w fun e w' => e = .returned (.tuple #[.agg #[.bool x.many, .bool x.special, wd x.set 0, wd x.set 1, wd x.set 2, wd x.set 3], .int .i64 d]) ∧ Below w.heap.size w w' from HPk.out w))
      clear HPk
      have HY := Lib.hid (fun W' (h1 : J pre W') => (show YieldAt Fence.wide (n - 1) Try.prog l #[.agg #[.bool x.many, .bool x.special, wd x.set 0, wd x.set 1, wd x.set 2, wd x.set 3]] W' _ from hY pre x W' h1 Hlen.out))
      unfold wd at *
      generalize word x.set 0 = v0 at *
      generalize word x.set 1 = v1 at *
      generalize word x.set 2 = v2 at *
      generalize word x.set 3 = v3 at *
      gi_wp2_with (refine ⟨trivial, ?_⟩; gi_at_call 28; (with_reducible refine (callsIn_wide.2 (HPj.out _)).mono ?_); rintro e w1 ⟨rfl, hb1⟩)
      have hb2 := hb1.alloc hb1.size (.cells #[.bool x.many, .bool x.special, .int .u64 v0, .int .u64 v1, .int .u64 v2, .int .u64 v3] 39)
      have hJ2 := abides_bel hJ hJs hb2
      have hB2 := hB.later hb2
      obtain ⟨fn, tmps, assign, body, hy, hRd⟩ := HY.out _ hJ2
      rw [hy]
      gi_wp2
      refine hRd.mono ?_
      rintro e W3 (⟨rfl, hJ3, hk3⟩ | ⟨rfl, hJx3⟩)
      · have hB3 := hk3 hB2
        clear hk3 hy hRd
        gi_wp2
        go_roundw
        case rel => exact ⟨_, ts, k + d, by go_num, HN.out, Hp.out, hJ3, hB3⟩
        case measure => simp [intOf]; omega
      · clear hy hRd
        gi_wp2
        refine bodyPost_ret (results_none rfl _ _ _) rfl ?_
        exact ⟨⟨_, rfl⟩, .inr ⟨_, ⟨_, Hp.out.symm⟩, hJx3⟩⟩
theorem it_stops (n : Nat) (hn : 1 ≤ n) (Bn : Nat) (s : ByteArray) (hs : s.size ≤ 70368744177664) (w : World) (hc : Blk w Bn 9 #[.string s]) :
    SeqStopsK Fence.wide n Try.prog 26 #[.pointer (some ⟨Bn, 0, none⟩)] (fun x : Prt => #[prtV x]) (KpB Bn s) (fun ys => ys = parts (toks s.data.toList)) (fun pre => pre <+: parts (toks s.data.toList)) (parts (toks s.data.toList)).length w := fun l J Jx W hW hJ _ hY h0 =>
  it1_in n hn l Bn s hs J Jx W.heap.size hJ hY W (hc.below hW hc.lt) h0
theorem Blk.putObj {W : World} {B l : Nat} {t : TypeId} {cs : Array Value} {o : Obj} (h : Blk W B t cs) (o' : Obj) (hl : W.heap[l]? = some o) (ho : o.isCells = false) : Blk (W.putObj l o') B t cs :=
  h.kept (grownBy_putObj' W l o') (fun e => by
    obtain rfl := Option.some.inj e
    rw [show W.heap[B]? = _ from h] at hl; cases hl; cases ho)
theorem kpb_t {Bn : Nat} {s : ByteArray} {A B C : World} (h : KpB Bn s A B) (k : KpB Bn s B C) : KpB Bn s A C := fun x => k (h x)
theorem kpb_b (Bn : Nat) (s : ByteArray) (W : World) (l : Nat) (o o' : Obj) (hl : W.heap[l]? = some o) (ho : o.isCells = false) : KpB Bn s W (W.putObj l o') := fun x => x.putObj o' hl ho
theorem blk_own {β : Type} (B : Nat) (t : TypeId) (f : β → Array Value) : Own (fun s W => Blk W B t (f s)) := fun s X Y row h hg hrow =>
  h.kept hg (fun e => by
    obtain ⟨o, ho, hc⟩ := hrow B e.symm
    rw [show X.heap[B]? = _ from h] at ho; cases ho; cases hc)
theorem Own.and2 {β : Type} {I J : β → World → Prop} (h : Own I) (g : Own J) : Own (fun s W => I s W ∧ J s W) := fun s A B row hs hg hr => ⟨h s A B row hs.1 hg hr, g s A B row hs.2 hg hr⟩
theorem own_pure {β : Type} (p : β → Prop) : Own (fun (s : β) (_ : World) => p s) := fun _ _ _ _ hs _ _ => hs
end Go.Proofs.Ytacohhmhggljhaa
