/- Contract of the document's user: a line tells its user. -/
import Derived.Test.YtjopmchbphjliaaGreatDoorRI
import Derived.StillTailTactics
namespace Go.Proofs.YtjopmchbphjliaaGreatDoor
open Go.RowKit Go.Shelf
set_option linter.unusedVariables false

theorem ruser_res (W : World) (B : Nat) (u : Usr) (b : Bool) (h : UBlk W B u) (tmps : Array Value) (h4 : tmps.getD 2 undef = .pointer (some ⟨B, 0, none⟩)) (h5 : tmps.getD 3 undef = .bool b) :
    (results Tryz.f20 tmps).run Tryz.prog W = .ok (.tuple #[u.val, .bool b]) W := by
  obtain ⟨c0, c1, c2, c3, c4, c5⟩ := h.at
  simp only [Array.getD_eq_getD_getElem?] at h4 h5
  simp only [results, Tryz.f20, Usr.val]
  simp [go_sem, h4, h5, c0, c1, c2, c3, c4, c5]
theorem ruser_zero {w W : World} {B : Nat} {x : ByteArray} (hr : userS x = none) (hu : UBlk W B noUsr) (hb : Below w.heap.size w W) (hB : w.heap.size ≤ B) (tmps : Array Value) (h4 : tmps.getD 2 undef = .pointer (some ⟨B, 0, none⟩)) (h5 : tmps.getD 3 undef = .bool false) :
    bodyPost Tryz.prog Tryz.f20 (fun e w' => e = .returned (optV (userS x)) ∧ Below w.heap.size w w') Exit.ret { tmps := tmps, defers := [] } (st0 W B) := by
  have hu3 : UBlk (st0 W B) B noUsr := st6_blk hu _ _ _ _ _ _
  have hb3 := hb.trans (st6_below W hB (.string ⟨#[]⟩) (.string ⟨#[]⟩) (.int .i64 0) (.int .i64 0) (.string ⟨#[]⟩) (.string ⟨#[]⟩))
  exact bodyPost_ret (ruser_res _ _ noUsr _ hu3 _ h4 h5) rfl ⟨by rw [hr]; rfl, hb3⟩
theorem rnum_at (s : ByteArray) (hs : s.size ≤ maxLen) (i : Int) (hi : numI s.data.toList = i) (w : World) :
    Calls Tryz.prog 35 #[.string s] w fun e w' => e = .returned (.int .i64 i) ∧ w = w' := by subst hi; exact rnumber_any s hs w
def cuRel (s : ByteArray) (B : Nat) (w : World) (ov fv iv : Value) (wr : World) : Prop :=
  ∃ (f i : Nat) (out : List (List UInt8)), f ≤ i ∧ i ≤ s.size + 1 ∧ fv = .int .i64 f ∧ iv = .int .i64 i ∧ out.length ≤ i ∧ colI s.data.toList f i out ∧ wr.ownsRow B 9 1 ov out.length (out.map strV) ∧ Below B w wr
theorem cu_step {s : ByteArray} {B f i : Nat} {w wr w1 w3 : World} {out : List (List UInt8)} {v v' : Value} {y : Value} (hB : w.heap.size = B) (hf : f ≤ i) (hi : i ≤ s.size) (hol : out.length ≤ i) (hp : colI s.data.toList (i + 1) (i + 1) (out ++ [(s.data.toList.take i).drop f]))
    (hy : y = .string (s.extract f i)) (hown : wr.ownsRow B 9 1 v out.length (out.map strV)) (hbel : Below B w wr) (h1 : Below wr.heap.size wr w1)
    (hown' : w3.ownsRow B 9 1 v' (out.length + 1) (out.map strV ++ [y])) (hgrow : w1.grownBy w3 v.ownBlock) : cuRel s B w v' (.int .i64 ((i : Int) + 1)) (.int .i64 ((i : Int) + 1)) w3 := by
  subst hB
  refine ⟨i + 1, i + 1, _, Nat.le_refl _, by omega, by go_num, by go_num, by simp; omega, hp, ?_, ?_⟩
  · rw [List.length_append, List.map_append]
    have : [(s.data.toList.take i).drop f].map strV = [y] := by rw [hy, ← ext_str s f i hi]; rfl
    rw [this]; exact hown'
  · have hb1 : Below w.heap.size w w1 := hbel.trans (h1.mono hbel.size)
    exact hb1.grown hgrow hb1.size (fun k e => (hown.lt k e).1)
theorem six_lists (l : List (List UInt8)) (h : l.length = 6) : ∃ a b c d e f, l = [a, b, c, d, e, f] := by
  match l, h with
  | [a, b, c, d, e, f], _ => exact ⟨a, b, c, d, e, f, rfl⟩
theorem spt_mem (l x : List UInt8) (h : x ∈ spt 58 l) : x.length ≤ l.length := spt_len 58 l x h
/-- what stands behind the loop over a line's bytes. -/
def CutDone (s : ByteArray) (B : Nat) (w : World) (ov : Value) (wr : World) : Prop :=
  ∃ out, spt 58 s.data.toList = out ∧ out.length ≤ s.size + 1 ∧ wr.ownsRow B 9 1 ov out.length (out.map strV) ∧ Below B w wr
end Go.Proofs.YtjopmchbphjliaaGreatDoor
