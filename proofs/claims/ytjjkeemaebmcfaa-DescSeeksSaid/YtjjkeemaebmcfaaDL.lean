/- The walk of DescSeeks. -/
import Derived.Test.YtjjkeemaebmcfaaDK
namespace Go.Proofs.Ytjjkeemaebmcfaa
open Go.RowKit
set_option linter.unusedVariables false
set_option linter.unusedSimpArgs false
variable {w0 W W' : World} {P B : Nat} {e : Tab}

def seA (x : Int) : Ent := ⟨1, 3, 4, false, x, 2⟩
def seB (y : Int) : Ent := ⟨1, 3, 2, false, y, 1⟩
def sT (x y : Int) : Tab := fun i => if i = 0 then seA x else if i = 1 then seB y else Ent.zero
def SA : Ent := ⟨1, 3, 4, false, 0, 0⟩
def SB : Ent := ⟨1, 3, 2, false, 0, 0⟩
def U1 : Tab := upd emptyT 0 ⟨1, 3, 4, false, 0, 1⟩
def U2 : Tab := upd U1 1 ⟨1, 3, 2, false, 0, 1⟩
theorem u1 : openN emptyT SA = 0 ∧ openX emptyT SA = 0 ∧ openT emptyT SA = U1 := open_at (by decide) (by decide) (by decide)
theorem u2 : openN U1 SB = 1 ∧ openX U1 SB = 0 ∧ openT U1 SB = U2 := open_at (by decide) (by decide) (by decide)
theorem u3 : holdT U2 0 = sT 0 0 := by
  funext i
  have h : isE U2 0 = true := by decide
  unfold holdT
  rw [h, if_pos rfl]
  unfold upd sT U2 upd U1 upd
  match i with
  | 0 => rfl
  | 1 => rfl
  | n + 2 => simp [emptyT]
theorem se1 (p : PT w0 W P emptyT) : Calls Try.prog 10 #[.pointer (some ⟨P, 0, none⟩), .agg #[.int .i64 1, .int .i64 3, .int .i64 4, .bool false, .int .i64 0]] W (okSh w0 P (.tuple #[.int .i64 0, .int .i64 0]) U1) :=
  (pt_open SA p).mono fun r w' h => by rw [u1.1, u1.2.1, u1.2.2] at h; exact h
theorem se2 (p : PT w0 W P U1) : Calls Try.prog 10 #[.pointer (some ⟨P, 0, none⟩), .agg #[.int .i64 1, .int .i64 3, .int .i64 2, .bool false, .int .i64 0]] W (okSh w0 P (.tuple #[.int .i64 1, .int .i64 0]) U2) :=
  (pt_open SB p).mono fun r w' h => by rw [u2.1, u2.2.1, u2.2.2] at h; exact h
theorem se3 (p : PT w0 W P U2) : Calls Try.prog 14 #[.pointer (some ⟨P, 0, none⟩), .int .i64 0] W (okSh w0 P (.bool true) (sT 0 0)) :=
  (pt_hold 0 p (by decide)).mono fun r w' h => by rw [u3] at h; exact h
theorem sT0 (x y a : Int) (h : 0 ≤ a) : seekB (sT x y) 0 a = true ∧ seekT (sT x y) 0 a = sT a y := by
  have h1 : seekB (sT x y) 0 a = true := by simp [seekB, isE, sT, seA, h]
  refine ⟨h1, ?_⟩
  unfold seekT
  rw [h1, if_pos rfl]
  funext i
  unfold upd sT
  by_cases e : i = 0
  · subst e; rfl
  · have : ¬ i = (0 : Int).toNat := e
    rw [if_neg this, if_neg e, if_neg e]
theorem sT1 (x y a : Int) (h : 0 ≤ a) : seekB (sT x y) 1 a = true ∧ seekT (sT x y) 1 a = sT x a := by
  have h1 : seekB (sT x y) 1 a = true := by simp [seekB, isE, sT, seB, h]
  refine ⟨h1, ?_⟩
  unfold seekT
  rw [h1, if_pos rfl]
  funext i
  unfold upd sT
  by_cases e : i = 1
  · subst e; rfl
  · have : ¬ i = (1 : Int).toNat := e
    rw [if_neg this, if_neg e, if_neg e]
theorem sTn (e : Tab) (n a : Int) (h : ¬ 0 ≤ a) : seekB e n a = false ∧ seekT e n a = e := by
  have h1 : seekB e n a = false := by simp [seekB]; omega
  refine ⟨h1, ?_⟩
  unfold seekT
  rw [h1]; rfl
theorem se_seek0 (x y a : Int) (h : 0 ≤ a) (p : PT w0 W P (sT x y)) : Calls Try.prog 12 #[.pointer (some ⟨P, 0, none⟩), .int .i64 0, .int .i64 a] W (okSh w0 P (.bool true) (sT a y)) :=
  (pt_seek 0 a p).mono fun r w' k => by rw [(sT0 x y a h).1, (sT0 x y a h).2] at k; exact k
theorem se_seek1 (x y a : Int) (h : 0 ≤ a) (p : PT w0 W P (sT x y)) : Calls Try.prog 12 #[.pointer (some ⟨P, 0, none⟩), .int .i64 1, .int .i64 a] W (okSh w0 P (.bool true) (sT x a)) :=
  (pt_seek 1 a p).mono fun r w' k => by rw [(sT1 x y a h).1, (sT1 x y a h).2] at k; exact k
theorem se_seekn (n a : Int) (h : ¬ 0 ≤ a) (p : PT w0 W P e) : Calls Try.prog 12 #[.pointer (some ⟨P, 0, none⟩), .int .i64 n, .int .i64 a] W (okSh w0 P (.bool false) e) :=
  (pt_seek n a p).mono fun r w' k => by rw [(sTn e n a h).1, (sTn e n a h).2] at k; exact k
theorem se_get0 (x y : Int) (p : PT w0 W P (sT x y)) : Calls Try.prog 18 #[.pointer (some ⟨P, 0, none⟩), .int .i64 0] W fun r w' => r = .returned (.tuple #[.agg #[.int .i64 1, .int .i64 3, .int .i64 4, .bool false, .int .i64 x], .bool true]) ∧ PT w0 w' P (sT x y) ∧ Fr (fun _ => False) W w' :=
  pt_get 0 p
theorem se_get1 (x y : Int) (p : PT w0 W P (sT x y)) : Calls Try.prog 18 #[.pointer (some ⟨P, 0, none⟩), .int .i64 1] W fun r w' => r = .returned (.tuple #[.agg #[.int .i64 1, .int .i64 3, .int .i64 2, .bool false, .int .i64 y], .bool true]) ∧ PT w0 w' P (sT x y) ∧ Fr (fun _ => False) W w' :=
  pt_get 1 p
theorem se_get1x (x y : Int) (p : PT w0 W P (sT x y)) : Calls Try.prog 18 #[.pointer (some ⟨P, 0, none⟩), .int .i64 1] (W.alloc (.cells #[.int .i64 1, .int .i64 3, .int .i64 4, .bool false, .int .i64 x] 28)) fun r w' => r = .returned (.tuple #[.agg #[.int .i64 1, .int .i64 3, .int .i64 2, .bool false, .int .i64 y], .bool true]) ∧ PT w0 w' P (sT x y) ∧ w'.cell? ⟨W.heap.size, 1, none⟩ = some (.int .i64 3) ∧ w'.cell? ⟨W.heap.size, 2, none⟩ = some (.int .i64 4) ∧ w'.cell? ⟨W.heap.size, 4, none⟩ = some (.int .i64 x) ∧ W.heap.size < w'.heap.size :=
  (se_get1 x y (p.same ((Fr.refl _ _).alloc _))).mono fun r w' ⟨h1, h2, h3⟩ => ⟨h1, h2, h3.cell (lay_desc W 28 (seA x) 1 (.int .i64 3) rfl) id, h3.cell (lay_desc W 28 (seA x) 2 (.int .i64 4) rfl) id, h3.cell (lay_desc W 28 (seA x) 4 (.int .i64 x) rfl) id, Nat.lt_of_lt_of_le (by simp) h3.size⟩
theorem se_held0 (x y : Int) (p : PT w0 W P (sT x y)) : Calls Try.prog 20 #[.pointer (some ⟨P, 0, none⟩), .int .i64 0] W fun r w' => r = .returned (.int .i64 2) ∧ W = w' :=
  pt_held 0 p
theorem se_held1 (x y : Int) (p : PT w0 W P (sT x y)) : Calls Try.prog 20 #[.pointer (some ⟨P, 0, none⟩), .int .i64 1] W fun r w' => r = .returned (.int .i64 1) ∧ W = w' :=
  pt_held 1 p
def seekRel (w : World) (P : Nat) (ov tv iv : Value) (wr : World) : Prop := ∃ (k : Nat) (x y : Int), ov = .int .i64 x ∧ tv = .int .i64 y ∧ iv = .int .i64 k ∧ k ≤ 100 ∧ PT w wr P (sT x y)
set_option maxHeartbeats 4000000 in
set_option maxRecDepth 100000 in
theorem seeks_any (p0 : Option Addr) (n0 c0 : Nat) (z0 : List Int) (p1 : Option Addr) (n1 c1 : Nat) (z1 : List Bool) (w : World) (h0 : InInts w p0 n0 z0) (l0 : n0 ≤ maxLen) (h1 : InBools w p1 n1 z1) (l1 : n1 ≤ maxLen) :
    Calls Try.prog 7 #[.slice p0 n0 c0, .slice p1 n1 c1] w fun r w' => r = .returned (.bool true) ∧ Below w.heap.size w w' := by
  have H0 := Lib.hid h0
  have H1 := Lib.hid h1
  unfold maxLen at l0 l1
  clear h0 h1
  go_enter Try.func7, Try.ntmps7
  go_wp2_with fail
  refine (shown_any w).mono ?_
  rintro r w1 ⟨rfl, b1⟩
  go_wp2_with fail
  refine (pt_new b1).mono ?_
  rintro r w2 ⟨P, rfl, p2⟩
  clear b1
  go_wp2_with fail
  refine (se1 p2).mono ?_
  rintro r w3 ⟨rfl, p3⟩
  clear p2
  go_wp2_with fail
  refine (se2 p3).mono ?_
  rintro r w4 ⟨rfl, p4⟩
  clear p3
  go_wp2_with fail
  refine (se3 p4).mono ?_
  rintro r w5 ⟨rfl, p5⟩
  have START := Lib.hid (show seekRel w P (.int .i64 0) (.int .i64 0) (.int .i64 0) w5 from ⟨0, 0, 0, rfl, rfl, rfl, by decide, p5⟩)
  clear p4 p5
  go_wp2
  go_loopw [11, 12, 13] (fun ov tv iv wr => seekRel w P ov tv iv wr) (fun _ _ iv _ => 100 - (intOf iv).toNat)
  case atStart => exact START.out
  case round =>
    clear START
    obtain ⟨k, x, y, rfl, rfl, rfl, hk, hp⟩ := hrel
    by_cases hlt : k < n0 ∧ k < n1 ∧ k < 100
    · obtain ⟨k0, k1, k2⟩ := hlt
      obtain ⟨g0, o0, rfl, hc0, _⟩ := H0.out.2 k (z0[k]'(by rw [H0.out.1]; exact k0)) (List.getElem?_eq_getElem _)
      obtain ⟨g1, o1, rfl, hc1, _⟩ := H1.out.2 k (z1[k]'(by rw [H1.out.1]; exact k1)) (List.getElem?_eq_getElem _)
      generalize z0[k]'(by rw [H0.out.1]; exact k0) = a at hc0
      generalize z1[k]'(by rw [H1.out.1]; exact k1) = b at hc1
      have HC := Lib.hid (fun (W : World) (p : Below w.heap.size w W) => And.intro ((Below.cell p (p := ⟨g0, o0 + k, none⟩) (cell_lt hc0)).trans hc0) ((Below.cell p (p := ⟨g1, o1 + k, none⟩) (cell_lt hc1)).trans hc1))
      clear hc0 hc1
      obtain ⟨e0, e1⟩ := HC.out _ hp.bel
      have HP := Lib.hid hp
      clear hp
      cases b
      all_goals
        by_cases ha : 0 ≤ a
        all_goals
          go_wp2_with fail
          first
            | (with_reducible refine (se_seek0 x y a ha HP.out).mono ?_)
            | (with_reducible refine (se_seek1 x y a ha HP.out).mono ?_)
            | (with_reducible refine (se_seekn _ a (by omega) HP.out).mono ?_)
          rintro r w4 ⟨rfl, p6⟩
          obtain ⟨e2, e3⟩ := HC.out _ p6.bel
          have P6 := Lib.hid p6
          clear p6 e0 e1
          go_wp2_with fail
          refine (se_get0 _ _ P6.out).mono ?_
          rintro r w5 ⟨rfl, p7, f7⟩
          clear f7
          go_wp2_with fail
          refine (se_get1x _ _ p7).mono ?_
          rintro r w6 ⟨rfl, p8, y1, y2, y4, yl⟩
          have P8 := Lib.hid p8
          clear p7 p8
          go_wp2
          go_roundw
          case rel => exact ⟨k + 1, _, _, rfl, rfl, by go_num, by omega, P8.out.same ((Fr.refl _ _).alloc _)⟩
          case measure => simp [intOf]; omega
    · have HP := Lib.hid hp
      clear hp
      by_cases hn : k < n0
      · by_cases hn1 : k < n1
        · have i3 : ¬ (k : Int) < 100 := by omega
          have i4 : (k : Int) < n0 := by omega
          have i5 : (k : Int) < n1 := by omega
          go_wp2_with fail
          refine (se_held0 x y HP.out).mono ?_
          rintro r w6 ⟨rfl, rfl⟩
          go_wp2_with fail
          refine (se_held1 x y HP.out).mono ?_
          rintro r w6 ⟨rfl, rfl⟩
          go_wp2
          go_ret
          exact ⟨rfl, HP.out.bel⟩
        · have i4 : (k : Int) < n0 := by omega
          have i5 : ¬ (k : Int) < n1 := by omega
          go_wp2_with fail
          refine (se_held0 x y HP.out).mono ?_
          rintro r w6 ⟨rfl, rfl⟩
          go_wp2_with fail
          refine (se_held1 x y HP.out).mono ?_
          rintro r w6 ⟨rfl, rfl⟩
          go_wp2
          go_ret
          exact ⟨rfl, HP.out.bel⟩
      · have i4 : ¬ (k : Int) < n0 := by omega
        go_wp2_with fail
        refine (se_held0 x y HP.out).mono ?_
        rintro r w6 ⟨rfl, rfl⟩
        go_wp2_with fail
        refine (se_held1 x y HP.out).mono ?_
        rintro r w6 ⟨rfl, rfl⟩
        go_wp2
        go_ret
        exact ⟨rfl, HP.out.bel⟩
end Go.Proofs.Ytjjkeemaebmcfaa
