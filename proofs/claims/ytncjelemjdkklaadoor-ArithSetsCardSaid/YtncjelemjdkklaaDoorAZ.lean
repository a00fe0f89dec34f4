/- Contract of the program's Value. -/
import Derived.Test.YtncjelemjdkklaaDoorAY
namespace Go.Proofs.YtncjelemjdkklaaDoor
open Go.RowKit
set_option linter.unusedVariables false
set_option linter.unusedSimpArgs false
/-- variables that were just made. -/
theorem vt_made {W : World} {gv : Value} {g : List (Bs × Bs)} {B : Nat} (h : Giv W B gv g) (hB : B ≤ W.heap.size) : VT (W.alloc (.cells #[gv, .slice none 0 0] 43)) B W.heap.size (fun k => k = W.heap.size ∨ (Value.slice none 0 0).ownBlock = some k) g [] :=
  ⟨gv, .slice none 0 0, heap_alloc_new W _, hB, h.fr ((Fr.refl (fun _ => False) W).alloc _) (fun _ _ => id), World.ownsRow_nil _ _ _ _, rfl⟩
/-- what Value leaves. -/
def valPost (W : World) (r : Int × Int × Own) (e : Ending) (w' : World) : Prop := ∃ lv, e = .returned (.tuple #[.int .i64 r.1, lv, .int .i64 r.2.1]) ∧ w'.ownsRow W.heap.size 25 4 lv r.2.2.length (outC r.2.2) ∧ Below W.heap.size W w'
set_option maxRecDepth 100000 in
set_option maxHeartbeats 4000000 in
theorem value_any (s : ByteArray) (gv : Value) (g : List (Bs × Bs)) (W : World) (hs : s.size ≤ maxLen) (hg : Giv W W.heap.size gv g) (henv : Env W) :
    Calls Tryd.prog 10 #[.string s, gv] W (valPost W (valP g s.data.toList)) := by
  have HP := Lib.hid (parse_any s W hs)
  unfold valP
  cases hp : parsed s.data.toList with
  | none =>
    rw [hp] at HP
    clear hp hg henv hs
    obtain ⟨gv', hgv'⟩ : ∃ x, gv = x := ⟨_, rfl⟩
    go_enter Tryd.func10, Tryd.ntmps10
    go_wp2_with (go_at_call 12; (with_reducible refine HP.out.mono ?_); rintro e w1 ⟨hb, rfl⟩; have HB := Lib.hid hb; clear hb)
    refine bodyPost_ret (v := .tuple #[.int .i64 0, .slice none 0 0, .int .i64 17]) (by simp [results, Tryd.results10, go_sem]) rfl ?_
    exact ⟨_, rfl, World.ownsRow_nil _ _ _ _, HB.out⟩
  | some n =>
    rw [hp] at HP
    obtain ⟨hasg, hok⟩ := parsed_ok hp
    obtain ⟨ao, cap, rfl, -, -, -⟩ := id hg
    dsimp only
    have hev := fun (w1 : World) (hb1 : Below W.heap.size W w1) => ev_all W.heap.size w1.heap.size g n [] _ _ (vt_made (hg.fr (Fr.of_below (S := fun _ => False) hb1) (fun _ _ => id)) hb1.size) (by simp; omega)
    have hlen := ev_len g n []
    have hrng := (ev_i64 g n [] hok (fun p hp => by cases hp)).2
    rcases hr : ev g n [] with ⟨⟨a, e⟩, o⟩
    rw [hr] at hlen hrng
    dsimp only at hlen hrng ⊢
    rw [List.length_nil, Nat.zero_add] at hlen
    have HEV := Lib.hid (fun (w1 : World) (hb1 : Below W.heap.size W w1) => (hev w1 hb1).mono (show ∀ e' w', _ → e' = .returned (.tuple #[.int .i64 a, .int .i64 e]) ∧ Below W.heap.size W w' ∧ ∃ S', VT w' W.heap.size w1.heap.size S' g o from by
      rintro e' w' ⟨rfl, S', hV, hS⟩
      rw [hr] at hV
      refine ⟨by rw [hr], ?_, S', hV⟩
      refine hb1.trans (((Below.refl _ w1).alloc hb1.size _).trans (hS.1.bel (fun k hk => ?_) (by simp; have := hb1.size; omega)))
      rcases hk with rfl | hk
      · exact hb1.size
      · cases hk))
    have HTX := Lib.hid (fun (w' : World) (vb : Nat) S' (hV : VT w' W.heap.size vb S' g o) (hb : Below W.heap.size W w') => (texts_any hV (henv.bel hb) hrng (by omega)).mono (show ∀ e' w2, _ → ∃ lv, e' = .returned lv ∧ w2.ownsRow W.heap.size 25 4 lv o.length (outC o) ∧ Below W.heap.size W w2 from by
      rintro e' w2 ⟨lv, rfl, ho, hb2⟩
      refine ⟨lv, rfl, ?_, hb.trans (hb2.mono hb.size)⟩
      refine ⟨ho.1, ?_⟩
      rcases ho.2 with h | ⟨q, c, cur, h1, h2, h3⟩
      · exact .inl h
      · exact .inr ⟨q, c, cur, h1, Nat.le_trans hb.size h2, h3⟩))
    have hme := meth n
    have hmi := meth_in n
    have HP := Lib.hid (HP.out.mono (show ∀ e' w', _ → Below W.heap.size W w' ∧ e' = .returned (.tuple #[.iface (tyN n) (vlN n), .int .i64 0]) from by
      rintro e' w' ⟨hb, h⟩
      dsimp only at h
      rw [enc_form] at h
      exact ⟨hb, h⟩))
    clear hp hg henv hs hasg hok hev hlen hrng hr
    generalize tyN n = ta at *
    generalize vlN n = va at *
    generalize fnN n = fa at *
    by_cases he : e = 0
    · subst he
      rw [if_pos rfl]
      go_enter Tryd.func10, Tryd.ntmps10
      go_wp2_with (first
        | (go_at_call 12; (with_reducible refine HP.out.mono ?_); rintro e w1 ⟨hb, rfl⟩; have HB := Lib.hid hb; clear hb)
        | (go_at_call 13; (with_reducible refine (HTX.out _ _ _ HV2.out HB2.out).mono ?_); rintro e w3 ⟨lv, rfl, ho, hb⟩; have HO3 := Lib.hid ho; have HB3 := Lib.hid hb; clear ho hb)
        | ((with_reducible refine (HEV.out _ HB.out).mono ?_); rintro e w2 ⟨rfl, hb, S', hV⟩; have HB2 := Lib.hid hb; have HV2 := Lib.hid hV; clear hb hV))
      refine bodyPost_ret (v := .tuple #[.int .i64 a, lv, .int .i64 0]) (by simp [results, Tryd.results10, go_sem]) rfl ?_
      exact ⟨_, rfl, HO3.out, HB3.out⟩
    · rw [if_neg he]
      have he' : (e == 0) = false := by simpa using he
      clear he HTX
      go_enter Tryd.func10, Tryd.ntmps10
      go_wp2_with (first
        | (go_at_call 12; (with_reducible refine HP.out.mono ?_); rintro e w1 ⟨hb, rfl⟩; have HB := Lib.hid hb; clear hb)
        | ((with_reducible refine (HEV.out _ HB.out).mono ?_); rintro e w2 ⟨rfl, hb, S', hV⟩; have HB2 := Lib.hid hb; clear hb hV))
      refine bodyPost_ret (v := .tuple #[.int .i64 0, .slice none 0 0, .int .i64 e]) (by simp [results, Tryd.results10, go_sem]) rfl ?_
      exact ⟨_, rfl, World.ownsRow_nil _ _ _ _, HB2.out⟩
end Go.Proofs.YtncjelemjdkklaaDoor
