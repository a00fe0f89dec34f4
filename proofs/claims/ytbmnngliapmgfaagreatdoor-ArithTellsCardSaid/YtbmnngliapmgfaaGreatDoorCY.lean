/- The document's Value. -/
import Derived.Test.YtbmnngliapmgfaaGreatDoorCW
import Derived.Test.YtbmnngliapmgfaaGreatDoorAZ
import Derived.BigQuiet
import Derived.Deep.QuietTactic
namespace Go.Proofs.YtbmnngliapmgfaaGreatDoor
open Go.RowKit
set_option linter.unusedVariables false
set_option linter.unusedSimpArgs false
theorem tokX_some {s : Bs} (h : trimB s ≠ []) : tokX s ≠ [] := by
  rw [tokX_step h]
  split
  · simp
  · split <;> simp
theorem parsed_none {s : Bs} (h0 : tokX s ≠ []) (h : ∀ n, pP (20 * (tokX s).length + 15) .asg 0 (tokX s) ≠ some (n, [])) : parsed s = none := by
  cases hp : parsed s with
  | none => rfl
  | some n =>
    obtain ⟨_, h1 | h1⟩ := (parsed_X s n).1 hp
    · exact absurd h1.1 h0
    · exact absurd h1.2 (h n)
theorem drop_nil {s : ByteArray} {j : Nat} (hj : j ≤ s.size) : s.data.toList.drop j = [] ↔ j = s.size := by
  rw [List.drop_eq_nil_iff, size_len]; omega
theorem own_weak {w : World} {B B' : Nat} {v : Value} {n : Nat} {xs : List Value} (h : w.ownsRow B' 29 4 v n xs) (hB : B ≤ B') : w.ownsRow B 29 4 v n xs := by
  refine ⟨h.1, ?_⟩
  rcases h.2 with h | ⟨q, c, cur, h1, h2, h3⟩
  · exact .inl h
  · exact .inr ⟨q, c, cur, h1, Nat.le_trans hB h2, h3⟩
theorem Fr.to_below {W a b : World} {p : Nat} (f : Fr (fun q => p ≤ q) a b) (hb : Below W.heap.size W a) (hp : W.heap.size ≤ p) : Below W.heap.size W b :=
  Fr.below hb (Nat.le_refl _) f (fun g hg => Nat.le_trans hp hg)
theorem value_no {s : ByteArray} {g : List (Bs × Bs)} (h : parsed s.data.toList = none) : valP g s.data.toList = (0, 17, []) := by
  unfold valP; rw [h]
set_option maxRecDepth 100000 in
set_option maxHeartbeats 8000000 in
theorem rvalue_any (s : ByteArray) (gv : Value) (g : List (Bs × Bs)) (W : World) (hg : Giv W W.heap.size gv g) (hs : s.size ≤ maxLen) :
    Calls Tryz.prog 5 #[.string s, gv] W (valPost W (valP g s.data.toList)) := by
  have hmx : maxLen = 9223372036854775807 := rfl
  obtain ⟨ao, cap, rfl, -⟩ := id hg
  have HG := Lib.hid hg
  by_cases hsz : s.size ≤ 256
  · have hq : ¬ (256 : Int) < (s.size : Int) := by omega
    clear hg hs
    go_enter Tryz.func5, Tryz.ntmps5
    go_upto_region 4 with (fail)
    have hR := heap_alloc_new W (.cells #[.string s, .int .i64 0, .int .i64 0, .slice ao g.length cap, .slice none 0 0, .bool false, .int .i64 0] 33)
    have hb1 : Below W.heap.size W (W.alloc (.cells #[.string s, .int .i64 0, .int .i64 0, .slice ao g.length cap, .slice none 0 0, .bool false, .int .i64 0] 33)) := (Below.refl _ _).alloc (Nat.le_refl _) _
    generalize hw1 : (W.alloc (.cells #[.string s, .int .i64 0, .int .i64 0, .slice ao g.length cap, .slice none 0 0, .bool false, .int .i64 0] 33)) = w1 at *
    have HR1 := Lib.hid (show RD w1 W.heap.size s 0 0 (.slice ao g.length cap) (.slice none 0 0) false 0 from hR)
    have HB1 := Lib.hid hb1
    clear hR hb1 hw1
    have HBL := Lib.hid (rblanks_any w1 W.heap.size s 0 0 (.slice ao g.length cap) (.slice none 0 0) false 0 (Nat.zero_le _) hsz HR1.out)
    go_upto_region 5 with (first | (go_at_call 8; (with_reducible refine HBL.out.mono ?_); rintro e w2 ⟨rfl, j, hR2, hF2, -, hj, hX⟩))
    have hX : s.data.toList.drop j = trimB s.data.toList := hX
    obtain ⟨c0, c1, c2, c3, c4, c5, c6, fz⟩ := hR2.cells
    clear c0 c2 c3 c4 c5 c6 fz
    have HB2 := Lib.hid (hF2.up.to_below HB1.out (Nat.le_refl _))
    by_cases hje : j = s.size
    · have htn : tokX s.data.toList = [] := tokX_nil (by rw [← hX]; exact (drop_nil hj).2 hje)
      have hv : valP g s.data.toList = (0, 0, []) := by
        have hp : parsed s.data.toList = some (.num 0) := (parsed_X _ _).2 ⟨by rw [size_len]; exact hsz, .inl ⟨htn, rfl⟩⟩
        unfold valP; rw [hp]; rfl
      have HV := Lib.hid hv
      have gj : ((j : Int) == (s.size : Int)) = true := by simp; omega
      clear hX hR2 hF2 htn hv
      go_wp2
      refine bodyPost_ret (v := .tuple #[.int .i64 0, .slice none 0 0, .int .i64 0]) (by simp [results, Tryz.results5, go_sem]) rfl ?_
      rw [HV.out]
      exact ⟨_, rfl, World.ownsRow_nil _ _ _ _, HB2.out⟩
    · have htn : tokX s.data.toList ≠ [] := tokX_some (by rw [← hX]; exact fun h => hje ((drop_nil hj).1 h))
      have hTX : tokX (s.data.toList.drop j) = tokX s.data.toList := by rw [hX, tokX_trim]
      have gj : ((j : Int) == (s.size : Int)) = false := by simp; omega
      have hIV : IV w2 W.heap.size W.heap.size s j 0 (.slice ao g.length cap) g (.slice none 0 0) [] false 0 := ⟨hR2, HG.out.fr (Fr.of_below (S := fun _ => False) HB2.out) (fun _ _ => id), Nat.le_refl _, World.ownsRow_nil _ _ _ _, List.nodup_nil, (fun q hq => by cases hq), hj, Nat.zero_le _⟩
      have HST := Lib.hid (rsets_top hsz w2 j (.slice none 0 0) [] 0 true hIV)
      have HT := Lib.hid htn
      have HTX := Lib.hid hTX
      clear hX hR2 hF2 htn hTX hIV HBL
      go_upto_region 8 with (first | (go_at_call 9; (with_reducible refine HST.out.mono ?_); rintro e w3 ⟨v, k3, d3, sv3, o3, form3, err3, R, rfl, hv, hI3, hF3, hk3, ho3, hP, hR⟩))
      rw [HTX.out] at hP
      have HP := Lib.hid hP.own
      have HR := Lib.hid hR
      have HI3 := Lib.hid hI3
      have HB3 := Lib.hid (hF3.to_below HB2.out (Nat.le_refl _))
      have HBL2 := Lib.hid (rblanks_any w3 W.heap.size s k3 d3 (.slice ao g.length cap) sv3 form3 err3 hI3.2.2.2.2.2.2.1 hsz hI3.1)
      clear hP hR hF3 hI3 hv HST c1
      go_upto_region 9 with (first | (go_at_call 8; (with_reducible refine HBL2.out.mono ?_); rintro e w4 ⟨rfl, j4, hR4, hF4, hkj4, hj4, hX4⟩))
      obtain ⟨c0, c1, c2, c3, c4, c5, c6, fz⟩ := hR4.cells
      clear c0 c2 c3 fz
      have HB4 := Lib.hid (hF4.up.to_below HB3.out (Nat.le_refl _))
      have HS4 := Lib.hid (own_weak (B := W.heap.size) (HI3.out.2.2.2.1.fr hF4 (fun k hk e => by subst e; omega)) (by omega))
      have HX4 := Lib.hid hX4
      clear hX4 hR4 hF4 HBL2 gj hje hkj4
      rcases R with _ | ⟨n, r⟩
      · obtain ⟨rfl, -⟩ := HR.out
        have hv : valP g s.data.toList = (0, 17, []) := value_no (parsed_none HT.out (fun n => by rw [HP.out]; simp))
        have HV := Lib.hid hv
        clear hv
        go_wp2
        refine bodyPost_ret (v := .tuple #[.int .i64 0, .slice none 0 0, .int .i64 17]) (by simp [results, Tryz.results5, go_sem]) rfl ?_
        rw [HV.out]
        exact ⟨_, rfl, World.ownsRow_nil _ _ _ _, HB4.out⟩
      · obtain ⟨rfl, hd3, hr, hev⟩ := HR.out
        by_cases hje : j4 = s.size
        · have hrn : r = [] := by rw [← hr]; exact tokX_nil (by rw [← HX4.out]; exact (drop_nil hj4).2 hje)
          subst hrn
          have hp : parsed s.data.toList = some n := (parsed_X _ _).2 ⟨by rw [size_len]; exact hsz, .inr ⟨HT.out, HP.out⟩⟩
          obtain ⟨q1, q2⟩ := evC_ev g n []
          rw [hev] at q1 q2
          have HVP := Lib.hid (show valP g s.data.toList = if (ev g n []).1.2 = 0 then ((ev g n []).1.1, 0, (ev g n []).2) else (0, (ev g n []).1.2, []) from by unfold valP; rw [hp])
          have gl : ¬ (j4 : Int) < (s.size : Int) := by omega
          clear hp hev hr hje
          by_cases he : (ev g n []).1.2 = 0
          · have q := q1 he
            have HV2 := HVP.out
            rw [if_pos he] at HV2
            injection q with e1 e2
            injection e2 with e2 e3
            subst e3
            rw [← e1, ← e2] at HV2
            have HV := Lib.hid HV2
            clear q1 q2 HVP HV2 he e1 e2
            go_upto_region 13 with (fail)
            go_quiet (fail)
            go_wp2
            have HBq := Fr.to_below ((Fr.refl (fun q => W.heap.size ≤ q) w4).drewN nq) HB4.out (Nat.le_refl _)
            refine bodyPost_ret (v := .tuple #[.int .i64 v, sv3, .int .i64 0]) (by simp [results, Tryz.results5, go_sem]) rfl ?_
            rw [HV.out]
            exact ⟨_, rfl, HS4.out, HBq⟩
          · have qq : err3 = (ev g n []).1.2 := q2 he
            have HV2 := HVP.out
            rw [if_neg he] at HV2
            rw [← qq] at HV2 he
            have HV := Lib.hid HV2
            have ge : (err3 == 0) = false := by simpa using he
            clear q1 q2 HVP HV2 he qq
            go_upto_region 12 with (fail)
            go_quiet (fail)
            go_wp2
            have HBq := Fr.to_below ((Fr.refl (fun q => W.heap.size ≤ q) w4).drewN nq) HB4.out (Nat.le_refl _)
            refine bodyPost_ret (v := .tuple #[.int .i64 0, .slice none 0 0, .int .i64 err3]) (by simp [results, Tryz.results5, go_sem]) rfl ?_
            rw [HV.out]
            exact ⟨_, rfl, World.ownsRow_nil _ _ _ _, HBq⟩
        · have hrn : r ≠ [] := by rw [← hr]; exact tokX_some (by rw [← HX4.out]; exact fun h => hje ((drop_nil hj4).1 h))
          have hv : valP g s.data.toList = (0, 17, []) := value_no (parsed_none HT.out (fun m => by rw [HP.out]; simp; intro _; exact hrn))
          have HV := Lib.hid hv
          have gl : (j4 : Int) < (s.size : Int) := by omega
          clear hv hr hev hrn hje
          go_wp2
          refine bodyPost_ret (v := .tuple #[.int .i64 0, .slice none 0 0, .int .i64 17]) (by simp [results, Tryz.results5, go_sem]) rfl ?_
          rw [HV.out]
          exact ⟨_, rfl, World.ownsRow_nil _ _ _ _, HB4.out⟩
  · have hq : (256 : Int) < (s.size : Int) := by omega
    have hv : valP g s.data.toList = (0, 17, []) := by
      unfold valP parsed; rw [if_pos (by rw [size_len]; omega)]
    have HV := Lib.hid hv
    clear hg hs hv hsz
    go_enter Tryz.func5, Tryz.ntmps5
    go_wp2
    refine bodyPost_ret (v := .tuple #[.int .i64 0, .slice none 0 0, .int .i64 17]) (by simp [results, Tryz.results5, go_sem]) rfl ?_
    rw [HV.out]
    exact ⟨_, rfl, World.ownsRow_nil _ _ _ _, Below.refl _ _⟩
end Go.Proofs.YtbmnngliapmgfaaGreatDoor
