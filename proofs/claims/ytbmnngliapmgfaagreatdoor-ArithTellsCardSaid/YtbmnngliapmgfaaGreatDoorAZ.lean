/- Plain facts: how many are set, and that all numbers fit; contract of the program's Value. -/
/- Contract of the program's Value. -/
import Derived.Test.YtbmnngliapmgfaaGreatDoorAX
import Derived.DataShut
import Derived.OpenShut
namespace Go.Proofs.YtbmnngliapmgfaaGreatDoor
open Go.RowKit
set_option linter.unusedVariables false
set_option linter.unusedSimpArgs false
def okN : Nd → Prop
  | .num n => I64 n
  | .nam _ => True
  | .pre _ r => okN r
  | .bin _ l r => okN l ∧ okN r
  | .cho c y n => okN c ∧ okN y ∧ okN n
  | .asg _ _ r => okN r
def kdL : Kd → Nat
  | .more _ l => asgN l
  | _ => 0
def kdO : Kd → Prop
  | .more _ l => okN l
  | _ => True
theorem i64_wrap (n : Int) : I64 (wrap64 n) := by unfold I64 wrap64; omega
theorem opK_none (k : Nat) : kdL (opK k) = 0 ∧ kdO (opK k) := by unfold opK; split <;> exact ⟨rfl, trivial⟩
/-- what is read has no more assignments than tokens, and numbers that fit. -/
theorem pP_ok : ∀ (f : Nat) (K : Kd) (o : Nat) (ts : List Bs) (n : Nd) (r : List Bs), pP f K o ts = some (n, r) → kdO K → asgN n + r.length ≤ ts.length + kdL K ∧ okN n
  | 0, _, _, _, _, _, h, _ => by cases h
  | f + 1, .asg, o, ts, n, r, h, hk => by
    by_cases h2 : ts.length < 2
    · rw [pP_asg1 _ _ _ h2] at h
      split at h
      · cases h
      · exact pP_ok f .cho _ _ _ _ h trivial
    · match ts, h2 with
      | [], h2 => exact absurd (by simp) h2
      | [a], h2 => exact absurd (by simp) h2
      | a :: b :: q, _ =>
        rw [pP_asg2] at h
        split at h
        · cases h
        · split at h
          · cases hx : pP f .asg (o + 1) q with
            | none => rw [hx] at h; cases h
            | some x =>
              rw [hx] at h; cases h
              have := pP_ok f _ _ _ x.1 x.2 hx trivial
              simp only [kdL, asgN, List.length_cons, okN] at *
              exact ⟨by omega, this.2⟩
          · exact pP_ok f .cho _ _ _ _ h trivial
  | f + 1, .cho, o, ts, n, r, h, hk => by
    rw [pP_cho] at h
    split at h
    · cases h
    · split at h
      · cases h
      · rename_i c q hq
        have l1 := pP_ok f _ _ _ _ _ hq trivial
        split at h
        · split at h
          · cases h
          · rename_i y r2 hy
            have l2 := pP_ok f _ _ _ _ _ hy trivial
            rw [List.length_tail] at l2
            split at h
            · cases hx : pP f .cho (o + 1) r2.tail with
              | none => rw [hx] at h; cases h
              | some x =>
                rw [hx] at h; cases h
                have := pP_ok f _ _ _ x.1 x.2 hx trivial
                rw [List.length_tail] at this
                simp only [kdL, asgN, okN] at *
                exact ⟨by omega, l1.2, l2.2, this.2⟩
            · cases h
        · cases h; exact l1
  | f + 1, .lev k, o, ts, n, r, h, hk => by
    rw [pP_lev] at h
    split at h
    · cases h
    · rename_i l q hq
      have l1 := pP_ok f _ _ _ _ _ hq (opK_none k).2
      have l2 := pP_ok f _ _ _ _ _ h l1.2
      rw [(opK_none k).1] at l1
      simp only [kdL] at *
      exact ⟨by omega, l2.2⟩
  | f + 1, .more k l, o, [], n, r, h, hk => by
    rw [pP_more0] at h
    cases h
    exact ⟨by simp only [kdL, List.length_nil]; omega, hk⟩
  | f + 1, .more k l, o, t :: q, n, r, h, hk => by
    rw [pP_more] at h
    split at h
    · split at h
      · cases h
      · rename_i x r2 hx
        have l1 := pP_ok f _ _ _ _ _ hx (opK_none k).2
        have l2 := pP_ok f _ _ _ _ _ h ⟨hk, l1.2⟩
        rw [(opK_none k).1] at l1
        simp only [kdL, asgN, List.length_cons] at *
        exact ⟨by omega, l2.2⟩
    · cases h
      exact ⟨by simp only [kdL]; omega, hk⟩
  | f + 1, .un, o, [], n, r, h, hk => by
    rw [pP_un0] at h
    cases h
  | f + 1, .un, o, t :: q, n, r, h, hk => by
    rw [pP_un] at h
    split at h
    · cases h
    · split at h
      · cases hx : pP f .un (o + 1) q with
        | none => rw [hx] at h; cases h
        | some x =>
          rw [hx] at h; cases h
          have := pP_ok f _ _ _ x.1 x.2 hx trivial
          simp only [kdL, asgN, okN, List.length_cons] at *
          exact ⟨by omega, this.2⟩
      · split at h
        · split at h
          · cases h
          · rename_i x r2 hx
            have := pP_ok f _ _ _ _ _ hx trivial
            split at h
            · cases h
              rw [List.length_tail]
              simp only [kdL, List.length_cons] at *
              exact ⟨by omega, this.2⟩
            · cases h
        · split at h
          · cases h
            exact ⟨by simp [asgN, kdL], i64_wrap _⟩
          · split at h
            · cases h; exact ⟨by simp [asgN, kdL], trivial⟩
            · cases h
theorem parsed_ok {s : Bs} {n : Nd} (h : parsed s = some n) : asgN n ≤ 256 ∧ okN n := by
  unfold parsed at h
  split at h
  · cases h
  · split at h
    · cases h
    · rename_i hl ts ht
      split at h
      · cases h; exact ⟨by simp [asgN], (show I64 0 from ⟨by decide, by decide⟩)⟩
      · split at h
        · cases h
        · rename_i n' r hp
          split at h
          · cases h
            have h1 := pP_ok _ _ _ _ _ _ hp trivial
            have h2 := (toks_ne ht).2
            simp only [kdL] at h1
            exact ⟨by omega, h1.2⟩
          · cases h
theorem i64_lit (n : Int) (h : -1000 ≤ n ∧ n ≤ 1000) : I64 n := ⟨by omega, by omega⟩
theorem i64_0 : I64 0 := ⟨by decide, by decide⟩
theorem i64_truth (b : Bool) : I64 (truth b) := by
  cases b
  · exact i64_0
  · exact i64_lit 1 (by decide)
theorem i64_bits (op : BinOp) (a b : Int) : I64 (bits op .i64 a b) := by
  have h := (Go.Lit.wf_int_iff .i64 _).1 (wf_bits op .i64 a b)
  have e1 : IntKind.i64.min = -9223372036854775808 := by decide
  have e2 : IntKind.i64.max = 9223372036854775807 := by decide
  rw [e1, e2] at h
  exact h
theorem tmod_le {c : Int} (b : Int) (hc : 0 ≤ c) : 0 ≤ c.tmod b ∧ c.tmod b ≤ c := by
  have h1 := Int.tmod_nonneg b hc
  have h2 := Int.natAbs_tmod c b
  have h3 := Nat.mod_le c.natAbs b.natAbs
  omega
theorem i64_tmod {a : Int} (b : Int) (ha : I64 a) : I64 (a.tmod b) := by
  unfold I64 at *
  rcases Int.le_total 0 a with h0 | h0
  · have := tmod_le b h0
    omega
  · have h1 := tmod_le (c := -a) b (by omega)
    rw [Int.neg_tmod] at h1
    omega
theorem i64_shr {a : Int} (k : Nat) (ha : I64 a) : I64 (a / 2 ^ k) := by
  unfold I64 at *
  have hd : (1 : Int) ≤ 2 ^ k := by
    have : 0 < (2 : Int) ^ k := Int.pow_pos (by decide)
    omega
  generalize (2 : Int) ^ k = d at *
  rcases Int.le_total 0 a with h0 | h0
  · have h1 : 0 ≤ a / d := Int.ediv_nonneg h0 (by omega)
    have h2 : a / d ≤ a := Int.ediv_le_self d h0
    omega
  · have h1 : a ≤ a / d := (Int.le_ediv_iff_mul_le (by omega)).2 (by
      have := Int.mul_le_mul_of_nonpos_left (a := a) (b := d) (c := 1) h0 hd
      omega)
    have h2 : a / d ≤ 0 := Int.ediv_le_of_le_mul (by omega) (by omega)
    omega
theorem i64_op {a b : Int} (g : Bs) (ha : I64 a) : I64 (opI g a b).1 := by
  unfold opI
  by_cases h0 : g = [47] ∨ g = [37]
  · rw [if_pos h0]
    by_cases hb : b = 0
    · rw [if_pos hb]; exact i64_0
    · rw [if_neg hb]
      by_cases h1 : g = [47]
      · rw [if_pos h1]; exact i64_wrap _
      · rw [if_neg h1]; exact i64_tmod b ha
  rw [if_neg h0]
  by_cases h1 : g = [60, 60]
  · rw [if_pos h1]; exact i64_wrap _
  rw [if_neg h1]
  by_cases h2 : g = [62, 62]
  · rw [if_pos h2]; exact i64_shr _ ha
  rw [if_neg h2]
  by_cases h3 : g = [42]
  · rw [if_pos h3]; exact i64_wrap _
  rw [if_neg h3]
  by_cases h4 : g = [43]
  · rw [if_pos h4]; exact i64_wrap _
  rw [if_neg h4]
  by_cases h5 : g = [45]
  · rw [if_pos h5]; exact i64_wrap _
  rw [if_neg h5]
  by_cases h6 : g = [38]
  · rw [if_pos h6]; show I64 (bits .and .i64 a b); exact i64_bits .and a b
  rw [if_neg h6]
  by_cases h7 : g = [94]
  · rw [if_pos h7]; show I64 (bits .xor .i64 a b); exact i64_bits .xor a b
  rw [if_neg h7]
  by_cases h8 : g = [124]
  · rw [if_pos h8]; show I64 (bits .or .i64 a b); exact i64_bits .or a b
  rw [if_neg h8]; exact i64_truth _
theorem i64_pre {a : Int} (g : Bs) (ha : I64 a) : I64 (preI g a) := by
  unfold preI
  split
  · exact i64_wrap _
  · split
    · exact i64_bits .xor (-1) a
    · split
      · exact i64_truth _
      · exact ha
theorem i64_numV (t : Bs) : I64 (numV t).1 := by
  unfold numV
  by_cases h0 : t = []
  · rw [if_pos h0]; exact i64_0
  · rw [if_neg h0]
    dsimp only
    generalize (if t.head? = some 45 then t.tail else t) = d
    by_cases h1 : d = [] ∨ cstN d < d.length
    · rw [if_pos h1]; exact i64_0
    · rw [if_neg h1]
      by_cases h2 : t.head? = some 45
      · rw [if_pos h2]; exact i64_wrap _
      · rw [if_neg h2]; exact i64_wrap _
theorem i64_find : ∀ (o : Own) (n : Bs) (x : Int), findO o n = some x → (∀ p ∈ o, I64 p.2) → I64 x
  | [], n, x, h, _ => by cases h
  | q :: r, n, x, h, hr => by
    rw [findO] at h
    split at h
    · cases h; exact hr q (by simp)
    · exact i64_find r n x h (fun p hp => hr p (by simp [hp]))
theorem i64_getV {g : List (Bs × Bs)} {o : Own} (n : Bs) (hr : ∀ p ∈ o, I64 p.2) : I64 (getV g o n).1 := by
  unfold getV
  split
  · rename_i x hx
    exact i64_find o n x hx hr
  · split
    · exact i64_numV _
    · exact i64_0
theorem i64_setV : ∀ (o : Own) (n : Bs) (v : Int), I64 v → (∀ p ∈ o, I64 p.2) → ∀ p ∈ setV o n v, I64 p.2
  | [], n, v, hv, _, p, hp => by
    simp [setV] at hp; subst hp; exact hv
  | q :: r, n, v, hv, hr, p, hp => by
    rw [setV] at hp
    split at hp
    · rcases List.mem_cons.1 hp with rfl | hp
      · exact hv
      · exact hr p (by simp [hp])
    · rcases List.mem_cons.1 hp with rfl | hp
      · exact hr _ (by simp)
      · exact i64_setV r n v hv (fun p hp => hr p (by simp [hp])) p hp
theorem ev_i64 (g : List (Bs × Bs)) : ∀ (n : Nd) (o : Own), okN n → (∀ p ∈ o, I64 p.2) → I64 (ev g n o).1.1 ∧ ∀ p ∈ (ev g n o).2, I64 p.2
  | .num n, o, hn, ho => ⟨hn, ho⟩
  | .nam s, o, hn, ho => ⟨i64_getV s ho, ho⟩
  | .pre s r, o, hn, ho => by
    have h := ev_i64 g r o hn ho
    rw [ev]
    rcases hev : ev g r o with ⟨⟨a, e⟩, o1⟩
    rw [hev] at h
    dsimp only at h ⊢
    split
    · exact ⟨i64_pre s h.1, h.2⟩
    · exact ⟨i64_0, h.2⟩
  | .bin s l r, o, hn, ho => by
    have h := ev_i64 g l o hn.1 ho
    rw [ev]
    rcases hev : ev g l o with ⟨⟨a, e⟩, o1⟩
    rw [hev] at h
    dsimp only at h ⊢
    split
    · split
      · exact ⟨i64_truth _, h.2⟩
      · have h2 := ev_i64 g r o1 hn.2 h.2
        rcases hev2 : ev g r o1 with ⟨⟨b, e2⟩, o2⟩
        rw [hev2] at h2
        dsimp only at h2 ⊢
        split
        · exact ⟨i64_op s h.1, h2.2⟩
        · exact ⟨i64_0, h2.2⟩
    · exact ⟨i64_0, h.2⟩
  | .cho c y n, o, hn, ho => by
    have h := ev_i64 g c o hn.1 ho
    rw [ev]
    rcases hev : ev g c o with ⟨⟨a, e⟩, o1⟩
    rw [hev] at h
    dsimp only at h ⊢
    split
    · split
      · exact ev_i64 g n o1 hn.2.2 h.2
      · exact ev_i64 g y o1 hn.2.1 h.2
    · exact ⟨i64_0, h.2⟩
  | .asg s t r, o, hn, ho => by
    have h := ev_i64 g r o hn ho
    rw [ev]
    rcases hev : ev g r o with ⟨⟨a, e⟩, o1⟩
    rw [hev] at h
    dsimp only at h ⊢
    split
    · split
      · exact ⟨h.1, i64_setV o1 s a h.1 h.2⟩
      · split
        · split
          · exact ⟨i64_op t (i64_getV s h.2), i64_setV o1 s _ (i64_op t (i64_getV s h.2)) h.2⟩
          · exact ⟨i64_0, h.2⟩
        · exact ⟨i64_0, h.2⟩
    · exact ⟨i64_0, h.2⟩
end Go.Proofs.YtbmnngliapmgfaaGreatDoor
namespace Go.Proofs.YtbmnngliapmgfaaGreatDoor
open Go.RowKit
set_option linter.unusedVariables false
set_option linter.unusedSimpArgs false
/-- variables that were just made. -/
theorem vt_made {W : World} {gv : Value} {g : List (Bs × Bs)} {B : Nat} (h : Giv W B gv g) (hB : B ≤ W.heap.size) : VT (W.alloc (.cells #[gv, .slice none 0 0] 41)) B W.heap.size (fun k => k = W.heap.size ∨ (Value.slice none 0 0).ownBlock = some k) g [] :=
  ⟨gv, .slice none 0 0, heap_alloc_new W _, hB, h.fr ((Fr.refl (fun _ => False) W).alloc _) (fun _ _ => id), World.ownsRow_nil _ _ _ _, rfl⟩
/-- what Value leaves. -/
def valPost (W : World) (r : Int × Int × Own) (e : Ending) (w' : World) : Prop := ∃ lv, e = .returned (.tuple #[.int .i64 r.1, lv, .int .i64 r.2.1]) ∧ w'.ownsRow W.heap.size 29 4 lv r.2.2.length (outC r.2.2) ∧ Below W.heap.size W w'
set_option maxRecDepth 100000 in
set_option maxHeartbeats 4000000 in
theorem value_any (s : ByteArray) (gv : Value) (g : List (Bs × Bs)) (W : World) (hs : s.size ≤ maxLen) (hg : Giv W W.heap.size gv g) (henv : Env W) :
    Calls Tryz.prog 6 #[.string s, gv] W (valPost W (valP g s.data.toList)) := by
  have HP := Lib.hid (parse_any s W hs)
  unfold valP
  cases hp : parsed s.data.toList with
  | none =>
    rw [hp] at HP
    clear hp hg henv hs
    obtain ⟨gv', hgv'⟩ : ∃ x, gv = x := ⟨_, rfl⟩
    go_enter Tryz.func6, Tryz.ntmps6
    go_wp2_with (go_at_call 10; (with_reducible refine HP.out.mono ?_); rintro e w1 ⟨hb, rfl⟩; have HB := Lib.hid hb; clear hb)
    refine bodyPost_ret (v := .tuple #[.int .i64 0, .slice none 0 0, .int .i64 17]) (by simp [results, Tryz.results6, go_sem]) rfl ?_
    exact ⟨_, rfl, World.ownsRow_nil _ _ _ _, HB.out⟩
  | some n =>
    rw [hp] at HP
    obtain ⟨hasg, hok⟩ := parsed_ok hp
    obtain ⟨ao, cap, rfl, -, -, -⟩ := id hg
    dsimp only
    have hev := fun (w1 : World) (hb1 : Below W.heap.size W w1) => ev_all W.heap.size w1.heap.size g n [] _ _ (vt_made (hg.fr (Fr.of_below (S := fun _ => False) hb1) (fun _ _ => id)) hb1.size) (by simp; omega)
    have hlen := ev_len g n []
    have hrng := (ev_i64 g n [] hok (fun p hp => by cases hp)).2
    rcases hr : ev g n [] with ⟨⟨a, e⟩, o⟩
    rw [hr] at hlen hrng
    dsimp only at hlen hrng ⊢
    rw [List.length_nil, Nat.zero_add] at hlen
    have HEV := Lib.hid (fun (w1 : World) (hb1 : Below W.heap.size W w1) => (hev w1 hb1).mono (show ∀ e' w', _ → e' = .returned (.tuple #[.int .i64 a, .int .i64 e]) ∧ Below W.heap.size W w' ∧ ∃ S', VT w' W.heap.size w1.heap.size S' g o from by
      rintro e' w' ⟨rfl, S', hV, hS⟩
      rw [hr] at hV
      refine ⟨by rw [hr], ?_, S', hV⟩
      refine hb1.trans (((Below.refl _ w1).alloc hb1.size _).trans (hS.1.bel (fun k hk => ?_) (by simp; have := hb1.size; omega)))
      rcases hk with rfl | hk
      · exact hb1.size
      · cases hk))
    have HTX := Lib.hid (fun (w' : World) (vb : Nat) S' (hV : VT w' W.heap.size vb S' g o) (hb : Below W.heap.size W w') => (texts_any hV (henv.bel hb) hrng (by omega)).mono (show ∀ e' w2, _ → ∃ lv, e' = .returned lv ∧ w2.ownsRow W.heap.size 29 4 lv o.length (outC o) ∧ Below W.heap.size W w2 from by
      rintro e' w2 ⟨lv, rfl, ho, hb2⟩
      refine ⟨lv, rfl, ?_, hb.trans (hb2.mono hb.size)⟩
      refine ⟨ho.1, ?_⟩
      rcases ho.2 with h | ⟨q, c, cur, h1, h2, h3⟩
      · exact .inl h
      · exact .inr ⟨q, c, cur, h1, Nat.le_trans hb.size h2, h3⟩))
    have hme := meth n
    have hmi := meth_in n
    have HP := Lib.hid (HP.out.mono (show ∀ e' w', _ → Below W.heap.size W w' ∧ e' = .returned (.tuple #[.iface (tyN n) (vlN n), .int .i64 0]) from by
      rintro e' w' ⟨hb, h⟩
      dsimp only at h
      rw [enc_form] at h
      exact ⟨hb, h⟩))
    clear hp hg henv hs hasg hok hev hlen hrng hr
    generalize tyN n = ta at *
    generalize vlN n = va at *
    generalize fnN n = fa at *
    by_cases he : e = 0
    · subst he
      rw [if_pos rfl]
      go_enter Tryz.func6, Tryz.ntmps6
      go_wp2_with (first
        | (go_at_call 10; (with_reducible refine HP.out.mono ?_); rintro e w1 ⟨hb, rfl⟩; have HB := Lib.hid hb; clear hb)
        | (go_at_call 11; (with_reducible refine (HTX.out _ _ _ HV2.out HB2.out).mono ?_); rintro e w3 ⟨lv, rfl, ho, hb⟩; have HO3 := Lib.hid ho; have HB3 := Lib.hid hb; clear ho hb)
        | ((with_reducible refine (HEV.out _ HB.out).mono ?_); rintro e w2 ⟨rfl, hb, S', hV⟩; have HB2 := Lib.hid hb; have HV2 := Lib.hid hV; clear hb hV))
      refine bodyPost_ret (v := .tuple #[.int .i64 a, lv, .int .i64 0]) (by simp [results, Tryz.results6, go_sem]) rfl ?_
      exact ⟨_, rfl, HO3.out, HB3.out⟩
    · rw [if_neg he]
      have he' : (e == 0) = false := by simpa using he
      clear he HTX
      go_enter Tryz.func6, Tryz.ntmps6
      go_wp2_with (first
        | (go_at_call 10; (with_reducible refine HP.out.mono ?_); rintro e w1 ⟨hb, rfl⟩; have HB := Lib.hid hb; clear hb)
        | ((with_reducible refine (HEV.out _ HB.out).mono ?_); rintro e w2 ⟨rfl, hb, S', hV⟩; have HB2 := Lib.hid hb; clear hb hV))
      refine bodyPost_ret (v := .tuple #[.int .i64 0, .slice none 0 0, .int .i64 e]) (by simp [results, Tryz.results6, go_sem]) rfl ?_
      exact ⟨_, rfl, World.ownsRow_nil _ _ _ _, HB2.out⟩
end Go.Proofs.YtbmnngliapmgfaaGreatDoor
