/- The document's reader: its tokens one by one; the parser without fuel; what holds in memory between two steps. -/
import Derived.Test.YtbmnngliapmgfaaGreatDoorCJ
import Derived.Test.YtbmnngliapmgfaaGreatDoorCC
import Derived.Test.YtbmnngliapmgfaaGreatDoorCN
import Derived.Test.YtbmnngliapmgfaaGreatDoorCO
namespace Go.Proofs.YtbmnngliapmgfaaGreatDoor
open Go.RowKit
set_option linter.unusedVariables false
set_option linter.unusedSimpArgs false
theorem trim_trim (s : Bs) : trimB (trimB s) = trimB s := by
  unfold trimB
  induction s with
  | nil => rfl
  | cons c r ih =>
    rw [List.dropWhile_cons]
    split
    · exact ih
    · rename_i h
      rw [List.dropWhile_cons, if_neg h]
theorem tokX_trim (s : Bs) : tokX (trimB s) = tokX s := by
  by_cases h : trimB s = []
  · rw [tokX_nil h, tokX_nil (by rw [trim_trim]; exact h)]
  · rw [tokX_step h, tokX_step (by rw [trim_trim]; exact h), trim_trim]
theorem sgn_head : ∀ t, isSgn t = true → isC t = false ∧ isN t = false := by
  have hall : ∀ u ∈ signL ++ assignL, isC u = false ∧ isN u = false := by decide
  intro t h
  refine hall t ?_
  unfold isSgn isAsg at h
  simpa using h
theorem sg_head {x : Bs} (h : sgR x ≠ []) : isC x = false ∧ isN x = false ∧ x.take (sgR x).length = sgR x ∧ isSgn (sgR x) = true ∧ sgnN x = some (sgR x).length ∧ wordB x = [] ∧ 1 ≤ (sgR x).length ∧ (sgR x).length ≤ 3 ∧ (sgR x).length ≤ x.length := by
  have e := sgR_sgn x
  cases hk : sgnN x with
  | none => rw [hk] at e; exact absurd e h
  | some k =>
    rw [hk] at e
    dsimp only at e
    have hq : k ≤ x.length ∧ isSgn (x.take k) = true ∧ 1 ≤ k ∧ k ≤ 3 := by
      unfold sgnN at hk
      split at hk
      · rename_i q; cases hk; exact ⟨q.1, q.2, by omega, by omega⟩
      · split at hk
        · rename_i q; cases hk; exact ⟨q.1, q.2, by omega, by omega⟩
        · split at hk
          · rename_i q; cases hk; exact ⟨q.1, q.2, by omega, by omega⟩
          · cases hk
    obtain ⟨q1, q2, q3, q4⟩ := hq
    have hl : (sgR x).length = k := by rw [e, List.length_take]; omega
    obtain ⟨c1, c2⟩ := sgn_head _ q2
    cases x with
    | nil => simp at q1; omega
    | cons c r =>
      obtain ⟨q, hq⟩ := take_head (c := c) (r := r) (k := k) (by omega)
      rw [hq] at c1 c2
      have c1' : isDg c = false := c1
      have c2' : isLt c = false := c2
      refine ⟨c1, c2, by rw [hl, e], by rw [e]; exact q2, by rw [hl], ?_, by omega, by omega, by omega⟩
      unfold wordB
      rw [nameN, c1', c2']; rfl
/-- what stands at a place behind the blanks. -/
inductive Tk (x : Bs) : Prop
  | none (h : x = []) (t : tokX x = []) (s : sgR x = []) (w : wordB x = [])
  | sign (h : sgR x ≠ []) (t : tokX x = sgR x :: tokX (x.drop (sgR x).length)) (s : isSgn (sgR x) = true) (w : wordB x = []) (l : (sgR x).length ≤ x.length) (l3 : (sgR x).length ≤ 3)
  | name (s : sgR x = []) (h : isN (wordB x) = true) (t : tokX x = wordB x :: tokX (x.drop (wordB x).length)) (l : (wordB x).length ≤ x.length)
  | cst (s : sgR x = []) (h : isN (wordB x) = false) (c : isC (wordB x) = true) (v : conP (wordB x) = (cstV (wordB x), true)) (t : tokX x = wordB x :: tokX (x.drop (wordB x).length)) (l : (wordB x).length ≤ x.length)
  | bad (s : sgR x = []) (h : isN (wordB x) = false) (v : (conP (wordB x)).2 = false) (t : tokX x = [mark]) (l : (wordB x).length ≤ x.length)
theorem tk_any {x : Bs} (hx : trimB x = x) : Tk x := by
  have hwl : (wordB x).length ≤ x.length := by unfold wordB; rw [List.length_take]; omega
  by_cases h0 : x = []
  · subst h0; exact .none rfl (tokX_nil rfl) (by decide) rfl
  have hs := tokX_step (s := x) (by rw [hx]; exact h0)
  rw [hx] at hs
  by_cases hg : sgR x = []
  · have hsn : sgnN x = none := by
      have e := sgR_sgn x
      cases hk : sgnN x with
      | none => rfl
      | some k =>
        exfalso
        rw [hk, hg] at e
        dsimp only at e
        unfold sgnN at hk
        have h1 : x.take k = [] := e.symm
        have : ∀ m, isSgn (x.take m) = true → x.take m ≠ [] := fun m q e => by rw [e] at q; exact absurd q (by decide)
        split at hk
        · rename_i q; cases hk; exact this _ q.2 h1
        · split at hk
          · rename_i q; cases hk; exact this _ q.2 h1
          · split at hk
            · rename_i q; cases hk; exact this _ q.2 h1
            · cases hk
    by_cases hn : isN x = true
    · have hc := isN_C hn
      rw [if_neg (by rw [hc]; simp)] at hs
      have hk : tokN x = some (nameN x) := by unfold tokN; rw [hc, hn]; rfl
      rw [hk] at hs
      have hnl := nameN_le x
      have hw : (wordB x).length = nameN x := by unfold wordB; rw [List.length_take]; omega
      refine .name hg ?_ (by rw [hw]; exact hs) hwl
      cases x with
      | nil => exact absurd rfl h0
      | cons c r =>
        have hl : isLt c = true := hn
        unfold wordB
        rw [nameN, hl]; exact hl
    · have hn : isN x = false := by simpa using hn
      by_cases hc : isC x = true
      · obtain ⟨w1, w2, w3, w4⟩ := word_cst x hc
        have hwN : isN (wordB x) = false ∧ isC (wordB x) = true := by
          cases x with
          | nil => exact absurd rfl h0
          | cons c r =>
            have hd : isDg c = true := hc
            have hl : isLt c = false := hn
            unfold wordB
            rw [nameN, hd, hl]; exact ⟨hl, hd⟩
        by_cases he : cstN x = nameN x
        · rw [if_neg (by rintro ⟨_, q⟩; exact q he)] at hs
          have hk : tokN x = some (nameN x) := by unfold tokN; rw [hc, he]; rfl
          rw [hk] at hs
          refine .cst hg hwN.1 hwN.2 ?_ (by rw [w3]; exact hs) hwl
          unfold conP
          rw [if_pos ⟨w4, by rw [w1, w3]; exact he⟩]
        · rw [if_pos ⟨hc, he⟩] at hs
          refine .bad hg hwN.1 ?_ hs hwl
          unfold conP
          rw [if_neg (by rintro ⟨_, q⟩; rw [w1, w3] at q; exact he q)]
      · have hc : isC x = false := by simpa using hc
        have hk : tokN x = none := by unfold tokN; rw [hc, hn]; exact hsn
        rw [if_neg (by rw [hc]; simp), hk] at hs
        have hw : wordB x = [] := by
          cases x with
          | nil => exact absurd rfl h0
          | cons c r =>
            have hd : isDg c = false := hc
            have hl : isLt c = false := hn
            unfold wordB
            rw [nameN, hd, hl]; rfl
        exact .bad hg (by rw [hw]; rfl) (by rw [hw]; rfl) hs hwl
  · obtain ⟨a1, a2, a3, a4, a5, a6, a7, a8, a9⟩ := sg_head hg
    have hk : tokN x = some (sgR x).length := by unfold tokN; rw [a1, a2]; exact a5
    rw [if_neg (by rw [a1]; simp), hk] at hs
    dsimp only at hs
    rw [a3] at hs
    exact .sign hg hs a4 a6 a9 a8
/-! the parser with as much fuel as it takes -/
def PR (K : Kd) (o : Nat) (ts : List Bs) (R : Option (Nd × List Bs)) : Prop := ∃ F, ∀ f, F ≤ f → pP f K o ts = R
theorem PR.mk1 {K : Kd} {o : Nat} {ts : List Bs} {R : Option (Nd × List Bs)} (F : Nat) (h : ∀ f, F ≤ f → pP (f + 1) K o ts = R) : PR K o ts R :=
  ⟨F + 1, fun f hf => by
    obtain ⟨m, rfl⟩ : ∃ m, f = m + 1 := ⟨f - 1, by omega⟩
    exact h m (by omega)⟩
theorem PR.deep {K : Kd} {o : Nat} (ts : List Bs) (hK : K = .asg ∨ K = .cho ∨ K = .un) (h : 24 < o) : PR K o ts none := .mk1 0 fun f _ => pP_deep f K o ts hK h
theorem PR.level_none {k o : Nat} {ts : List Bs} (h : PR (opK k) o ts none) : PR (.lev k) o ts none := by
  obtain ⟨F, h⟩ := h
  exact .mk1 F fun f hf => by rw [pP_lev, h f hf]
theorem PR.level {k o : Nat} {ts q : List Bs} {l : Nd} {R : Option (Nd × List Bs)} (h : PR (opK k) o ts (some (l, q))) (h2 : PR (.more k l) o q R) : PR (.lev k) o ts R := by
  obtain ⟨F, h⟩ := h
  obtain ⟨G, h2⟩ := h2
  exact .mk1 (F + G) fun f hf => by rw [pP_lev, h f (by omega)]; exact h2 f (by omega)
theorem PR.more_end {k o : Nat} {ts : List Bs} (l : Nd) (h : ∀ t r, ts = t :: r → (lev k).contains t = false) : PR (.more k l) o ts (some (l, ts)) :=
  .mk1 0 fun f hf => by
    cases ts with
    | nil => rfl
    | cons t r => rw [pP_more, if_neg (by rw [h t r rfl]; decide)]
theorem PR.more_none {k o : Nat} {t : Bs} {r : List Bs} (l : Nd) (ht : (lev k).contains t = true) (h : PR (opK k) o r none) : PR (.more k l) o (t :: r) none := by
  obtain ⟨F, h⟩ := h
  exact .mk1 F fun f hf => by rw [pP_more, if_pos ht, h f hf]
theorem PR.more {k o : Nat} {t : Bs} {r r2 : List Bs} {l x : Nd} {R : Option (Nd × List Bs)} (ht : (lev k).contains t = true) (h : PR (opK k) o r (some (x, r2))) (h2 : PR (.more k (.bin t l x)) o r2 R) : PR (.more k l) o (t :: r) R := by
  obtain ⟨F, h⟩ := h
  obtain ⟨G, h2⟩ := h2
  exact .mk1 (F + G) fun f hf => by rw [pP_more, if_pos ht, h f (by omega)]; exact h2 f (by omega)
theorem PR.un0 (o : Nat) : PR .un o [] none := .mk1 0 fun f _ => pP_un0 f o
theorem PR.un_pre {o : Nat} {t : Bs} {r : List Bs} {R : Option (Nd × List Bs)} (ho : o ≤ 24) (ht : preL.contains t = true) (h : PR .un (o + 1) r R) : PR .un o (t :: r) (R.map fun x => (.pre t x.1, x.2)) := by
  obtain ⟨F, h⟩ := h
  exact .mk1 F fun f hf => by rw [pP_un, if_neg (by omega), if_pos ht, h f hf]
theorem PR.un_par {o : Nat} {r : List Bs} {R : Option (Nd × List Bs)} (ho : o ≤ 24) (h : PR .asg (o + 1) r R) : PR .un o ([40] :: r) (R.bind fun x => if x.2.head? = some [41] then some (x.1, x.2.tail) else none) := by
  obtain ⟨F, h⟩ := h
  refine .mk1 F fun f hf => ?_
  rw [pP_un, if_neg (by omega), if_neg (by decide), if_pos rfl, h f hf]
  rcases R with _ | ⟨x, r2⟩ <;> rfl
theorem PR.un_cst {o : Nat} {t : Bs} {r : List Bs} (ho : o ≤ 24) (ht : isC t = true) : PR .un o (t :: r) (some (.num (cstV t), r)) := by
  refine .mk1 0 fun f hf => ?_
  have h1 : ¬ preL.contains t = true := fun h => by
    have hall : ∀ u ∈ preL, isC u = false := by decide
    rw [hall t (by simpa using h)] at ht; cases ht
  have h2 : ¬ t = [40] := by rintro rfl; cases ht
  rw [pP_un, if_neg (by omega), if_neg h1, if_neg h2, if_pos ht]
theorem PR.un_name {o : Nat} {t : Bs} {r : List Bs} (ho : o ≤ 24) (ht : isN t = true) : PR .un o (t :: r) (some (.nam t, r)) := by
  refine .mk1 0 fun f hf => ?_
  have h1 : ¬ preL.contains t = true := fun h => by
    have hall : ∀ u ∈ preL, isN u = false := by decide
    rw [hall t (by simpa using h)] at ht; cases ht
  have h2 : ¬ t = [40] := by rintro rfl; cases ht
  have h3 := isN_C ht
  rw [pP_un, if_neg (by omega), if_neg h1, if_neg h2, if_neg (by rw [h3]; decide), if_pos ht]
theorem PR.un_no {o : Nat} {t : Bs} {r : List Bs} (h1 : preL.contains t = false) (h2 : t ≠ [40]) (h3 : isC t = false) (h4 : isN t = false) : PR .un o (t :: r) none := by
  refine .mk1 0 fun f hf => ?_
  rw [pP_un]
  simp only [h1, h2, h3, h4, Bool.false_eq_true, if_false, ite_self]
theorem PR.cho_none {o : Nat} {ts : List Bs} (h : PR (.lev 0) (o + 1) ts none) : PR .cho o ts none := by
  obtain ⟨F, h⟩ := h
  refine .mk1 F fun f hf => ?_
  rw [pP_cho, h f hf]; simp
theorem PR.cho_one {o : Nat} {ts r : List Bs} {c : Nd} (ho : o ≤ 24) (h : PR (.lev 0) (o + 1) ts (some (c, r))) (hr : r.head? ≠ some [63]) : PR .cho o ts (some (c, r)) := by
  obtain ⟨F, h⟩ := h
  refine .mk1 F fun f hf => ?_
  rw [pP_cho, h f hf, if_neg (by omega)]
  dsimp only
  rw [if_neg hr]
theorem PR.cho_two {o : Nat} {ts r : List Bs} {c : Nd} (h : PR (.lev 0) (o + 1) ts (some (c, [63] :: r))) (h2 : PR .asg (o + 1) r none) : PR .cho o ts none := by
  obtain ⟨F, h⟩ := h
  obtain ⟨G, h2⟩ := h2
  refine .mk1 (F + G) fun f hf => ?_
  rw [pP_cho, h f (by omega)]
  simp [h2 f (by omega)]
theorem PR.cho_three {o : Nat} {ts r r2 : List Bs} {c y : Nd} (h : PR (.lev 0) (o + 1) ts (some (c, [63] :: r))) (h2 : PR .asg (o + 1) r (some (y, r2))) (hr : r2.head? ≠ some [58]) : PR .cho o ts none := by
  obtain ⟨F, h⟩ := h
  obtain ⟨G, h2⟩ := h2
  refine .mk1 (F + G) fun f hf => ?_
  rw [pP_cho, h f (by omega)]
  simp [h2 f (by omega), hr]
theorem PR.cho_four {o : Nat} {ts r r2 : List Bs} {c y : Nd} {R : Option (Nd × List Bs)} (ho : o ≤ 24) (h : PR (.lev 0) (o + 1) ts (some (c, [63] :: r))) (h2 : PR .asg (o + 1) r (some (y, [58] :: r2))) (h3 : PR .cho (o + 1) r2 R) : PR .cho o ts (R.map fun x => (.cho c y x.1, x.2)) := by
  obtain ⟨F, h⟩ := h
  obtain ⟨G, h2⟩ := h2
  obtain ⟨H, h3⟩ := h3
  refine .mk1 (F + G + H) fun f hf => ?_
  rw [pP_cho, h f (by omega), if_neg (by omega)]
  simp [h2 f (by omega), h3 f (by omega)]
theorem PR.asg_set {o : Nat} {a b : Bs} {r : List Bs} {R : Option (Nd × List Bs)} (ho : o ≤ 24) (hab : (isN a && isAsg b) = true) (h : PR .asg (o + 1) r R) : PR .asg o (a :: b :: r) (R.map fun x => (.asg a b.dropLast x.1, x.2)) := by
  obtain ⟨F, h⟩ := h
  exact .mk1 F fun f hf => by rw [pP_asg2, if_neg (by omega), if_pos hab, h f hf]
theorem PR.asg_cho {o : Nat} {ts : List Bs} {R : Option (Nd × List Bs)} (ho : o ≤ 24) (hc : ∀ a b r, ts = a :: b :: r → (isN a && isAsg b) = false) (h : PR .cho (o + 1) ts R) : PR .asg o ts R := by
  obtain ⟨F, h⟩ := h
  exact .mk1 F fun f hf => by rw [pP_asgc hc, if_neg (by omega), h f hf]
/-! what holds between two steps -/
def IV (W : World) (B p : Nat) (s : ByteArray) (k d : Nat) (gv : Value) (g : List (Bs × Bs)) (sv : Value) (o : Own) (form : Bool) (err : Int) : Prop :=
  RD W p s k d gv sv form err ∧ Giv W B gv g ∧ B ≤ p ∧ SetR W (p + 1) sv o ∧ UQ o ∧ (∀ q ∈ o, I64 q.2) ∧ k ≤ s.size ∧ o.length ≤ k
theorem IV.step {W W' : World} {B p : Nat} {s : ByteArray} {k d : Nat} {gv : Value} {g : List (Bs × Bs)} {sv : Value} {o : Own} {form : Bool} {err : Int} (h : IV W B p s k d gv g sv o form err) (f : Fr (· = p) W W') {k' d' : Nat} {form' : Bool} {err' : Int} (hr : RD W' p s k' d' gv sv form' err') (hk : k' ≤ s.size) (hkk : k ≤ k') : IV W' B p s k' d' gv g sv o form' err' := by
  obtain ⟨h1, h2, h3, h4, h5, h6, h7, h8⟩ := h
  exact ⟨hr, h2.fr f (fun q hq e => by subst e; omega), h3, h4.fr f (fun q hq e => by subst e; omega), h5, h6, hk, by omega⟩
/-- what a part of the text tells: none if the form is wrong, and then the form is; the tree's worth else. -/
def RR (g : List (Bs × Bs)) (d d' : Nat) (r' : List Bs) (o : Own) (err : Int) (c : Bool) (v : Int) (o' : Own) (form' : Bool) (err' : Int) : Option (Nd × List Bs) → Prop
  | none => form' = true ∧ d ≤ d' ∧ d' + d ≤ 51
  | some (n, r) => form' = false ∧ d' = d ∧ r' = r ∧ evC g n (o, err) c = (v, (o', err'))
def rdPost (W : World) (B p : Nat) (s : ByteArray) (k d : Nat) (gv : Value) (g : List (Bs × Bs)) (o : Own) (err : Int) (c : Bool) (K : Kd) (e : Ending) (w' : World) : Prop :=
  ∃ (v : Int) (k' d' : Nat) (sv' : Value) (o' : Own) (form' : Bool) (err' : Int) (R : Option (Nd × List Bs)), e = .returned (.int .i64 v) ∧ I64 v ∧ IV w' B p s k' d' gv g sv' o' form' err' ∧ Fr (fun q => p ≤ q) W w' ∧ k ≤ k' ∧ o'.length + k ≤ o.length + k' ∧
    PR K d (tokX (s.data.toList.drop k)) R ∧ RR g d d' (tokX (s.data.toList.drop k')) o err c v o' form' err' R
theorem Fr.up {p : Nat} {W W' : World} (f : Fr (· = p) W W') : Fr (fun q => p ≤ q) W W' := f.mono (fun q _ h => by subst h; exact Nat.le_refl _)
end Go.Proofs.YtbmnngliapmgfaaGreatDoor
