/- What ArithSets' text is worth. -/
import Derived.Test.YtncjelemjdkklaaDoorBL
import Derived.Test.YtncjelemjdkklaaDoorBN
namespace Go.Proofs.YtncjelemjdkklaaDoor
open Go.RowKit
set_option linter.unusedVariables false
set_option linter.unusedSimpArgs false
theorem toks_minus {d : Bs} (hc : isC d = true) (hn : cstN d = d.length) : toks (45 :: d) = some [[45], d] := by
  cases d with
  | nil => cases hc
  | cons c r =>
    have hd : isDg c = true := hc
    have h61 : c ≠ 61 := by rintro rfl; revert hd; decide
    have e : trimB (45 :: c :: r) = 45 :: c :: r := rfl
    have hk : tokN (45 :: c :: r) = some 1 := by
      have : sgnN (45 :: c :: r) = some 1 := by
        unfold sgnN
        have h2 : isSgn [45, c] = false := by simp [isSgn, isAsg, signL, assignL, h61]
        have h1 : isSgn [45] = true := by decide
        cases r with
        | nil => simp [h2, h1]
        | cons x q =>
          have h3 : isSgn [45, c, x] = false := by simp [isSgn, isAsg, signL, assignL]
          simp [h2, h3, h1]
      unfold tokN
      rw [this]; rfl
    rw [toks_step (by rw [e]; simp), e, hk]
    show (toks (c :: r)).map ([45] :: ·) = _
    rw [toks_word hc hn]; rfl
theorem num_split (a : Int) (h : I64 a) : ∃ (neg : Bool) (d : Bs) (v : Int), toks (Lib.itoa a) = some (if neg = true then [[45], d] else [d]) ∧ isC d = true ∧ cstV d = v ∧ (if neg = true then wrap64 (-v) else v) = a := by
  unfold I64 at h
  by_cases h0 : a < 0
  · obtain ⟨m, rfl⟩ : ∃ m : Nat, a = -(m : Int) := ⟨a.natAbs, by omega⟩
    have hc := cst_dec m
    obtain ⟨h1, h2, c, r, h3, -, -⟩ := dec_fact m
    have hi : isC (Lib.decDigits m) = true := by rw [h3]; exact h1 c (by rw [h3]; simp)
    refine ⟨true, Lib.decDigits m, _, ?_, hi, hc.2, ?_⟩
    · rw [Lib.itoa_neg m (by omega)]
      exact toks_minus hi hc.1
    · rw [if_pos rfl]
      unfold wrap64; omega
  · obtain ⟨m, rfl⟩ : ∃ m : Nat, a = (m : Int) := ⟨a.toNat, by omega⟩
    have hc := cst_dec m
    obtain ⟨h1, h2, c, r, h3, -, -⟩ := dec_fact m
    have hi : isC (Lib.decDigits m) = true := by rw [h3]; exact h1 c (by rw [h3]; simp)
    refine ⟨false, Lib.decDigits m, _, ?_, hi, hc.2, ?_⟩
    · rw [Lib.itoa_nonneg]
      exact toks_word hi hc.1
    · rw [if_neg (by decide)]
      unfold wrap64; omega
def q2 : Bs := [32, 43, 32, 40, 120, 32, 61, 32, 121, 41, 32, 43, 32, 40, 121, 32, 43, 61]
def q3 : Bs := [32, 43, 32, 40, 120, 32, 60, 60, 61, 32, 49, 41]
def sText (d e : Bs) : Bs := [40, 121, 32, 61] ++ 32 :: (d ++ 41 :: (q2 ++ 32 :: (e ++ 41 :: q3)))
def sTpl (n1 n2 : Bool) : List Bs := [[40], [121], [61]] ++ ((if n1 = true then [[45], [50]] else [[50]]) ++ ([[41], [43], [40], [120], [61], [121], [41], [43], [40], [121], [43, 61]] ++ ((if n2 = true then [[45], [51]] else [[51]]) ++ [[41], [43], [40], [120], [60, 60, 61], [49], [41]])))
def numT (n : Bool) (v : Int) : Nd := if n = true then .pre [45] (.num v) else .num v
def sTree (n1 n2 : Bool) (v w u : Int) : Nd := .bin [43] (.bin [43] (.bin [43] (.asg [121] [] (numT n1 v)) (.asg [120] [] (.nam [121]))) (.asg [121] [43] (numT n2 w))) (.asg [120] [60, 60] (.num u))
theorem s_pP : ∀ n1 n2 : Bool, pP (20 * (sTpl n1 n2).length + 15) .asg 0 (sTpl n1 n2) = some (sTree n1 n2 2 3 1, []) := by decide +kernel
theorem s_map (n1 n2 : Bool) (v w : Int) : nmap (mg 1 v w 4) (sTree n1 n2 2 3 1) = sTree n1 n2 v w 1 := by cases n1 <;> cases n2 <;> rfl
theorem s_parsed {d e D E : Bs} {n1 n2 : Bool} {v w : Int} (hd : toks D = some (if n1 = true then [[45], d] else [d])) (he : toks E = some (if n2 = true then [[45], e] else [e])) (cd : isC d = true) (ce : isC e = true) (vd : cstV d = v) (ve : cstV e = w) (lD : D.length ≤ 30) (lE : E.length ≤ 30) :
    parsed (sText D E) = some (sTree n1 n2 v w 1) := by
  have hs := sg_sub [49] d e [52] (by decide) cd ce (by decide)
  rw [vd, ve, show cstV [49] = 1 from by decide +kernel, show cstV [52] = 4 from by decide +kernel] at hs
  obtain ⟨k1, k2, k3, k4⟩ := sg_vals [49] d e [52]
  rw [← s_map n1 n2 v w]
  refine parsed_map hs (ts := sTpl n1 n2) ?_ ?_ (by cases n1 <;> cases n2 <;> decide) (s_pP n1 n2)
  · unfold sText q2 q3
    simp only [List.length_append, List.length_cons, List.length_nil]
    omega
  · have t1 : toks [40, 121, 32, 61] = some [[40], [121], [61]] := by decide +kernel
    have t2 : toks (41 :: q2) = some [[41], [43], [40], [120], [61], [121], [41], [43], [40], [121], [43, 61]] := by decide +kernel
    have t3 : toks (41 :: q3) = some [[41], [43], [40], [120], [60, 60, 61], [49], [41]] := by decide +kernel
    have h := toks_sp _ _ _ _ t1 (toks_cl _ _ _ _ hd (toks_sp _ _ _ _ t2 (toks_cl _ _ _ _ he t3)))
    refine Eq.trans h ?_
    congr 1
    have K (t : Bs) (ht : isC t = false) := sg_keep [49] d e [52] t ht
    unfold sTpl
    cases n1 <;> cases n2 <;> simp [k1, k2, k3, K [40] (by decide), K [121] (by decide), K [61] (by decide), K [45] (by decide), K [41] (by decide), K [43] (by decide), K [120] (by decide), K [43, 61] (by decide), K [60, 60, 61] (by decide)]
theorem ev_numT (n : Bool) (v a : Int) (h : (if n = true then wrap64 (-v) else v) = a) (o : Own) : ev [] (numT n v) o = ((a, 0), o) := by
  cases n with
  | false => rw [← h]; rfl
  | true => rw [← h]; rfl
def sOwn (a b : Int) : Own := [([121], wrap64 (a + b)), ([120], wrap64 (a * 2))]
theorem s_ev (n1 n2 : Bool) (v w a b : Int) (ha : (if n1 = true then wrap64 (-v) else v) = a) (hb : (if n2 = true then wrap64 (-w) else w) = b) :
    ev [] (sTree n1 n2 v w 1) [] = ((wrap64 (wrap64 (wrap64 (a + a) + wrap64 (a + b)) + wrap64 (a * 2)), 0), sOwn a b) := by
  have e1 : ev [] (.asg [121] [] (numT n1 v)) [] = ((a, 0), [([121], a)]) := by
    rw [ev, ev_numT n1 v a ha]; rfl
  have e2 : ev [] (.asg [120] [] (.nam [121])) [([121], a)] = ((a, 0), [([121], a), ([120], a)]) := rfl
  have e3 : ev [] (.asg [121] [43] (numT n2 w)) [([121], a), ([120], a)] = ((wrap64 (a + b), 0), [([121], wrap64 (a + b)), ([120], a)]) := by
    rw [ev, ev_numT n2 w b hb]; rfl
  have e4 : ev [] (.asg [120] [60, 60] (.num 1)) [([121], wrap64 (a + b)), ([120], a)] = ((wrap64 (a * 2), 0), sOwn a b) := by
    have hl : (low6 1).toNat = 1 := by decide +kernel
    have ho : opI [60, 60] a 1 = (wrap64 (a * 2), 0) := by
      show (wrap64 (a * 2 ^ (low6 1).toNat), (0 : Int)) = _
      rw [hl]; rfl
    rw [ev, evl_num]
    dsimp only
    rw [if_pos rfl, if_neg (by decide)]
    have hg : getV [] [([121], wrap64 (a + b)), ([120], a)] [120] = (a, 0) := rfl
    rw [hg]
    dsimp only
    rw [if_pos rfl, ho]
    rfl
  have s1 := evl_bin [] [43] _ _ _ _ _ _ _ e1 e2 (by decide)
  have s2 := evl_bin [] [43] _ _ _ _ _ _ _ s1 e3 (by decide)
  exact evl_bin [] [43] _ _ _ _ _ _ _ s2 e4 (by decide)
theorem sets_val (a b : Int) (ha : I64 a) (hb : I64 b) : valP [] (sText (Lib.itoa a) (Lib.itoa b)) = (wrap64 (wrap64 (wrap64 (a + a) + wrap64 (a + b)) + wrap64 (a * 2)), 0, sOwn a b) := by
  obtain ⟨n1, d, v, h1, h2, h3, h4⟩ := num_split a ha
  obtain ⟨n2, e, w, k1, k2, k3, k4⟩ := num_split b hb
  have la := itoa_len ha
  have lb := itoa_len hb
  rw [valP_of _ _ _ (s_parsed h1 k1 h2 k2 h3 k3 (by omega) (by omega)) _ _ _ (s_ev n1 n2 v w a b h4 k4)]
  rfl
end Go.Proofs.YtncjelemjdkklaaDoor
