/- What ArithBases' text is worth. -/
import Derived.Test.YtncjelemjdkklaaDoorBK
namespace Go.Proofs.YtncjelemjdkklaaDoor
open Go.RowKit
set_option linter.unusedVariables false
set_option linter.unusedSimpArgs false
def digs (B : Nat) (c : Nat → UInt8) (n : Nat) : Nat → Bs
  | 0 => []
  | k + 1 => c (n / B ^ k % B) :: digs B c n k
theorem digs_len (B : Nat) (c : Nat → UInt8) (n : Nat) : ∀ k, (digs B c n k).length = k
  | 0 => rfl
  | k + 1 => by rw [digs, List.length_cons, digs_len B c n k]
theorem digs_val (B : Nat) (c : Nat → UInt8) (n : Nat) (hB : 0 < B) (hc : ∀ d, d < B → dg (c d) = d) : ∀ k v, dval B (digs B c n k) v = v * B ^ k + n % B ^ k
  | 0, v => by simp [digs, dval, Nat.mod_one]
  | k + 1, v => by
    have hq : n / B ^ k % B < B := Nat.mod_lt _ hB
    rw [digs, dval, hc _ hq, if_pos hq, digs_val B c n hB hc k, Nat.mod_pow_succ, Nat.add_mul, Nat.pow_succ, Nat.mul_comm (B ^ k) B, Nat.mul_assoc, Nat.mul_comm (B ^ k) (n / B ^ k % B)]
    omega
theorem digs_len2 (B : Nat) (c : Nat → UInt8) (n : Nat) (hB : 0 < B) (hc : ∀ d, d < B → dg (c d) = d) : ∀ k, dlen B (digs B c n k) = k
  | 0 => rfl
  | k + 1 => by
    have hq : n / B ^ k % B < B := Nat.mod_lt _ hB
    rw [digs, dlen, hc _ hq, if_pos hq, digs_len2 B c n hB hc k]
def c8 (d : Nat) : UInt8 := UInt8.ofNat (48 + d)
def hexD : Bs := [48, 49, 50, 51, 52, 53, 54, 55, 56, 57, 97, 98, 99, 100, 69, 70]
def c16 (d : Nat) : UInt8 := hexD.getD d 0
theorem c8_dg : ∀ d, d < 8 → dg (c8 d) = d := by decide +kernel
theorem c16_dg : ∀ d, d < 16 → dg (c16 d) = d := by decide +kernel
theorem c8_no : ∀ d, d < 8 → c8 d ≠ 120 ∧ c8 d ≠ 88 := by decide +kernel
abbrev oT (n : Nat) : Bs := 48 :: digs 8 c8 n 22
abbrev hT (x : UInt8) (n : Nat) : Bs := 48 :: x :: digs 16 c16 n 16
theorem o_cst (n : Nat) (hn : n < 9223372036854775808) : isC (oT n) = true ∧ cstV (oT n) = n ∧ cstN (oT n) = (oT n).length := by
  have hb : base (oT n) = (8, 0) := by
    have hx : hexB (oT n) = false := by
      have := c8_no (n / 8 ^ 21 % 8) (Nat.mod_lt _ (by omega))
      show (48 == 48 && (c8 (n / 8 ^ 21 % 8) == 120 || c8 (n / 8 ^ 21 % 8) == 88) && decide (dg _ < 16)) = false
      simp [this]
    unfold base
    rw [hx]; rfl
  refine ⟨rfl, ?_, ?_⟩
  · unfold cstV
    rw [hb]
    dsimp only
    rw [List.drop_zero, dval, show dg 48 = 0 from by decide, if_pos (by omega), digs_val 8 c8 n (by omega) c8_dg, Nat.mod_eq_of_lt (by omega)]
    simp only [Nat.zero_mul, Nat.zero_add]
    exact wrap_id ⟨by omega, by omega⟩
  · unfold cstN
    rw [hb]
    dsimp only
    rw [List.drop_zero, dlen, show dg 48 = 0 from by decide, if_pos (by omega), digs_len2 8 c8 n (by omega) c8_dg, List.length_cons, digs_len]
theorem h_cst (x : UInt8) (hx : x = 120 ∨ x = 88) (n : Nat) (hn : n < 9223372036854775808) : isC (hT x n) = true ∧ cstV (hT x n) = n ∧ cstN (hT x n) = (hT x n).length := by
  have hb : base (hT x n) = (16, 2) := by
    have hq : n / 16 ^ 15 % 16 < 16 := Nat.mod_lt _ (by omega)
    have hh : hexB (hT x n) = true := by
      show (48 == 48 && (x == 120 || x == 88) && decide (dg (c16 (n / 16 ^ 15 % 16)) < 16)) = true
      rw [c16_dg _ hq]
      rcases hx with rfl | rfl <;> simp [hq]
    unfold base
    rw [hh]; rfl
  refine ⟨rfl, ?_, ?_⟩
  · unfold cstV
    rw [hb]
    show wrap64 ((dval 16 (digs 16 c16 n 16) 0 : Nat) : Int) = n
    rw [digs_val 16 c16 n (by omega) c16_dg, Nat.mod_eq_of_lt (by omega)]
    simp only [Nat.zero_mul, Nat.zero_add]
    exact wrap_id ⟨by omega, by omega⟩
  · unfold cstN
    rw [hb]
    show 2 + dlen 16 (digs 16 c16 n 16) = _
    rw [digs_len2 16 c16 n (by omega) c16_dg, List.length_cons, List.length_cons, digs_len]
theorem d_cst (n : Nat) (hn : n < 9223372036854775808) : isC (Lib.decDigits n) = true ∧ cstV (Lib.decDigits n) = n ∧ cstN (Lib.decDigits n) = (Lib.decDigits n).length := by
  obtain ⟨h1, h2, c, r, h3, -, -⟩ := dec_fact n
  have hc := cst_dec n
  refine ⟨?_, by rw [hc.2]; exact wrap_id ⟨by omega, by omega⟩, hc.1⟩
  rw [h3]
  exact h1 c (by rw [h3]; simp)
/-- the texts for the constants 1 to 4. -/
def sg (d o h H : Bs) (t : Bs) : Bs := if isC t = true then if cstV t = 1 then d else if cstV t = 2 then o else if cstV t = 3 then h else if cstV t = 4 then H else t else t
def mg (a b c d : Int) (v : Int) : Int := if v = 1 then a else if v = 2 then b else if v = 3 then c else if v = 4 then d else v
theorem sg_sub (d o h H : Bs) (hd : isC d = true) (ho : isC o = true) (hh : isC h = true) (hH : isC H = true) : Sub (sg d o h H) (mg (cstV d) (cstV o) (cstV h) (cstV H)) := by
  refine ⟨fun t ht => by unfold sg; rw [if_neg (by rw [ht]; simp)], fun t ht => ?_⟩
  unfold sg mg
  rw [if_pos ht]
  split
  · exact ⟨hd, rfl⟩
  · split
    · exact ⟨ho, rfl⟩
    · split
      · exact ⟨hh, rfl⟩
      · split
        · exact ⟨hH, rfl⟩
        · exact ⟨ht, rfl⟩
theorem sg_vals (d o h H : Bs) : sg d o h H [49] = d ∧ sg d o h H [50] = o ∧ sg d o h H [51] = h ∧ sg d o h H [52] = H := by
  have e1 : cstV [49] = 1 := by decide +kernel
  have e2 : cstV [50] = 2 := by decide +kernel
  have e3 : cstV [51] = 3 := by decide +kernel
  have e4 : cstV [52] = 4 := by decide +kernel
  unfold sg
  rw [e1, e2, e3, e4]
  exact ⟨rfl, rfl, rfl, rfl⟩
theorem sg_keep (d o h H : Bs) (t : Bs) (ht : isC t = false) : sg d o h H t = t := by unfold sg; rw [if_neg (by rw [ht]; simp)]
def bText (d o h H : Bs) : Bs := d ++ 32 :: ([61, 61] ++ 32 :: (o ++ 32 :: ([38, 38] ++ 32 :: (d ++ 32 :: ([61, 61] ++ 32 :: (h ++ 32 :: ([38, 38] ++ 32 :: (H ++ 32 :: ([61, 61] ++ 32 :: o)))))))))
def bTpl : List Bs := [[49], [61, 61], [50], [38, 38], [49], [61, 61], [51], [38, 38], [52], [61, 61], [50]]
def bTree : Nd := .bin [38, 38] (.bin [38, 38] (.bin [61, 61] (.num 1) (.num 2)) (.bin [61, 61] (.num 1) (.num 3))) (.bin [61, 61] (.num 4) (.num 2))
structure Wd (w : Bs) (n : Int) (l : Nat) : Prop where
  c : isC w = true
  v : cstV w = n
  n : cstN w = w.length
  l : w.length ≤ l
theorem bases_parsed' (d o h H : Bs) (n : Int) (hd : Wd d n 30) (ho : Wd o n 30) (hh : Wd h n 30) (hH : Wd H n 30) : parsed (bText d o h H) = some (nmap (mg n n n n) bTree) := by
  have td := toks_word hd.c hd.n
  have tO := toks_word ho.c ho.n
  have th := toks_word hh.c hh.n
  have tH := toks_word hH.c hH.n
  have te : toks [61, 61] = some [[61, 61]] := by decide +kernel
  have ta : toks [38, 38] = some [[38, 38]] := by decide +kernel
  have hs := sg_sub d o h H hd.c ho.c hh.c hH.c
  rw [hd.v, ho.v, hh.v, hH.v] at hs
  obtain ⟨k1, k2, k3, k4⟩ := sg_vals d o h H
  have l1 := hd.l
  have l2 := ho.l
  have l3 := hh.l
  have l4 := hH.l
  refine parsed_map hs (ts := bTpl) ?_ ?_ (by decide) (by decide +kernel)
  · unfold bText
    simp only [List.length_append, List.length_cons, List.length_nil]
    omega
  · have e : bTpl.map (sg d o h H) = [d] ++ ([[61, 61]] ++ ([o] ++ ([[38, 38]] ++ ([d] ++ ([[61, 61]] ++ ([h] ++ ([[38, 38]] ++ ([H] ++ ([[61, 61]] ++ [o]))))))))) := by
      unfold bTpl
      simp only [List.map_cons, List.map_nil, k1, k2, k3, k4, sg_keep _ _ _ _ [61, 61] (by decide), sg_keep _ _ _ _ [38, 38] (by decide)]
      rfl
    rw [e]
    exact toks_sp _ _ _ _ td (toks_sp _ _ _ _ te (toks_sp _ _ _ _ tO (toks_sp _ _ _ _ ta (toks_sp _ _ _ _ td (toks_sp _ _ _ _ te (toks_sp _ _ _ _ th (toks_sp _ _ _ _ ta (toks_sp _ _ _ _ tH (toks_sp _ _ _ _ te tO)))))))))
theorem d_wd (n : Nat) (hn : n < 9223372036854775808) : Wd (Lib.decDigits n) n 30 := by
  obtain ⟨d1, d2, d3⟩ := d_cst n hn
  exact ⟨d1, d2, d3, by rw [Lib.decDigits_length]; exact Nat.le_trans (Lib.nDigits_le20 n (by omega)) (by decide)⟩
theorem o_wd (n : Nat) (hn : n < 9223372036854775808) : Wd (oT n) n 30 := by
  obtain ⟨d1, d2, d3⟩ := o_cst n hn
  exact ⟨d1, d2, d3, by rw [List.length_cons, digs_len]; decide⟩
theorem h_wd (x : UInt8) (hx : x = 120 ∨ x = 88) (n : Nat) (hn : n < 9223372036854775808) : Wd (hT x n) n 30 := by
  obtain ⟨d1, d2, d3⟩ := h_cst x hx n hn
  exact ⟨d1, d2, d3, by rw [List.length_cons, List.length_cons, digs_len]; decide⟩
theorem bases_parsed (n : Nat) (hn : n < 9223372036854775808) : parsed (bText (Lib.decDigits n) (oT n) (hT 120 n) (hT 88 n)) = some (nmap (mg n n n n) bTree) :=
  bases_parsed' _ _ _ _ n (d_wd n hn) (o_wd n hn) (h_wd 120 (.inl rfl) n hn) (h_wd 88 (.inr rfl) n hn)
theorem bases_val (n : Nat) (hn : n < 9223372036854775808) : valP [] (bText (Lib.decDigits n) (oT n) (hT 120 n) (hT 88 n)) = (1, 0, []) := by
  have eq1 : ∀ a : Int, ev [] (.bin [61, 61] (.num a) (.num a)) [] = ((1, 0), []) := fun a =>
    (evl_bin _ _ _ _ _ _ _ _ _ (evl_num _ a _) (evl_num _ a _) (by decide)).trans (by
      show ((truth (a == a), (0 : Int)), ([] : Own)) = _
      rw [beq_self_eq_true]; rfl)
  have and1 : ∀ l r : Nd, ev [] l [] = ((1, 0), []) → ev [] r [] = ((1, 0), []) → ev [] (.bin [38, 38] l r) [] = ((1, 0), []) := by
    intro l r hl hr
    rw [ev, hl]
    dsimp only
    rw [if_pos rfl, if_neg (by decide), hr]
    rfl
  rw [valP_of _ _ _ (bases_parsed n hn) 1 0 [] (and1 _ _ (and1 _ _ (eq1 _) (eq1 _)) (eq1 _))]
  rfl
theorem dec_val (n : Nat) (hn : n < 9223372036854775808) : valP [] (Lib.decDigits n) = ((n : Int), 0, []) := by
  obtain ⟨d1, d2, d3⟩ := d_cst n hn
  have hs := sg_sub (Lib.decDigits n) (Lib.decDigits n) (Lib.decDigits n) (Lib.decDigits n) d1 d1 d1 d1
  rw [d2] at hs
  have hlen : (Lib.decDigits n).length ≤ 20 := by rw [Lib.decDigits_length]; exact Lib.nDigits_le20 n (by omega)
  have hp : parsed (Lib.decDigits n) = some (nmap (mg n n n n) (.num 1)) := parsed_map hs (ts := [[49]]) (by omega) (by
    rw [toks_word d1 d3, List.map_cons, (sg_vals _ _ _ _).1]; rfl) (by decide) (by decide +kernel)
  rw [valP_of _ _ _ hp n 0 [] rfl]; rfl
end Go.Proofs.YtncjelemjdkklaaDoor
