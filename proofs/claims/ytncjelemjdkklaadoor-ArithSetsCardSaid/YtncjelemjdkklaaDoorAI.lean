/- Nodes as values; the loop over a level's operators. -/
import Derived.Test.YtncjelemjdkklaaDoorAH
namespace Go.Proofs.YtncjelemjdkklaaDoor
open Go.RowKit
set_option linter.unusedVariables false
set_option linter.unusedSimpArgs false
def enc : Nd → Value
  | .num n => .iface 54 (.int .i64 n)
  | .nam s => .iface 115 (.string (st s))
  | .pre g r => .iface 114 (.agg #[.string (st g), enc r])
  | .bin g l r => .iface 101 (.agg #[.string (st g), enc l, enc r])
  | .cho c y n => .iface 77 (.agg #[enc c, enc y, enc n])
  | .asg s g r => .iface 64 (.agg #[.string (st s), .string (st g), enc r])
/-- what a call leaves that reads a node or finds no expression. -/
def ndPost (pb o : Nat) (W : World) (r : Option (Nd × List Bs)) (e : Ending) (w' : World) : Prop := match r with
  | some x => e = .returned (enc x.1) ∧ PT w' pb o x.2 ∧ Fr (· = pb) W w'
  | none => e = .panicked bad ∧ PW w' pb ∧ Fr (· = pb) W w'
def Does (pb f : Nat) (K : Kd) (fn : Nat) : Prop := ∀ (o : Nat) (ts : List Bs) (W : World), PT W pb o ts → enough K ts.length ≤ f → Calls Tryd.prog fn #[.pointer (some ⟨pb, 0, none⟩)] W (ndPost pb o W (pP f K o ts))
theorem ndPost.fr {pb o : Nat} {W0 W w' : World} {r : Option (Nd × List Bs)} {e : Ending} (h0 : Fr (· = pb) W0 W) (h : ndPost pb o W r e w') : ndPost pb o W0 r e w' := by
  unfold ndPost at *
  cases r with
  | none => exact ⟨h.1, h.2.1, h0.trans h.2.2⟩
  | some x => exact ⟨h.1, h.2.1, h0.trans h.2.2⟩
def restN (W : World) (pb : Nat) : Nat := match W.cell? ⟨pb, 0, none⟩ with
  | some (.slice _ n _) => n
  | _ => 0
theorem rest_eq {W : World} {pb o : Nat} {ts : List Bs} (h : PT W pb o ts) : restN W pb = ts.length := by
  obtain ⟨tb, off, cap, c0, -⟩ := h.cells
  unfold restN
  rw [c0]
theorem contains_st (l : List Bs) (t : Bs) : Lib.containsS (l.map st) (st t) = l.contains t := by
  rw [Bool.eq_iff_iff, Lib.containsS_iff, List.contains_iff_mem, List.mem_map]
  constructor
  · rintro ⟨a, ha, e⟩
    rw [← st_inj e]; exact ha
  · exact fun h => ⟨t, h, rfl⟩
/-- a row of strings in one block. -/
def Strs (W : World) (sb : Nat) (l : List Bs) : Prop := sb < W.heap.size ∧ ∀ j t, l[j]? = some t → W.cell? ⟨sb, j, none⟩ = some (cellS t)
theorem Strs.fr {W W' : World} {sb pb : Nat} {l : List Bs} (h : Strs W sb l) (f : Fr (· = pb) W W') (hs : sb ≠ pb) : Strs W' sb l :=
  ⟨Nat.lt_of_lt_of_le h.1 f.size, fun j t ht => f.cell (h.2 j t ht) hs⟩
theorem among_any {W : World} {sb c : Nat} {l : List Bs} (h : Strs W sb l) (hl : l.length ≤ 1000) (t : Bs) (b : Bool) (hb : l.contains t = b) :
    Calls Tryd.prog 59 #[.slice (some ⟨sb, 0, none⟩) l.length c, .string (st t)] W fun e w' => e = .returned (.bool b) ∧ w' = W := by
  have hc := Tryd.slices_Contains_string sb 0 l.length c (l.map st) (st t) W (by simp) (by omega) (by
    intro j hj
    rw [List.length_map] at hj
    rw [Nat.zero_add, h.2 j l[j] (List.getElem?_eq_getElem hj)]
    unfold cellS
    rw [List.getD_eq_getElem?_getD, List.getElem?_map, List.getElem?_eq_getElem hj]
    rfl)
  refine hc.mono ?_
  rintro e w' ⟨rfl, rfl⟩
  refine ⟨?_, rfl⟩
  rw [List.take_of_length_le (by simp), contains_st, hb]
theorem lev_not (k : Nat) : (lev k).contains [] = false := by
  unfold lev
  rcases Nat.lt_or_ge k 10 with h | h
  · have : ∀ k : Fin 10, (levL.getD k.val []).contains [] = false := by decide
    exact this ⟨k, h⟩
  · rw [List.getD_eq_getElem?_getD, List.getElem?_eq_none (by exact h)]; rfl
theorem enc_eq (l : Nd) : ∃ a x, enc l = .iface a x := by cases l <;> exact ⟨_, _, rfl⟩
def lvRel (pb o : Nat) (W : World) (f k : Nat) (R : Option (Nd × List Bs)) (lv : Value) (wr : World) : Prop :=
  ∃ (l : Nd) (ts : List Bs) (q : Nat), lv = enc l ∧ PT wr pb o ts ∧ Fr (· = pb) W wr ∧ q ≤ f ∧ 20 * ts.length + 2 ≤ q ∧ pP q (.more k l) o ts = R
set_option maxRecDepth 100000 in
set_option maxHeartbeats 3000000 in
theorem level_any (pb f k g sb c : Nat) (hk : k ≤ 9) (hpl : (callFunc g #[.pointer (some ⟨pb, 0, none⟩)]).run Tryd.prog = fun w => .ok (.enter g #[.pointer (some ⟨pb, 0, none⟩)]) w) (hop : ∀ q, q ≤ f → Does pb q (opK k) g) (o : Nat) (ts : List Bs) (W : World) (h : PT W pb o ts) (hs : Strs W sb (lev k)) (hsb : sb ≠ pb)
    (hf : enough (.lev k) ts.length ≤ f + 1) :
    Calls Tryd.prog 50 #[.pointer (some ⟨pb, 0, none⟩), .func (.func g) #[.pointer (some ⟨pb, 0, none⟩)] #[], .slice (some ⟨sb, 0, none⟩) (lev k).length c] W (ndPost pb o W (pP (f + 1) (.lev k) o ts)) := by
  have hll : (lev k).length ≤ 1000 := by
    have : ∀ k : Fin 10, (levL.getD k.val []).length ≤ 1000 := by decide
    exact this ⟨k, by omega⟩
  have hen : ∀ n, enough (opK k) n ≤ enough (.lev k) n - 1 := by
    intro n
    unfold opK
    by_cases e : k = 9
    · subst e; simp [enough]
    · rw [if_neg e]; simp only [enough]; omega
  have hen1 : ∀ n, 20 * n + 2 ≤ enough (.lev k) n - 1 := by intro n; simp only [enough]; omega
  have hop1 : ∀ q n, q ≤ f → 20 * (n + 1) + 2 ≤ q + 1 → enough (opK k) n ≤ q := by
    intro q n hq hn
    have h1 : enough (opK k) n ≤ 20 * n + 13 - k - 1 := hen n
    omega
  rw [pP_lev]
  have HO := hop f (Nat.le_refl _) o ts W h (by have := hen ts.length; omega)
  have HL := Lib.hid (fun (l : Nd) (r : List Bs) (hr : pP f (opK k) o ts = some (l, r)) => show 20 * r.length + 2 ≤ f from by
    have h1 := pP_le _ _ _ _ _ _ hr
    have h2 : enough (.lev k) ts.length = 20 * ts.length + 13 - k := rfl
    omega)
  have HS := Lib.hid (fun W' (hf : Fr (· = pb) W W') => hs.fr hf hsb)
  have HP := Lib.hid hop
  have HE := Lib.hid hop1
  clear hop hen hen1 hop1 hs
  cases hr : pP f (opK k) o ts with
  | none =>
    rw [hr] at HO
    have HO := Lib.hid HO
    clear hr HL HP HE HS
    go_enter Tryd.func50, Tryd.ntmps50
    go_wp2_with ((with_reducible refine HO.out.mono ?_); rintro e w1 ⟨rfl, hP, hF⟩; have HP1 := Lib.hid hP; have HF1 := Lib.hid hF; clear hP hF)
    exact ⟨rfl, rfl, HP1.out, HF1.out⟩
  | some x =>
    obtain ⟨l0, r0⟩ := x
    rw [hr] at HO
    have HO := Lib.hid HO
    have HR0 := HL.out l0 r0 hr
    clear hr HL
    show Calls _ _ _ _ (ndPost pb o W (pP f (.more k l0) o r0))
    obtain ⟨R, hR⟩ : ∃ R, pP f (.more k l0) o r0 = R := ⟨_, rfl⟩
    rw [hR]
    have HR := Lib.hid hR
    clear hR
    go_enter Tryd.func50, Tryd.ntmps50
    go_wp2_with ((with_reducible refine HO.out.mono ?_); rintro e w1 ⟨rfl, hP, hF⟩; have HP1 := Lib.hid hP; have HF1 := Lib.hid hF; clear hP hF)
    go_loopw [7] (fun lv wr => lvRel pb o W f k R lv wr) (fun _ wr => restN wr pb)
    case atStart => exact ⟨l0, r0, f, rfl, HP1.out, HF1.out, Nat.le_refl _, HR0, HR.out⟩
    case round =>
      obtain ⟨l, ts', q, rfl, hP, hF, hq, hn, hR⟩ := hrel
      have HN := Lib.hid (next_any hP)
      have HSr := HS.out _ hF
      have HF := Lib.hid hF
      have HPr := Lib.hid hP
      clear HO HR HP1 HF1 HR0
      obtain ⟨p, rfl⟩ : ∃ p, q = p + 1 := ⟨q - 1, by omega⟩
      cases ts' with
      | nil =>
        rw [pP_more0] at hR
        have HC := Lib.hid (among_any (c := c) HSr hll [] false (lev_not k))
        have HR := Lib.hid hR
        clear hR hP hF HSr hn HP HE HS
        obtain ⟨va, vx, hv⟩ := enc_eq l
        have HV0 := Lib.hid hv
        rw [hv]
        clear hv
        go_wp2_with (first | (go_at_call 37; (with_reducible refine HN.out.mono ?_); rintro e w1 ⟨rfl, rfl⟩) | (go_at_call 59; (with_reducible refine HC.out.mono ?_); rintro e w1 ⟨rfl, rfl⟩))
        go_ret
        rw [← HR.out]
        exact ⟨ret_val HV0.out.symm, HPr.out, HF.out⟩
      | cons t r =>
        rw [pP_more] at hR
        cases hb : (lev k).contains t
        · rw [if_neg (by rw [hb]; decide)] at hR
          have HC := Lib.hid (among_any (c := c) HSr hll t false hb)
          have HR := Lib.hid hR
          clear hR hP hF HSr hn HP HE HS hb
          obtain ⟨va, vx, hv⟩ := enc_eq l
          have HV0 := Lib.hid hv
          rw [hv]
          clear hv
          go_wp2_with (first | (go_at_call 37; (with_reducible refine HN.out.mono ?_); rintro e w1 ⟨rfl, rfl⟩) | (go_at_call 59; (with_reducible refine HC.out.mono ?_); rintro e w1 ⟨rfl, rfl⟩))
          go_ret
          rw [← HR.out]
          exact ⟨ret_val HV0.out.symm, HPr.out, HF.out⟩
        · rw [if_pos hb] at hR
          have HC := Lib.hid (among_any (c := c) HSr hll t true hb)
          have HT := Lib.hid (take_any hP)
          have HE2 := Lib.hid (HE.out p r.length (by omega) (by rw [List.length_cons] at hn; omega))
          have HM := Lib.hid (rest_eq hP)
          cases hx : pP p (opK k) o r with
          | none =>
            rw [hx] at hR
            have HO2 := Lib.hid (fun W' (h' : PT W' pb o r) => by have := HP.out p (by omega) o r W' h' HE2.out; rw [hx] at this; exact this)
            have HR := Lib.hid hR
            clear hR hP hF HSr hn HP HE HS hb hx HE2
            obtain ⟨va, vx, hv⟩ := enc_eq l
            rw [hv]
            clear hv
            go_wp2_with (first | (go_at_call 37; (with_reducible refine HN.out.mono ?_); rintro e w1 ⟨rfl, rfl⟩) | (go_at_call 59; (with_reducible refine HC.out.mono ?_); rintro e w1 ⟨rfl, rfl⟩) | (go_at_call 25; (with_reducible refine HT.out.mono ?_); rintro e w2 ⟨rfl, hP2, hF2⟩; have HP2 := Lib.hid hP2; have HF2 := Lib.hid hF2; clear hP2 hF2) | ((with_reducible refine (HO2.out _ HP2.out).mono ?_); rintro e w3 ⟨rfl, hP3, hF3⟩; have HP3 := Lib.hid hP3; have HF3 := Lib.hid hF3; clear hP3 hF3))
            refine ⟨rfl, ?_⟩
            rw [← HR.out]
            exact ⟨rfl, HP3.out, (HF.out.trans HF2.out).trans HF3.out⟩
          | some x =>
            obtain ⟨x1, r2⟩ := x
            rw [hx] at hR
            have hR' : pP p (.more k (.bin t l x1)) o r2 = R := hR
            have hle := pP_le _ _ _ _ _ _ hx
            have HO2 := Lib.hid (fun W' (h' : PT W' pb o r) => by have := HP.out p (by omega) o r W' h' HE2.out; rw [hx] at this; exact this)
            have HR := Lib.hid hR'
            have HQ := Lib.hid (show 20 * r2.length + 2 ≤ p by rw [List.length_cons] at hn; omega)
            have HV := Lib.hid (show Value.iface 101 (.agg #[.string (st t), enc l, enc x1]) = enc (.bin t l x1) from rfl)
            clear hR hR' hP hF HSr hn hb hx HE2
            obtain ⟨va, vx, hv⟩ := enc_eq l
            obtain ⟨ua, ux, hu⟩ := enc_eq x1
            have HO2 := Lib.hid (fun W' (h' : PT W' pb o r) => (HO2.out W' h').mono (fun e w3 (h3 : ndPost pb o W' (some (x1, r2)) e w3) => show e = .returned (.iface ua ux) ∧ PT w3 pb o r2 ∧ Fr (· = pb) W' w3 by rw [← hu]; exact h3))
            rw [hv] at HV ⊢
            rw [hu] at HV
            clear hv hu
            go_wp2_with (first | (go_at_call 37; (with_reducible refine HN.out.mono ?_); rintro e w1 ⟨rfl, rfl⟩) | (go_at_call 59; (with_reducible refine HC.out.mono ?_); rintro e w1 ⟨rfl, rfl⟩) | (go_at_call 25; (with_reducible refine HT.out.mono ?_); rintro e w2 ⟨rfl, hP2, hF2⟩; have HP2 := Lib.hid hP2; have HF2 := Lib.hid hF2; clear hP2 hF2) | ((with_reducible refine (HO2.out _ HP2.out).mono ?_); rintro e w3 ⟨rfl, hP3, hF3⟩; have HP3 := Lib.hid hP3; have HF3 := Lib.hid hF3; clear hP3 hF3))
            go_roundw
            case rel =>
              refine ⟨.bin t l x1, r2, p, ?_, HP3.out, (HF.out.trans HF2.out).trans HF3.out, by omega, HQ.out, HR.out⟩
              rw [← HV.out]
            case measure =>
              have h3 := rest_eq HP3.out
              rw [h3, HM.out, List.length_cons]
              omega
end Go.Proofs.YtncjelemjdkklaaDoor
