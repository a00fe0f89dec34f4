/- The document's reader: among. -/
/- The document's reader: name, the walk. -/
import Derived.Test.YtbmnngliapmgfaaGreatDoorCK
import Derived.Test.YtbmnngliapmgfaaGreatDoorCH
import Derived.Test.YtbmnngliapmgfaaGreatDoorCJ
import Derived.Test.YtbmnngliapmgfaaGreatDoorCL
namespace Go.Proofs.YtbmnngliapmgfaaGreatDoor
open Go.RowKit
set_option linter.unusedVariables false
set_option linter.unusedSimpArgs false
def rowL : List Bs := [[124, 124], [38, 38], [124], [94], [38], [61, 61, 32, 33, 61], [60, 32, 60, 61, 32, 62, 32, 62, 61], [60, 60, 32, 62, 62], [43, 32, 45], [42, 32, 47, 32, 37]]
def rowV : Array Value := #[.string ⟨#[124, 124]⟩, .string ⟨#[38, 38]⟩, .string ⟨#[124]⟩, .string ⟨#[94]⟩, .string ⟨#[38]⟩, .string ⟨#[61, 61, 32, 33, 61]⟩, .string ⟨#[60, 32, 60, 61, 32, 62, 32, 62, 61]⟩, .string ⟨#[60, 60, 32, 62, 62]⟩, .string ⟨#[43, 32, 45]⟩, .string ⟨#[42, 32, 47, 32, 37]⟩]
def amL (t : Bs) : Bs → Bs → Bool
  | cur, [] => cur == t
  | cur, c :: r => if c = 32 then (cur == t) || amL t [] r else amL t (cur ++ [c]) r
theorem row_facts (k : Nat) (h : k ≤ 9) (t : Bs) : rowV[k]? = some (.string (st (rowL.getD k []))) ∧ amL t [] (rowL.getD k []) = (lev k).contains t ∧ (rowL.getD k []).length ≤ 9 := by
  have e : ∀ u : Bs, (u == t) = decide (t = u) := fun u => by rw [Bool.eq_iff_iff, beq_iff_eq, decide_eq_true_eq]; exact eq_comm
  match k, h with
  | 0, _ => exact ⟨rfl, by simp [rowL, amL, lev, levL, e], by decide⟩
  | 1, _ => exact ⟨rfl, by simp [rowL, amL, lev, levL, e], by decide⟩
  | 2, _ => exact ⟨rfl, by simp [rowL, amL, lev, levL, e], by decide⟩
  | 3, _ => exact ⟨rfl, by simp [rowL, amL, lev, levL, e], by decide⟩
  | 4, _ => exact ⟨rfl, by simp [rowL, amL, lev, levL, e], by decide⟩
  | 5, _ => exact ⟨rfl, by simp [rowL, amL, lev, levL, e], by decide⟩
  | 6, _ => exact ⟨rfl, by simp [rowL, amL, lev, levL, e], by decide⟩
  | 7, _ => exact ⟨rfl, by simp [rowL, amL, lev, levL, e], by decide⟩
  | 8, _ => exact ⟨rfl, by simp [rowL, amL, lev, levL, e], by decide⟩
  | 9, _ => exact ⟨rfl, by simp [rowL, amL, lev, levL, e], by decide⟩
  | n + 10, h => exact absurd h (by omega)
def amRel (x : ByteArray) (t : Bs) (b : Bool) (fv iv : Value) : Prop :=
  ∃ f i : Nat, fv = .int .i64 f ∧ iv = .int .i64 i ∧ ((f ≤ i ∧ i ≤ x.size ∧ amL t ((x.data.toList.drop f).take (i - f)) (x.data.toList.drop i) = b) ∨ (i = x.size + 1 ∧ b = false))
set_option maxHeartbeats 4000000 in
theorem ramong_any (k : Nat) (hk : k ≤ 9) (t : Bs) (w : World) :
    Calls Tryz.prog 40 #[.int .i64 k, .string (st t)] w fun e w' => e = .returned (.bool ((lev k).contains t)) ∧ Fr (fun _ => False) w w' := by
  obtain ⟨h1, h2, h3⟩ := row_facts k hk t
  obtain ⟨b, hb⟩ : ∃ b, (lev k).contains t = b := ⟨_, rfl⟩
  rw [hb] at h2 ⊢
  obtain ⟨x, hx⟩ : ∃ x, st (rowL.getD k []) = x := ⟨_, rfl⟩
  have hxl : x.data.toList = rowL.getD k [] := by rw [← hx, st_data]
  have hxs : x.size ≤ 9 := by rw [← size_len, hxl]; exact h3
  rw [← hxl] at h2
  rw [hx] at h1
  have H2 := Lib.hid h2
  have HC := Lib.hid (show (w.alloc (.cells rowV 9)).cell? ⟨w.heap.size, k, none⟩ = some (.string x) by rw [Lib.cell_of_heap (heap_alloc_new w (.cells rowV 9))]; exact h1)
  have HF := Lib.hid ((Fr.refl (fun _ => False) w).alloc (.cells rowV 9))
  clear h1 h2 h3 hb hx hxl
  unfold rowV at HC HF
  go_enter Tryz.func40, Tryz.ntmps40
  go_upto_region 2 with fail
  have hc := HC.out
  generalize w.alloc _ = w1 at *
  go_wp2
  go_loop [6, 7] (fun fv iv => amRel x t b fv iv) (fun _ iv => x.size + 1 - (intOf iv).toNat)
  case atStart => exact ⟨0, 0, rfl, rfl, .inl ⟨Nat.le_refl _, Nat.zero_le _, H2.out⟩⟩
  case round =>
    obtain ⟨f, i, rfl, rfl, ⟨hfi, hi, ha⟩ | ⟨hi, hb⟩⟩ := hrel
    · have gq : ((x.extract f i).toList == (st t).toList) = ((x.data.toList.drop f).take (i - f) == t) := by rw [ByteArray.toList_eq, extract_mid, st_toList]
      by_cases his : i < x.size
      · rw [at_byte his, amL] at ha
        by_cases h32 : x[i] = 32
        · have g := (show (((x[i].toNat : Int) == 32) : Bool) = true from u8_true x[i] 32 h32)
          rw [if_pos h32] at ha
          cases hq : ((x.data.toList.drop f).take (i - f) == t) with
          | true =>
            rw [hq] at gq ha
            have HB := Lib.hid (show true = b from ha)
            clear ha h32 hq
            generalize st t = y at *
            go_wp2
            go_ret
            exact ⟨ret_bool HB.out, HF.out⟩
          | false =>
            rw [hq] at gq ha
            have HB := Lib.hid (show amL t ((x.data.toList.drop (i + 1)).take (i + 1 - (i + 1))) (x.data.toList.drop (i + 1)) = b from by rw [Nat.sub_self, List.take_zero]; exact ha)
            clear ha h32 hq
            generalize st t = y at *
            go_wp2
            go_round
            case rel => exact ⟨i + 1, i + 1, by go_num, by go_num, .inl ⟨Nat.le_refl _, his, HB.out⟩⟩
            case measure => simp [intOf]; omega
        · have g := (show (((x[i].toNat : Int) == 32) : Bool) = false from u8_false x[i] 32 h32)
          rw [if_neg h32] at ha
          have HB := Lib.hid (show amL t ((x.data.toList.drop f).take (i + 1 - f)) (x.data.toList.drop (i + 1)) = b from by
            rw [show i + 1 - f = (i - f) + 1 by omega, List.take_add_one, List.getElem?_drop, show f + (i - f) = i by omega, List.getElem?_eq_getElem (by rw [size_len]; exact his)]
            exact ha)
          clear ha h32 gq
          generalize st t = y at *
          go_wp2
          go_round
          case rel => exact ⟨f, i + 1, rfl, by go_num, .inl ⟨by omega, his, HB.out⟩⟩
          case measure => simp [intOf]; omega
      · obtain rfl : i = x.size := by omega
        rw [show x.data.toList.drop x.size = [] from List.drop_eq_nil_of_le (by rw [size_len]; exact Nat.le_refl _)] at ha
        have ha : ((x.data.toList.drop f).take (x.size - f) == t) = b := ha
        cases hq : ((x.data.toList.drop f).take (x.size - f) == t) with
        | true =>
          rw [hq] at gq ha
          have HB := Lib.hid ha
          clear ha hq
          generalize st t = y at *
          go_wp2
          go_ret
          exact ⟨ret_bool HB.out, HF.out⟩
        | false =>
          rw [hq] at gq ha
          have HB := Lib.hid ha
          clear ha hq
          generalize st t = y at *
          go_wp2
          go_round
          case rel => exact ⟨x.size + 1, x.size + 1, by go_num, by go_num, .inr ⟨rfl, HB.out.symm⟩⟩
          case measure => simp [intOf]
    · subst hi hb
      go_wp2
      go_ret
      exact ⟨rfl, HF.out⟩
end Go.Proofs.YtbmnngliapmgfaaGreatDoor
namespace Go.Proofs.YtbmnngliapmgfaaGreatDoor
open Go.RowKit
set_option linter.unusedVariables false
set_option linter.unusedSimpArgs false
theorem updO_len (n : Bs) (m : Nat) : ∀ (o : Own) (v : Bs), v.length ≤ m → (∀ p ∈ o, (Lib.itoa p.2).length ≤ m) → (updO n v o).length ≤ m
  | [], v, h, _ => h
  | p :: r, v, h, ho => by
    rw [updO]
    refine updO_len n m r _ ?_ (fun q hq => ho q (by simp [hq]))
    split
    · exact ho p (by simp)
    · exact h
theorem findG_len (n : Bs) (m : Nat) : ∀ g : List (Bs × Bs), (∀ (i : Nat) (p : Bs × Bs), g[i]? = some p → p.2.length ≤ m) → ((findG g n).getD []).length ≤ m
  | [], _ => Nat.zero_le _
  | p :: r, h => by
    rw [findG]
    split
    · exact h 0 p rfl
    · exact findG_len n m r (fun i q hq => h (i + 1) q (by simpa using hq))
/-- what a text tells of a number, with the error. -/
theorem num_nil : numV [] = (0, 0) := rfl
theorem num_plain {c : UInt8} {r : Bs} (h : ¬ c = 45) : numV (c :: r) = if (conP (c :: r)).2 = true then ((conP (c :: r)).1, 0) else (0, 20) := by
  unfold numV conP
  have hl := cstN_le (c :: r)
  simp only [reduceCtorEq, if_false, List.head?_cons, Option.some.injEq, h, false_or, ne_eq, not_false_eq_true, true_and]
  by_cases e : cstN (c :: r) = (c :: r).length
  · rw [if_neg (by omega), if_pos e]; rfl
  · rw [if_pos (by omega), if_neg e]; rfl
theorem num_minus (r : Bs) : numV (45 :: r) = if (conP r).2 = true then (wrap64 (-(conP r).1), 0) else (0, 20) := by
  unfold numV conP
  have hl := cstN_le r
  simp only [reduceCtorEq, if_false, List.head?_cons, if_true, List.tail_cons]
  by_cases e : r ≠ [] ∧ cstN r = r.length
  · rw [if_neg (fun h => h.elim e.1 (by omega)), if_pos e]; rfl
  · rw [if_neg e]
    by_cases h0 : r = []
    · rw [if_pos (.inl h0)]; rfl
    · rw [if_pos (.inr (by have : ¬ cstN r = r.length := fun h => e ⟨h0, h⟩; omega))]; rfl
theorem conP_no {l : Bs} (h : (conP l).2 = false) : (conP l).1 = 0 := by
  unfold conP at h ⊢
  split at h
  · cases h
  · rename_i e; rw [if_neg e]
def nmPost (W : World) (p : Nat) (s : ByteArray) (k d : Nat) (gv sv : Value) (form : Bool) (err : Int) (c : Bool) (r : Int × Int) (e : Ending) (w' : World) : Prop :=
  e = .returned (.int .i64 r.1) ∧ RD w' p s k d gv sv form (bumpE err c r.2) ∧ Fr (· = p) W w'
set_option maxRecDepth 100000 in
set_option maxHeartbeats 8000000 in
theorem rname_any (W : World) (B p : Nat) (s : ByteArray) (k d : Nat) (gv sv : Value) (g : List (Bs × Bs)) (o : Own) (form : Bool) (err : Int) (n : Bs) (c : Bool) (hgv : Giv W B gv g) (hsv : SetR W (p + 1) sv o) (hu : UQ o) (hr : ∀ q ∈ o, I64 q.2) (h : RD W p s k d gv sv form err) :
    Calls Tryz.prog 17 #[.pointer (some ⟨p, 0, none⟩), .string (st n), .bool c] W (nmPost W p s k d gv sv form err c (getV g o n)) := by
  obtain ⟨c0, c1, c2, c3, c4, c5, c6, fz⟩ := h.cells
  have f6 := fz 6
  have H := Lib.hid h
  have HT := Lib.hid (txt_get g o n hu hr)
  obtain ⟨ao, cap, rfl, hgc, hgm, hg4⟩ := hgv
  obtain ⟨bo, cap2, rfl, hsc, hsm⟩ := hsv.slice
  have HSV := Lib.hid hsv
  have HG4 := Lib.hid hg4
  have hmx : maxLen = 9223372036854775807 := rfl
  have HLT := Lib.hid (show (txtV g o n).length ≤ maxLen from updO_len n maxLen o _ (findG_len n maxLen g (fun i q hq => (hg4 i q hq).1)) (fun q hq => by
    have := Lib.itoa_length_le q.2 (hr q hq).1 (hr q hq).2
    rw [hmx]; omega))
  obtain ⟨r0, hr0⟩ : ∃ r, getV g o n = r := ⟨_, rfl⟩
  rw [hr0] at HT ⊢
  clear hr0
  generalize hgl : g.length = gl at *
  generalize hol : o.length = ol at *
  have HGL := Lib.hid hgl
  have HOL := Lib.hid hol
  have hgl2 : (gl : Int) ≤ 9223372036854775807 := by omega
  have hol2 : (ol : Int) ≤ 9223372036854775807 := by omega
  clear h hsv hg4 hu hr hgl hol fz c0 c1 c2 c5
  generalize hy : st n = y at *
  have HY := Lib.hid hy
  clear hy
  go_enter Tryz.func17, Tryz.ntmps17
  go_wp2
  go_loop [7, 8] (fun vv iv => ∃ (j : Nat) (v : Bs), iv = .int .i64 ((j : Int) - 1) ∧ vv = .string (st v) ∧ j ≤ gl ∧ v = (findG (g.drop j) n).getD []) (fun _ iv => (intOf iv + 1).toNat)
  case atStart => exact ⟨gl, [], rfl, rfl, Nat.le_refl _, by rw [List.drop_eq_nil_of_le (by rw [HGL.out]; exact Nat.le_refl _)]; rfl⟩
  case round =>
    obtain ⟨j, v, rfl, rfl, hj, hv⟩ := hrel
    cases j with
    | succ j =>
      obtain ⟨q, hq⟩ : ∃ q, g[j]? = some q := ⟨_, List.getElem?_eq_getElem (by rw [HGL.out]; exact hj)⟩
      obtain ⟨_, gb, off, rfl, _, q0, q1, _⟩ := HG4.out j q hq
      have hdn := findG_down (n := n) hq
      have ei : ((j + 1 : Nat) : Int) - 1 = (j : Int) := by omega
      rw [ei]
      by_cases he : q.1 = n
      · have ge : ((st q.1).toList == y.toList) = true := by rw [← HY.out, st_same, decide_eq_true he]
        rw [if_pos he] at hdn
        have HV := Lib.hid (show q.2 = (findG (g.drop j) n).getD [] by rw [hdn]; rfl)
        generalize st q.1 = x1 at *
        clear hv hdn he hq
        go_wp2
        go_round
        case rel => exact ⟨j, q.2, rfl, rfl, by omega, HV.out⟩
        case measure => simp [intOf] <;> omega
      · have ge : ((st q.1).toList == y.toList) = false := by rw [← HY.out, st_same, decide_eq_false he]
        rw [if_neg he] at hdn
        have HV := Lib.hid (show v = (findG (g.drop j) n).getD [] by rw [hdn]; exact hv)
        generalize st q.1 = x1 at *
        clear hv hdn he hq
        go_wp2
        go_round
        case rel => exact ⟨j, v, rfl, rfl, by omega, HV.out⟩
        case measure => simp [intOf] <;> omega
    | zero =>
      rw [List.drop_zero] at hv
      have HV0 := Lib.hid (show updO n v o = txtV g o n by rw [hv]; rfl)
      have ei : ((0 : Nat) : Int) - 1 = -1 := rfl
      rw [ei]
      clear hv
      go_wp2
      go_loop [7, 9] (fun vv iv => ∃ (i : Nat) (v : Bs), iv = .int .i64 i ∧ vv = .string (st v) ∧ i ≤ ol ∧ updO n v (o.drop i) = txtV g o n) (fun _ iv => ol - (intOf iv).toNat)
      case atStart => exact ⟨0, v, rfl, rfl, Nat.zero_le _, by rw [List.drop_zero]; exact HV0.out⟩
      case round =>
        obtain ⟨i, v, rfl, rfl, hi, hv⟩ := hrel
        clear HV0
        by_cases hil : i < ol
        · obtain ⟨q, hq⟩ : ∃ q, o[i]? = some q := ⟨_, List.getElem?_eq_getElem (by rw [HOL.out]; exact hil)⟩
          obtain ⟨g2, cap3, hse, _, q0, q1⟩ := HSV.out.at i q hq
          rw [HOL.out] at hse
          injection hse with hs1 hs2 hs3
          subst hs1 hs3
          have hdr : o.drop i = q :: o.drop (i + 1) := by
            rw [List.drop_eq_getElem_cons (by rw [HOL.out]; exact hil), (List.getElem?_eq_some_iff.1 hq).2]
          rw [hdr, updO] at hv
          by_cases he : q.1 = n
          · have ge : ((st q.1).toList == y.toList) = true := by rw [← HY.out, st_same, decide_eq_true he]
            rw [if_pos he] at hv
            have HV := Lib.hid hv
            generalize st q.1 = x1 at *
            clear hv hdr he hq
            go_wp2
            go_round
            case rel => exact ⟨i + 1, Lib.itoa q.2, by go_num, rfl, hil, HV.out⟩
            case measure => simp [intOf] <;> omega
          · have ge : ((st q.1).toList == y.toList) = false := by rw [← HY.out, st_same, decide_eq_false he]
            rw [if_neg he] at hv
            have HV := Lib.hid hv
            generalize st q.1 = x1 at *
            clear hv hdr he hq
            go_wp2
            go_round
            case rel => exact ⟨i + 1, v, by go_num, rfl, hil, HV.out⟩
            case measure => simp [intOf] <;> omega
        · obtain rfl : i = ol := by omega
          rw [List.drop_eq_nil_of_le (by rw [HOL.out]; exact Nat.le_refl _), updO] at hv
          have hnum : numV v = r0 := by rw [hv]; exact HT.out
          have hvl : v.length ≤ maxLen := by rw [hv]; exact HLT.out
          clear hv HT
          subst hnum
          clear HLT HSV HG4
          cases v with
          | nil =>
            have g0 : ((st ([] : Bs)).toList == []) = true := by rw [st_toList]; rfl
            generalize st ([] : Bs) = x at *
            go_wp2
            go_ret
            exact ⟨rfl, by have h2 := H.out; rw [← bumpE_0 err c] at h2; exact h2, Fr.refl _ _⟩
          | cons c0 r =>
            have g0 : ((st (c0 :: r)).toList == []) = false := by rw [st_toList]; rfl
            have hxd : (st (c0 :: r)).data.toList = c0 :: r := st_data _
            have hxs : (st (c0 :: r)).size = r.length + 1 := st_size _
            rw [List.length_cons] at hvl
            generalize st (c0 :: r) = x at *
            have hxs1 : x.size ≤ r.length + 1 := by omega
            have hxs2 : r.length + 1 ≤ x.size := by omega
            have hxp : 0 < x.size := by omega
            clear hxs
            have hx0 : x[0] = c0 := by
              obtain ⟨q, hq⟩ := head_byte hxp
              rw [hxd] at hq
              injection hq with h1 h2
              exact h1.symm
            by_cases h45 : c0 = 45
            · skip
              have hxe : x.extract 1 x.size = st r := by rw [extract_drop, hxd]; rfl
              have CON := Lib.hid (fun w => (show Calls Tryz.prog 26 #[.string (x.extract 1 x.size)] w fun e w' => e = .returned (.tuple #[.int .i64 (conP r).1, .bool (conP r).2]) ∧ w' = w from by
                have := rConstant_any (st r) (by rw [st_size]; omega) w
                rw [st_data, ← hxe] at this
                exact this))
              have g45 : (((x[0].toNat : Int) == 45) : Bool) = true := u8_true x[0] 45 (hx0.trans h45)
              subst h45
              have HE := num_minus r
              have hno := @conP_no r
              generalize (conP r).1 = V at *
              cases hok : (conP r).2 with
              | true =>
                rw [hok] at CON HE
                rw [if_pos rfl] at HE
                have HE := Lib.hid HE
                clear hno hok hxd hxe hx0
                go_wp2_with (go_at_call 26; (with_reducible refine (CON.out _).mono ?_); rintro e w' ⟨rfl, rfl⟩)
                go_ret
                rw [HE.out]
                exact ⟨rfl, by rw [bumpE_0]; exact H.out, Fr.refl _ _⟩
              | false =>
                have hV := hno hok
                subst hV
                rw [hok] at CON HE
                rw [if_neg (by decide)] at HE
                have HE := Lib.hid HE
                clear hno hok hxd hxe hx0
                by_cases hc : c = true ∧ err = 0
                · obtain ⟨rfl, rfl⟩ := hc
                  go_wp2_with (go_at_call 26; (with_reducible refine (CON.out _).mono ?_); rintro e w' ⟨rfl, rfl⟩)
                  go_ret
                  rw [HE.out]
                  exact ⟨rfl, H.out.setErr 20, Fr.one _ p 6 _⟩
                · have HB := Lib.hid (show bumpE err c 20 = err from if_neg (fun h => hc h.2))
                  cases c with
                  | false =>
                    clear hc
                    go_wp2_with (go_at_call 26; (with_reducible refine (CON.out _).mono ?_); rintro e w' ⟨rfl, rfl⟩)
                    go_ret
                    rw [HE.out]
                    exact ⟨rfl, by rw [HB.out]; exact H.out, Fr.refl _ _⟩
                  | true =>
                    have he : (((err : Int) == 0) : Bool) = false := by rw [beq_eq_false_iff_ne]; exact fun e => hc ⟨rfl, e⟩
                    clear hc
                    go_wp2_with (go_at_call 26; (with_reducible refine (CON.out _).mono ?_); rintro e w' ⟨rfl, rfl⟩)
                    go_ret
                    rw [HE.out]
                    exact ⟨rfl, by rw [HB.out]; exact H.out, Fr.refl _ _⟩
            · skip
              have CON := Lib.hid (fun w => (show Calls Tryz.prog 26 #[.string x] w fun e w' => e = .returned (.tuple #[.int .i64 (conP (c0 :: r)).1, .bool (conP (c0 :: r)).2]) ∧ w' = w from by
                have := rConstant_any x (by omega) w
                rw [hxd] at this
                exact this))
              have g45 : (((x[0].toNat : Int) == 45) : Bool) = false := u8_false x[0] 45 (by rw [hx0]; exact h45)
              have HE := num_plain (r := r) h45
              have hno := @conP_no (c0 :: r)
              generalize (conP (c0 :: r)).1 = V at *
              cases hok : (conP (c0 :: r)).2 with
              | true =>
                rw [hok] at CON HE
                rw [if_pos rfl] at HE
                have HE := Lib.hid HE
                clear hno hok hxd hx0
                go_wp2_with (go_at_call 26; (with_reducible refine (CON.out _).mono ?_); rintro e w' ⟨rfl, rfl⟩)
                go_ret
                rw [HE.out]
                exact ⟨rfl, by rw [bumpE_0]; exact H.out, Fr.refl _ _⟩
              | false =>
                have hV := hno hok
                subst hV
                rw [hok] at CON HE
                rw [if_neg (by decide)] at HE
                have HE := Lib.hid HE
                clear hno hok hxd hx0
                by_cases hc : c = true ∧ err = 0
                · obtain ⟨rfl, rfl⟩ := hc
                  go_wp2_with (go_at_call 26; (with_reducible refine (CON.out _).mono ?_); rintro e w' ⟨rfl, rfl⟩)
                  go_ret
                  rw [HE.out]
                  exact ⟨rfl, H.out.setErr 20, Fr.one _ p 6 _⟩
                · have HB := Lib.hid (show bumpE err c 20 = err from if_neg (fun h => hc h.2))
                  cases c with
                  | false =>
                    clear hc
                    go_wp2_with (go_at_call 26; (with_reducible refine (CON.out _).mono ?_); rintro e w' ⟨rfl, rfl⟩)
                    go_ret
                    rw [HE.out]
                    exact ⟨rfl, by rw [HB.out]; exact H.out, Fr.refl _ _⟩
                  | true =>
                    have he : (((err : Int) == 0) : Bool) = false := by rw [beq_eq_false_iff_ne]; exact fun e => hc ⟨rfl, e⟩
                    clear hc
                    go_wp2_with (go_at_call 26; (with_reducible refine (CON.out _).mono ?_); rintro e w' ⟨rfl, rfl⟩)
                    go_ret
                    rw [HE.out]
                    exact ⟨rfl, by rw [HB.out]; exact H.out, Fr.refl _ _⟩
end Go.Proofs.YtbmnngliapmgfaaGreatDoor
