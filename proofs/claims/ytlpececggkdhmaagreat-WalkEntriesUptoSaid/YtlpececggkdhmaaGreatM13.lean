import Derived.Test.YtlpececggkdhmaaGreatM12
open Go.Lib (hid)
set_option linter.unusedVariables false
set_option linter.unusedSimpArgs false
namespace Go.Proofs.YtlpececggkdhmaaGreat
section
open Go.RowKit Ino Go.Maps
variable {A : Nat} {own : Nat → Prop} {t : T}
theorem enterP_none {t : T} {dir ino : Int} {n : Bs} (h : isI t dir = false ∨ isI t ino = false) : enterP t dir n ino = (t, 3) := by
 unfold enterP
 rw [if_neg]
 rintro ⟨h1, h2⟩
 rcases h with h | h
 ·rw [h1] at h; cases h
 ·rw [h2] at h; cases h
theorem PT.enter {w W' : World} {nb mb : Nat → Nat} (h : PT w A nb mb t (links t)) {d x : Nat} {n : Bs} (hd : (t d).is = true) (hk : (t d).kind = 1) (hd2 : d ≤ 200) (hx : (t x).is = true) (hg : w.mapTurned W' (mb d)) (hm : EMap W' (mb d) ((t d).ents ++ [(n, x)])) :
 PT (W'.setCell ⟨nb x, 4, none⟩ (.int .i64 ((links t x + 1 : Nat) : Int))) A nb mb (setEnts t d ((t d).ents ++ [(n, x)])) (links (add t d n x)) := by
 have h1 := h.turned hk hd hg hm
 have hx1 : (upd t d { t d with ents := (t d).ents ++ [(n, x)] } x).is = true := by rw [upd_is t d x { t d with ents := (t d).ents ++ [(n, x)] } rfl]; exact hx
 refine (h1.setLinks hx1 (links t x + 1)).congr rfl fun i _ => ?_
 rw [links_add hd2]
 by_cases e : i = x
 ·rw [if_pos e, if_pos e.symm, e]
 ·rw [if_neg e, if_neg (Ne.symm e), Nat.add_zero]
theorem PT.enterDir {w W' : World} {nb mb : Nat → Nat} (h : PT w A nb mb t (links t)) {d x : Nat} {n : Bs} (hd : (t d).is = true) (hk : (t d).kind = 1) (hd2 : d ≤ 200) (hx : (t x).is = true) (hxk : (t x).kind = 1) (hg : w.mapTurned W' (mb d)) (hm : EMap W' (mb d) ((t d).ents ++ [(n, x)])) :
 PT ((W'.setCell ⟨nb x, 4, none⟩ (.int .i64 ((links t x + 1 : Nat) : Int))).setCell ⟨nb x, 8, none⟩ (.int .i64 d)) A nb mb (add t d n x) (links (add t d n x)) := by
 have h1 := h.enter hd hk hd2 hx hg hm
 refine (h1.setParent (i := x) (by rw [setEnts_is]; exact hx) d).congr ?_ fun _ _ => rfl
 unfold add
 rw [setPar_self _ _ _ (by rw [setEnts_kind]; exact hxk)]
theorem add_sub (t : T) (d : Nat) (n : Bs) (x : Nat) : Sub (add t d n x) t := ⟨fun i hi => by rw [add_is] at hi; exact hi, fun i hi => by rw [add_kind] at hi; exact hi⟩
theorem Fr.turned {S : Nat → Prop} {a b c : World} {m : Nat} (h : Fr S a b) (k : b.mapTurned c m) (hm : S m) : Fr S a c := by
 have k := k.grown
 exact ⟨k.os.trans h.os, k.tape.trans h.tape, k.output.trans h.output, Nat.le_trans h.size k.size, fun i hi hn => (k.block i (Nat.lt_of_lt_of_le hi h.size) (fun e => by cases e; exact hn hm)).trans (h.block i hi hn)⟩
open Classical in
set_option maxHeartbeats 4000000 in
set_option maxRecDepth 100000 in
theorem penter_any (dir ino : Int) (s : ByteArray) (w : World) (h : PTo w A own t) (hs : Sd t) (hsz : s.size ≤ maxLen) :
 Calls Tryz.prog 71 #[.pointer (some ⟨A, 0, none⟩), .int .i64 dir, .string s, .int .i64 ino] w fun e w' => e = .returned (.int .i64 (enterP t dir s.data.toList ino).2) ∧ Pt w A own (enterP t dir s.data.toList ino).1 w' := by
 have H := hid h
 obtain ⟨nb, mb, hP, hO⟩ := h
 have hg1 := get_any dir w hP
 have hg2 := get_any ino w hP
 have G1 := hid hg1
 have G2 := hid hg2
 clear hg1 hg2
 cases hi1 : isI t dir
 ·have Hr := hid (enterP_none (n := s.data.toList) (ino := ino) (.inl hi1))
  have hg1 := G1.out
  rw [getV_none hi1] at hg1
  generalize getV t nb ino = v2 at G2
  have G1 := hid hg1
  clear hP hO hi1 hg1
  go_enter Tryz.func71, Tryz.ntmps71
  go_wp2_with (first
   | (go_at_call 56; (with_reducible refine (G1.out).mono ?_); rintro e w' ⟨rfl, rfl⟩)
   | (go_at_call 56; refine (G2.out).mono ?_; rintro e w' ⟨rfl, rfl⟩))
  go_ret
  exact ⟨ret_int (by rw [Hr.out]; rfl), by rw [Hr.out]; exact Pt.refl H.out⟩
 obtain ⟨d, rfl, d1, d2, hd⟩ := isI_nat hi1
 have G1 := hid (show Calls Tryz.prog 56 #[.pointer (some ⟨A, 0, none⟩), .int .i64 d] w fun e w' => e = .returned (.pointer (some ⟨nb d, 0, none⟩)) ∧ w = w' by
  have := G1.out
  rw [getV_nat hi1] at this
  exact this)
 cases hi2 : isI t ino
 ·have Hr := hid (enterP_none (n := s.data.toList) (dir := (d : Int)) (.inr hi2))
  have hg2 := G2.out
  rw [getV_none hi2] at hg2
  have G2 := hid hg2
  clear hP hO hi1 hg2 hi2
  go_enter Tryz.func71, Tryz.ntmps71
  go_wp2_with (first
   | (go_at_call 56; (with_reducible refine (G1.out).mono ?_); rintro e w' ⟨rfl, rfl⟩)
   | (go_at_call 56; refine (G2.out).mono ?_; rintro e w' ⟨rfl, rfl⟩))
  go_ret
  exact ⟨ret_int (by rw [Hr.out]; rfl), by rw [Hr.out]; exact Pt.refl H.out⟩
 obtain ⟨x, rfl, x1, x2, hx⟩ := isI_nat hi2
 have G2 := hid (show Calls Tryz.prog 56 #[.pointer (some ⟨A, 0, none⟩), .int .i64 x] w fun e w' => e = .returned (.pointer (some ⟨nb x, 0, none⟩)) ∧ w = w' by
  have := G2.out
  rw [getV_nat hi2] at this
  exact this)
 have Hre := hid (enterP_at (n := s.data.toList) hi1 hi2)
 generalize enterP t (d : Int) s.data.toList (x : Int) = r at Hre ⊢
 have D1 := hid (isDir_any w hP hd)
 have D2 := hid (isDir_any w hP hx)
 have HN := hid (pname_any s hsz w)
 by_cases hk : (t d).kind = 1
 rotate_left
 ·have Hr := hid (show r = (t, 6) by rw [Hre.out, if_neg hk])
  have hd1 := D1.out
  rw [decide_eq_false hk] at hd1
  clear hP hO hi1 hi2
  go_enter Tryz.func71, Tryz.ntmps71
  go_wp2_with (first
   | (go_at_call 56; (with_reducible refine (G1.out).mono ?_); rintro e w' ⟨rfl, rfl⟩)
   | (go_at_call 56; refine (G2.out).mono ?_; rintro e w' ⟨rfl, rfl⟩)
   | (go_at_call 57; refine hd1.mono ?_; rintro e w' ⟨rfl, rfl⟩))
  go_ret
  exact ⟨ret_int (by rw [Hr.out]; rfl), by rw [Hr.out]; exact Pt.refl H.out⟩
 have D1 := hid (show Calls Tryz.prog 57 #[.pointer (some ⟨nb d, 0, none⟩)] w fun e w' => e = .returned (.bool true) ∧ w = w' by
  have := D1.out
  rw [decide_eq_true hk] at this
  exact this)
 cases hn : nameOk s.data.toList
 ·have Hr := hid (show r = (t, 1) by rw [Hre.out, if_pos hk, hn]; rfl)
  have hn1 := HN.out
  rw [hn] at hn1
  clear hP hO hi1 hi2
  go_enter Tryz.func71, Tryz.ntmps71
  go_wp2_with (first
   | (go_at_call 56; (with_reducible refine (G1.out).mono ?_); rintro e w' ⟨rfl, rfl⟩)
   | (go_at_call 56; refine (G2.out).mono ?_; rintro e w' ⟨rfl, rfl⟩)
   | (go_at_call 57; refine (D1.out).mono ?_; rintro e w' ⟨rfl, rfl⟩)
   | (go_at_call 31; refine hn1.mono ?_; rintro e w' ⟨rfl, rfl⟩))
  go_ret
  exact ⟨ret_int (by rw [Hr.out]; rfl), by rw [Hr.out]; exact Pt.refl H.out⟩
 have HN := hid (show Calls Tryz.prog 31 #[.string s] w fun e w' => e = .returned (.bool true) ∧ w = w' by
  have := HN.out
  rw [hn] at this
  exact this)
 have HH := hid (has_any s w hP hd hk hsz)
 cases hf : (findE (t d).ents s.data.toList).isSome
 rotate_left
 ·have Hr := hid (show r = (t, 5) by rw [Hre.out, if_pos hk, if_pos hn, if_pos hf])
  have hh1 := HH.out
  rw [hf] at hh1
  clear hP hO hi1 hi2
  go_enter Tryz.func71, Tryz.ntmps71
  go_wp2_with (first
   | (go_at_call 56; (with_reducible refine (G1.out).mono ?_); rintro e w' ⟨rfl, rfl⟩)
   | (go_at_call 56; refine (G2.out).mono ?_; rintro e w' ⟨rfl, rfl⟩)
   | (go_at_call 57; refine (D1.out).mono ?_; rintro e w' ⟨rfl, rfl⟩)
   | (go_at_call 31; refine (HN.out).mono ?_; rintro e w' ⟨rfl, rfl⟩)
   | (go_at_call 113; refine hh1.mono ?_; rintro e w' ⟨rfl, rfl⟩))
  go_ret
  exact ⟨ret_int (by rw [Hr.out]; rfl), by rw [Hr.out]; exact Pt.refl H.out⟩
 have HH := hid (show Calls Tryz.prog 113 #[.pointer (some ⟨nb d, 0, none⟩), .string s] w fun e w' => e = .returned (.bool false) ∧ w = w' by
  have := HH.out
  rw [hf] at this
  exact this)
 have hre2 : r = if (x : Int) = 1 ∨ ((t x).kind = 1 ∧ 0 < links t x) ∨ 8 ≤ links t x then (t, 12)
  else if 40 ≤ (t d).ents.length then (t, 9) else if (t x).kind = 1 ∧ Within t d x then (t, 8) else (add t d s.data.toList x, 0) := by
  rw [Hre.out, if_pos hk, if_pos hn, if_neg (by rw [hf]; exact Bool.false_ne_true)]
 have Hre := hid hre2
 clear hre2 hi1 hi2 hn
 have h8 := hs.eight x
 have hfn : findE (t d).ents s.data.toList = none := by
  cases hq : findE (t d).ents s.data.toList with
  | none => rfl
  | some y => rw [hq] at hf; cases hf
 obtain ⟨-, -, -, -, k4, -, -, -, k8, -⟩ := hP.cells hx
 obtain ⟨-, -, -, -, -, -, -, m7, -⟩ := hP.cells hd
 unfold mapV at m7
 rw [if_pos hk] at m7
 have HP := hid hP
 have HO := hid hO
 have Hs := hid hs
 have Hlen := hid ((hP.maps d hk).len 3)
 have Hk := hid hk
 have Hd := hid hd
 have Hx := hid hx
 have f4 := hP.frozen hx 4
 have f8 := hP.frozen hx 8
 clear hP hO hs
 by_cases hx1 : x = 1
 ·have Hr := hid (show r = (t, 12) by rw [Hre.out, if_pos (.inl (by omega))])
  have e1 : ((x : Int) == 1) = true := by rw [beq_iff_eq]; omega
  clear hx1 hf hk
  go_enter Tryz.func71, Tryz.ntmps71
  go_wp2_with (first
   | (go_at_call 56; (with_reducible refine (G1.out).mono ?_); rintro e w' ⟨rfl, rfl⟩)
   | (go_at_call 56; refine (G2.out).mono ?_; rintro e w' ⟨rfl, rfl⟩)
   | (go_at_call 57; (with_reducible refine (D1.out).mono ?_); rintro e w' ⟨rfl, rfl⟩)
   | (go_at_call 31; refine (HN.out).mono ?_; rintro e w' ⟨rfl, rfl⟩)
   | (go_at_call 113; refine (HH.out).mono ?_; rintro e w' ⟨rfl, rfl⟩))
  go_ret
  exact ⟨ret_int (by rw [Hr.out]; rfl), by rw [Hr.out]; exact Pt.refl H.out⟩
 have e1 : ((x : Int) == 1) = false := by rw [beq_eq_false_iff_ne]; omega
 obtain ⟨l, hl⟩ : ∃ l, links t x = l := ⟨_, rfl⟩
 rw [hl] at k4 h8
 have Hl := hid hl
 have hre3 : r = if ((t x).kind = 1 ∧ 0 < l) ∨ 8 ≤ l then (t, 12)
  else if 40 ≤ (t d).ents.length then (t, 9) else if (t x).kind = 1 ∧ Within t d x then (t, 8) else (add t d s.data.toList x, 0) := by
  rw [Hre.out, hl]
  by_cases e : ((t x).kind = 1 ∧ 0 < l) ∨ 8 ≤ l
  ·rw [if_pos e, if_pos (.inr e)]
  ·rw [if_neg e, if_neg (by rintro (h | h); exact hx1 (by omega); exact e h)]
 have Hre := hid hre3
 clear hre3 hl
 by_cases hxk : (t x).kind = 1
 ·have D2 := hid (show Calls Tryz.prog 57 #[.pointer (some ⟨nb x, 0, none⟩)] w fun e w' => e = .returned (.bool true) ∧ w = w' by
   have := D2.out
   rw [decide_eq_true hxk] at this
   exact this)
  by_cases hl0 : 0 < l
  ·have Hr := hid (show r = (t, 12) by rw [Hre.out, if_pos (.inl ⟨hxk, hl0⟩)])
   clear hf hk hxk
   go_enter Tryz.func71, Tryz.ntmps71
   go_wp2_with (first
    | (go_at_call 56; (with_reducible refine (G1.out).mono ?_); rintro e w' ⟨rfl, rfl⟩)
    | (go_at_call 56; refine (G2.out).mono ?_; rintro e w' ⟨rfl, rfl⟩)
    | (go_at_call 57; (with_reducible refine (D1.out).mono ?_); rintro e w' ⟨rfl, rfl⟩)
    | (go_at_call 57; refine (D2.out).mono ?_; rintro e w' ⟨rfl, rfl⟩)
    | (go_at_call 31; refine (HN.out).mono ?_; rintro e w' ⟨rfl, rfl⟩)
    | (go_at_call 113; refine (HH.out).mono ?_; rintro e w' ⟨rfl, rfl⟩))
   go_ret
   exact ⟨ret_int (by rw [Hr.out]; rfl), by rw [Hr.out]; exact Pt.refl H.out⟩
  have hl0 : l = 0 := by omega
  subst hl0
  by_cases h40 : 40 ≤ (t d).ents.length
  ·have Hr := hid (show r = (t, 9) by rw [Hre.out, if_neg (by omega), if_pos h40])
   have hlen := Hlen.out
   generalize (t d).ents.length = n at hlen h40
   clear hf hk hxk
   go_enter Tryz.func71, Tryz.ntmps71
   go_wp2_with (first
    | (go_at_call 56; (with_reducible refine (G1.out).mono ?_); rintro e w' ⟨rfl, rfl⟩)
    | (go_at_call 56; refine (G2.out).mono ?_; rintro e w' ⟨rfl, rfl⟩)
    | (go_at_call 57; (with_reducible refine (D1.out).mono ?_); rintro e w' ⟨rfl, rfl⟩)
    | (go_at_call 57; refine (D2.out).mono ?_; rintro e w' ⟨rfl, rfl⟩)
    | (go_at_call 31; refine (HN.out).mono ?_; rintro e w' ⟨rfl, rfl⟩)
    | (go_at_call 113; refine (HH.out).mono ?_; rintro e w' ⟨rfl, rfl⟩))
   go_ret
   exact ⟨ret_int (by rw [Hr.out]; rfl), by rw [Hr.out]; exact Pt.refl H.out⟩
  have hlen := Hlen.out
  have Hput := hid fun W' (hp : EMap W' (mb d) ((t d).ents ++ [(s.data.toList, x)])) (hg : w.mapTurned W' (mb d)) => HP.out.enterDir Hd.out Hk.out d2 Hx.out hxk hg hp
  have Hput0 := hid fun W' (hp : EMap W' (mb d) ((t d).ents ++ [(s.data.toList, x)])) (hg : w.mapTurned W' (mb d)) => HP.out.enter Hd.out Hk.out d2 Hx.out hg hp
  obtain ⟨W', hrun, hp, hg⟩ := (HP.out.maps d Hk.out).put (by unfold maxLen; omega) hsz x (by omega) hfn
  by_cases hw : Within t d x
  ·have HC := hid (contains_any x d true w HP.out Hs.out Hk.out ⟨fun _ => hw, fun _ => rfl⟩)
   have Hr := hid (show r = (t, 8) by rw [Hre.out, if_neg (by omega), if_neg h40, if_pos ⟨hxk, hw⟩])
   generalize (t d).ents.length = n at hlen h40
   clear hf hk hxk hrun hg hp hw
   go_enter Tryz.func71, Tryz.ntmps71
   go_wp2_with (first
    | (go_at_call 56; (with_reducible refine (G1.out).mono ?_); rintro e w' ⟨rfl, rfl⟩)
    | (go_at_call 56; refine (G2.out).mono ?_; rintro e w' ⟨rfl, rfl⟩)
    | (go_at_call 57; (with_reducible refine (D1.out).mono ?_); rintro e w' ⟨rfl, rfl⟩)
    | (go_at_call 57; refine (D2.out).mono ?_; rintro e w' ⟨rfl, rfl⟩)
    | (go_at_call 31; refine (HN.out).mono ?_; rintro e w' ⟨rfl, rfl⟩)
    | (go_at_call 113; refine (HH.out).mono ?_; rintro e w' ⟨rfl, rfl⟩)
    | (go_at_call 116; refine (HC.out).mono ?_; rintro e w' ⟨rfl, rfl⟩))
   go_ret
   exact ⟨ret_int (by rw [Hr.out]; rfl), by rw [Hr.out]; exact Pt.refl H.out⟩
  ·have HC := hid (contains_any x d false w HP.out Hs.out Hk.out ⟨fun e => absurd e Bool.false_ne_true, fun e => absurd e hw⟩)
   have Hr := hid (show r = (add t d s.data.toList x, 0) by rw [Hre.out, if_neg (by omega), if_neg h40, if_neg (fun e => hw e.2)])
   have hfin := HP.out.turned Hk.out Hd.out hg hp
   have hxi : (upd t d { t d with ents := (t d).ents ++ [(s.data.toList, x)] } x).is = true := by rw [upd_is t d x { t d with ents := (t d).ents ++ [(s.data.toList, x)] } rfl]; exact hx
   obtain ⟨q0, -, -, -, q4, -, -, -, q8, -⟩ := hfin.cells hxi
   have g4 := hfin.frozen hxi 4
   have g8 := hfin.frozen hxi 8
   have q0' : (W'.setCell ⟨nb x, 4, none⟩ (.int .i64 1)).cell? ⟨nb x, 0, none⟩ = some (.int .i64 1) := by
    have := ((HP.out.enter Hd.out Hk.out d2 Hx.out hg hp).cells (i := x) (by rw [setEnts_is]; exact hx)).1
    rw [Hl.out, setEnts_kind, hxk] at this
    exact this
   rw [Hl.out] at q4
   have HW := hid (Hput.out W' hp hg)
   have hFr : Fr own w W' := (Fr.refl own w).turned hg (HO.out _ (.inr (.inr ⟨d, Hk.out, rfl⟩)))
   have HFr := hid hFr
   generalize (t d).ents.length = n at hlen h40
   clear hf hk hxk hg hp hw hfin q0 hxi hFr
   go_enter Tryz.func71, Tryz.ntmps71
   go_wp2_with (first
    | (go_at_call 56; (with_reducible refine (G1.out).mono ?_); rintro e w' ⟨rfl, rfl⟩)
    | (go_at_call 56; refine (G2.out).mono ?_; rintro e w' ⟨rfl, rfl⟩)
    | (go_at_call 57; (with_reducible refine (D1.out).mono ?_); rintro e w' ⟨rfl, rfl⟩)
    | (go_at_call 57; refine (D2.out).mono ?_; rintro e w' ⟨rfl, rfl⟩)
    | (go_at_call 31; refine (HN.out).mono ?_; rintro e w' ⟨rfl, rfl⟩)
    | (go_at_call 113; refine (HH.out).mono ?_; rintro e w' ⟨rfl, rfl⟩)
    | (go_at_call 116; refine (HC.out).mono ?_; rintro e w' ⟨rfl, rfl⟩)
    | (go_at_call 57; refine (isDir_at _ _ _ q0').mono ?_; rintro e w' ⟨rfl, rfl⟩))
   go_ret
   refine ⟨ret_int (by rw [Hr.out]; rfl), ?_⟩
   rw [Hr.out]
   have hW := HW.out
   rw [Hl.out] at hW
   exact Pt.same (t := t) hW HO.out (add_sub t d _ x) ((HFr.out.setCell (p := ⟨nb x, 4, none⟩) (.inl (HO.out _ (.inr (.inl ⟨x, Hx.out, rfl⟩)))) _).setCell (p := ⟨nb x, 8, none⟩) (.inl (HO.out _ (.inr (.inl ⟨x, Hx.out, rfl⟩)))) _)
 ·have D2 := hid (show Calls Tryz.prog 57 #[.pointer (some ⟨nb x, 0, none⟩)] w fun e w' => e = .returned (.bool false) ∧ w = w' by
   have := D2.out
   rw [decide_eq_false hxk] at this
   exact this)
  by_cases hl8 : 8 ≤ l
  ·have Hr := hid (show r = (t, 12) by rw [Hre.out, if_pos (.inr hl8)])
   clear hf hk hxk
   go_enter Tryz.func71, Tryz.ntmps71
   go_wp2_with (first
    | (go_at_call 56; (with_reducible refine (G1.out).mono ?_); rintro e w' ⟨rfl, rfl⟩)
    | (go_at_call 56; refine (G2.out).mono ?_; rintro e w' ⟨rfl, rfl⟩)
    | (go_at_call 57; (with_reducible refine (D1.out).mono ?_); rintro e w' ⟨rfl, rfl⟩)
    | (go_at_call 57; refine (D2.out).mono ?_; rintro e w' ⟨rfl, rfl⟩)
    | (go_at_call 31; refine (HN.out).mono ?_; rintro e w' ⟨rfl, rfl⟩)
    | (go_at_call 113; refine (HH.out).mono ?_; rintro e w' ⟨rfl, rfl⟩))
   go_ret
   exact ⟨ret_int (by rw [Hr.out]; rfl), by rw [Hr.out]; exact Pt.refl H.out⟩
  have h12 : ¬ (((t x).kind = 1 ∧ 0 < l) ∨ 8 ≤ l) := by
   rintro (h | h)
   ·exact hxk h.1
   ·exact hl8 h
  by_cases h40 : 40 ≤ (t d).ents.length
  ·have Hr := hid (show r = (t, 9) by rw [Hre.out, if_neg h12, if_pos h40])
   have hlen := Hlen.out
   generalize (t d).ents.length = n at hlen h40
   clear hf hk hxk h12
   go_enter Tryz.func71, Tryz.ntmps71
   go_wp2_with (first
    | (go_at_call 56; (with_reducible refine (G1.out).mono ?_); rintro e w' ⟨rfl, rfl⟩)
    | (go_at_call 56; refine (G2.out).mono ?_; rintro e w' ⟨rfl, rfl⟩)
    | (go_at_call 57; (with_reducible refine (D1.out).mono ?_); rintro e w' ⟨rfl, rfl⟩)
    | (go_at_call 57; refine (D2.out).mono ?_; rintro e w' ⟨rfl, rfl⟩)
    | (go_at_call 31; refine (HN.out).mono ?_; rintro e w' ⟨rfl, rfl⟩)
    | (go_at_call 113; refine (HH.out).mono ?_; rintro e w' ⟨rfl, rfl⟩))
   go_ret
   exact ⟨ret_int (by rw [Hr.out]; rfl), by rw [Hr.out]; exact Pt.refl H.out⟩
  ·have hlen := Hlen.out
   have hw : ¬ Within t d x := fun e => hxk (Hs.out.within_dir Hk.out e)
   have Hput0 := hid fun W' (hp : EMap W' (mb d) ((t d).ents ++ [(s.data.toList, x)])) (hg : w.mapTurned W' (mb d)) => HP.out.enter Hd.out Hk.out d2 Hx.out hg hp
   obtain ⟨W', hrun, hp, hg⟩ := (HP.out.maps d Hk.out).put (by unfold maxLen; omega) hsz x (by omega) hfn
   have HC := hid (contains_any x d false w HP.out Hs.out Hk.out ⟨fun e => absurd e Bool.false_ne_true, fun e => absurd e hw⟩)
   have Hr := hid (show r = (add t d s.data.toList x, 0) by rw [Hre.out, if_neg h12, if_neg h40, if_neg (fun e => hw e.2)])
   have hfin := HP.out.turned Hk.out Hd.out hg hp
   have hxi : (upd t d { t d with ents := (t d).ents ++ [(s.data.toList, x)] } x).is = true := by rw [upd_is t d x { t d with ents := (t d).ents ++ [(s.data.toList, x)] } rfl]; exact hx
   obtain ⟨q0, -, -, -, q4, -, -, -, q8, -⟩ := hfin.cells hxi
   have g4 := hfin.frozen hxi 4
   have q0' : (W'.setCell ⟨nb x, 4, none⟩ (.int .i64 ((l + 1 : Nat) : Int))).cell? ⟨nb x, 0, none⟩ = some (.int .i64 (t x).kind) := by
    have := ((HP.out.enter Hd.out Hk.out d2 Hx.out hg hp).cells (i := x) (by rw [setEnts_is]; exact hx)).1
    rw [Hl.out, setEnts_kind] at this
    exact this
   have hdec : decide ((t x).kind = 1) = false := decide_eq_false hxk
   generalize (t x).kind = kx at q0' hdec
   rw [Hl.out] at q4
   have hHW := Hput0.out W' hp hg
   have hnot : add t d s.data.toList x = setEnts t d ((t d).ents ++ [(s.data.toList, x)]) := setPar_not _ _ _ (by rw [setEnts_kind]; exact hxk)
   rw [← hnot] at hHW
   have HW := hid hHW
   have hFr : Fr own w W' := (Fr.refl own w).turned hg (HO.out _ (.inr (.inr ⟨d, Hk.out, rfl⟩)))
   have HFr := hid hFr
   have hwr : IntKind.i64.wrap ((l : Int) + 1) = ((l + 1 : Nat) : Int) := by rw [IntKind.wrap_i64]; omega
   generalize (t d).ents.length = n at hlen h40
   clear hf hk hxk hg hp hw hfin q0 hxi hFr hHW hnot h12
   go_enter Tryz.func71, Tryz.ntmps71
   go_wp2_with (first
    | (go_at_call 56; (with_reducible refine (G1.out).mono ?_); rintro e w' ⟨rfl, rfl⟩)
    | (go_at_call 56; refine (G2.out).mono ?_; rintro e w' ⟨rfl, rfl⟩)
    | (go_at_call 57; (with_reducible refine (D1.out).mono ?_); rintro e w' ⟨rfl, rfl⟩)
    | (go_at_call 57; refine (D2.out).mono ?_; rintro e w' ⟨rfl, rfl⟩)
    | (go_at_call 31; refine (HN.out).mono ?_; rintro e w' ⟨rfl, rfl⟩)
    | (go_at_call 113; refine (HH.out).mono ?_; rintro e w' ⟨rfl, rfl⟩)
    | (go_at_call 116; refine (HC.out).mono ?_; rintro e w' ⟨rfl, rfl⟩)
    | (go_at_call 57; refine (isDir_at _ _ _ q0').mono ?_; rintro e w' ⟨rfl, rfl⟩))
   go_ret
   refine ⟨ret_int (by rw [Hr.out]; rfl), ?_⟩
   rw [Hr.out]
   have hW := HW.out
   rw [Hl.out] at hW
   exact Pt.same (t := t) hW HO.out (add_sub t d _ x) (HFr.out.setCell (p := ⟨nb x, 4, none⟩) (.inl (HO.out _ (.inr (.inl ⟨x, Hx.out, rfl⟩)))) _)
end
end Go.Proofs.YtlpececggkdhmaaGreat
