import Derived.Test.YtlpececggkdhmaaGreatM14
open Go.Lib (hid)
set_option linter.unusedVariables false
set_option linter.unusedSimpArgs false
namespace Go.Proofs.YtlpececggkdhmaaGreat
section
open Go.RowKit Ino Go.Maps
variable {A : Nat} {own : Nat → Prop} {t : T}
theorem moved_some (hs : Sound t) {d to x th : Nat} {n nm : Bs} (hd : (t d).is = true) (hk : (t d).kind = 1) (hd2 : d ≤ 200) (hto : (t to).is = true) (hkt : (t to).kind = 1) (ht2 : to ≤ 200)
 (hf : findE (t d).ents n = some x) (hg : findE (t to).ents nm = some th) (hne : th ≠ x) (he : (t th).ents = []) :
 ∃ t1, t1 = goneP (rem t to nm th) ∧ (t1 d).is = true ∧ (t1 d).kind = 1 ∧ (t1 to).is = true ∧ (t1 to).kind = 1 ∧ ((t1 d).ents.map (·.1)).Nodup ∧ (t1 to).ents.length ≤ 40 ∧ (t1 x).is = true ∧ (t1 x).kind = (t x).kind ∧
  findE (t1 d).ents n = some x ∧ findE (t1 to).ents nm = none ∧ goneP (movedT t d n to nm x) = mv t1 d n to nm x := by
 have hx := hs.sd.tgt d _ (findE_mem hf)
 have h1 : th ≠ d := by
  rintro rfl
  rw [he] at hf; cases hf
 have h2 : th ≠ to := by
  rintro rfl
  rw [he] at hg; cases hg
 have hu := hs.sd.rem hg
 have hfu : findE (rem t to nm th d).ents n = some x := by
  rw [rem_ents]
  split
  ·rename_i e
   rw [erE_other ?_, ← e]
   ·exact hf
   ·rintro rfl
    rw [e, hg] at hf
    exact hne (by cases hf; rfl)
  ·exact hf
 have heu : (rem t to nm th th).ents = [] := by rw [rem_ents, if_neg h2]; exact he
 obtain ⟨g1, g2, g3⟩ := gone_mv (nm := nm) hd2 ht2 hfu heu h1 h2 hne (fun i hi => rem_alive hs ht2 hg hi)
 have hat : ∀ j, j ≠ th → goneP (rem t to nm th) j = rem t to nm th j := fun j hj => by
  rcases g3 with g3 | g3
  ·rw [g3]
  ·rw [g3, upd_other _ _ hj]
 refine ⟨_, rfl, ?_, ?_, ?_, ?_, ?_, ?_, ?_, ?_, ?_, ?_, ?_⟩
 ·rw [hat d (Ne.symm h1), rem_is]; exact hd
 ·rw [hat d (Ne.symm h1), rem_kind]; exact hk
 ·rw [hat to (Ne.symm h2), rem_is]; exact hto
 ·rw [hat to (Ne.symm h2), rem_kind]; exact hkt
 ·rw [hat d (Ne.symm h1)]; exact hu.uniq d
 ·rw [hat to (Ne.symm h2)]; exact hu.len to
 ·rw [hat x (Ne.symm hne), rem_is]; exact hx
 ·rw [hat x (Ne.symm hne), rem_kind]
 ·rw [hat d (Ne.symm h1)]; exact hfu
 ·rw [hat to (Ne.symm h2), rem_ents, if_pos rfl]; exact erE_find (hs.sd.uniq to)
 ·rw [movedT_eq, hg]; exact g1
theorem moved_none (hs : Sound t) {d to x : Nat} {n nm : Bs} (hd2 : d ≤ 200) (ht2 : to ≤ 200) (hf : findE (t d).ents n = some x) (hg : findE (t to).ents nm = none) : goneP (movedT t d n to nm x) = mv t d n to nm x := by
 rw [movedT_eq, hg]
 exact goneP_of_normal (mv_normal hd2 ht2 hf hs.alive)
theorem mv_sub (t : T) (d : Nat) (n : Bs) (to : Nat) (nm : Bs) (x : Nat) : Sub (mv t d n to nm x) t := ⟨fun i hi => by rw [mv_is] at hi; exact hi, fun i hi => by rw [mv_kind] at hi; exact hi⟩
theorem PtDrewN {w : World} (h : PTo w A own t) (q : Nat) : Pt w A own t (w.drewN q) := by
 obtain ⟨nb, mb, hP, hO⟩ := h
 exact ⟨own, ⟨nb, mb, hP.drewN q, hO⟩, fun _ => id, fun _ => .inl, (Fr.refl own w).drewN q⟩
open Classical in
set_option maxHeartbeats 8000000 in
set_option maxRecDepth 100000 in
theorem pmove_any (dir tt : Int) (s a : ByteArray) (w : World) (h : PTo w A own t) (hs : Sound t) (hsz : s.size ≤ maxLen) (haz : a.size ≤ maxLen) :
 Calls Tryz.prog 72 #[.pointer (some ⟨A, 0, none⟩), .int .i64 dir, .string s, .int .i64 tt, .string a] w fun e w' => e = .returned (.int .i64 (moveP t dir s.data.toList tt a.data.toList).2) ∧ Pt w A own (moveP t dir s.data.toList tt a.data.toList).1 w' := by
 have H := hid h
 obtain ⟨nb, mb, hP, hO⟩ := h
 have G1 := hid (get_any dir w hP)
 have G2 := hid (get_any tt w hP)
 cases hi1 : isI t dir
 ·have Hr := hid (moveP_none (n := s.data.toList) (nm := a.data.toList) (to := tt) (.inl hi1))
  have hg1 := G1.out
  rw [getV_none hi1] at hg1
  generalize getV t nb tt = v2 at G2
  have G1 := hid hg1
  clear hP hO hi1 hg1
  go_enter Tryz.func72, Tryz.ntmps72
  go_wp2_with (first
   | (go_at_call 56; (with_reducible refine (G1.out).mono ?_); rintro e w' ⟨rfl, rfl⟩)
   | (go_at_call 56; refine (G2.out).mono ?_; rintro e w' ⟨rfl, rfl⟩))
  go_ret
  exact ⟨ret_int (by rw [Hr.out]; rfl), by rw [Hr.out]; exact Pt.refl H.out⟩
 obtain ⟨d, rfl, d1, d2, hd⟩ := isI_nat hi1
 have G1 := hid (show Calls Tryz.prog 56 #[.pointer (some ⟨A, 0, none⟩), .int .i64 d] w fun e w' => e = .returned (.pointer (some ⟨nb d, 0, none⟩)) ∧ w = w' by
  have := G1.out
  rw [getV_nat hi1] at this
  exact this)
 cases hi2 : isI t tt
 ·have Hr := hid (moveP_none (n := s.data.toList) (nm := a.data.toList) (dir := (d : Int)) (.inr hi2))
  have hg2 := G2.out
  rw [getV_none hi2] at hg2
  have G2 := hid hg2
  clear hP hO hi1 hg2 hi2
  go_enter Tryz.func72, Tryz.ntmps72
  go_wp2_with (first
   | (go_at_call 56; (with_reducible refine (G1.out).mono ?_); rintro e w' ⟨rfl, rfl⟩)
   | (go_at_call 56; refine (G2.out).mono ?_; rintro e w' ⟨rfl, rfl⟩))
  go_ret
  exact ⟨ret_int (by rw [Hr.out]; rfl), by rw [Hr.out]; exact Pt.refl H.out⟩
 obtain ⟨to, rfl, t1, t2, hto⟩ := isI_nat hi2
 have G2 := hid (show Calls Tryz.prog 56 #[.pointer (some ⟨A, 0, none⟩), .int .i64 to] w fun e w' => e = .returned (.pointer (some ⟨nb to, 0, none⟩)) ∧ w = w' by
  have := G2.out
  rw [getV_nat hi2] at this
  exact this)
 have Hre := hid (moveP_at (n := s.data.toList) (nm := a.data.toList) hi1 hi2)
 generalize moveP t (d : Int) s.data.toList (to : Int) a.data.toList = r at Hre ⊢
 have D1 := hid (isDir_any w hP hd)
 have D2 := hid (isDir_any w hP hto)
 have HN := hid (pname_any a haz w)
 by_cases hk : (t d).kind = 1
 rotate_left
 ·have Hr := hid (show r = (t, 6) by rw [Hre.out, if_neg (fun h => hk h.1)])
  have hd1 := D1.out
  rw [decide_eq_false hk] at hd1
  have D1 := hid hd1
  clear hP hO hi1 hi2 hd1
  go_enter Tryz.func72, Tryz.ntmps72
  go_wp2_with (first
   | (go_at_call 56; (with_reducible refine (G1.out).mono ?_); rintro e w' ⟨rfl, rfl⟩)
   | (go_at_call 56; refine (G2.out).mono ?_; rintro e w' ⟨rfl, rfl⟩)
   | (go_at_call 57; (with_reducible refine (D1.out).mono ?_); rintro e w' ⟨rfl, rfl⟩))
  go_ret
  exact ⟨ret_int (by rw [Hr.out]; rfl), by rw [Hr.out]; exact Pt.refl H.out⟩
 have D1 := hid (show Calls Tryz.prog 57 #[.pointer (some ⟨nb d, 0, none⟩)] w fun e w' => e = .returned (.bool true) ∧ w = w' by
  have := D1.out
  rw [decide_eq_true hk] at this
  exact this)
 by_cases hkt : (t to).kind = 1
 rotate_left
 ·have Hr := hid (show r = (t, 6) by rw [Hre.out, if_neg (fun h => hkt h.2)])
  have hd1 := D2.out
  rw [decide_eq_false hkt] at hd1
  have D2 := hid hd1
  clear hP hO hi1 hi2 hd1
  go_enter Tryz.func72, Tryz.ntmps72
  go_wp2_with (first
   | (go_at_call 56; (with_reducible refine (G1.out).mono ?_); rintro e w' ⟨rfl, rfl⟩)
   | (go_at_call 56; refine (G2.out).mono ?_; rintro e w' ⟨rfl, rfl⟩)
   | (go_at_call 57; (with_reducible refine (D1.out).mono ?_); rintro e w' ⟨rfl, rfl⟩)
   | (go_at_call 57; (with_reducible refine (D2.out).mono ?_); rintro e w' ⟨rfl, rfl⟩))
  go_ret
  exact ⟨ret_int (by rw [Hr.out]; rfl), by rw [Hr.out]; exact Pt.refl H.out⟩
 have D2 := hid (show Calls Tryz.prog 57 #[.pointer (some ⟨nb to, 0, none⟩)] w fun e w' => e = .returned (.bool true) ∧ w = w' by
  have := D2.out
  rw [decide_eq_true hkt] at this
  exact this)
 have hre1 := Hre.out
 rw [if_pos ⟨hk, hkt⟩] at hre1
 have hh1 := has_any s w hP hd hk hsz
 cases hf : findE (t d).ents s.data.toList with
 | none =>
  rw [hf] at hre1 hh1
  have Hr := hid (show r = (t, 3) from hre1)
  have H1 := hid (show Calls Tryz.prog 113 #[.pointer (some ⟨nb d, 0, none⟩), .string s] w fun e w' => e = .returned (.bool false) ∧ w = w' from hh1)
  clear hP hO hi1 hi2 hre1 hh1 hf
  go_enter Tryz.func72, Tryz.ntmps72
  go_wp2_with (first
   | (go_at_call 56; (with_reducible refine (G1.out).mono ?_); rintro e w' ⟨rfl, rfl⟩)
   | (go_at_call 56; refine (G2.out).mono ?_; rintro e w' ⟨rfl, rfl⟩)
   | (go_at_call 57; (with_reducible refine (D1.out).mono ?_); rintro e w' ⟨rfl, rfl⟩)
   | (go_at_call 57; (with_reducible refine (D2.out).mono ?_); rintro e w' ⟨rfl, rfl⟩)
   | (go_at_call 113; (with_reducible refine (H1.out).mono ?_); rintro e w' ⟨rfl, rfl⟩))
  go_ret
  exact ⟨ret_int (by rw [Hr.out]; rfl), by rw [Hr.out]; exact Pt.refl H.out⟩
 | some x =>
 rw [hf] at hre1 hh1
 have H1 := hid (show Calls Tryz.prog 113 #[.pointer (some ⟨nb d, 0, none⟩), .string s] w fun e w' => e = .returned (.bool true) ∧ w = w' from hh1)
 have Hre := hid (show r = if nameOk a.data.toList = true then
  if Within t to x ∧ (t x).kind = 1 then (t, 8)
  else if findE (t to).ents a.data.toList = some x then (t, 0)
  else if barE t d to a.data.toList x ≠ 0 then (t, barE t d to a.data.toList x)
  else (goneP (movedT t d s.data.toList to a.data.toList x), 0)
  else (t, 1) from hre1)
 clear hre1 hh1 hi1 hi2
 cases hn : nameOk a.data.toList
 ·have Hr := hid (show r = (t, 1) by rw [Hre.out, hn]; rfl)
  have hn1 := HN.out
  rw [hn] at hn1
  have HN := hid hn1
  clear hP hO hn1 hf
  go_enter Tryz.func72, Tryz.ntmps72
  go_wp2_with (first
   | (go_at_call 56; (with_reducible refine (G1.out).mono ?_); rintro e w' ⟨rfl, rfl⟩)
   | (go_at_call 56; refine (G2.out).mono ?_; rintro e w' ⟨rfl, rfl⟩)
   | (go_at_call 57; (with_reducible refine (D1.out).mono ?_); rintro e w' ⟨rfl, rfl⟩)
   | (go_at_call 57; (with_reducible refine (D2.out).mono ?_); rintro e w' ⟨rfl, rfl⟩)
   | (go_at_call 113; (with_reducible refine (H1.out).mono ?_); rintro e w' ⟨rfl, rfl⟩)
   | (go_at_call 31; refine (HN.out).mono ?_; rintro e w' ⟨rfl, rfl⟩))
  go_ret
  exact ⟨ret_int (by rw [Hr.out]; rfl), by rw [Hr.out]; exact Pt.refl H.out⟩
 have HN := hid (show Calls Tryz.prog 31 #[.string a] w fun e w' => e = .returned (.bool true) ∧ w = w' by
  have := HN.out
  rw [hn] at this
  exact this)
 have hre2 := Hre.out
 rw [if_pos hn] at hre2
 have Hre := hid hre2
 clear hre2 hn
 have hx := hs.sd.tgt d _ (findE_mem hf)
 have hxr := hs.sd.range x hx
 obtain ⟨-, -, -, -, -, -, -, m7, -⟩ := hP.cells hd
 obtain ⟨-, -, -, -, -, -, -, n7, -⟩ := hP.cells hto
 unfold mapV at m7 n7
 rw [if_pos hk] at m7
 rw [if_pos hkt] at n7
 have hlook := (hP.maps d hk).look hsz
 rw [hf] at hlook
 have hlook : (Instr.lookup 108 (.map (some (mb d))) (.string s) false).run Tryz.prog w = .ok (.int .i64 x) w := hlook
 by_cases hw : Within t to x
 ·have HC := hid (contains_any x to true w hP hs.sd hkt ⟨fun _ => hw, fun _ => rfl⟩)
  have Hr := hid (show r = (t, 8) by rw [Hre.out, if_pos ⟨hw, hs.sd.within_dir hkt hw⟩])
  clear hP hO hf hw
  go_enter Tryz.func72, Tryz.ntmps72
  go_wp2_with (first
   | (go_at_call 56; (with_reducible refine (G1.out).mono ?_); rintro e w' ⟨rfl, rfl⟩)
   | (go_at_call 56; refine (G2.out).mono ?_; rintro e w' ⟨rfl, rfl⟩)
   | (go_at_call 57; (with_reducible refine (D1.out).mono ?_); rintro e w' ⟨rfl, rfl⟩)
   | (go_at_call 57; (with_reducible refine (D2.out).mono ?_); rintro e w' ⟨rfl, rfl⟩)
   | (go_at_call 113; (with_reducible refine (H1.out).mono ?_); rintro e w' ⟨rfl, rfl⟩)
   | (go_at_call 31; refine (HN.out).mono ?_; rintro e w' ⟨rfl, rfl⟩)
   | (go_at_call 116; refine (HC.out).mono ?_; rintro e w' ⟨rfl, rfl⟩))
  go_ret
  exact ⟨ret_int (by rw [Hr.out]; rfl), by rw [Hr.out]; exact Pt.refl H.out⟩
 have HC := hid (contains_any x to false w hP hs.sd hkt ⟨fun e => absurd e Bool.false_ne_true, fun e => absurd e hw⟩)
 have hre2 := Hre.out
 rw [if_neg (show ¬ (Within t to x ∧ (t x).kind = 1) from fun h => hw h.1)] at hre2
 have Hre := hid hre2
 clear hre2 hw
 have hlook2 := (hP.maps to hkt).look haz
 by_cases hsame : findE (t to).ents a.data.toList = some x
 ·rw [hsame] at hlook2
  have hlook2 : (Instr.lookup 108 (.map (some (mb to))) (.string a) false).run Tryz.prog w = .ok (.int .i64 x) w := hlook2
  have Hr := hid (show r = (t, 0) by rw [Hre.out, if_pos hsame])
  clear hP hO hf hsame
  go_enter Tryz.func72, Tryz.ntmps72
  go_wp2_with (first
   | (go_at_call 56; (with_reducible refine (G1.out).mono ?_); rintro e w' ⟨rfl, rfl⟩)
   | (go_at_call 56; refine (G2.out).mono ?_; rintro e w' ⟨rfl, rfl⟩)
   | (go_at_call 57; (with_reducible refine (D1.out).mono ?_); rintro e w' ⟨rfl, rfl⟩)
   | (go_at_call 57; (with_reducible refine (D2.out).mono ?_); rintro e w' ⟨rfl, rfl⟩)
   | (go_at_call 113; (with_reducible refine (H1.out).mono ?_); rintro e w' ⟨rfl, rfl⟩)
   | (go_at_call 31; refine (HN.out).mono ?_; rintro e w' ⟨rfl, rfl⟩)
   | (go_at_call 116; refine (HC.out).mono ?_; rintro e w' ⟨rfl, rfl⟩))
  go_ret
  exact ⟨ret_int (by rw [Hr.out]; rfl), by rw [Hr.out]; exact Pt.refl H.out⟩
 obtain ⟨y, hy, hyx⟩ : ∃ y : Nat, (findE (t to).ents a.data.toList).getD 0 = y ∧ y ≠ x := by
  refine ⟨_, rfl, ?_⟩
  cases hq : findE (t to).ents a.data.toList with
  | none => show 0 ≠ x; omega
  | some z => show z ≠ x; rintro rfl; exact hsame hq
 rw [hy] at hlook2
 have hyx' : ((y : Int) == (x : Int)) = false := by rw [beq_eq_false_iff_ne]; omega
 have hre2 := Hre.out
 rw [if_neg hsame] at hre2
 have Hre := hid hre2
 clear hre2 hyx
 have HM := hid (mayMove_any (d := d) a w hP hs haz hd hto hkt hx)
 by_cases hb : barE t d to a.data.toList x = 0
 rotate_left
 ·have Hr := hid (show r = (t, barE t d to a.data.toList x) by rw [Hre.out, if_pos hb])
  generalize barE t d to a.data.toList x = b at HM Hr hb
  have hb' : ((b : Int) == 0) = false := by rw [beq_eq_false_iff_ne]; omega
  clear hP hO hf hsame hb
  go_enter Tryz.func72, Tryz.ntmps72
  go_wp2_with (first
   | (go_at_call 56; (with_reducible refine (G1.out).mono ?_); rintro e w' ⟨rfl, rfl⟩)
   | (go_at_call 56; refine (G2.out).mono ?_; rintro e w' ⟨rfl, rfl⟩)
   | (go_at_call 57; (with_reducible refine (D1.out).mono ?_); rintro e w' ⟨rfl, rfl⟩)
   | (go_at_call 57; (with_reducible refine (D2.out).mono ?_); rintro e w' ⟨rfl, rfl⟩)
   | (go_at_call 113; (with_reducible refine (H1.out).mono ?_); rintro e w' ⟨rfl, rfl⟩)
   | (go_at_call 31; refine (HN.out).mono ?_; rintro e w' ⟨rfl, rfl⟩)
   | (go_at_call 116; refine (HC.out).mono ?_; rintro e w' ⟨rfl, rfl⟩)
   | (go_at_call 117; refine (HM.out).mono ?_; rintro e w1 ⟨rfl, q, rfl⟩))
  go_ret
  exact ⟨ret_int (by rw [Hr.out]), by rw [Hr.out]; exact PtDrewN H.out q⟩
 have Hr := hid (show r = (goneP (movedT t d s.data.toList to a.data.toList x), 0) by rw [Hre.out, if_neg (fun h => h hb)])
 have hmm := HM.out
 rw [hb] at hmm
 have HM := hid hmm
 clear hmm
 have HO := hid hO
 have HP := hid hP
 have Hs := hid hs
 have Hk := hid hk
 have Hkt := hid hkt
 have Hd := hid hd
 have Hto := hid hto
 have Hx := hid hx
 have Hf := hid hf
 cases hg : findE (t to).ents a.data.toList with
 | none =>
  have Hgone := hid (moved_none hs d2 t2 hf hg)
  have HH := hid fun q => has_any a (w.drewN q) (hP.drewN q) hto hkt haz
  rw [hg] at HH
  have HT := hid fun q => move_tail (hP.drewN q) s a hsz haz hd hk d2 hto hkt t2 (hs.sd.uniq d) (hs.sd.len to) hx hxr.2 hf hg
  have hfinal : ∀ W', PT W' A nb mb (mv t d s.data.toList to a.data.toList x) (links (mv t d s.data.toList to a.data.toList x)) → Fr own w W' → Pt w A own (goneP (movedT t d s.data.toList to a.data.toList x)) W' := fun W' h1 h2 => by
   rw [Hgone.out]
   exact Pt.same (t := t) h1 HO.out (mv_sub _ _ _ _ _ _) h2
  have HFin := hid hfinal
  clear hP hO hs hk hkt hd hto hf hg hsame hb hfinal hy
  by_cases hxk : (t x).kind = 1
  ·have Hxk := hid hxk
   rw [hxk] at HT
   clear hxk
   go_enter Tryz.func72, Tryz.ntmps72
   go_wp2_with (first
    | (go_at_call 56; (with_reducible refine (G1.out).mono ?_); rintro e w' ⟨rfl, rfl⟩)
    | (go_at_call 56; refine (G2.out).mono ?_; rintro e w' ⟨rfl, rfl⟩)
    | (go_at_call 57; (with_reducible refine (D1.out).mono ?_); rintro e w' ⟨rfl, rfl⟩)
    | (go_at_call 57; (with_reducible refine (D2.out).mono ?_); rintro e w' ⟨rfl, rfl⟩)
    | (go_at_call 113; (with_reducible refine (H1.out).mono ?_); rintro e w' ⟨rfl, rfl⟩)
    | (go_at_call 31; refine (HN.out).mono ?_; rintro e w' ⟨rfl, rfl⟩)
    | (go_at_call 116; refine (HC.out).mono ?_; rintro e w' ⟨rfl, rfl⟩)
    | (go_at_call 117; refine (HM.out).mono ?_; rintro e w1 ⟨rfl, q, rfl⟩; obtain ⟨W2, W3, r2, e7, r3, cA, e0, ⟨p, e8⟩, f8, hf1, hf2, hfr⟩ := HT.out q; have HF1 := hid hf1; have HF2 := hid hf2; have HFr := hid hfr; clear hf1 hf2 hfr)
    | (go_at_call 113; refine (HH.out _).mono ?_; rintro e w' ⟨rfl, rfl⟩)
    | (go_at_call 57; refine (isDir_at _ _ _ e0).mono ?_; rintro e w' ⟨rfl, rfl⟩))
   go_ret
   have hFr3 : Fr own w W3 := ((Fr.refl own w).drewN q).trans (HFr.out.mono fun g _ hg => by rcases hg with rfl | rfl; exact HO.out _ (.inr (.inr ⟨d, Hk.out, rfl⟩)); exact HO.out _ (.inr (.inr ⟨to, Hkt.out, rfl⟩)))
   refine ⟨ret_int (by rw [Hr.out]; rfl), ?_⟩
   rw [Hr.out]
   exact HFin.out _ (HF1.out trivial) (hFr3.setCell (p := ⟨nb x, 8, none⟩) (.inl (HO.out _ (.inr (.inl ⟨x, Hx.out, rfl⟩)))) _)
  ·have hdec : decide ((t x).kind = 1) = false := decide_eq_false hxk
   have HT' := HT.out
   generalize (t x).kind = kx at HT' hdec hxk
   have HT := hid HT'
   have Hxk := hid hxk
   clear hxk HT'
   go_enter Tryz.func72, Tryz.ntmps72
   go_wp2_with (first
    | (go_at_call 56; (with_reducible refine (G1.out).mono ?_); rintro e w' ⟨rfl, rfl⟩)
    | (go_at_call 56; refine (G2.out).mono ?_; rintro e w' ⟨rfl, rfl⟩)
    | (go_at_call 57; (with_reducible refine (D1.out).mono ?_); rintro e w' ⟨rfl, rfl⟩)
    | (go_at_call 57; (with_reducible refine (D2.out).mono ?_); rintro e w' ⟨rfl, rfl⟩)
    | (go_at_call 113; (with_reducible refine (H1.out).mono ?_); rintro e w' ⟨rfl, rfl⟩)
    | (go_at_call 31; refine (HN.out).mono ?_; rintro e w' ⟨rfl, rfl⟩)
    | (go_at_call 116; refine (HC.out).mono ?_; rintro e w' ⟨rfl, rfl⟩)
    | (go_at_call 117; refine (HM.out).mono ?_; rintro e w1 ⟨rfl, q, rfl⟩; obtain ⟨W2, W3, r2, e7, r3, cA, e0, ⟨p, e8⟩, f8, hf1, hf2, hfr⟩ := HT.out q; have HF1 := hid hf1; have HF2 := hid hf2; have HFr := hid hfr; clear hf1 hf2 hfr)
    | (go_at_call 113; refine (HH.out _).mono ?_; rintro e w' ⟨rfl, rfl⟩)
    | (go_at_call 57; refine (isDir_at _ _ _ e0).mono ?_; rintro e w' ⟨rfl, rfl⟩))
   go_ret
   have hFr3 : Fr own w W3 := ((Fr.refl own w).drewN q).trans (HFr.out.mono fun g _ hg => by rcases hg with rfl | rfl; exact HO.out _ (.inr (.inr ⟨d, Hk.out, rfl⟩)); exact HO.out _ (.inr (.inr ⟨to, Hkt.out, rfl⟩)))
   refine ⟨ret_int (by rw [Hr.out]; rfl), ?_⟩
   rw [Hr.out]
   exact HFin.out _ (HF2.out Hxk.out) hFr3
 | some th =>
  have he : (t th).ents = [] := by
   have hb2 : thereE t to a.data.toList x = 0 := by
    have : barE t d to a.data.toList x = thereE t to a.data.toList x := by unfold barE; rw [hg]
    rw [← this]; exact hb
   unfold thereE at hb2
   rw [hg] at hb2
   dsimp only at hb2
   by_cases e : (t th).ents = []
   ·exact e
   ·rw [if_pos e] at hb2
    split at hb2 <;> cases hb2
  have hne : th ≠ x := by rintro rfl; exact hsame hg
  obtain ⟨t1, ht1, q1, q2, q3, q4, q5, q6, q7, q8, q9, q10, q11⟩ := moved_some hs hd hk d2 hto hkt t2 hf hg hne he
  have Hgone := hid q11
  have HH := hid fun q => has_any a (w.drewN q) (hP.drewN q) hto hkt haz
  rw [hg] at HH
  have HR := hid fun q => premove_any a (w.drewN q) (hP.drewN q) hs haz hto hkt t2 hg
  rw [← ht1] at HR
  have HT := hid fun w2 (h2 : PT w2 A nb mb t1 (links t1)) => move_tail h2 s a hsz haz q1 q2 d2 q3 q4 t2 q5 q6 q7 hxr.2 q9 q10
  have Hd1 := hid q1
  have Hk1 := hid q2
  have hNb : ∀ g, (Nb A nb t g ∨ g = mb to) → own g := fun g hg => by
   rcases hg with (rfl | ⟨i, hi, rfl⟩) | rfl
   ·exact HO.out _ (.inl rfl)
   ·exact HO.out _ (.inr (.inl ⟨i, hi, rfl⟩))
   ·exact HO.out _ (.inr (.inr ⟨to, Hkt.out, rfl⟩))
  have hfinal : ∀ W', Sub t1 t → PT W' A nb mb (mv t1 d s.data.toList to a.data.toList x) (links (mv t1 d s.data.toList to a.data.toList x)) → Fr own w W' → Pt w A own (goneP (movedT t d s.data.toList to a.data.toList x)) W' := fun W' h0 h1 h2 => by
   rw [Hgone.out]
   exact Pt.same (t := t) h1 HO.out ((mv_sub _ _ _ _ _ _).trans h0) h2
  have HFin := hid hfinal
  have HNb := hid hNb
  rw [q8] at HT
  clear hP hO hs hk hkt hd hto hf hg hsame hb hfinal hy he hne ht1 q1 q2 q3 q4 q5 q6 q7 q8 q9 q10 q11 hNb
  by_cases hxk : (t x).kind = 1
  ·have Hxk := hid hxk
   rw [hxk] at HT
   clear hxk
   go_enter Tryz.func72, Tryz.ntmps72
   go_wp2_with (first
    | (go_at_call 56; (with_reducible refine (G1.out).mono ?_); rintro e w' ⟨rfl, rfl⟩)
    | (go_at_call 56; refine (G2.out).mono ?_; rintro e w' ⟨rfl, rfl⟩)
    | (go_at_call 57; (with_reducible refine (D1.out).mono ?_); rintro e w' ⟨rfl, rfl⟩)
    | (go_at_call 57; (with_reducible refine (D2.out).mono ?_); rintro e w' ⟨rfl, rfl⟩)
    | (go_at_call 113; (with_reducible refine (H1.out).mono ?_); rintro e w' ⟨rfl, rfl⟩)
    | (go_at_call 31; refine (HN.out).mono ?_; rintro e w' ⟨rfl, rfl⟩)
    | (go_at_call 116; refine (HC.out).mono ?_; rintro e w' ⟨rfl, rfl⟩)
    | (go_at_call 117; refine (HM.out).mono ?_; rintro e w1 ⟨rfl, q, rfl⟩)
    | (go_at_call 113; refine (HH.out _).mono ?_; rintro e w' ⟨rfl, rfl⟩)
    | (go_at_call 115; refine (HR.out _).mono ?_; rintro e w2 ⟨rfl, k1, k2, k3⟩; obtain ⟨W2, W3, r2, e7, r3, cA, e0, ⟨p, e8⟩, f8, hf1, hf2, hfr⟩ := HT.out w2 k1; have m72 := (k1.cells Hd1.out).2.2.2.2.2.2.2.1; unfold mapV at m72; rw [if_pos Hk1.out] at m72; have HF1 := hid hf1; have HF2 := hid hf2; have HFr := hid hfr; have HK3 := hid k3; clear hf1 hf2 hfr k1 k3)
    | (go_at_call 57; refine (isDir_at _ _ _ e0).mono ?_; rintro e w' ⟨rfl, rfl⟩))
   go_ret
   have hNb := HNb.out
   have hFr3 : Fr own w W3 := (((Fr.refl own w).drewN q).trans (HK3.out.mono fun g _ hg => hNb g hg)).trans (HFr.out.mono fun g _ hg => by rcases hg with rfl | rfl; exact HO.out _ (.inr (.inr ⟨d, Hk.out, rfl⟩)); exact HO.out _ (.inr (.inr ⟨to, Hkt.out, rfl⟩)))
   refine ⟨ret_int (by rw [Hr.out]; rfl), ?_⟩
   rw [Hr.out]
   exact HFin.out _ k2 (HF1.out trivial) (hFr3.setCell (p := ⟨nb x, 8, none⟩) (.inl (HO.out _ (.inr (.inl ⟨x, Hx.out, rfl⟩)))) _)
  ·have hdec : decide ((t x).kind = 1) = false := decide_eq_false hxk
   have HT' := HT.out
   generalize (t x).kind = kx at HT' hdec hxk
   have HT := hid HT'
   have Hxk := hid hxk
   clear hxk HT'
   go_enter Tryz.func72, Tryz.ntmps72
   go_wp2_with (first
    | (go_at_call 56; (with_reducible refine (G1.out).mono ?_); rintro e w' ⟨rfl, rfl⟩)
    | (go_at_call 56; refine (G2.out).mono ?_; rintro e w' ⟨rfl, rfl⟩)
    | (go_at_call 57; (with_reducible refine (D1.out).mono ?_); rintro e w' ⟨rfl, rfl⟩)
    | (go_at_call 57; (with_reducible refine (D2.out).mono ?_); rintro e w' ⟨rfl, rfl⟩)
    | (go_at_call 113; (with_reducible refine (H1.out).mono ?_); rintro e w' ⟨rfl, rfl⟩)
    | (go_at_call 31; refine (HN.out).mono ?_; rintro e w' ⟨rfl, rfl⟩)
    | (go_at_call 116; refine (HC.out).mono ?_; rintro e w' ⟨rfl, rfl⟩)
    | (go_at_call 117; refine (HM.out).mono ?_; rintro e w1 ⟨rfl, q, rfl⟩)
    | (go_at_call 113; refine (HH.out _).mono ?_; rintro e w' ⟨rfl, rfl⟩)
    | (go_at_call 115; refine (HR.out _).mono ?_; rintro e w2 ⟨rfl, k1, k2, k3⟩; obtain ⟨W2, W3, r2, e7, r3, cA, e0, ⟨p, e8⟩, f8, hf1, hf2, hfr⟩ := HT.out w2 k1; have m72 := (k1.cells Hd1.out).2.2.2.2.2.2.2.1; unfold mapV at m72; rw [if_pos Hk1.out] at m72; have HF1 := hid hf1; have HF2 := hid hf2; have HFr := hid hfr; have HK3 := hid k3; clear hf1 hf2 hfr k1 k3)
    | (go_at_call 57; refine (isDir_at _ _ _ e0).mono ?_; rintro e w' ⟨rfl, rfl⟩))
   go_ret
   have hNb := HNb.out
   have hFr3 : Fr own w W3 := (((Fr.refl own w).drewN q).trans (HK3.out.mono fun g _ hg => hNb g hg)).trans (HFr.out.mono fun g _ hg => by rcases hg with rfl | rfl; exact HO.out _ (.inr (.inr ⟨d, Hk.out, rfl⟩)); exact HO.out _ (.inr (.inr ⟨to, Hkt.out, rfl⟩)))
   refine ⟨ret_int (by rw [Hr.out]; rfl), ?_⟩
   rw [Hr.out]
   exact HFin.out _ k2 (HF2.out Hxk.out) hFr3
end
end Go.Proofs.YtlpececggkdhmaaGreat
