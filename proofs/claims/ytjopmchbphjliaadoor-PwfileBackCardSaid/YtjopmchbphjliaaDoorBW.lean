/- Walk of the law PwfileBack. -/
import Derived.Test.YtjopmchbphjliaaDoorC2
import Derived.Test.YtjopmchbphjliaaDoorLW
namespace Go.Proofs.YtjopmchbphjliaaDoor
open Go.RowKit Go.Shelf

theorem same_at (p q : Option Addr) (n cap cap2 : Nat) (us : List Usr) (w : World) (hin : InUsers w p n us) (hin2 : InUsers w q n us) (hn : n ≤ maxLen) :
    Calls Tryd.prog 11 #[.slice p n cap, .slice q n cap2] w fun e w' => e = .returned (.bool true) ∧ Below w.heap.size w w' := by
  refine (same_any p q n n cap cap2 us us w hin hin2 hn hn).mono ?_
  rintro e w' ⟨rfl, hd⟩
  exact ⟨by rw [(sameS_iff us us).2 rfl], dr_below hd⟩
theorem chU_mem (q : Usr → Bool) (p : ByteArray) (us : List Usr) (hp : p.size ≤ maxLen) (h : ∀ u ∈ us, OkU u) (h0 : OkU (findU q us)) : ∀ u ∈ chU q p us, OkU u := by
  intro u hu
  unfold chU at hu
  rcases List.mem_or_eq_of_mem_set hu with h1 | h1
  · exact h u h1
  · subst h1
    obtain ⟨a, _, c⟩ := h0
    exact ⟨a, hp, c⟩
set_option maxRecDepth 100000 in
set_option maxHeartbeats 6400000 in
theorem back_walk (p : Option Addr) (n cap : Nat) (us : List Usr) (which : Int) (pass : ByteArray) (hpass : pass.size ≤ 140737488351232) (hwr : -9223372036854775808 ≤ which ∧ which ≤ 9223372036854775807) (w : World) (henv : Env w) (hin : InUsers w p n us) (hn : n ≤ cap) (hm : cap ≤ maxLen) :
    Calls Tryd.prog 3 #[.slice p n cap, .int .i64 which, .string pass] w fun e w' => e = .returned (.bool true) ∧ Below w.heap.size w w' := by
  have cs := shown_any w henv
  obtain ⟨rb, hr⟩ : ∃ rb, rightL us = rb := ⟨_, rfl⟩
  have cr := fun w1 h => right_at2 p n cap us rb hr w1 h hn hm
  have Hin := Lib.hid hin
  cases rb
  · have cp := fun w1 h h' => print_at p n cap us ⟨#[]⟩ (by unfold printS; rw [hr]; rfl) w1 h h' hn hm
    clear hin hm hwr hpass hn hr
    go_enter Tryd.func3, Tryd.ntmps3
    go_wp2_with fail
    refine cs.mono ?_
    rintro x w1 ⟨rfl, hb1⟩
    have henv1 := henv.below hb1
    go_wp2_with fail
    refine (cr _ (Hin.out.below hb1 (Nat.le_refl _))).mono ?_
    rintro x w2 ⟨rfl, hb2⟩
    have henv2 := henv1.below hb2
    have hb12 := next hb1 hb1.size hb2
    go_wp2_with fail
    refine (cp _ henv2 (Hin.out.below hb12 (Nat.le_refl _))).mono ?_
    rintro x w3 ⟨rfl, hb3⟩
    go_wp2
    go_ret
    exact ⟨rfl, next hb12 hb12.size hb3⟩
  · obtain ⟨h8, hall⟩ := rightL_parts hr
    have hlen := hin.1
    have hl := linesOf_len us hall
    obtain ⟨S, hS⟩ : ∃ S : ByteArray, S.data.toList = linesOf us := ⟨⟨(linesOf us).toArray⟩, rfl⟩
    have hSz : S.size ≤ 4096 := by rw [← size_len, hS]; omega
    have cp := fun w1 h h' => print_at p n cap us S (by rw [print_right hr, hS]) w1 h h' hn hm
    have ca := fun w1 h => parse_at S (by unfold maxLen; omega) us 0 0 (parse_print hr S hS) w1 h
    have Cp := Lib.hid cp
    have Ca := Lib.hid ca
    have Cr := Lib.hid cr
    have Hall := Lib.hid hall
    have HS := Lib.hid hS
    have HSz := Lib.hid hSz
    have Hr := Lib.hid hr
    have Hlen := Lib.hid hlen
    have hn8 : n ≤ 8 := by omega
    have Hm := Lib.hid hm
    have Hpass := Lib.hid hpass
    have Hwr := Lib.hid hwr
    have Hn8 := Lib.hid hn8
    clear hin cp ca cr hall hS hSz hr hl h8 hm hpass hwr hlen hn8
    by_cases h0 : n = 0
    · have hus : us = [] := List.length_eq_zero_iff.1 (by rw [Hlen.out]; exact h0)
      subst hus
      have hse : S = ⟨#[]⟩ := Mx.empty_list S HS.out
      subst hse
      subst h0
      go_enter Tryd.func3, Tryd.ntmps3
      go_wp2_with fail
      refine cs.mono ?_
      rintro x w1 ⟨rfl, hb1⟩
      have henv1 := henv.below hb1
      clear cs henv
      go_wp2_with fail
      refine (Cr.out _ (Hin.out.below hb1 (Nat.le_refl _))).mono ?_
      rintro x w2 ⟨rfl, hb2⟩
      have henv2 := henv1.below hb2
      have hb12 := next hb1 hb1.size hb2
      clear hb1 hb2 henv1
      go_wp2_with fail
      refine (Cp.out _ henv2 (Hin.out.below hb12 (Nat.le_refl _))).mono ?_
      rintro x w3 ⟨rfl, hb3⟩
      have henv3 := henv2.below hb3
      have hb13 := next hb12 hb12.size hb3
      clear hb12 hb3 henv2
      go_wp2_with fail
      refine (Ca.out _ henv3).mono ?_
      rintro x w4 ⟨q, cap2, rfl, hrow, hb4⟩
      have hb14 := next hb13 hb13.size hb4
      obtain ⟨hin2, -, hcap2, hcm2⟩ := InUsers.of_row hrow (fun u hu => by cases hu)
      have csa := same_at p q 0 cap cap2 [] w4 (Hin.out.below hb14 (Nat.le_refl _)) hin2 (by decide)
      clear hrow hb13 hb4 hin2 hcap2 hcm2 henv3
      simp only [List.length_nil]
      go_wp2_with fail
      refine csa.mono ?_
      rintro x w5 ⟨rfl, hb5⟩
      go_wp2
      go_ret
      exact ⟨rfl, next hb14 hb14.size hb5⟩
    · have h0u : us ≠ [] := fun e => h0 (by rw [← Hlen.out, e]; rfl)
      have hpos : 1 ≤ S.size := by
        rw [← size_len, HS.out]
        rcases List.eq_nil_or_concat us with e | ⟨a, u, e⟩
        · exact absurd e h0u
        · rw [e, List.concat_eq_append, linesOf_snoc]; simp; omega
      have cc := fun t ht w1 h => parse_at t (by unfold maxLen; have := HSz.out; rw [← size_len, ht]; simp; omega) [] us.length 17 (parse_cut Hr.out h0u S t HS.out ht) w1 h
      have Cc := Lib.hid cc
      have Hpos := Lib.hid hpos
      clear cc hpos
      go_enter Tryd.func3, Tryd.ntmps3
      go_wp2_with fail
      refine cs.mono ?_
      rintro x w1 ⟨rfl, hb1⟩
      have henv1 := henv.below hb1
      clear cs henv
      go_wp2_with fail
      refine (Cr.out _ (Hin.out.below hb1 (Nat.le_refl _))).mono ?_
      rintro x w2 ⟨rfl, hb2⟩
      have henv2 := henv1.below hb2
      have hb12 := next hb1 hb1.size hb2
      clear hb1 hb2 henv1
      go_wp2_with fail
      refine (Cp.out _ henv2 (Hin.out.below hb12 (Nat.le_refl _))).mono ?_
      rintro x w3 ⟨rfl, hb3⟩
      have henv3 := henv2.below hb3
      have hb13 := next hb12 hb12.size hb3
      clear hb12 hb3 henv2
      go_wp2_with fail
      refine (Ca.out _ henv3).mono ?_
      rintro x w4 ⟨q, cap2, rfl, hrow, hb4⟩
      have henv4 := henv3.below hb4
      have hb14 := next hb13 hb13.size hb4
      obtain ⟨hin2, -, hcap2, hcm2⟩ := InUsers.of_row hrow (fun u hu => right_ok (Hall.out u hu))
      rw [Hlen.out] at hin2
      have csa := same_at p q n cap cap2 us w4 (Hin.out.below hb14 (Nat.le_refl _)) hin2 (by have := Hn8.out; unfold maxLen; omega)
      clear hrow hb13 hb4 hin2 hcap2 hcm2 henv3
      rw [Hlen.out]
      go_wp2_with fail
      refine csa.mono ?_
      rintro x w5 ⟨rfl, hb5⟩
      have henv5 := henv4.below hb5
      have hb15 := next hb14 hb14.size hb5
      clear csa hb5 hb14 henv4
      have hszS : 1 ≤ S.size ∧ S.size ≤ 4096 := ⟨Hpos.out, HSz.out⟩
      have cut := Cc.out (S.extract 0 (S.size - 1)) (by rw [extract_take]) w5 henv5
      rw [Hlen.out] at cut
      go_wp2_with fail
      refine cut.mono ?_
      rintro x w6 ⟨q6, cap6, rfl, -, hb6⟩
      have henv6 := henv5.below hb6
      have hb16 := next hb15 hb15.size hb6
      clear cut hb6 hb15 henv5 hszS
      simp only [List.length_nil]
      obtain ⟨x, hx⟩ : ∃ x : Int, (if which < 0 then -(which + 1) else which) = x := ⟨_, rfl⟩
      have hx0 : 0 ≤ x := by rw [← hx]; split <;> omega
      obtain ⟨k, hk⟩ : ∃ k : Nat, x.tmod (n : Int) = (k : Int) := ⟨(x.tmod (n : Int)).toNat, by have := Int.tmod_nonneg (n : Int) hx0; omega⟩
      have hkn : k < n := by have := Int.tmod_lt_of_pos x (show 0 < (n : Int) by omega); omega
      have hkl : k < us.length := by rw [Hlen.out]; exact hkn
      have hku : us[k]? = some us[k] := List.getElem?_eq_getElem hkl
      obtain ⟨hok, g, off, hpp, hat⟩ := (Hin.out.below hb16 (Nat.le_refl _)).2 k _ hku
      generalize us[k] = u at hku hok hat
      have hany : us.any (qName u.name) = true := List.any_eq_true.2 ⟨u, List.mem_of_getElem? hku, by unfold qName; exact beq_self_eq_true _⟩
      have h0f : 0 ≤ findI (qName u.name) us := by
        have := findI_any (qName u.name) us
        rw [hany] at this
        exact of_decide_eq_true this
      have hch := fun w1 h => change_any (some ⟨g, off, none⟩) n cap us u.name pass w1 h (by have := Hn8.out; omega)
      rw [hany] at hch
      have hfound := chU_found (qName u.name) pass (fun _ => rfl) us h0f
      have hokc := chU_mem (qName u.name) pass us (small_max _ Hpass.out) (fun u hu => right_ok (Hall.out u hu)) (by
        obtain ⟨j, _, hj, _⟩ := found_at (qName u.name) us h0f
        exact right_ok (Hall.out _ (List.mem_of_getElem? hj)))
      have hcl := chU_len (qName u.name) pass us
      have hfp : (setP (findU (qName u.name) us) pass).pass = pass := rfl
      generalize chU (qName u.name) pass us = cs at hch hfound hokc hcl
      generalize setP (findU (qName u.name) us) pass = fu at hfound hfp
      have Hch := Lib.hid hch
      have Hfound := Lib.hid hfound
      have Hokc := Lib.hid hokc
      have Hcl := Lib.hid (hcl.trans Hlen.out)
      have Hku := Lib.hid hku
      clear hany h0f hch hfound hokc hcl hku hkl hok
      subst hpp
      have hc0 := hat.1
      have hglt := hat.lt
      have hn8 := Hn8.out
      by_cases hw0 : which < 0
      · rw [if_pos hw0] at hx
        have hwr := Hwr.out
        go_wp2_with fail
        refine (Hch.out w6 (Hin.out.below hb16 (Nat.le_refl _))).mono ?_
        rintro y w7 ⟨v, rfl, hrow, hb7⟩
        replace hrow : w7.ownsRow w6.heap.size 33 6 v n (usCells cs) := hrow
        obtain ⟨g7, cap7, rfl⟩ : ∃ q c, v = .slice q n c := by
          rcases hrow.2 with ⟨_, h⟩ | ⟨g', c', _, h, _⟩
          · exact absurd h h0
          · exact ⟨_, _, h⟩
        have hrow' : w7.ownsRow w6.heap.size 33 6 (.slice g7 n cap7) cs.length (usCells cs) := by rw [Hcl.out]; exact hrow
        obtain ⟨hin7, -, hcap7, hcm7⟩ := InUsers.of_row hrow' Hokc.out
        rw [Hcl.out] at hin7 hcap7
        have henv7 := henv6.below hb7
        have hb17 := next hb16 hb16.size hb7
        have hc7 : w7.cell? ⟨g, off + k * 6, none⟩ = some (.string u.name) := (hb7.cell (p := ⟨g, _, none⟩) hglt).trans hc0
        have hg7 : g < w7.heap.size := Nat.lt_of_lt_of_le hglt hb7.size
        have hfd := find_any g7 n cap7 cs u.name w7 hin7 (by unfold maxLen; omega)
        rw [Hfound.out] at hfd
        unfold Usr.val at hfd
        have Hin7 := Lib.hid hin7
        clear hrow hrow' hin7 hb7 hb16 henv6 hc0
        go_wp2_with fail
        refine hfd.mono ?_
        rintro y w8 ⟨rfl, hb8⟩
        have hb9 : Below w7.heap.size w7 (w8.alloc (boxU fu)) := hb8.alloc hb8.size _
        have hb19 := next hb17 hb17.size hb9
        have hu9 : UBlk (w8.alloc (boxU fu)) w8.heap.size fu := Blk.new w8 33 _
        have henv9 := henv7.below hb9
        have hin9 := Hin7.out.below hb9 (Nat.le_refl _)
        obtain ⟨_, d1, _⟩ := hu9.at
        rw [hfp] at d1
        obtain ⟨rb, hrb⟩ : ∃ rb, rightL cs = rb := ⟨_, rfl⟩
        have hri := right_at2 g7 n cap7 cs rb hrb _ hin9 hcap7 hcm7
        have hbox : boxU fu = .cells #[.string fu.name, .string pass, .int .i64 fu.id, .int .i64 fu.grp, .string fu.home, .string fu.shell] 33 := by unfold boxU; rw [hfp]
        rw [hbox] at hri hin9 hb19 henv9 d1
        have Hin9 := Lib.hid hin9
        clear hfd hb8 hb17 hb9 hu9 henv7 hin9 hbox
        cases rb
        · go_wp2_with fail
          refine hri.mono ?_
          rintro y w10 ⟨rfl, hb10⟩
          have hb110 := next hb19 hb19.size hb10
          clear hri hb10 hb19 d1
          go_wp2
          go_ret
          exact ⟨rfl, hb110⟩
        · obtain ⟨T, hT⟩ : ∃ T : ByteArray, T.data.toList = linesOf cs := ⟨⟨(linesOf cs).toArray⟩, rfl⟩
          have hTz : T.size ≤ 4096 := by
            have h8 := (rightL_parts hrb).1
            have := linesOf_len cs (rightL_parts hrb).2
            rw [← size_len, hT]; omega
          have Cp2 := Lib.hid (fun w1 h h' => print_at g7 n cap7 cs T (by rw [print_right hrb, hT]) w1 h h' hcap7 hcm7)
          have Ca2 := Lib.hid (fun w1 h => parse_at T (by unfold maxLen; omega) cs 0 0 (parse_print hrb T hT) w1 h)
          clear hT hTz
          go_wp2_with fail
          refine hri.mono ?_
          rintro y w10 ⟨rfl, hb10⟩
          have hb110 := next hb19 hb19.size hb10
          have henv10 := henv9.below hb10
          have hin10 := Hin9.out.below hb10 (Nat.le_refl _)
          have cp10 := Cp2.out w10 henv10 hin10
          have Hin10 := Lib.hid hin10
          clear hri hb10 hb19 d1 Hin9 henv9 hin10
          go_wp2_with fail
          refine cp10.mono ?_
          rintro y w11 ⟨rfl, hb11⟩
          have hb111 := next hb110 hb110.size hb11
          have henv11 := henv10.below hb11
          have hin11 := Hin10.out.below hb11 (Nat.le_refl _)
          have ca11 := Ca2.out w11 henv11
          have Hin11 := Lib.hid hin11
          clear cp10 hb11 hb110 Hin10 henv10 hin11
          go_wp2_with fail
          refine ca11.mono ?_
          rintro y w12 ⟨q12, cap12, rfl, hrow, hb12⟩
          have hb112 := next hb111 hb111.size hb12
          have hin12 := Hin11.out.below hb12 (Nat.le_refl _)
          obtain ⟨hin13, -, hcap13, hcm13⟩ := InUsers.of_row hrow Hokc.out
          rw [Hcl.out] at hin13
          have csb := same_at g7 q12 n cap7 cap12 cs w12 hin12 hin13 (by have := Hn8.out; unfold maxLen; omega)
          clear hrow ca11 hb12 hb111 hin12 hin13 hcap13 hcm13 henv11
          rw [Hcl.out]
          go_wp2_with fail
          refine csb.mono ?_
          rintro y w13 ⟨rfl, hb13⟩
          go_wp2
          go_ret
          exact ⟨rfl, next hb112 hb112.size hb13⟩
      · rw [if_neg hw0] at hx
        subst hx
        have hwr := Hwr.out
        go_wp2_with fail
        refine (Hch.out w6 (Hin.out.below hb16 (Nat.le_refl _))).mono ?_
        rintro y w7 ⟨v, rfl, hrow, hb7⟩
        replace hrow : w7.ownsRow w6.heap.size 33 6 v n (usCells cs) := hrow
        obtain ⟨g7, cap7, rfl⟩ : ∃ q c, v = .slice q n c := by
          rcases hrow.2 with ⟨_, h⟩ | ⟨g', c', _, h, _⟩
          · exact absurd h h0
          · exact ⟨_, _, h⟩
        have hrow' : w7.ownsRow w6.heap.size 33 6 (.slice g7 n cap7) cs.length (usCells cs) := by rw [Hcl.out]; exact hrow
        obtain ⟨hin7, -, hcap7, hcm7⟩ := InUsers.of_row hrow' Hokc.out
        rw [Hcl.out] at hin7 hcap7
        have henv7 := henv6.below hb7
        have hb17 := next hb16 hb16.size hb7
        have hc7 : w7.cell? ⟨g, off + k * 6, none⟩ = some (.string u.name) := (hb7.cell (p := ⟨g, _, none⟩) hglt).trans hc0
        have hg7 : g < w7.heap.size := Nat.lt_of_lt_of_le hglt hb7.size
        have hfd := find_any g7 n cap7 cs u.name w7 hin7 (by unfold maxLen; omega)
        rw [Hfound.out] at hfd
        unfold Usr.val at hfd
        have Hin7 := Lib.hid hin7
        clear hrow hrow' hin7 hb7 hb16 henv6 hc0
        go_wp2_with fail
        refine hfd.mono ?_
        rintro y w8 ⟨rfl, hb8⟩
        have hb9 : Below w7.heap.size w7 (w8.alloc (boxU fu)) := hb8.alloc hb8.size _
        have hb19 := next hb17 hb17.size hb9
        have hu9 : UBlk (w8.alloc (boxU fu)) w8.heap.size fu := Blk.new w8 33 _
        have henv9 := henv7.below hb9
        have hin9 := Hin7.out.below hb9 (Nat.le_refl _)
        obtain ⟨_, d1, _⟩ := hu9.at
        rw [hfp] at d1
        obtain ⟨rb, hrb⟩ : ∃ rb, rightL cs = rb := ⟨_, rfl⟩
        have hri := right_at2 g7 n cap7 cs rb hrb _ hin9 hcap7 hcm7
        have hbox : boxU fu = .cells #[.string fu.name, .string pass, .int .i64 fu.id, .int .i64 fu.grp, .string fu.home, .string fu.shell] 33 := by unfold boxU; rw [hfp]
        rw [hbox] at hri hin9 hb19 henv9 d1
        have Hin9 := Lib.hid hin9
        clear hfd hb8 hb17 hb9 hu9 henv7 hin9 hbox
        cases rb
        · go_wp2_with fail
          refine hri.mono ?_
          rintro y w10 ⟨rfl, hb10⟩
          have hb110 := next hb19 hb19.size hb10
          clear hri hb10 hb19 d1
          go_wp2
          go_ret
          exact ⟨rfl, hb110⟩
        · obtain ⟨T, hT⟩ : ∃ T : ByteArray, T.data.toList = linesOf cs := ⟨⟨(linesOf cs).toArray⟩, rfl⟩
          have hTz : T.size ≤ 4096 := by
            have h8 := (rightL_parts hrb).1
            have := linesOf_len cs (rightL_parts hrb).2
            rw [← size_len, hT]; omega
          have Cp2 := Lib.hid (fun w1 h h' => print_at g7 n cap7 cs T (by rw [print_right hrb, hT]) w1 h h' hcap7 hcm7)
          have Ca2 := Lib.hid (fun w1 h => parse_at T (by unfold maxLen; omega) cs 0 0 (parse_print hrb T hT) w1 h)
          clear hT hTz
          go_wp2_with fail
          refine hri.mono ?_
          rintro y w10 ⟨rfl, hb10⟩
          have hb110 := next hb19 hb19.size hb10
          have henv10 := henv9.below hb10
          have hin10 := Hin9.out.below hb10 (Nat.le_refl _)
          have cp10 := Cp2.out w10 henv10 hin10
          have Hin10 := Lib.hid hin10
          clear hri hb10 hb19 d1 Hin9 henv9 hin10
          go_wp2_with fail
          refine cp10.mono ?_
          rintro y w11 ⟨rfl, hb11⟩
          have hb111 := next hb110 hb110.size hb11
          have henv11 := henv10.below hb11
          have hin11 := Hin10.out.below hb11 (Nat.le_refl _)
          have ca11 := Ca2.out w11 henv11
          have Hin11 := Lib.hid hin11
          clear cp10 hb11 hb110 Hin10 henv10 hin11
          go_wp2_with fail
          refine ca11.mono ?_
          rintro y w12 ⟨q12, cap12, rfl, hrow, hb12⟩
          have hb112 := next hb111 hb111.size hb12
          have hin12 := Hin11.out.below hb12 (Nat.le_refl _)
          obtain ⟨hin13, -, hcap13, hcm13⟩ := InUsers.of_row hrow Hokc.out
          rw [Hcl.out] at hin13
          have csb := same_at g7 q12 n cap7 cap12 cs w12 hin12 hin13 (by have := Hn8.out; unfold maxLen; omega)
          clear hrow ca11 hb12 hb111 hin12 hin13 hcap13 hcm13 henv11
          rw [Hcl.out]
          go_wp2_with fail
          refine csb.mono ?_
          rintro y w13 ⟨rfl, hb13⟩
          go_wp2
          go_ret
          exact ⟨rfl, next hb112 hb112.size hb13⟩
end Go.Proofs.YtjopmchbphjliaaDoor
