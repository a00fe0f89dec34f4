/- The document's user: the loop over a line's bytes, the user made of six parts. -/
import Derived.Test.YtjopmchbphjliaaGreatDoorRK
import Derived.BigRegion
import Derived.Deep.RegionHeld3
import Derived.Laws.AppendOwn
import Derived.WalkSmall
namespace Go.Proofs.YtjopmchbphjliaaGreatDoor
open Go.RowKit Go.Shelf
set_option linter.unusedVariables false

theorem own_some {w : World} {base : Nat} {p : Option Addr} {n cap : Nat} {xs : List Value} (h : w.ownsRow base 9 1 (.slice p n cap) n xs) (hn : 0 < n) : ∃ g, p = some ⟨g, 0, none⟩ ∧ base ≤ g := by
  rcases h.2 with ⟨_, h0⟩ | ⟨g, c, _, hv, hg, _⟩
  · omega
  · exact ⟨g, (Value.slice.inj hv).1, hg⟩
theorem bl_str (x : List UInt8) : strV x = .string ⟨x.toArray⟩ := rfl
/-- what the six parts make. -/
theorem ruser_tail (s a b c d e f : ByteArray) (hs : s.size ≤ 4096) (i j : Int) (hi : -1 ≤ i ∧ i ≤ 99999) (hj : -1 ≤ j ∧ j ≤ 99999) (ha : a.size ≤ 4096) (hb : b.size ≤ 4096) (he : e.size ≤ 4096) (hf : f.size ≤ 4096) : OkU ⟨a, b, i, j, e, f⟩ := by
  unfold OkU maxLen
  simp only
  omega
set_option maxRecDepth 100000 in
set_option maxHeartbeats 6400000 in
theorem ruser_any (s : ByteArray) (hs : s.size ≤ 4096) (w : World) :
    Calls Tryz.prog 20 #[.string s] w fun e w' => e = .returned (optV (userS (lnB s.data.toList))) ∧ Below w.heap.size w w' := by
  obtain ⟨i0, hi, hz0, hz1, hz2⟩ := info_parts Tryz.infoString
  have hb1 : Below w.heap.size w (w.alloc zeroU) := (Below.refl _ w).alloc (Nat.le_refl _) _
  have hu1 : UBlk (w.alloc zeroU) w.heap.size noUsr := Blk.new w 29 _
  unfold zeroU at hb1 hu1
  have hlB : w.heap.size < (w.alloc (.cells #[.string ⟨#[]⟩, .string ⟨#[]⟩, .int .i64 0, .int .i64 0, .string ⟨#[]⟩, .string ⟨#[]⟩] 29)).heap.size := by simp
  go_enter Tryz.func20, Tryz.ntmps20
  go_wp2
  generalize w.alloc (.cells #[.string ⟨#[]⟩, .string ⟨#[]⟩, .int .i64 0, .int .i64 0, .string ⟨#[]⟩, .string ⟨#[]⟩] 29) = w1 at hb1 hu1 hlB ⊢
  obtain ⟨B, hB⟩ : ∃ B, w1.heap.size = B := ⟨_, rfl⟩
  rw [hB] at hlB
  have HB := Lib.hid hB
  have Hb1 := Lib.hid hb1
  have Hu1 := Lib.hid hu1
  have HlB := Lib.hid hlB
  clear hB hb1 hu1 hlB
  go_loopw [4, 5, 6] (fun ov fv iv wr => cuRel s B w1 ov fv iv wr) (fun _ _ iv _ => s.size + 1 - (intOf iv).toNat)
  case atStart => exact ⟨0, 0, [], Nat.le_refl _, Nat.zero_le _, rfl, rfl, Nat.le_refl _, col_start _, World.ownsRow_nil _ _ _ _, by rw [← HB.out]; exact Below.refl _ _⟩
  case round =>
    obtain ⟨f, i, out, hf, hi1, rfl, rfl, hol, hp, hown, hbel⟩ := hrel
    have hsz := hbel.size
    rw [HB.out] at hsz
    by_cases hlt : i < s.size
    · have hne : (((i : Int) == (s.size : Int)) : Bool) = false := by rw [beq_eq_false_iff_ne]; omega
      by_cases hc : s[i] = 58
      · have h58 : (((s[i].toNat : Int) == 58) : Bool) = true := u8_true _ 58 hc
        have Hs := Lib.hid (col_sep (by rw [get_at s i hlt, hc]) hp)
        clear hp hc
        go_wp2_with (at_builtin; refine wpList_append_own _ rfl _ _ 61 rfl B 9 i0 (.string ByteArray.empty) 1 16 Tryz.underlying61 hi hz0 hz1 hz2 rfl (by decide) _ _ _ rfl (hown.alloc _) ⟨wr.heap.size, 0, none⟩ 1 1 [.string (s.extract f i)] rfl rfl (News.one wr _) (by simp [Value.oneCell']) (by unfold maxLen; omega) (by omega) (by simp; omega) ?_; intro v' w3 hown' hgrow _; have R := cu_step HB.out hf (by omega) hol Hs.out rfl hown hbel ((Below.refl _ _).alloc (Nat.le_refl _) _) hown' hgrow; clear hown' hgrow)
        go_roundw
        case rel => exact R
        case measure => simp [intOf]; omega
      · have h58 : (((s[i].toNat : Int) == 58) : Bool) = false := u8_false _ 58 hc
        have Hs := Lib.hid (col_next hf (get_at s i hlt) hc hp)
        clear hp hc
        go_wp2
        go_roundw
        case rel => exact ⟨f, i + 1, out, by omega, by omega, rfl, by go_num, by omega, Hs.out, hown, hbel⟩
        case measure => simp [intOf]; omega
    · by_cases hle : i ≤ s.size
      · have his : i = s.size := by omega
        subst his
        have Hs := Lib.hid (col_end (by rw [size_len]; exact hp))
        rw [size_len] at Hs
        clear hp
        go_wp2_with (at_builtin; refine wpList_append_own _ rfl _ _ 61 rfl B 9 i0 (.string ByteArray.empty) 1 16 Tryz.underlying61 hi hz0 hz1 hz2 rfl (by decide) _ _ _ rfl (hown.alloc _) ⟨wr.heap.size, 0, none⟩ 1 1 [.string (s.extract f s.size)] rfl rfl (News.one wr _) (by simp [Value.oneCell']) (by unfold maxLen; omega) (by omega) (by simp; omega) ?_; intro v' w3 hown' hgrow _; have R := cu_step HB.out hf (Nat.le_refl _) hol Hs.out rfl hown hbel ((Below.refl _ _).alloc (Nat.le_refl _) _) hown' hgrow; clear hown' hgrow)
        go_roundw
        case rel => exact R
        case measure => simp [intOf]
      · have hd := col_done (by rw [size_len]; omega) hp
        have hbw : Below w.heap.size w wr := Hb1.out.trans (hbel.mono (Nat.le_of_lt HlB.out))
        have hur : UBlk wr w.heap.size noUsr := Blk.below Hu1.out hbel HlB.out
        obtain ⟨p, cap, rfl⟩ := row_slice hown
        obtain ⟨f0, f1, f2, f3, f4, f5⟩ := hur.froz
        obtain ⟨c0, c1, c2, c3, c4, c5⟩ := hur.at
        obtain ⟨m, hm⟩ : ∃ m, out.length = m := ⟨_, rfl⟩
        rw [hm] at hown ⊢
        by_cases h6 : m = 6
        · subst h6
          obtain ⟨a', b', c', d', e', f', rfl⟩ := six_lists out hm
          have hln : ∀ x ∈ [a', b', c', d', e', f'], x.length ≤ 4096 := fun x hx => by
            rw [← hd] at hx
            have := spt_mem _ x hx; rw [size_len] at this; omega
          have hr := ruser_six hd
          obtain ⟨g, rfl, hg⟩ := own_some hown (by decide)
          have q0 : wr.cell? ⟨g, 0, none⟩ = some (.string ⟨a'.toArray⟩) := (hown.cellAt 0 (by decide)).trans rfl
          have q1 : wr.cell? ⟨g, 1, none⟩ = some (.string ⟨b'.toArray⟩) := (hown.cellAt 1 (by decide)).trans rfl
          have q2 : wr.cell? ⟨g, 2, none⟩ = some (.string ⟨c'.toArray⟩) := (hown.cellAt 2 (by decide)).trans rfl
          have q3 : wr.cell? ⟨g, 3, none⟩ = some (.string ⟨d'.toArray⟩) := (hown.cellAt 3 (by decide)).trans rfl
          have q4 : wr.cell? ⟨g, 4, none⟩ = some (.string ⟨e'.toArray⟩) := (hown.cellAt 4 (by decide)).trans rfl
          have q5 : wr.cell? ⟨g, 5, none⟩ = some (.string ⟨f'.toArray⟩) := (hown.cellAt 5 (by decide)).trans rfl
          unfold usrP at hr
          have za : (⟨a'.toArray⟩ : ByteArray).size ≤ 4096 := hln a' (by simp)
          have zb : (⟨b'.toArray⟩ : ByteArray).size ≤ 4096 := hln b' (by simp)
          have zc : (⟨c'.toArray⟩ : ByteArray).size ≤ 4096 := hln c' (by simp)
          have zd : (⟨d'.toArray⟩ : ByteArray).size ≤ 4096 := hln d' (by simp)
          have ze : (⟨e'.toArray⟩ : ByteArray).size ≤ 4096 := hln e' (by simp)
          have zf : (⟨f'.toArray⟩ : ByteArray).size ≤ 4096 := hln f' (by simp)
          have n1 := rnum_at ⟨c'.toArray⟩ (by unfold maxLen; omega) (numI c') rfl
          have n2 := rnum_at ⟨d'.toArray⟩ (by unfold maxLen; omega) (numI d') rfl
          have hri := numI_range c'
          have hrj := numI_range d'
          have hbw2 : Below w.heap.size w wr.drew := hbw.drew
          have hur2 : UBlk wr.drew w.heap.size noUsr := hur
          have hgl : g < wr.heap.size := cell_lt q0
          clear hd hp hown hm hol hln hbel f0 f1 f2 f3 f4 f5 c0 c1 c2 c3 c4 c5 hi hz0 hz1 hz2
          generalize (⟨a'.toArray⟩ : ByteArray) = a at *
          generalize (⟨b'.toArray⟩ : ByteArray) = b at *
          generalize (⟨c'.toArray⟩ : ByteArray) = c at *
          generalize (⟨d'.toArray⟩ : ByteArray) = d at *
          generalize (⟨e'.toArray⟩ : ByteArray) = e at *
          generalize (⟨f'.toArray⟩ : ByteArray) = f2 at *
          generalize numI c' = ii at *
          generalize numI d' = jj at *
          have hok := ruser_tail s a b c d e f2 hs ii jj hri hrj za zb ze zf
          have Hr := Lib.hid hr
          have N1 := Lib.hid n1
          have N2 := Lib.hid n2
          have Hri := Lib.hid hri
          have Hrj := Lib.hid hrj
          clear hr n1 n2 hri hrj
          go_wp2_with fail
          go_region_held3 (fun w' => w'.cell? ⟨g, 0, none⟩ = some (.string a) ∧ w'.cell? ⟨g, 1, none⟩ = some (.string b) ∧ w'.cell? ⟨g, 2, none⟩ = some (.string c) ∧ w'.cell? ⟨g, 3, none⟩ = some (.string d) ∧ w'.cell? ⟨g, 4, none⟩ = some (.string e) ∧ w'.cell? ⟨g, 5, none⟩ = some (.string f2))
            (first
              | go_keep)
            (first
              | (go_at_call 35; (with_reducible refine (N1.out _).mono ?_); rintro e w' ⟨rfl, rfl⟩)
              | (go_at_call 35; (with_reducible refine (N2.out _).mono ?_); rintro e w' ⟨rfl, rfl⟩))
          all_goals
            have hb5 : Below w.heap.size w (wr.alloc (boxU ⟨a, b, ii, jj, e, f2⟩)).drew := (hbw.alloc hbw.size _).drew
            have hv5 : UBlk (wr.alloc (boxU ⟨a, b, ii, jj, e, f2⟩)).drew wr.heap.size ⟨a, b, ii, jj, e, f2⟩ := Blk.new wr 29 _
            have hu5 : UBlk (wr.alloc (boxU ⟨a, b, ii, jj, e, f2⟩)).drew w.heap.size noUsr := Blk.alloc hur _
            clear hbw hur hbw2 hur2 q0 q1 q2 q3 q4 q5 hgl hg
            unfold boxU at hb5 hv5 hu5
            simp only at hb5 hv5 hu5
            generalize wr.heap.size = V at *
            generalize (wr.alloc (Obj.cells #[.string a, .string b, .int .i64 ii, .int .i64 jj, .string e, .string f2] 29)).drew = w4 at *
            obtain ⟨c0, c1, c2, c3, c4, c5⟩ := hv5.at
            have hcall := rmay_any ⟨a, b, ii, jj, e, f2⟩ hok (by show e.size ≤ 1048576; omega) (by show f2.size ≤ 1048576; omega) w4
            unfold Usr.val at hcall
            simp only at hcall c0 c1 c2 c3 c4 c5
            cases hrb : rightU ⟨a, b, ii, jj, e, f2⟩
            · rw [hrb] at hcall
              have Hz := Lib.hid (show userS (lnB s.data.toList) = none by rw [Hr.out, hrb]; rfl)
              clear hrb
              go_wp2_with fail
              refine hcall.mono ?_
              rintro e2 w5 ⟨rfl, hbz⟩
              have hb6 : Below w.heap.size w w5 := next hb5 hb5.size hbz
              have hu6 : UBlk w5 w.heap.size noUsr := Blk.below hu5 hbz hu5.at.lt
              clear hb5 hu5 hv5 hbz c0 c1 c2 c3 c4 c5 hcall
              obtain ⟨f0, f1, f2, f3, f4, f5⟩ := hu6.froz
              obtain ⟨c0, c1, c2, c3, c4, c5⟩ := hu6.at
              go_wp2
              exact ruser_zero Hz.out hu6 hb6 (Nat.le_refl _) _ rfl rfl
            · have hline := rline_any ⟨a, b, ii, jj, e, f2⟩ hrb
              unfold Usr.val at hline
              simp only at hline
              rw [hrb] at hcall
              obtain ⟨tl, htl⟩ : ∃ tl : ByteArray, coreB ⟨a, b, ii, jj, e, f2⟩ = tl := ⟨_, rfl⟩
              have htld : tl.toList = coreS ⟨a, b, ii, jj, e, f2⟩ := by rw [← htl]; exact toL _
              rw [htl] at hline
              have Hz := Lib.hid (show userS (lnB s.data.toList) = if (tl.toList == s.toList) = true then some ⟨a, b, ii, jj, e, f2⟩ else none by rw [Hr.out, hrb, htld, ByteArray.toList_eq s]; rfl)
              have Hline := Lib.hid hline
              clear hrb htl htld hline
              go_wp2_with fail
              refine hcall.mono ?_
              rintro e2 w5 ⟨rfl, hbz⟩
              have hb6 : Below w.heap.size w w5 := next hb5 hb5.size hbz
              have hu6 : UBlk w5 w.heap.size noUsr := Blk.below hu5 hbz hu5.at.lt
              have hv6 : UBlk w5 V ⟨a, b, ii, jj, e, f2⟩ := Blk.below hv5 hbz hv5.at.lt
              clear hb5 hu5 hv5 hbz c0 c1 c2 c3 c4 c5 hcall
              obtain ⟨c0, c1, c2, c3, c4, c5⟩ := hv6.at
              simp only at c0 c1 c2 c3 c4 c5
              go_wp2_with fail
              refine (Hline.out _).mono ?_
              rintro e3 w6 ⟨rfl, hbz⟩
              have hb7 : Below w.heap.size w w6 := next hb6 hb6.size hbz
              have hu7 : UBlk w6 w.heap.size noUsr := Blk.below hu6 hbz hu6.at.lt
              have hv7 : UBlk w6 V ⟨a, b, ii, jj, e, f2⟩ := Blk.below hv6 hbz hv6.at.lt
              clear hb6 hu6 hv6 hbz c0 c1 c2 c3 c4 c5
              obtain ⟨g0, g1, g2, g3, g4, g5⟩ := hu7.froz
              obtain ⟨c0, c1, c2, c3, c4, c5⟩ := hu7.at
              cases heq : tl.toList == s.toList
              · have Hz2 := Lib.hid (show userS (lnB s.data.toList) = none by rw [Hz.out, heq]; rfl)
                have hne : (tl.toList != s.toList) = true := by unfold bne; rw [heq]; rfl
                go_wp2
                exact ruser_zero Hz2.out hu7 hb7 (Nat.le_refl _) _ rfl rfl
              · have Hz2 := Lib.hid (show userS (lnB s.data.toList) = some ⟨a, b, ii, jj, e, f2⟩ by rw [Hz.out, heq]; rfl)
                have hne : (tl.toList != s.toList) = false := by unfold bne; rw [heq]; rfl
                obtain ⟨d0, d1, d2, d3, d4, d5⟩ := hv7.at
                simp only at d0 d1 d2 d3 d4 d5
                go_wp2
                have hu8 : UBlk (st6 w6 w.heap.size (.string a) (.string b) (.int .i64 ii) (.int .i64 jj) (.string e) (.string f2)) w.heap.size ⟨a, b, ii, jj, e, f2⟩ := st6_blk hu7 _ _ _ _ _ _
                have hb8 := hb7.trans (st6_below w6 (Nat.le_refl _) (.string a) (.string b) (.int .i64 ii) (.int .i64 jj) (.string e) (.string f2))
                exact bodyPost_ret (ruser_res _ _ ⟨a, b, ii, jj, e, f2⟩ true hu8 _ rfl rfl) rfl ⟨by rw [Hz2.out]; rfl, hb8⟩
        · have hne : (((m : Int) != 6) : Bool) = true := by rw [bne_iff_ne]; omega
          have Hr := Lib.hid (ruser_len (l := s.data.toList) (by rw [hd, hm]; exact h6))
          clear hd hp hown h6 hm
          go_wp2
          exact ruser_zero Hr.out hur hbw (Nat.le_refl _) _ rfl rfl
end Go.Proofs.YtjopmchbphjliaaGreatDoor
