/- Walk of the law PwfileFinds. -/
import Derived.Test.YtjopmchbphjliaaGreatDoorZ0
namespace Go.Proofs.YtjopmchbphjliaaGreatDoor
open Go.RowKit Go.Shelf

set_option maxRecDepth 100000 in
set_option maxHeartbeats 12800000 in
theorem finds_some (pa : Addr) (n cap : Nat) (us : List Usr) (s : ByteArray) (i : Int) (t : ByteArray) (ht0 : t.size ≤ 140737488351232) (w : World) (henv : Env w) (hin : InUsers w (some pa) n us) (hn : n ≤ cap) (hm : cap ≤ maxLen) :
    Calls Tryz.prog 5 #[.slice (some pa) n cap, .string s, .int .i64 i, .string t] w fun e w' => e = .returned (.bool true) ∧ Below w.heap.size w w' := by
  have ht := small_max t ht0
  clear ht0
  unfold maxLen at hm
  have csh := shown_any w henv
  clear henv
  by_cases h1000 : 1000 < n
  · have hinv : InUsers w (some pa) 1000 (us.take 1000) := hin.take 1000 (by omega)
    obtain ⟨vs, hvs⟩ : ∃ vs, us.take 1000 = vs := ⟨_, rfl⟩
    rw [hvs] at hinv
    clear hvs hin
    obtain ⟨i0, hi, hz0, hz1, hz2⟩ := info_parts Tryz.infoUser
    have hlenv := hinv.1
    have Hinv := Lib.hid hinv
    have Hlv := Lib.hid hlenv
    clear hinv hlenv
    go_enter Tryz.func5, Tryz.ntmps5
    go_wp2_with fail
    refine csh.mono ?_
    rintro x w1 ⟨rfl, hb1⟩
    clear csh
    have hin1 := Hinv.out.below hb1 (Nat.le_refl _)
    have Hc := Lib.hid (cells_addr hin1)
    clear hin1
    go_wp2_with (at_builtin; refine wpList_append_own _ rfl _ _ 23 rfl w1.heap.size 29 i0 (.agg #[.string ByteArray.empty, .string ByteArray.empty, .int .i64 0, .int .i64 0, .string ByteArray.empty, .string ByteArray.empty]) 6 80 Tryz.underlying23 hi hz0 hz1 hz2 rfl (by decide) _ _ _ rfl (World.ownsRow_made w1 #[] 0 (Nat.le_refl _) (Nat.zero_le _) (by simp)) pa 1000 cap (usCells vs) rfl ?qc1 ?qc2 ?qc3 ?qc4 ?qc5 ?qc6 ?_)
    case qc1 => rw [usCells_len, Hlv.out]
    case qc2 => exact fun j u hj => Lib.cell?_alloc_some _ (Hc.out j u hj)
    case qc3 => exact usCells_one vs
    case qc4 => rw [Nat.zero_add]; unfold maxLen; omega
    case qc5 => rw [Nat.zero_add]; omega
    case qc6 => simp
    intro v' w2 hown' hgrow _
    have hown2 : w2.ownsRow w1.heap.size 29 6 v' 1000 (usCells vs) := by simpa using hown'
    have hbel : Below w1.heap.size w1 w2 := ((Below.refl _ w1).alloc (Nat.le_refl _) _).grown hgrow (by simp) (by intro k hk; simp [Value.ownBlock] at hk; omega)
    have hb02 := next hb1 hb1.size hbel
    clear hown' hgrow hi hz0 hz1 hz2 Hc hb1 hbel
    obtain ⟨q, c, rfl⟩ : ∃ q c, v' = .slice q 1000 c := by
      rcases hown2.2 with ⟨h, h0⟩ | ⟨g', c', _, h, _⟩
      · exact ⟨none, 0, by rw [h, h0]⟩
      · exact ⟨_, _, h⟩
    have hown3 : w2.ownsRow w1.heap.size 29 6 (.slice q 1000 c) vs.length (usCells vs) := by rw [Hlv.out]; exact hown2
    obtain ⟨hown, -, _, _⟩ := InUsers.of_row hown3 (users_ok Hinv.out)
    rw [Hlv.out] at hown
    have hinv := Hinv.out
    clear hown2 hown3 Hlv Hinv
    obtain ⟨p, hp⟩ : ∃ p, some pa = p := ⟨_, rfl⟩
    rw [hp] at hinv
    go_wp2_with fail
    rw [hp]
    have hM : 1000 ≤ 1000 := by omega
    have cf := fun w1 h => find_any q 1000 c vs s w1 h (by unfold maxLen; omega)
    have rf := fun w1 h => rfind_any p 1000 cap vs s w1 h (by unfold maxLen; omega)
    have co := fun w1 h => of_any q 1000 c vs i w1 h (by unfold maxLen; omega)
    have ro := fun w1 h => rof_any p 1000 cap vs i w1 h (by unfold maxLen; omega)
    have ch := fun w1 h => change_any q 1000 c vs s t w1 h hM
    have rc := fun w1 h => rchange_any p 1000 cap vs s t w1 h hM
    have hlen := hinv.1
    have hcs := cs_ok (qName s) t vs ht (users_ok hinv)
    generalize hcsd : (if vs.any (qName s) = true then chU (qName s) t vs else []) = cs at hcs
    obtain ⟨u, hu⟩ : ∃ u, findU (qName s) vs = u := ⟨_, rfl⟩
    obtain ⟨v, hv⟩ : ∃ v, findU (qId i) vs = v := ⟨_, rfl⟩
    obtain ⟨a, ha⟩ : ∃ a, vs.any (qName s) = a := ⟨_, rfl⟩
    obtain ⟨b, hb⟩ : ∃ b, vs.any (qId i) = b := ⟨_, rfl⟩
    unfold foundV at cf rf co ro
    rw [hu, ha] at cf rf
    rw [hv, hb] at co ro
    rw [ha] at ch rc hcsd
    unfold Usr.val at cf rf co ro
    have Cf := Lib.hid cf
    have Rf := Lib.hid rf
    have Co := Lib.hid co
    have Ro := Lib.hid ro
    have Ch := Lib.hid ch
    have Rc := Lib.hid rc
    have Hcs := Lib.hid hcs
    have Hcsd := Lib.hid hcsd
    have Hlen := Lib.hid hlen
    have Hin := Lib.hid hinv
    have Hown := Lib.hid hown
    have HM := Lib.hid hM
    clear hu hv ha hb cf rf co ro ch rc hcs hcsd hinv hown hlen hM
    have hb2 : Below w2.heap.size w2 w2 := Below.refl _ _
    have hbw := hb02
    clear hb02
    refine (Cf.out w2 (Hown.out.below hb2 (Nat.le_refl _))).mono ?_
    rintro x y3 ⟨rfl, hz⟩
    have hbwY := next hbw hbw.size hz
    have hb2Y := next hb2 hb2.size hz
    have hbwZ : Below w.heap.size w (y3.alloc (boxU u)) := hbwY.alloc hbwY.size _
    have hb2Z : Below w2.heap.size w2 (y3.alloc (boxU u)) := hb2Y.alloc hb2Y.size _
    have hu3Z : UBlk (y3.alloc (boxU u)) y3.heap.size u := Blk.new y3 29 _
    clear hbw hb2 hbwY hb2Y hz 
    unfold boxU at hbwZ hb2Z hu3Z
    go_wp2_with fail
    generalize y3.alloc (.cells #[.string u.name, .string u.pass, .int .i64 u.id, .int .i64 u.grp, .string u.home, .string u.shell] 29) = x3 at hbwZ hb2Z hu3Z ⊢
    generalize y3.heap.size = b3 at hu3Z ⊢
    have hbw := hbwZ
    have hb2 := hb2Z
    have hu3 := hu3Z
    clear hbwZ hb2Z hu3Z
    refine (Rf.out x3 (Hin.out.below hbw (Nat.le_refl _))).mono ?_
    rintro x y4 ⟨rfl, hz⟩
    have hbwY := next hbw hbw.size hz
    have hb2Y := next hb2 hb2.size hz
    have hu3Y : UBlk y4 b3 u := Blk.below hu3 hz hu3.at.lt
    have hbwZ : Below w.heap.size w (y4.alloc (boxU u)) := hbwY.alloc hbwY.size _
    have hb2Z : Below w2.heap.size w2 (y4.alloc (boxU u)) := hb2Y.alloc hb2Y.size _
    have hu3Z : UBlk (y4.alloc (boxU u)) b3 u := Blk.alloc hu3Y _
    have hu4Z : UBlk (y4.alloc (boxU u)) y4.heap.size u := Blk.new y4 29 _
    clear hbw hb2 hbwY hb2Y hz hu3 hu3Y
    unfold boxU at hbwZ hb2Z hu3Z hu4Z
    go_wp2_with fail
    generalize y4.alloc (.cells #[.string u.name, .string u.pass, .int .i64 u.id, .int .i64 u.grp, .string u.home, .string u.shell] 29) = x4 at hbwZ hb2Z hu3Z hu4Z ⊢
    generalize y4.heap.size = b4 at hu4Z ⊢
    have hbw := hbwZ
    have hb2 := hb2Z
    have hu3 := hu3Z
    have hu4 := hu4Z
    clear hbwZ hb2Z hu3Z hu4Z
    refine (Co.out x4 (Hown.out.below hb2 (Nat.le_refl _))).mono ?_
    rintro x y5 ⟨rfl, hz⟩
    have hbwY := next hbw hbw.size hz
    have hb2Y := next hb2 hb2.size hz
    have hu3Y : UBlk y5 b3 u := Blk.below hu3 hz hu3.at.lt
    have hu4Y : UBlk y5 b4 u := Blk.below hu4 hz hu4.at.lt
    have hbwZ : Below w.heap.size w (y5.alloc (boxU v)) := hbwY.alloc hbwY.size _
    have hb2Z : Below w2.heap.size w2 (y5.alloc (boxU v)) := hb2Y.alloc hb2Y.size _
    have hu3Z : UBlk (y5.alloc (boxU v)) b3 u := Blk.alloc hu3Y _
    have hu4Z : UBlk (y5.alloc (boxU v)) b4 u := Blk.alloc hu4Y _
    have hu5Z : UBlk (y5.alloc (boxU v)) y5.heap.size v := Blk.new y5 29 _
    clear hbw hb2 hbwY hb2Y hz hu3 hu4 hu3Y hu4Y
    unfold boxU at hbwZ hb2Z hu3Z hu4Z hu5Z
    go_wp2_with fail
    generalize y5.alloc (.cells #[.string v.name, .string v.pass, .int .i64 v.id, .int .i64 v.grp, .string v.home, .string v.shell] 29) = x5 at hbwZ hb2Z hu3Z hu4Z hu5Z ⊢
    generalize y5.heap.size = b5 at hu5Z ⊢
    have hbw := hbwZ
    have hb2 := hb2Z
    have hu3 := hu3Z
    have hu4 := hu4Z
    have hu5 := hu5Z
    clear hbwZ hb2Z hu3Z hu4Z hu5Z
    refine (Ro.out x5 (Hin.out.below hbw (Nat.le_refl _))).mono ?_
    rintro x y6 ⟨rfl, hz⟩
    have hbwY := next hbw hbw.size hz
    have hb2Y := next hb2 hb2.size hz
    have hu3Y : UBlk y6 b3 u := Blk.below hu3 hz hu3.at.lt
    have hu4Y : UBlk y6 b4 u := Blk.below hu4 hz hu4.at.lt
    have hu5Y : UBlk y6 b5 v := Blk.below hu5 hz hu5.at.lt
    have hbwZ : Below w.heap.size w (y6.alloc (boxU v)) := hbwY.alloc hbwY.size _
    have hb2Z : Below w2.heap.size w2 (y6.alloc (boxU v)) := hb2Y.alloc hb2Y.size _
    have hu3Z : UBlk (y6.alloc (boxU v)) b3 u := Blk.alloc hu3Y _
    have hu4Z : UBlk (y6.alloc (boxU v)) b4 u := Blk.alloc hu4Y _
    have hu5Z : UBlk (y6.alloc (boxU v)) b5 v := Blk.alloc hu5Y _
    have hu6Z : UBlk (y6.alloc (boxU v)) y6.heap.size v := Blk.new y6 29 _
    clear hbw hb2 hbwY hb2Y hz hu3 hu4 hu5 hu3Y hu4Y hu5Y
    unfold boxU at hbwZ hb2Z hu3Z hu4Z hu5Z hu6Z
    go_wp2_with fail
    generalize y6.alloc (.cells #[.string v.name, .string v.pass, .int .i64 v.id, .int .i64 v.grp, .string v.home, .string v.shell] 29) = x6 at hbwZ hb2Z hu3Z hu4Z hu5Z hu6Z ⊢
    generalize y6.heap.size = b6 at hu6Z ⊢
    have hbw := hbwZ
    have hb2 := hb2Z
    have hu3 := hu3Z
    have hu4 := hu4Z
    have hu5 := hu5Z
    have hu6 := hu6Z
    clear hbwZ hb2Z hu3Z hu4Z hu5Z hu6Z
    have hin6 := Hin.out.below hbw (Nat.le_refl _)
    have hown6 := Hown.out.below hb2 (Nat.le_refl _)
    have Hin6 := Lib.hid hin6
    have Hown6 := Lib.hid hown6
    have Hu3 := Lib.hid hu3
    have Hu4 := Lib.hid hu4
    have Hu5 := Lib.hid hu5
    have Hu6 := Lib.hid hu6
    clear hin6 hown6 hu3 hu4 hu5 hu6 Hin Hown hb2 Cf Rf Co Ro
    refine (Ch.out x6 Hown6.out).mono ?_
    rintro x w7 ⟨v7, rfl, hr7, hz7⟩
    obtain ⟨q7, m7, c7, rfl, hm7, hrow7⟩ := change_out hr7 ((chU_len _ _ _).trans Hlen.out) Hcsd.out
    have hin8 := Hin6.out.below hz7 (Nat.le_refl _)
    clear hr7
    go_wp2_with fail
    refine (Rc.out w7 hin8).mono ?_
    rintro x w8 ⟨v8, rfl, hr8, hz8⟩
    obtain ⟨q8, m8, c8, rfl, hm8, hrow8⟩ := change_out hr8 ((chU_len _ _ _).trans Hlen.out) Hcsd.out
    subst hm7 hm8
    have hz68 := next hz7 hz7.size hz8
    have hrow7b := row_below hrow7 hz8
    obtain ⟨hin7, -, hc7a, hc7b⟩ := InUsers.of_row hrow7b Hcs.out
    obtain ⟨hin8b, -, hc8a, hc8b⟩ := InUsers.of_row hrow8 Hcs.out
    have csm := same_at q7 q8 cs.length c7 c8 cs w8 hin7 hin8b (by omega)
    clear hr8 hrow7 hrow8 hin7 hin8b hc8a hc8b hin8 hz7 hz8 Rc Ch
    go_wp2_with fail
    refine csm.mono ?_
    rintro x w9 ⟨rfl, hz9⟩
    have hrow9 := row_below hrow7b hz9
    have hz69 := next hz68 hz68.size hz9
    have Hrow9 := Lib.hid hrow9
    have Hz69 := Lib.hid hz69
    have Hbw := Lib.hid hbw
    clear csm hrow7b hz9 hz68 hrow9 hz69 hbw Hcs Hcsd
    unfold maxLen at hc7b
    go_wp2_with fail
    generalize hC : cs.length = C at Hrow9 hc7a ⊢
    clear hC
    go_loopw [24] (fun i wr => loRel x6.heap.size x6 q7 C c7 i wr) (fun i _ => C - (intOf i).toNat)
    case atStart => exact ⟨0, Nat.zero_le _, rfl, Hz69.out, _, Hrow9.out⟩
    case round =>
      obtain ⟨k, hk, rfl, hX, xs, hrow⟩ := hrel
      have HX := Lib.hid hX
      clear hX
      by_cases hlt : k < C
      · obtain ⟨g, rfl, hg⟩ : ∃ g, q7 = some ⟨g, 0, none⟩ ∧ x6.heap.size ≤ g := by
          rcases hrow.2 with ⟨_, h0⟩ | ⟨g, _, _, h, hg, _⟩
          · omega
          · cases h; exact ⟨g, rfl, hg⟩
        obtain ⟨v0, c0⟩ := row_some hrow (k * 6) (by omega)
        obtain ⟨v1, c1⟩ := row_some hrow (k * 6 + 1) (by omega)
        obtain ⟨v2, c2⟩ := row_some hrow (k * 6 + 2) (by omega)
        obtain ⟨v3, c3⟩ := row_some hrow (k * 6 + 3) (by omega)
        obtain ⟨v4, c4⟩ := row_some hrow (k * 6 + 4) (by omega)
        obtain ⟨v5, c5⟩ := row_some hrow (k * 6 + 5) (by omega)
        have f0 := hrow.frozenAt (k * 6)
        have f1 := hrow.frozenAt (k * 6 + 1)
        have f2 := hrow.frozenAt (k * 6 + 2)
        have f3 := hrow.frozenAt (k * 6 + 3)
        have f4 := hrow.frozenAt (k * 6 + 4)
        have f5 := hrow.frozenAt (k * 6 + 5)
        have hrow2 := wipe_row hrow (k * 6) (.string ⟨#[63]⟩) (.string ⟨#[]⟩) (.int .i64 0) (.int .i64 0) (.string ⟨#[]⟩) (.string ⟨#[]⟩)
        have hX2 := HX.out.trans (wipe_below hg (k * 6) (W := wr) (.string ⟨#[63]⟩) (.string ⟨#[]⟩) (.int .i64 0) (.int .i64 0) (.string ⟨#[]⟩) (.string ⟨#[]⟩))
        have Hrow2 := Lib.hid hrow2
        have HX2 := Lib.hid hX2
        clear hrow hrow2 hX2 Hrow9
        go_wp2
        go_roundw
        case rel => exact ⟨k + 1, by omega, by go_num, HX2.out, Hrow2.out⟩
        case measure => simp [intOf]; omega
      · obtain rfl : k = C := by omega
        have csn := same_at q p 1000 c cap vs wr (Hown6.out.below HX.out (Nat.le_refl _)) (Hin6.out.below HX.out (Nat.le_refl _)) (by unfold maxLen; have := HM.out; omega)
        clear hrow Hrow9
        go_wp2_with fail
        refine csn.mono ?_
        rintro x wf ⟨rfl, hzf⟩
        have hXf := next HX.out HX.out.size hzf
        have hbf := next Hbw.out Hbw.out.size hXf
        obtain ⟨a0, a1, a2, a3, a4, a5⟩ := (show UBlk wf b3 u from Blk.below Hu3.out hXf Hu3.out.at.lt).at
        obtain ⟨b0, b1, b2, b3', b4', b5'⟩ := (show UBlk wf b4 u from Blk.below Hu4.out hXf Hu4.out.at.lt).at
        obtain ⟨d0, d1, d2, d3, d4, d5⟩ := (show UBlk wf b5 v from Blk.below Hu5.out hXf Hu5.out.at.lt).at
        obtain ⟨e0, e1, e2, e3, e4, e5⟩ := (show UBlk wf b6 v from Blk.below Hu6.out hXf Hu6.out.at.lt).at
        have equ : (Op.equalIn 10000 29 u.val u.val).run Tryz.prog wf = .ok true wf := by rw [equal_user, (eqU_iff u u).2 rfl]
        have eqv : (Op.equalIn 10000 29 v.val v.val).run Tryz.prog wf = .ok true wf := by rw [equal_user, (eqU_iff v v).2 rfl]
        have gu := fun op a b => guard_user op a b u u wf
        have gv := fun op a b => guard_user op a b v v wf
        unfold Usr.val at equ eqv gu gv
        clear csn hzf hXf HX
        cases a <;> cases b
        all_goals
          go_wp2
          go_ret
          exact ⟨rfl, hbf⟩
  · have hinv := hin
    obtain ⟨vs, hvs⟩ : ∃ vs, us = vs := ⟨_, rfl⟩
    rw [hvs] at hinv
    clear hvs hin
    obtain ⟨i0, hi, hz0, hz1, hz2⟩ := info_parts Tryz.infoUser
    have hlenv := hinv.1
    have Hinv := Lib.hid hinv
    have Hlv := Lib.hid hlenv
    clear hinv hlenv
    go_enter Tryz.func5, Tryz.ntmps5
    go_wp2_with fail
    refine csh.mono ?_
    rintro x w1 ⟨rfl, hb1⟩
    clear csh
    have hin1 := Hinv.out.below hb1 (Nat.le_refl _)
    have Hc := Lib.hid (cells_addr hin1)
    clear hin1
    go_wp2_with (at_builtin; refine wpList_append_own _ rfl _ _ 23 rfl w1.heap.size 29 i0 (.agg #[.string ByteArray.empty, .string ByteArray.empty, .int .i64 0, .int .i64 0, .string ByteArray.empty, .string ByteArray.empty]) 6 80 Tryz.underlying23 hi hz0 hz1 hz2 rfl (by decide) _ _ _ rfl (World.ownsRow_made w1 #[] 0 (Nat.le_refl _) (Nat.zero_le _) (by simp)) pa n cap (usCells vs) rfl ?qc1 ?qc2 ?qc3 ?qc4 ?qc5 ?qc6 ?_)
    case qc1 => rw [usCells_len, Hlv.out]
    case qc2 => exact fun j u hj => Lib.cell?_alloc_some _ (Hc.out j u hj)
    case qc3 => exact usCells_one vs
    case qc4 => rw [Nat.zero_add]; unfold maxLen; omega
    case qc5 => rw [Nat.zero_add]; omega
    case qc6 => simp
    intro v' w2 hown' hgrow _
    have hown2 : w2.ownsRow w1.heap.size 29 6 v' n (usCells vs) := by simpa using hown'
    have hbel : Below w1.heap.size w1 w2 := ((Below.refl _ w1).alloc (Nat.le_refl _) _).grown hgrow (by simp) (by intro k hk; simp [Value.ownBlock] at hk; omega)
    have hb02 := next hb1 hb1.size hbel
    clear hown' hgrow hi hz0 hz1 hz2 Hc hb1 hbel
    obtain ⟨q, c, rfl⟩ : ∃ q c, v' = .slice q n c := by
      rcases hown2.2 with ⟨h, h0⟩ | ⟨g', c', _, h, _⟩
      · exact ⟨none, 0, by rw [h, h0]⟩
      · exact ⟨_, _, h⟩
    have hown3 : w2.ownsRow w1.heap.size 29 6 (.slice q n c) vs.length (usCells vs) := by rw [Hlv.out]; exact hown2
    obtain ⟨hown, -, _, _⟩ := InUsers.of_row hown3 (users_ok Hinv.out)
    rw [Hlv.out] at hown
    have hinv := Hinv.out
    clear hown2 hown3 Hlv Hinv
    obtain ⟨p, hp⟩ : ∃ p, some pa = p := ⟨_, rfl⟩
    rw [hp] at hinv
    go_wp2_with fail
    rw [hp]
    have hM : n ≤ 1000 := by omega
    have cf := fun w1 h => find_any q n c vs s w1 h (by unfold maxLen; omega)
    have rf := fun w1 h => rfind_any p n cap vs s w1 h (by unfold maxLen; omega)
    have co := fun w1 h => of_any q n c vs i w1 h (by unfold maxLen; omega)
    have ro := fun w1 h => rof_any p n cap vs i w1 h (by unfold maxLen; omega)
    have ch := fun w1 h => change_any q n c vs s t w1 h hM
    have rc := fun w1 h => rchange_any p n cap vs s t w1 h hM
    have hlen := hinv.1
    have hcs := cs_ok (qName s) t vs ht (users_ok hinv)
    generalize hcsd : (if vs.any (qName s) = true then chU (qName s) t vs else []) = cs at hcs
    obtain ⟨u, hu⟩ : ∃ u, findU (qName s) vs = u := ⟨_, rfl⟩
    obtain ⟨v, hv⟩ : ∃ v, findU (qId i) vs = v := ⟨_, rfl⟩
    obtain ⟨a, ha⟩ : ∃ a, vs.any (qName s) = a := ⟨_, rfl⟩
    obtain ⟨b, hb⟩ : ∃ b, vs.any (qId i) = b := ⟨_, rfl⟩
    unfold foundV at cf rf co ro
    rw [hu, ha] at cf rf
    rw [hv, hb] at co ro
    rw [ha] at ch rc hcsd
    unfold Usr.val at cf rf co ro
    have Cf := Lib.hid cf
    have Rf := Lib.hid rf
    have Co := Lib.hid co
    have Ro := Lib.hid ro
    have Ch := Lib.hid ch
    have Rc := Lib.hid rc
    have Hcs := Lib.hid hcs
    have Hcsd := Lib.hid hcsd
    have Hlen := Lib.hid hlen
    have Hin := Lib.hid hinv
    have Hown := Lib.hid hown
    have HM := Lib.hid hM
    clear hu hv ha hb cf rf co ro ch rc hcs hcsd hinv hown hlen hM
    have hb2 : Below w2.heap.size w2 w2 := Below.refl _ _
    have hbw := hb02
    clear hb02
    refine (Cf.out w2 (Hown.out.below hb2 (Nat.le_refl _))).mono ?_
    rintro x y3 ⟨rfl, hz⟩
    have hbwY := next hbw hbw.size hz
    have hb2Y := next hb2 hb2.size hz
    have hbwZ : Below w.heap.size w (y3.alloc (boxU u)) := hbwY.alloc hbwY.size _
    have hb2Z : Below w2.heap.size w2 (y3.alloc (boxU u)) := hb2Y.alloc hb2Y.size _
    have hu3Z : UBlk (y3.alloc (boxU u)) y3.heap.size u := Blk.new y3 29 _
    clear hbw hb2 hbwY hb2Y hz 
    unfold boxU at hbwZ hb2Z hu3Z
    go_wp2_with fail
    generalize y3.alloc (.cells #[.string u.name, .string u.pass, .int .i64 u.id, .int .i64 u.grp, .string u.home, .string u.shell] 29) = x3 at hbwZ hb2Z hu3Z ⊢
    generalize y3.heap.size = b3 at hu3Z ⊢
    have hbw := hbwZ
    have hb2 := hb2Z
    have hu3 := hu3Z
    clear hbwZ hb2Z hu3Z
    refine (Rf.out x3 (Hin.out.below hbw (Nat.le_refl _))).mono ?_
    rintro x y4 ⟨rfl, hz⟩
    have hbwY := next hbw hbw.size hz
    have hb2Y := next hb2 hb2.size hz
    have hu3Y : UBlk y4 b3 u := Blk.below hu3 hz hu3.at.lt
    have hbwZ : Below w.heap.size w (y4.alloc (boxU u)) := hbwY.alloc hbwY.size _
    have hb2Z : Below w2.heap.size w2 (y4.alloc (boxU u)) := hb2Y.alloc hb2Y.size _
    have hu3Z : UBlk (y4.alloc (boxU u)) b3 u := Blk.alloc hu3Y _
    have hu4Z : UBlk (y4.alloc (boxU u)) y4.heap.size u := Blk.new y4 29 _
    clear hbw hb2 hbwY hb2Y hz hu3 hu3Y
    unfold boxU at hbwZ hb2Z hu3Z hu4Z
    go_wp2_with fail
    generalize y4.alloc (.cells #[.string u.name, .string u.pass, .int .i64 u.id, .int .i64 u.grp, .string u.home, .string u.shell] 29) = x4 at hbwZ hb2Z hu3Z hu4Z ⊢
    generalize y4.heap.size = b4 at hu4Z ⊢
    have hbw := hbwZ
    have hb2 := hb2Z
    have hu3 := hu3Z
    have hu4 := hu4Z
    clear hbwZ hb2Z hu3Z hu4Z
    refine (Co.out x4 (Hown.out.below hb2 (Nat.le_refl _))).mono ?_
    rintro x y5 ⟨rfl, hz⟩
    have hbwY := next hbw hbw.size hz
    have hb2Y := next hb2 hb2.size hz
    have hu3Y : UBlk y5 b3 u := Blk.below hu3 hz hu3.at.lt
    have hu4Y : UBlk y5 b4 u := Blk.below hu4 hz hu4.at.lt
    have hbwZ : Below w.heap.size w (y5.alloc (boxU v)) := hbwY.alloc hbwY.size _
    have hb2Z : Below w2.heap.size w2 (y5.alloc (boxU v)) := hb2Y.alloc hb2Y.size _
    have hu3Z : UBlk (y5.alloc (boxU v)) b3 u := Blk.alloc hu3Y _
    have hu4Z : UBlk (y5.alloc (boxU v)) b4 u := Blk.alloc hu4Y _
    have hu5Z : UBlk (y5.alloc (boxU v)) y5.heap.size v := Blk.new y5 29 _
    clear hbw hb2 hbwY hb2Y hz hu3 hu4 hu3Y hu4Y
    unfold boxU at hbwZ hb2Z hu3Z hu4Z hu5Z
    go_wp2_with fail
    generalize y5.alloc (.cells #[.string v.name, .string v.pass, .int .i64 v.id, .int .i64 v.grp, .string v.home, .string v.shell] 29) = x5 at hbwZ hb2Z hu3Z hu4Z hu5Z ⊢
    generalize y5.heap.size = b5 at hu5Z ⊢
    have hbw := hbwZ
    have hb2 := hb2Z
    have hu3 := hu3Z
    have hu4 := hu4Z
    have hu5 := hu5Z
    clear hbwZ hb2Z hu3Z hu4Z hu5Z
    refine (Ro.out x5 (Hin.out.below hbw (Nat.le_refl _))).mono ?_
    rintro x y6 ⟨rfl, hz⟩
    have hbwY := next hbw hbw.size hz
    have hb2Y := next hb2 hb2.size hz
    have hu3Y : UBlk y6 b3 u := Blk.below hu3 hz hu3.at.lt
    have hu4Y : UBlk y6 b4 u := Blk.below hu4 hz hu4.at.lt
    have hu5Y : UBlk y6 b5 v := Blk.below hu5 hz hu5.at.lt
    have hbwZ : Below w.heap.size w (y6.alloc (boxU v)) := hbwY.alloc hbwY.size _
    have hb2Z : Below w2.heap.size w2 (y6.alloc (boxU v)) := hb2Y.alloc hb2Y.size _
    have hu3Z : UBlk (y6.alloc (boxU v)) b3 u := Blk.alloc hu3Y _
    have hu4Z : UBlk (y6.alloc (boxU v)) b4 u := Blk.alloc hu4Y _
    have hu5Z : UBlk (y6.alloc (boxU v)) b5 v := Blk.alloc hu5Y _
    have hu6Z : UBlk (y6.alloc (boxU v)) y6.heap.size v := Blk.new y6 29 _
    clear hbw hb2 hbwY hb2Y hz hu3 hu4 hu5 hu3Y hu4Y hu5Y
    unfold boxU at hbwZ hb2Z hu3Z hu4Z hu5Z hu6Z
    go_wp2_with fail
    generalize y6.alloc (.cells #[.string v.name, .string v.pass, .int .i64 v.id, .int .i64 v.grp, .string v.home, .string v.shell] 29) = x6 at hbwZ hb2Z hu3Z hu4Z hu5Z hu6Z ⊢
    generalize y6.heap.size = b6 at hu6Z ⊢
    have hbw := hbwZ
    have hb2 := hb2Z
    have hu3 := hu3Z
    have hu4 := hu4Z
    have hu5 := hu5Z
    have hu6 := hu6Z
    clear hbwZ hb2Z hu3Z hu4Z hu5Z hu6Z
    have hin6 := Hin.out.below hbw (Nat.le_refl _)
    have hown6 := Hown.out.below hb2 (Nat.le_refl _)
    have Hin6 := Lib.hid hin6
    have Hown6 := Lib.hid hown6
    have Hu3 := Lib.hid hu3
    have Hu4 := Lib.hid hu4
    have Hu5 := Lib.hid hu5
    have Hu6 := Lib.hid hu6
    clear hin6 hown6 hu3 hu4 hu5 hu6 Hin Hown hb2 Cf Rf Co Ro
    refine (Ch.out x6 Hown6.out).mono ?_
    rintro x w7 ⟨v7, rfl, hr7, hz7⟩
    obtain ⟨q7, m7, c7, rfl, hm7, hrow7⟩ := change_out hr7 ((chU_len _ _ _).trans Hlen.out) Hcsd.out
    have hin8 := Hin6.out.below hz7 (Nat.le_refl _)
    clear hr7
    go_wp2_with fail
    refine (Rc.out w7 hin8).mono ?_
    rintro x w8 ⟨v8, rfl, hr8, hz8⟩
    obtain ⟨q8, m8, c8, rfl, hm8, hrow8⟩ := change_out hr8 ((chU_len _ _ _).trans Hlen.out) Hcsd.out
    subst hm7 hm8
    have hz68 := next hz7 hz7.size hz8
    have hrow7b := row_below hrow7 hz8
    obtain ⟨hin7, -, hc7a, hc7b⟩ := InUsers.of_row hrow7b Hcs.out
    obtain ⟨hin8b, -, hc8a, hc8b⟩ := InUsers.of_row hrow8 Hcs.out
    have csm := same_at q7 q8 cs.length c7 c8 cs w8 hin7 hin8b (by omega)
    clear hr8 hrow7 hrow8 hin7 hin8b hc8a hc8b hin8 hz7 hz8 Rc Ch
    go_wp2_with fail
    refine csm.mono ?_
    rintro x w9 ⟨rfl, hz9⟩
    have hrow9 := row_below hrow7b hz9
    have hz69 := next hz68 hz68.size hz9
    have Hrow9 := Lib.hid hrow9
    have Hz69 := Lib.hid hz69
    have Hbw := Lib.hid hbw
    clear csm hrow7b hz9 hz68 hrow9 hz69 hbw Hcs Hcsd
    unfold maxLen at hc7b
    go_wp2_with fail
    generalize hC : cs.length = C at Hrow9 hc7a ⊢
    clear hC
    go_loopw [24] (fun i wr => loRel x6.heap.size x6 q7 C c7 i wr) (fun i _ => C - (intOf i).toNat)
    case atStart => exact ⟨0, Nat.zero_le _, rfl, Hz69.out, _, Hrow9.out⟩
    case round =>
      obtain ⟨k, hk, rfl, hX, xs, hrow⟩ := hrel
      have HX := Lib.hid hX
      clear hX
      by_cases hlt : k < C
      · obtain ⟨g, rfl, hg⟩ : ∃ g, q7 = some ⟨g, 0, none⟩ ∧ x6.heap.size ≤ g := by
          rcases hrow.2 with ⟨_, h0⟩ | ⟨g, _, _, h, hg, _⟩
          · omega
          · cases h; exact ⟨g, rfl, hg⟩
        obtain ⟨v0, c0⟩ := row_some hrow (k * 6) (by omega)
        obtain ⟨v1, c1⟩ := row_some hrow (k * 6 + 1) (by omega)
        obtain ⟨v2, c2⟩ := row_some hrow (k * 6 + 2) (by omega)
        obtain ⟨v3, c3⟩ := row_some hrow (k * 6 + 3) (by omega)
        obtain ⟨v4, c4⟩ := row_some hrow (k * 6 + 4) (by omega)
        obtain ⟨v5, c5⟩ := row_some hrow (k * 6 + 5) (by omega)
        have f0 := hrow.frozenAt (k * 6)
        have f1 := hrow.frozenAt (k * 6 + 1)
        have f2 := hrow.frozenAt (k * 6 + 2)
        have f3 := hrow.frozenAt (k * 6 + 3)
        have f4 := hrow.frozenAt (k * 6 + 4)
        have f5 := hrow.frozenAt (k * 6 + 5)
        have hrow2 := wipe_row hrow (k * 6) (.string ⟨#[63]⟩) (.string ⟨#[]⟩) (.int .i64 0) (.int .i64 0) (.string ⟨#[]⟩) (.string ⟨#[]⟩)
        have hX2 := HX.out.trans (wipe_below hg (k * 6) (W := wr) (.string ⟨#[63]⟩) (.string ⟨#[]⟩) (.int .i64 0) (.int .i64 0) (.string ⟨#[]⟩) (.string ⟨#[]⟩))
        have Hrow2 := Lib.hid hrow2
        have HX2 := Lib.hid hX2
        clear hrow hrow2 hX2 Hrow9
        go_wp2
        go_roundw
        case rel => exact ⟨k + 1, by omega, by go_num, HX2.out, Hrow2.out⟩
        case measure => simp [intOf]; omega
      · obtain rfl : k = C := by omega
        have csn := same_at q p n c cap vs wr (Hown6.out.below HX.out (Nat.le_refl _)) (Hin6.out.below HX.out (Nat.le_refl _)) (by unfold maxLen; have := HM.out; omega)
        clear hrow Hrow9
        go_wp2_with fail
        refine csn.mono ?_
        rintro x wf ⟨rfl, hzf⟩
        have hXf := next HX.out HX.out.size hzf
        have hbf := next Hbw.out Hbw.out.size hXf
        obtain ⟨a0, a1, a2, a3, a4, a5⟩ := (show UBlk wf b3 u from Blk.below Hu3.out hXf Hu3.out.at.lt).at
        obtain ⟨b0, b1, b2, b3', b4', b5'⟩ := (show UBlk wf b4 u from Blk.below Hu4.out hXf Hu4.out.at.lt).at
        obtain ⟨d0, d1, d2, d3, d4, d5⟩ := (show UBlk wf b5 v from Blk.below Hu5.out hXf Hu5.out.at.lt).at
        obtain ⟨e0, e1, e2, e3, e4, e5⟩ := (show UBlk wf b6 v from Blk.below Hu6.out hXf Hu6.out.at.lt).at
        have equ : (Op.equalIn 10000 29 u.val u.val).run Tryz.prog wf = .ok true wf := by rw [equal_user, (eqU_iff u u).2 rfl]
        have eqv : (Op.equalIn 10000 29 v.val v.val).run Tryz.prog wf = .ok true wf := by rw [equal_user, (eqU_iff v v).2 rfl]
        have gu := fun op a b => guard_user op a b u u wf
        have gv := fun op a b => guard_user op a b v v wf
        unfold Usr.val at equ eqv gu gv
        clear csn hzf hXf HX
        cases a <;> cases b
        all_goals
          go_wp2
          go_ret
          exact ⟨rfl, hbf⟩
end Go.Proofs.YtjopmchbphjliaaGreatDoor
