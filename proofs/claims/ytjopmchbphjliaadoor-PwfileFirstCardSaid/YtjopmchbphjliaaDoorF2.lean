/- Walk of the law PwfileFirst. -/
import Derived.Test.YtjopmchbphjliaaDoorF1
import Derived.Test.YtjopmchbphjliaaDoorLW
namespace Go.Proofs.YtjopmchbphjliaaDoor
open Go.RowKit Go.Shelf

set_option maxRecDepth 100000 in
set_option maxHeartbeats 6400000 in
theorem first_walk (p : Option Addr) (n cap : Nat) (us : List Usr) (s : ByteArray) (i : Int) (w : World) (henv : Env w) (hin : InUsers w p n us) (hn : n ≤ cap) (hm : cap ≤ maxLen) :
    Calls Tryd.prog 6 #[.slice p n cap, .string s, .int .i64 i] w fun e w' => e = .returned (.bool true) ∧ Below w.heap.size w w' := by
  have hm0 := hm
  unfold maxLen at hm
  have cs := shown_any w henv
  clear henv
  by_cases h100 : 100 < n
  · have hinv : InUsers w p 100 (us.take 100) := hin.take 100 (by omega)
    clear hin
    have hmM : 100 ≤ maxLen := by unfold maxLen; omega
    have cf := fun w1 h => find_any p 100 cap (us.take 100) s w1 h hmM
    have co := fun w1 h => of_any p 100 cap (us.take 100) i w1 h hmM
    have Hin := Lib.hid hinv
    have hlen := hinv.1
    generalize (us.take 100) = vs at cf co Hin hlen
    obtain ⟨u, hu⟩ : ∃ u, findU (qName s) vs = u := ⟨_, rfl⟩
    obtain ⟨v, hv⟩ : ∃ v, findU (qId i) vs = v := ⟨_, rfl⟩
    obtain ⟨a, ha⟩ : ∃ a, vs.any (qName s) = a := ⟨_, rfl⟩
    obtain ⟨b, hb⟩ : ∃ b, vs.any (qId i) = b := ⟨_, rfl⟩
    unfold foundV at cf co
    rw [hu, ha] at cf
    rw [hv, hb] at co
    unfold Usr.val at cf co
    have Hu := Lib.hid hu
    have Hv := Lib.hid hv
    have Ha := Lib.hid ha
    have Hb := Lib.hid hb
    have Cf := Lib.hid cf
    have Co := Lib.hid co
    have Hlen := Lib.hid hlen
    clear hu hv ha hb cf co hinv hmM hlen
    go_enter Tryd.func6, Tryd.ntmps6
    go_wp2_with fail
    refine cs.mono ?_
    rintro x w1 ⟨rfl, hb1⟩
    clear cs
    go_wp2_with fail
    refine (Cf.out _ (Hin.out.below hb1 (Nat.le_refl _))).mono ?_
    rintro x w2 ⟨rfl, hb2⟩
    have hb12 := next hb1 hb1.size hb2
    clear hb1 hb2
    have hb3 : Below w.heap.size w (w2.alloc (boxU u)) := hb12.alloc hb12.size _
    have hu3 : UBlk (w2.alloc (boxU u)) w2.heap.size u := Blk.new w2 33 _
    have cc := Co.out _ (Hin.out.below hb3 (Nat.le_refl _))
    unfold boxU at hb3 hu3 cc
    go_wp2_with fail
    refine cc.mono ?_
    rintro x w3 ⟨rfl, hbz⟩
    have hb4 := next hb3 hb3.size hbz
    have hu4 : UBlk w3 w2.heap.size u := Blk.below hu3 hbz hu3.at.lt
    clear cc hb3 hu3 hbz hb12
    have hb5 : Below w.heap.size w (w3.alloc (boxU v)) := hb4.alloc hb4.size _
    have hu5 : UBlk (w3.alloc (boxU v)) w2.heap.size u := Blk.alloc hu4 _
    have hv5 : UBlk (w3.alloc (boxU v)) w3.heap.size v := Blk.new w3 33 _
    have hin5 := Hin.out.below hb5 (Nat.le_refl _)
    clear hb4 hu4
    unfold boxU at hb5 hu5 hv5 hin5
    go_wp2_with fail
    generalize w3.alloc (.cells #[.string v.name, .string v.pass, .int .i64 v.id, .int .i64 v.grp, .string v.home, .string v.shell] 33) = w5 at hb5 hu5 hv5 hin5 ⊢
    generalize w2.heap.size = bu at hu5 ⊢
    generalize w3.heap.size = bv at hv5 ⊢
    have Hin5 := Lib.hid hin5
    have Hu5 := Lib.hid hu5
    have Hv5 := Lib.hid hv5
    clear hin5 hu5 hv5 Hin
    go_loopw [12, 13, 14] (fun f o k wr => fiRel w5 vs s i f o k wr) (fun _ _ k _ => 100 - (intOf k).toNat)
    case atStart => exact ⟨0, Nat.zero_le _, rfl, by rw [List.take_zero]; rfl, by rw [List.take_zero]; rfl, Below.refl _ _⟩
    case round =>
      obtain ⟨k, hk, rfl, rfl, rfl, hB⟩ := hrel
      have hlen := Hlen.out
      by_cases hlt : k < vs.length
      · have hu : vs[k]? = some vs[k] := List.getElem?_eq_getElem hlt
        obtain ⟨hok, g, off, hpp, hc⟩ := Hin5.out.2 k _ hu
        have hcw := hc.below hB hc.lt
        generalize vs[k] = x at hu hcw
        have hnx := find_next (qName s) vs k x hu
        have hix := find_next (qId i) vs k x hu
        clear hok hc hu
        subst hpp
        obtain ⟨c0, c1, c2, c3, c4, c5⟩ := hcw
        generalize findI (qName s) (vs.take k) = f at hnx ⊢
        generalize findI (qId i) (vs.take k) = o at hix ⊢
        obtain ⟨fn, hfn⟩ : ∃ fn, findI (qName s) (vs.take (k + 1)) = fn := ⟨_, rfl⟩
        obtain ⟨on, hon⟩ : ∃ on, findI (qId i) (vs.take (k + 1)) = on := ⟨_, rfl⟩
        rw [hfn] at hnx
        rw [hon] at hix
        unfold qName at hnx
        unfold qId at hix
        have Hfn := Lib.hid hfn
        have Hon := Lib.hid hon
        clear hfn hon Cf Co hb5
        rcases three hnx with ⟨h1, rfl⟩ | ⟨h1, h2, rfl⟩ | ⟨h1, h2, rfl⟩
        all_goals
          clear hnx
          rcases three hix with ⟨h3, rfl⟩ | ⟨h3, h4, rfl⟩ | ⟨h3, h4, rfl⟩
          all_goals
            clear hix
            go_wp2
            go_roundw
            case rel => exact ⟨k + 1, by omega, by go_num, congrArg (Value.int .i64) Hfn.out.symm, congrArg (Value.int .i64) Hon.out.symm, hB⟩
            case measure => simp [intOf]; omega
      · obtain rfl : k = vs.length := by omega
        rw [List.take_length]
        have hbr := hb5.trans (hB.mono hb5.size)
        have hu' := Blk.below Hu5.out hB Hu5.out.at.lt
        have hv' := Blk.below Hv5.out hB Hv5.out.at.lt
        obtain ⟨c0, c1, c2, c3, c4, c5⟩ := UBlk.at hu'
        obtain ⟨d0, d1, d2, d3, d4, d5⟩ := UBlk.at hv'
        have equ : (Op.equalIn 10000 33 u.val u.val).run Tryd.prog wr = .ok true wr := by rw [equal_user, (eqU_iff u u).2 rfl]
        have eqv : (Op.equalIn 10000 33 v.val v.val).run Tryd.prog wr = .ok true wr := by rw [equal_user, (eqU_iff v v).2 rfl]
        have gu := fun op a b => guard_user op a b u u wr
        have gv := fun op a b => guard_user op a b v v wr
        have h1 := found_two (qName s) vs
        have h2 := found_two (qId i) vs
        rw [Hu.out, Ha.out] at h1
        rw [Hv.out, Hb.out] at h2
        unfold Usr.val at equ eqv gu gv
        have hinr := Hin5.out.below hB (Nat.le_refl _)
        clear hu' hv' hB hb5 Cf Co hk hlt Hin5
        generalize findI (qName s) vs = f at h1 ⊢
        generalize findI (qId i) vs = o at h2 ⊢
        rcases h1 with ⟨hf, rfl⟩ | ⟨kf, rfl, hkf, rfl⟩
        all_goals
          rcases h2 with ⟨ho, rfl⟩ | ⟨ko, rfl, hko, rfl⟩
        · have hd1 : decide (0 ≤ f) = false := decide_eq_false (by omega)
          have hd2 : decide (0 ≤ o) = false := decide_eq_false (by omega)
          clear hinr
          go_wp2_with fail
          go_quiet (fail)
          go_wp2
          go_ret
          exact ⟨rfl, below_drewN hbr _⟩
        · have hd1 : decide (0 ≤ f) = false := decide_eq_false (by omega)
          have hd2 : decide (0 ≤ (ko : Int)) = true := decide_eq_true (by omega)
          have hkl := (List.getElem?_eq_some_iff.1 hko).1
          obtain ⟨_, g, off, hpp, hat⟩ := hinr.2 ko _ hko
          subst hpp
          obtain ⟨x0, x1, x2, x3, x4, x5⟩ := hat
          clear hinr hko
          go_wp2_with fail
          go_quiet (fail)
          go_wp2
          go_ret
          exact ⟨rfl, below_drewN hbr _⟩
        · have hd1 : decide (0 ≤ (kf : Int)) = true := decide_eq_true (by omega)
          have hd2 : decide (0 ≤ o) = false := decide_eq_false (by omega)
          have hkl := (List.getElem?_eq_some_iff.1 hkf).1
          obtain ⟨_, g, off, hpp, hat⟩ := hinr.2 kf _ hkf
          subst hpp
          obtain ⟨x0, x1, x2, x3, x4, x5⟩ := hat
          clear hinr hkf
          go_wp2_with fail
          go_quiet (fail)
          go_wp2
          go_ret
          exact ⟨rfl, below_drewN hbr _⟩
        · have hd1 : decide (0 ≤ (kf : Int)) = true := decide_eq_true (by omega)
          have hd2 : decide (0 ≤ (ko : Int)) = true := decide_eq_true (by omega)
          have hkl := (List.getElem?_eq_some_iff.1 hkf).1
          have hkl2 := (List.getElem?_eq_some_iff.1 hko).1
          obtain ⟨_, g, off, hpp, hat⟩ := hinr.2 kf _ hkf
          obtain ⟨_, g2, off2, hpp2, hat2⟩ := hinr.2 ko _ hko
          subst hpp
          obtain ⟨rfl, rfl⟩ : g = g2 ∧ off = off2 := by cases hpp2; exact ⟨rfl, rfl⟩
          obtain ⟨x0, x1, x2, x3, x4, x5⟩ := hat
          obtain ⟨y0, y1, y2, y3, y4, y5⟩ := hat2
          clear hinr hkf hko hpp2
          go_wp2_with fail
          go_quiet (fail)
          go_wp2
          go_ret
          exact ⟨rfl, below_drewN hbr _⟩
  · have hinv := hin
    clear hin
    have hmM : n ≤ maxLen := by unfold maxLen; omega
    have cf := fun w1 h => find_any p n cap (us) s w1 h hmM
    have co := fun w1 h => of_any p n cap (us) i w1 h hmM
    have Hin := Lib.hid hinv
    have hlen := hinv.1
    generalize (us) = vs at cf co Hin hlen
    obtain ⟨u, hu⟩ : ∃ u, findU (qName s) vs = u := ⟨_, rfl⟩
    obtain ⟨v, hv⟩ : ∃ v, findU (qId i) vs = v := ⟨_, rfl⟩
    obtain ⟨a, ha⟩ : ∃ a, vs.any (qName s) = a := ⟨_, rfl⟩
    obtain ⟨b, hb⟩ : ∃ b, vs.any (qId i) = b := ⟨_, rfl⟩
    unfold foundV at cf co
    rw [hu, ha] at cf
    rw [hv, hb] at co
    unfold Usr.val at cf co
    have Hu := Lib.hid hu
    have Hv := Lib.hid hv
    have Ha := Lib.hid ha
    have Hb := Lib.hid hb
    have Cf := Lib.hid cf
    have Co := Lib.hid co
    have Hlen := Lib.hid hlen
    clear hu hv ha hb cf co hinv hmM hlen
    go_enter Tryd.func6, Tryd.ntmps6
    go_wp2_with fail
    refine cs.mono ?_
    rintro x w1 ⟨rfl, hb1⟩
    clear cs
    go_wp2_with fail
    refine (Cf.out _ (Hin.out.below hb1 (Nat.le_refl _))).mono ?_
    rintro x w2 ⟨rfl, hb2⟩
    have hb12 := next hb1 hb1.size hb2
    clear hb1 hb2
    have hb3 : Below w.heap.size w (w2.alloc (boxU u)) := hb12.alloc hb12.size _
    have hu3 : UBlk (w2.alloc (boxU u)) w2.heap.size u := Blk.new w2 33 _
    have cc := Co.out _ (Hin.out.below hb3 (Nat.le_refl _))
    unfold boxU at hb3 hu3 cc
    go_wp2_with fail
    refine cc.mono ?_
    rintro x w3 ⟨rfl, hbz⟩
    have hb4 := next hb3 hb3.size hbz
    have hu4 : UBlk w3 w2.heap.size u := Blk.below hu3 hbz hu3.at.lt
    clear cc hb3 hu3 hbz hb12
    have hb5 : Below w.heap.size w (w3.alloc (boxU v)) := hb4.alloc hb4.size _
    have hu5 : UBlk (w3.alloc (boxU v)) w2.heap.size u := Blk.alloc hu4 _
    have hv5 : UBlk (w3.alloc (boxU v)) w3.heap.size v := Blk.new w3 33 _
    have hin5 := Hin.out.below hb5 (Nat.le_refl _)
    clear hb4 hu4
    unfold boxU at hb5 hu5 hv5 hin5
    go_wp2_with fail
    generalize w3.alloc (.cells #[.string v.name, .string v.pass, .int .i64 v.id, .int .i64 v.grp, .string v.home, .string v.shell] 33) = w5 at hb5 hu5 hv5 hin5 ⊢
    generalize w2.heap.size = bu at hu5 ⊢
    generalize w3.heap.size = bv at hv5 ⊢
    have Hin5 := Lib.hid hin5
    have Hu5 := Lib.hid hu5
    have Hv5 := Lib.hid hv5
    clear hin5 hu5 hv5 Hin
    go_loopw [12, 13, 14] (fun f o k wr => fiRel w5 vs s i f o k wr) (fun _ _ k _ => n - (intOf k).toNat)
    case atStart => exact ⟨0, Nat.zero_le _, rfl, by rw [List.take_zero]; rfl, by rw [List.take_zero]; rfl, Below.refl _ _⟩
    case round =>
      obtain ⟨k, hk, rfl, rfl, rfl, hB⟩ := hrel
      have hlen := Hlen.out
      by_cases hlt : k < vs.length
      · have hu : vs[k]? = some vs[k] := List.getElem?_eq_getElem hlt
        obtain ⟨hok, g, off, hpp, hc⟩ := Hin5.out.2 k _ hu
        have hcw := hc.below hB hc.lt
        generalize vs[k] = x at hu hcw
        have hnx := find_next (qName s) vs k x hu
        have hix := find_next (qId i) vs k x hu
        clear hok hc hu
        subst hpp
        obtain ⟨c0, c1, c2, c3, c4, c5⟩ := hcw
        generalize findI (qName s) (vs.take k) = f at hnx ⊢
        generalize findI (qId i) (vs.take k) = o at hix ⊢
        obtain ⟨fn, hfn⟩ : ∃ fn, findI (qName s) (vs.take (k + 1)) = fn := ⟨_, rfl⟩
        obtain ⟨on, hon⟩ : ∃ on, findI (qId i) (vs.take (k + 1)) = on := ⟨_, rfl⟩
        rw [hfn] at hnx
        rw [hon] at hix
        unfold qName at hnx
        unfold qId at hix
        have Hfn := Lib.hid hfn
        have Hon := Lib.hid hon
        clear hfn hon Cf Co hb5
        rcases three hnx with ⟨h1, rfl⟩ | ⟨h1, h2, rfl⟩ | ⟨h1, h2, rfl⟩
        all_goals
          clear hnx
          rcases three hix with ⟨h3, rfl⟩ | ⟨h3, h4, rfl⟩ | ⟨h3, h4, rfl⟩
          all_goals
            clear hix
            go_wp2
            go_roundw
            case rel => exact ⟨k + 1, by omega, by go_num, congrArg (Value.int .i64) Hfn.out.symm, congrArg (Value.int .i64) Hon.out.symm, hB⟩
            case measure => simp [intOf]; omega
      · obtain rfl : k = vs.length := by omega
        rw [List.take_length]
        have hbr := hb5.trans (hB.mono hb5.size)
        have hu' := Blk.below Hu5.out hB Hu5.out.at.lt
        have hv' := Blk.below Hv5.out hB Hv5.out.at.lt
        obtain ⟨c0, c1, c2, c3, c4, c5⟩ := UBlk.at hu'
        obtain ⟨d0, d1, d2, d3, d4, d5⟩ := UBlk.at hv'
        have equ : (Op.equalIn 10000 33 u.val u.val).run Tryd.prog wr = .ok true wr := by rw [equal_user, (eqU_iff u u).2 rfl]
        have eqv : (Op.equalIn 10000 33 v.val v.val).run Tryd.prog wr = .ok true wr := by rw [equal_user, (eqU_iff v v).2 rfl]
        have gu := fun op a b => guard_user op a b u u wr
        have gv := fun op a b => guard_user op a b v v wr
        have h1 := found_two (qName s) vs
        have h2 := found_two (qId i) vs
        rw [Hu.out, Ha.out] at h1
        rw [Hv.out, Hb.out] at h2
        unfold Usr.val at equ eqv gu gv
        have hinr := Hin5.out.below hB (Nat.le_refl _)
        clear hu' hv' hB hb5 Cf Co hk hlt Hin5
        generalize findI (qName s) vs = f at h1 ⊢
        generalize findI (qId i) vs = o at h2 ⊢
        rcases h1 with ⟨hf, rfl⟩ | ⟨kf, rfl, hkf, rfl⟩
        all_goals
          rcases h2 with ⟨ho, rfl⟩ | ⟨ko, rfl, hko, rfl⟩
        · have hd1 : decide (0 ≤ f) = false := decide_eq_false (by omega)
          have hd2 : decide (0 ≤ o) = false := decide_eq_false (by omega)
          clear hinr
          go_wp2_with fail
          go_quiet (fail)
          go_wp2
          go_ret
          exact ⟨rfl, below_drewN hbr _⟩
        · have hd1 : decide (0 ≤ f) = false := decide_eq_false (by omega)
          have hd2 : decide (0 ≤ (ko : Int)) = true := decide_eq_true (by omega)
          have hkl := (List.getElem?_eq_some_iff.1 hko).1
          obtain ⟨_, g, off, hpp, hat⟩ := hinr.2 ko _ hko
          subst hpp
          obtain ⟨x0, x1, x2, x3, x4, x5⟩ := hat
          clear hinr hko
          go_wp2_with fail
          go_quiet (fail)
          go_wp2
          go_ret
          exact ⟨rfl, below_drewN hbr _⟩
        · have hd1 : decide (0 ≤ (kf : Int)) = true := decide_eq_true (by omega)
          have hd2 : decide (0 ≤ o) = false := decide_eq_false (by omega)
          have hkl := (List.getElem?_eq_some_iff.1 hkf).1
          obtain ⟨_, g, off, hpp, hat⟩ := hinr.2 kf _ hkf
          subst hpp
          obtain ⟨x0, x1, x2, x3, x4, x5⟩ := hat
          clear hinr hkf
          go_wp2_with fail
          go_quiet (fail)
          go_wp2
          go_ret
          exact ⟨rfl, below_drewN hbr _⟩
        · have hd1 : decide (0 ≤ (kf : Int)) = true := decide_eq_true (by omega)
          have hd2 : decide (0 ≤ (ko : Int)) = true := decide_eq_true (by omega)
          have hkl := (List.getElem?_eq_some_iff.1 hkf).1
          have hkl2 := (List.getElem?_eq_some_iff.1 hko).1
          obtain ⟨_, g, off, hpp, hat⟩ := hinr.2 kf _ hkf
          obtain ⟨_, g2, off2, hpp2, hat2⟩ := hinr.2 ko _ hko
          subst hpp
          obtain ⟨rfl, rfl⟩ : g = g2 ∧ off = off2 := by cases hpp2; exact ⟨rfl, rfl⟩
          obtain ⟨x0, x1, x2, x3, x4, x5⟩ := hat
          obtain ⟨y0, y1, y2, y3, y4, y5⟩ := hat2
          clear hinr hkf hko hpp2
          go_wp2_with fail
          go_quiet (fail)
          go_wp2
          go_ret
          exact ⟨rfl, below_drewN hbr _⟩
end Go.Proofs.YtjopmchbphjliaaDoor
