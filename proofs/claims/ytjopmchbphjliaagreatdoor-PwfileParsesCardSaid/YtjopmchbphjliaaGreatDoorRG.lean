/- Contract of the document's Right of users. -/
import Derived.Test.YtjopmchbphjliaaGreatDoorRF
import Derived.Test.YtjopmchbphjliaaGreatDoorR3
namespace Go.Proofs.YtjopmchbphjliaaGreatDoor
open Go.RowKit Go.Shelf

/-- the users read so far have not this name. -/
def rkRel (w : World) (us : List Usr) (k : Nat) (s : ByteArray) (i : Value) (wr : World) : Prop :=
  ∃ j : Nat, j ≤ k ∧ i = .int .i64 j ∧ Below w.heap.size w wr ∧ (us.take j).any (qName s) = false
theorem rk_next {us : List Usr} {j : Nat} {v : Usr} {s : ByteArray} (hv : us[j]? = some v) (h : (us.take j).any (qName s) = false) (hq : qName s v = false) : (us.take (j + 1)).any (qName s) = false := by
  rw [(take_next us j v hv).1, List.any_append, h, List.any_cons, hq]; rfl
theorem rk_hit {us : List Usr} {j k : Nat} {v : Usr} {s : ByteArray} (hv : us[j]? = some v) (hj : j < k) (hq : qName s v = true) : (us.take k).any (qName s) = true :=
  List.any_eq_true.2 ⟨v, List.mem_of_getElem? (by rw [List.getElem?_take_of_lt hj]; exact hv), hq⟩
set_option maxRecDepth 100000 in
set_option maxHeartbeats 3200000 in
theorem rright_any (p : Option Addr) (n cap : Nat) (us : List Usr) (w : World) (hin : InUsers w p n us) (hn : n ≤ maxLen) (hsm : ∀ u ∈ us, u.home.size ≤ 1048576 ∧ u.shell.size ≤ 1048576) :
    Calls Tryz.prog 11 #[.slice p n cap] w fun e w' => e = .returned (.bool (rightL us)) ∧ Below w.heap.size w w' := by
  have hlen := hin.1
  unfold maxLen at hn
  by_cases h8 : 8 < n
  · have Hr := Lib.hid (show rightL us = false by unfold rightL; rw [decide_eq_false (by omega)]; rfl)
    clear hin hlen hsm
    go_enter Tryz.func11, Tryz.ntmps11
    go_wp2
    go_ret
    exact ⟨ret_bool Hr.out.symm, Below.refl _ _⟩
  · have Hr := Lib.hid (show rightL us = rightF [] us by unfold rightL; rw [decide_eq_true (by omega)]; rfl)
    have Hin := Lib.hid hin
    have Hsm := Lib.hid hsm
    clear hin hsm
    subst hlen
    go_enter Tryz.func11, Tryz.ntmps11
    go_wp2
    go_loopw [3] (fun i wr => riRel w us i wr) (fun i _ => us.length - (intOf i).toNat)
    case atStart => exact ⟨0, Nat.zero_le _, rfl, Below.refl _ _, rfl⟩
    case round =>
      obtain ⟨k, hk, rfl, hB, hn⟩ := hrel
      have Hn := Lib.hid hn
      clear hn
      by_cases hlt : k < us.length
      · have hu : us[k]? = some us[k] := List.getElem?_eq_getElem hlt
        obtain ⟨hok, b, off, hpp, hc⟩ := Hin.out.2 k _ hu
        have hcw := hc.below hB hc.lt
        obtain ⟨hh, hs⟩ := Hsm.out us[k] (List.getElem_mem hlt)
        generalize us[k] = u at hu hc hcw hok hh hs
        have hcall := rmay_any u hok hh hs
        have Htn := Lib.hid (take_next us k u hu)
        subst hpp
        obtain ⟨rb, hr⟩ : ∃ rb, rightU u = rb := ⟨_, rfl⟩
        rw [hr] at hcall
        have Hrb := Lib.hid hr
        unfold Usr.val at hcall
        have Hcall := Lib.hid hcall
        have Hc := Lib.hid hc
        clear hu hc hr hok hcall
        obtain ⟨c0, c1, c2, c3, c4, c5⟩ := hcw
        cases rb
        · go_wp2_with fail
          refine (Hcall.out _).mono ?_
          rintro e w1 ⟨rfl, hb1⟩
          have Hf := Lib.hid (show rightF [] us = false by rw [← Hn.out, Htn.out.2]; unfold rightF; rw [Hrb.out]; rfl)
          go_wp2
          go_ret
          exact ⟨ret_bool (by rw [Hr.out, Hf.out]), next hB hB.size hb1⟩
        · go_wp2_with fail
          refine (Hcall.out _).mono ?_
          rintro e w1 ⟨rfl, hb1⟩
          have hB1 := next hB hB.size hb1
          clear c0 c1 c2 c3 c4 c5 hb1
          go_wp2
          go_loopw [5] (fun i wr => rkRel w us k u.name i wr) (fun i _ => k - (intOf i).toNat)
          case atStart => exact ⟨0, Nat.zero_le _, rfl, hB1, rfl⟩
          case round =>
            obtain ⟨j, hj, rfl, hB2, hno⟩ := hrel
            have Hno := Lib.hid hno
            clear hno
            by_cases hjk : j < k
            · have hv : us[j]? = some us[j] := List.getElem?_eq_getElem (by omega)
              obtain ⟨_, b', off', hpp', hc'⟩ := Hin.out.2 j _ hv
              obtain ⟨rfl, rfl⟩ : b = b' ∧ off = off' := by cases hpp'; exact ⟨rfl, rfl⟩
              have hcv := hc'.below hB2 hc'.lt
              have hcu := Hc.out.below hB2 Hc.out.lt
              generalize us[j] = v at hv hcv
              have Hv := Lib.hid hv
              clear hv hpp' hc'
              have e0 := hcv.1
              have e1 := hcu.1
              clear hcv hcu
              cases hq : qName u.name v
              · have Hs := Lib.hid (rk_next Hv.out Hno.out hq)
                unfold qName at hq
                go_wp2
                go_quiet (fail)
                go_wp2
                go_roundw
                case rel => exact ⟨j + 1, by omega, by go_num, below_drewN hB2 _, Hs.out⟩
                case measure => simp [intOf]; omega
              · have Hf := Lib.hid (show rightF [] us = false by
                  have h1 := rk_hit Hv.out hjk hq
                  rw [← Hn.out, Htn.out.2]
                  show (rightU u && (!(us.take k).any (qName u.name) && _)) = false
                  rw [Hrb.out, h1]; rfl)
                unfold qName at hq
                go_wp2
                go_quiet (fail)
                go_wp2
                go_ret
                exact ⟨ret_bool (by rw [Hr.out, Hf.out]), below_drewN hB2 _⟩
            · obtain rfl : j = k := by omega
              have Hf := Lib.hid (show rightF (us.take (j + 1)) (us.drop (j + 1)) = rightF [] us by
                rw [← Hn.out, Htn.out.2, Htn.out.1]
                show _ = (rightU u && (!(us.take j).any (qName u.name) && rightF (us.take j ++ [u]) (us.drop (j + 1))))
                rw [Hrb.out, Hno.out]; rfl)
              go_wp2
              go_roundw
              case rel => exact ⟨j + 1, by omega, by go_num, hB2, Hf.out⟩
              case measure => simp [intOf]; omega
      · obtain rfl : k = us.length := by omega
        have Hf := Lib.hid (show rightF [] us = true by rw [← Hn.out, List.drop_length]; cases us.take us.length <;> rfl)
        go_wp2
        go_ret
        exact ⟨ret_bool (by rw [Hr.out, Hf.out]), hB⟩
end Go.Proofs.YtjopmchbphjliaaGreatDoor
