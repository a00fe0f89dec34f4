/- Contract of Right of package pwfile. -/
import Derived.Test.YtjopmchbphjliaaGreatDoorR2
import Derived.Test.YtjopmchbphjliaaGreatDoorUp
namespace Go.Proofs.YtjopmchbphjliaaGreatDoor
open Go.RowKit Go.Shelf

/-- users behind others: each right, with a name of its own. -/
def rightF : List Usr → List Usr → Bool
  | _, [] => true
  | seen, u :: r => rightU u && (!seen.any (qName u.name) && rightF (seen ++ [u]) r)
def rightL (us : List Usr) : Bool := decide (us.length ≤ 8) && rightF [] us
theorem take_next (us : List Usr) (k : Nat) (u : Usr) (h : us[k]? = some u) : us.take (k + 1) = us.take k ++ [u] ∧ us.drop k = u :: us.drop (k + 1) := by
  obtain ⟨hk, rfl⟩ := List.getElem?_eq_some_iff.1 h
  exact ⟨by rw [List.take_succ_eq_append_getElem hk], List.drop_eq_getElem_cons hk⟩
theorem InUsers.take {W : World} {p : Option Addr} {n : Nat} {us : List Usr} (h : InUsers W p n us) (k : Nat) (hk : k ≤ n) : InUsers W p k (us.take k) := by
  have hl := h.1
  refine ⟨by rw [List.length_take]; omega, fun j u hj => ?_⟩
  have hlt : j < k := by have := (List.getElem?_eq_some_iff.1 hj).1; rw [List.length_take] at this; omega
  rw [List.getElem?_take_of_lt hlt] at hj
  exact h.2 j u hj
def riRel (w : World) (us : List Usr) (i : Value) (wr : World) : Prop :=
  ∃ k : Nat, k ≤ us.length ∧ i = .int .i64 k ∧ Below w.heap.size w wr ∧ rightF (us.take k) (us.drop k) = rightF [] us
set_option maxRecDepth 100000 in
set_option maxHeartbeats 3200000 in
theorem right_any (p : Option Addr) (n cap : Nat) (us : List Usr) (w : World) (hin : InUsers w p n us) (hn : n ≤ cap) (hm : cap ≤ maxLen) :
    Calls Tryz.prog 10 #[.slice p n cap] w fun e w' => e = .returned (.bool (rightL us)) ∧ Below w.heap.size w w' := by
  have hlen := hin.1
  have hmax := hm
  unfold maxLen at hm
  by_cases h8 : 8 < n
  · have Hr := Lib.hid (show rightL us = false by unfold rightL; rw [decide_eq_false (by omega)]; rfl)
    clear hin hlen
    go_enter Tryz.func10, Tryz.ntmps10
    go_wp2
    go_ret
    exact ⟨ret_bool Hr.out.symm, Below.refl _ _⟩
  · have Hr := Lib.hid (show rightL us = rightF [] us by unfold rightL; rw [decide_eq_true (by omega)]; rfl)
    have Hin := Lib.hid hin
    clear hin
    subst hlen
    go_enter Tryz.func10, Tryz.ntmps10
    go_wp2
    go_loopw [10] (fun i wr => riRel w us i wr) (fun i _ => us.length - (intOf i).toNat)
    case atStart => exact ⟨0, Nat.zero_le _, rfl, Below.refl _ _, rfl⟩
    case round =>
      obtain ⟨k, hk, rfl, hB, hn⟩ := hrel
      have Hn := Lib.hid hn
      clear hn
      by_cases hlt : k < us.length
      · have hu : us[k]? = some us[k] := List.getElem?_eq_getElem hlt
        obtain ⟨hok, b, off, hpp, hc⟩ := Hin.out.2 k _ hu
        have hcw := hc.below hB hc.lt
        have hinw := (Hin.out.take k hk).below hB (Nat.le_refl _)
        generalize us[k] = u at hu hcw hok
        have Htn := Lib.hid (take_next us k u hu)
        clear hu hc
        subst hpp
        have hb1 : Below wr.heap.size wr (wr.alloc (boxU u)) := (Below.refl _ wr).alloc (Nat.le_refl _) _
        have hu1 : UBlk (wr.alloc (boxU u)) wr.heap.size u := Blk.new wr 29 _
        have hin1 := Lib.hid (hinw.below hb1 (Nat.le_refl _))
        clear hinw
        obtain ⟨c0, c1, c2, c3, c4, c5⟩ := hcw
        obtain ⟨d0, d1, d2, d3, d4, d5⟩ := hu1.at
        have e0 := up_cell d0
        have e1 := up_cell d1
        have e2 := up_cell d2
        have e3 := up_cell d3
        have e4 := up_cell d4
        have e5 := up_cell d5
        clear d0 d1 d2 d3 d4 d5 hu1
        have hcall := rightUser_any u hok
        obtain ⟨rb, hr⟩ : ∃ rb, rightU u = rb := ⟨_, rfl⟩
        rw [hr] at hcall
        have Hrb := Lib.hid hr
        clear hr hok
        unfold Usr.val at hcall
        cases rb
        · have Hcall := Lib.hid hcall
          clear hcall
          go_wp2
          unfold boxU at e0 e1 e2 e3 e4 e5
          refine wp_region_up (by kernel_rfl) (by kernel_rfl) ?_
          repeat (go_big_quiet_step ((go_at_call 23; refine Calls.up_of (Hcall.out _))))
          refine wpQuiet_nil ?_
          intro _ hw'
          obtain ⟨pq, hw''⟩ := hw'
          subst hw''
          have hbq : Below wr.heap.size wr pq.w := hb1.trans (pq.le.mono hb1.size)
          generalize pq.w = wq at hbq ⊢
          clear e0 e1 e2 e3 e4 e5 hb1 pq
          have Hf := Lib.hid (show rightF [] us = false by rw [← Hn.out, Htn.out.2]; unfold rightF; rw [Hrb.out]; rfl)
          go_wp2
          go_ret
          exact ⟨ret_bool (by rw [Hr.out, Hf.out]), hB.trans (hbq.mono hB.size)⟩
        · have Hcall := Lib.hid hcall
          clear hcall
          obtain ⟨nb, hn⟩ : ∃ nb, (us.take k).any (qName u.name) = nb := ⟨_, rfl⟩
          have hname : ∀ p : UpW (wr.alloc (boxU u)), Calls Tryz.prog 24 #[.slice (some ⟨b, off, none⟩) k cap, .string u.name] p.w fun e w' => e = .returned (.bool nb) ∧ Below p.w.heap.size p.w w' := by
            subst hn
            exact fun p => hasName_any _ _ _ _ _ _ (hin1.out.below p.le (Nat.le_refl _)) (by unfold maxLen; omega)
          have Hnb := Lib.hid hn
          have Hname := Lib.hid hname
          clear hn hname
          go_wp2
          unfold boxU at e0 e1 e2 e3 e4 e5
          refine wp_region_up (by kernel_rfl) (by kernel_rfl) ?_
          repeat (go_big_quiet_step ((first | (go_at_call 23; refine Calls.up_of (Hcall.out _)) | (go_at_call 24; refine Calls.up_of (Hname.out _)))))
          refine wpQuiet_nil ?_
          intro _ hw'
          obtain ⟨pq, hw''⟩ := hw'
          subst hw''
          have hbq : Below wr.heap.size wr pq.w := hb1.trans (pq.le.mono hb1.size)
          generalize pq.w = wq at hbq ⊢
          clear e0 e1 e2 e3 e4 e5 hb1 pq Hname hin1
          cases nb
          · have Hf := Lib.hid (show rightF (us.take (k + 1)) (us.drop (k + 1)) = rightF [] us by
              rw [← Hn.out, Htn.out.2, Htn.out.1]
              show _ = (rightU u && (!(us.take k).any (qName u.name) && rightF (us.take k ++ [u]) (us.drop (k + 1))))
              rw [Hrb.out, Hnb.out]; rfl)
            go_wp2
            go_roundw
            case rel => exact ⟨k + 1, by omega, by go_num, hB.trans (hbq.mono hB.size), Hf.out⟩
            case measure => simp [intOf]; omega
          · have Hf := Lib.hid (show rightF [] us = false by
              rw [← Hn.out, Htn.out.2]
              show (rightU u && (!(us.take k).any (qName u.name) && _)) = false
              rw [Hrb.out, Hnb.out]; rfl)
            go_wp2
            go_ret
            exact ⟨ret_bool (by rw [Hr.out, Hf.out]), hB.trans (hbq.mono hB.size)⟩
      · obtain rfl : k = us.length := by omega
        have Hf := Lib.hid (show rightF [] us = true by rw [← Hn.out, List.drop_length]; cases us.take us.length <;> rfl)
        go_wp2
        go_ret
        exact ⟨ret_bool (by rw [Hr.out, Hf.out]), hB⟩
end Go.Proofs.YtjopmchbphjliaaGreatDoor
