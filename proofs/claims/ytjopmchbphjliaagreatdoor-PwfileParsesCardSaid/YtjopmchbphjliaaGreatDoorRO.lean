/- Contract of the document's Parse. -/
import Derived.Test.YtjopmchbphjliaaGreatDoorRN
import Derived.Test.YtjopmchbphjliaaGreatDoorRQ
import Derived.Test.YtjopmchbphjliaaGreatDoorD1
import Derived.Test.YtjopmchbphjliaaGreatDoorG2
namespace Go.Proofs.YtjopmchbphjliaaGreatDoor
open Go.RowKit Go.Shelf
set_option linter.unusedVariables false

theorem rparse_res (W : World) (v : Value) (k e : Int) (tmps : Array Value) (h2 : tmps.getD 2 undef = v) (h3 : tmps.getD 3 undef = .int .i64 k) (h4 : tmps.getD 4 undef = .int .i64 e) :
    (results Tryz.f7 tmps).run Tryz.prog W = .ok (.tuple #[v, .int .i64 k, .int .i64 e]) W := by
  simp only [Array.getD_eq_getD_getElem?] at h2 h3 h4
  simp only [results, Tryz.f7]
  simp [go_sem, h2, h3, h4]
/-- what holds at the head of the loop over lines. -/
def roRel (s : ByteArray) (B : Nat) (w : World) (ov fv nv : Value) (wr : World) : Prop :=
  ∃ (us : List Usr) (f : Nat), f ≤ s.size ∧ fv = .int .i64 f ∧ nv = .int .i64 ((us.length : Int) + 1) ∧ rpI s.data.toList us f ∧ wr.ownsRow B 29 6 ov us.length (usCells us) ∧ Below B w wr
/-- between from and to no line ends. -/
def toRel (s : ByteArray) (f : Nat) (tv : Value) : Prop := ∃ t : Nat, f ≤ t ∧ t ≤ s.size ∧ tv = .int .i64 t ∧ ∀ j, f ≤ j → j < t → s.data.toList[j]? ≠ some 10
theorem to_next {l : List UInt8} {f t : Nat} {c : UInt8} (h : ∀ j, f ≤ j → j < t → l[j]? ≠ some 10) (hc : l[t]? = some c) (hne : c ≠ 10) : ∀ j, f ≤ j → j < t + 1 → l[j]? ≠ some 10 := by
  intro j h1 h2
  by_cases e : j = t
  · subst e; rw [hc]; intro e2; exact hne (Option.some.inj e2)
  · exact h j h1 (by omega)
theorem parse_fin {s : ByteArray} {w W : World} {us : List Usr} {k e : Nat} (hs : ¬ 4096 < s.size) (h : goU [] ((linesS s.data.toList).map mkB) = (us, k, e)) {v : Value} (hrow : W.ownsRow w.heap.size 29 6 v us.length (usCells us)) (hb : Below w.heap.size w W)
    (tmps : Array Value) (h2 : tmps.getD 2 undef = v) (h3 : tmps.getD 3 undef = .int .i64 (k : Int)) (h4 : tmps.getD 4 undef = .int .i64 (e : Int)) :
    bodyPost Tryz.prog Tryz.f7 (ParsePost (parseR s) w) Exit.ret { tmps := tmps, defers := [] } W := by
  have hr : parseR s = (us, k, e) := by unfold parseR; rw [if_neg hs]; exact h
  refine bodyPost_ret (rparse_res W v _ _ tmps h2 h3 h4) rfl ⟨v, by rw [hr]; rfl, by rw [hr]; exact hrow, hb⟩
theorem ro_step {s : ByteArray} {B t : Nat} {w wr w2 w3 : World} {us : List Usr} {u : Usr} {v v' : Value} (hB : w.heap.size = B) (ht : t < s.size) (hR : Hid (rpI s.data.toList (us ++ [u]) (t + 1)))
    (hown : wr.ownsRow B 29 6 v us.length (usCells us)) (hbel : Below B w wr) (h1 : Below wr.heap.size wr w2)
    (hown' : w3.ownsRow B 29 6 v' (us.length + 1) (usCells us ++ u.cells)) (hgrow : w2.grownBy w3 v.ownBlock) : roRel s B w v' (.int .i64 ((t : Int) + 1)) (.int .i64 ((us.length : Int) + 1 + 1)) w3 := by
  subst hB
  refine ⟨us ++ [u], t + 1, by omega, by go_num, by rw [List.length_append]; exact congrArg (Value.int .i64) (by simp), hR.out, ?_, ?_⟩
  · rw [List.length_append]
    have : usCells (us ++ [u]) = usCells us ++ u.cells := by unfold usCells; rw [List.flatMap_append]; simp
    rw [this]; exact hown'
  · have hb1 : Below w.heap.size w w2 := hbel.trans (h1.mono hbel.size)
    exact hb1.grown hgrow hb1.size (fun k e => (hown.lt k e).1)
set_option maxRecDepth 100000 in
set_option maxHeartbeats 6400000 in
theorem rparse_any (s : ByteArray) (hs : s.size ≤ maxLen) (w : World) : Calls Tryz.prog 7 #[.string s] w (ParsePost (parseR s) w) := by
  unfold maxLen at hs
  by_cases h4 : 4096 < s.size
  · have Hr := Lib.hid (show parseR s = ([], 0, 10) by unfold parseR; rw [if_pos h4])
    go_enter Tryz.func7, Tryz.ntmps7
    go_wp2
    exact bodyPost_ret (rparse_res _ _ _ _ _ rfl rfl rfl) rfl ⟨.slice none 0 0, by rw [Hr.out]; rfl, by rw [Hr.out]; exact World.ownsRow_nil _ _ _ _, Below.refl _ _⟩
  · obtain ⟨i0, hi, hz0, hz1, hz2⟩ := info_parts Tryz.infoUser
    obtain ⟨B, hB⟩ : ∃ B, w.heap.size = B := ⟨_, rfl⟩
    have HB := Lib.hid hB
    clear hB
    go_enter Tryz.func7, Tryz.ntmps7
    go_wp2
    go_loopw [5, 6, 7] (fun ov fv nv wr => roRel s B w ov fv nv wr) (fun _ fv _ _ => s.size - (intOf fv).toNat)
    case atStart => exact ⟨[], 0, Nat.zero_le _, rfl, rfl, rp_start _, World.ownsRow_nil _ _ _ _, by rw [← HB.out]; exact Below.refl _ _⟩
    case round =>
      obtain ⟨us, f, hf, rfl, rfl, hR, hown, hbel⟩ := hrel
      have HR := Lib.hid hR
      have Hown := Lib.hid hown
      have Hbel := Lib.hid hbel
      have hsz := hbel.size
      rw [HB.out] at hsz
      have h8 : us.length ≤ 8 := hR.2.1
      clear hR hown hbel
      by_cases hlt : f < s.size
      · go_wp2
        go_loop [8] (fun tv => toRel s f tv) (fun tv => s.size - (intOf tv).toNat)
        case atStart => exact ⟨f, Nat.le_refl _, hf, rfl, fun j h1 h2 => absurd h2 (by omega)⟩
        case round =>
          obtain ⟨t, hft, hts, rfl, hno⟩ := hrel
          have Hno := Lib.hid hno
          clear hno
          by_cases htl : t < s.size
          · have hget := get_at s t htl
            by_cases hc : s[t] = 10
            · have h10 : (((s[t].toNat : Int) != 10) : Bool) = false := u8_nn _ 10 hc
              rw [hc] at hget
              have Hget := Lib.hid hget
              clear hget hc
              obtain ⟨x, hx⟩ : ∃ x, lnB ((s.data.toList.take t).drop f) = x := ⟨_, rfl⟩
              have hxe : lnB (s.extract f t).data.toList = x := by rw [← hx, ← ext_str s f t (by omega)]
              have hpc : (s.extract f t).size ≤ 4096 := by rw [ByteArray.size_extract]; omega
              have hcall := ruser_any (s.extract f t) hpc
              rw [hxe] at hcall
              have hne : (((t : Int) == (s.size : Int)) : Bool) = false := by rw [beq_eq_false_iff_ne]; omega
              cases hu : userS x with
              | none =>
                have Hd := Lib.hid (rp_err HR.out hft Hget.out Hno.out hx (by decide) (next_none hu))
                obtain ⟨v, hv⟩ : ∃ v : Usr, noUsr = v := ⟨_, rfl⟩
                rw [hu, show optV none = .tuple #[v.val, .bool false] from by rw [← hv]; rfl] at hcall
                unfold Usr.val at hcall
                have Hcall := Lib.hid hcall
                clear hcall hu hv hx hxe hpc
                go_wp2_with fail
                refine (Hcall.out _).mono ?_
                rintro e w1 ⟨rfl, hz⟩
                have hb2 : Below B w (w1.alloc (boxU v)) := (next Hbel.out hsz hz).alloc (Nat.le_trans hsz hz.size) _
                unfold boxU at hb2
                clear hz
                go_wp2
                exact parse_fin h4 Hd.out (v := .slice none 0 0) (World.ownsRow_nil _ _ _ _) (by rw [HB.out]; exact hb2) _ rfl rfl rfl
              | some u =>
                have Hu := Lib.hid hu
                have Hx := Lib.hid hx
                rw [hu, show optV (some u) = .tuple #[u.val, .bool true] from rfl] at hcall
                unfold Usr.val at hcall
                have Hcall := Lib.hid hcall
                obtain ⟨p, cap, rfl⟩ := row_slice Hown.out
                clear hcall hu hx hxe hpc
                go_wp2_with fail
                refine (Hcall.out _).mono ?_
                rintro e w1 ⟨rfl, hz⟩
                have hz2 : Below wr.heap.size wr (w1.alloc (boxU u)) := hz.alloc hz.size _
                have hu1 : UBlk (w1.alloc (boxU u)) w1.heap.size u := Blk.new w1 29 _
                unfold boxU at hz2 hu1
                clear hz
                have q0 := hu1.at.1
                go_wp2_with fail
                generalize w1.alloc (.cells #[.string u.name, .string u.pass, .int .i64 u.id, .int .i64 u.grp, .string u.home, .string u.shell] 29) = w2 at hz2 hu1 q0 ⊢
                generalize w1.heap.size = U at hu1 q0 ⊢
                clear q0
                have hrow2 := row_below Hown.out hz2
                obtain ⟨hin, -, hcap, hcm⟩ := InUsers.of_row hrow2 (fun u hu => right_ok (HR.out.2.2 u hu))
                have cf := rfind_any p us.length cap us u.name w2 hin (Nat.le_trans hcap hcm)
                unfold foundV Usr.val at cf
                generalize findU (qName u.name) us = v at cf
                clear hin hcap hcm
                cases ha : us.any (qName u.name)
                · rw [ha] at cf
                  have Ha := Lib.hid ha
                  clear ha
                  refine cf.mono ?_
                  rintro e w3 ⟨rfl, hz3⟩
                  have hz4 : Below w2.heap.size w2 (w3.alloc (boxU v)) := hz3.alloc hz3.size _
                  unfold boxU at hz4
                  clear cf
                  by_cases he8 : us.length = 8
                  · have Hd := Lib.hid (rp_err HR.out hft Hget.out Hno.out Hx.out (by decide) (next_many Hu.out Ha.out he8))
                    have h88 : (((us.length : Int) == 8) : Bool) = true := by rw [beq_iff_eq]; omega
                    have hb2 := (next (next Hbel.out hsz hz2) (Nat.le_trans hsz hz2.size) hz4)
                    clear hz2 hz4 he8
                    go_wp2
                    exact parse_fin h4 Hd.out (v := .slice none 0 0) (World.ownsRow_nil _ _ _ _) (by rw [HB.out]; exact hb2) _ rfl rfl rfl
                  · have h88 : (((us.length : Int) == 8) : Bool) = false := by rw [beq_eq_false_iff_ne]; omega
                    have hl8 : us.length < 8 := by omega
                    have HR2 := Lib.hid (rp_next HR.out hft Hget.out Hno.out Hx.out Hu.out Ha.out hl8)
                    have hu4 := Blk.below hu1 hz4 hu1.at.lt
                    have hneU : U ≠ w3.heap.size := by have h1 := hu1.at.lt; have h2 := hz3.size; omega
                    have hrow4 := row_below hrow2 hz4
                    have hz5 := next hz2 hz2.size hz4
                    clear hz2 hz3 hz4 hrow2 hu1 he8
                    have hu4' : UBlk (w3.alloc (.cells #[.string v.name, .string v.pass, .int .i64 v.id, .int .i64 v.grp, .string v.home, .string v.shell] 29)) U u := hu4
                    obtain ⟨c0, c1, c2, c3, c4, c5⟩ := hu4'.at
                    have hc6 := cells6_new (w3.alloc (.cells #[.string v.name, .string v.pass, .int .i64 v.id, .int .i64 v.grp, .string v.home, .string v.shell] 29)) u
                    have hsz4 : B ≤ (w3.alloc (.cells #[.string v.name, .string v.pass, .int .i64 v.id, .int .i64 v.grp, .string v.home, .string v.shell] 29)).heap.size := Nat.le_trans hsz hz5.size
                    have hne4 : U ≠ w3.heap.size := hneU
                    rw [World.size_alloc] at hc6 hsz4
                    have Hc6 := Lib.hid hc6
                    have Hrow4 := Lib.hid hrow4
                    have Hz5 := Lib.hid hz5
                    have Hsz4 := Lib.hid hsz4
                    clear hc6 hrow4 hz5 hu4 hu4' hsz4 hneU
                    go_wp2_with (at_builtin; refine wpList_append_own _ rfl _ _ 23 rfl B 29 i0 (.agg #[.string ByteArray.empty, .string ByteArray.empty, .int .i64 0, .int .i64 0, .string ByteArray.empty, .string ByteArray.empty]) 6 80 Tryz.underlying23 hi hz0 hz1 hz2 rfl (by decide) _ _ _ rfl (Hrow4.out.alloc _) ⟨w3.heap.size + 1, 0, none⟩ 1 1 u.cells rfl rfl Hc6.out (cells6_one u) (by unfold maxLen; omega) (by omega) (by have := Hsz4.out; simp; omega) ?_; intro v' w5 hown' hgrow _; have R := ro_step HB.out htl HR2 Hown.out Hbel.out (Hz5.out.alloc Hz5.out.size _) hown' hgrow; clear hown' hgrow)
                    go_roundw
                    case rel => exact R
                    case measure => simp [intOf]; omega
                · rw [ha] at cf
                  have Hd := Lib.hid (rp_err HR.out hft Hget.out Hno.out Hx.out (by decide) (next_is Hu.out ha))
                  clear ha
                  refine cf.mono ?_
                  rintro e w3 ⟨rfl, hz3⟩
                  have hz4 : Below w2.heap.size w2 (w3.alloc (boxU v)) := hz3.alloc hz3.size _
                  unfold boxU at hz4
                  have hb2 := (next (next Hbel.out hsz hz2) (Nat.le_trans hsz hz2.size) hz4)
                  clear cf hz3 hz2 hz4
                  go_wp2
                  exact parse_fin h4 Hd.out (v := .slice none 0 0) (World.ownsRow_nil _ _ _ _) (by rw [HB.out]; exact hb2) _ rfl rfl rfl
            · have h10 : (((s[t].toNat : Int) != 10) : Bool) = true := u8_ne _ 10 hc
              have Hn := Lib.hid (to_next Hno.out hget hc)
              clear hget hc
              go_wp2
              go_round
              case rel => exact ⟨t + 1, by omega, by omega, by go_num, Hn.out⟩
              case measure => simp [intOf]; omega
          · obtain rfl : t = s.size := by omega
            have hpc : (s.extract f s.size).size ≤ 4096 := by rw [ByteArray.size_extract]; omega
            have hcall := ruser_any (s.extract f s.size) hpc
            generalize userS (lnB (s.extract f s.size).data.toList) = o at hcall
            have Hd := Lib.hid (rp_tail HR.out (by rw [size_len]; exact hlt) (by rw [size_len]; exact Hno.out))
            unfold optV at hcall
            obtain ⟨v, hv⟩ : ∃ v, o.getD noUsr = v := ⟨_, rfl⟩
            obtain ⟨b, hb⟩ : ∃ b, o.isSome = b := ⟨_, rfl⟩
            rw [hv, hb] at hcall
            unfold Usr.val at hcall
            have Hcall := Lib.hid hcall
            clear hcall hv hb hpc
            go_wp2_with fail
            refine (Hcall.out _).mono ?_
            rintro e w1 ⟨rfl, hz⟩
            have hb2 : Below B w (w1.alloc (boxU v)) := (next Hbel.out hsz hz).alloc (Nat.le_trans hsz hz.size) _
            unfold boxU at hb2
            clear hz
            cases b
            all_goals
              go_wp2
              exact parse_fin h4 Hd.out (v := .slice none 0 0) (World.ownsRow_nil _ _ _ _) (by rw [HB.out]; exact hb2) _ rfl rfl rfl
      · have Hd := Lib.hid (rp_end HR.out (by rw [size_len]; omega))
        have Ho := Lib.hid (show wr.ownsRow w.heap.size 29 6 _ us.length (usCells us) by rw [HB.out]; exact Hown.out)
        go_wp2
        exact parse_fin h4 Hd.out Ho.out (by rw [HB.out]; exact Hbel.out) _ rfl rfl rfl
end Go.Proofs.YtjopmchbphjliaaGreatDoor
