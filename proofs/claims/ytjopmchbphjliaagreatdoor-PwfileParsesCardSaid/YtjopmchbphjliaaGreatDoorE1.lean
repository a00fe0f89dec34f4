/- '==' of two users; contract of the document's Same. -/
import Derived.Test.YtjopmchbphjliaaGreatDoorR3
import Derived.Laws.StructEq
import Derived.Shelf.SlicesE.Kit
namespace Go.Proofs.YtjopmchbphjliaaGreatDoor
open Go.RowKit Go.Shelf

def eqU (u v : Usr) : Bool := u.name.toList == v.name.toList && (u.pass.toList == v.pass.toList && (u.id == v.id && (u.grp == v.grp && (u.home.toList == v.home.toList && u.shell.toList == v.shell.toList))))
theorem eqU_iff (u v : Usr) : eqU u v = true ↔ u = v := by
  unfold eqU
  simp only [Bool.and_eq_true, beq_iff_eq, ByteArray.toList_eq]
  constructor
  · rintro ⟨h1, h2, h3, h4, h5, h6⟩
    obtain ⟨a, b, c, d, e, f⟩ := u
    obtain ⟨a', b', c', d', e', f'⟩ := v
    simp only at h1 h2 h3 h4 h5 h6
    rw [Mx.list_eq _ _ h1, Mx.list_eq _ _ h2, h3, h4, Mx.list_eq _ _ h5, Mx.list_eq _ _ h6]
  · rintro rfl; simp
set_option maxHeartbeats 1000000 in
theorem equal_user (u v : Usr) (w : World) : (Op.equalIn 10000 29 u.val v.val).run Tryz.prog w = .ok (eqU u v) w := by
  have hS : Tryz.prog.underlying 29 = some (.struct (Tryz.prog.fieldsOf 29)) := by kernel_rfl
  have hp : Tryz.prog.stoodInHeld 29 = false := by kernel_rfl
  unfold Usr.val
  rw [show (10000 : Nat) = 9999 + 1 from rfl, run_equalIn_agg w 9999 _ _ _ hS hp]
  simp only [Program.fieldsOf, Tryz.underlying29]
  unfold eqU
  go_simp
  by_cases h1 : u.name.toList = v.name.toList
  · by_cases h2 : u.pass.toList = v.pass.toList
    · by_cases h3 : u.id = v.id
      · by_cases h4 : u.grp = v.grp
        · by_cases h5 : u.home.toList = v.home.toList
          · by_cases h6 : u.shell.toList = v.shell.toList
            · simp [h1, h2, h3, h4, h5, h6]
            · simp [h1, h2, h3, h4, h5, h6]
          · simp [h1, h2, h3, h4, h5]
        · simp [h1, h2, h3, h4]
      · simp [h1, h2, h3]
    · simp [h1, h2]
  · simp [h1]
theorem guard_user (op : BinOp) (a b : Operand) (u v : Usr) (w : World) : (eqGuard op 29 a b u.val v.val).run Tryz.prog w = .ok () w := run_eqGuard_agg w op _ a b _ _ (by kernel_rfl)
def sameF : List Usr → List Usr → Bool
  | u :: us, v :: vs => eqU u v && sameF us vs
  | _, _ => true
/-- are two lists of users the same? -/
def sameS (us vs : List Usr) : Bool := us.length == vs.length && sameF us vs
theorem sameF_iff : ∀ (us vs : List Usr), us.length = vs.length → (sameF us vs = true ↔ us = vs)
  | [], [], _ => by simp [sameF]
  | [], v :: vs, h => by simp at h
  | u :: us, [], h => by simp at h
  | u :: us, v :: vs, h => by
    rw [sameF, Bool.and_eq_true, eqU_iff, sameF_iff us vs (by simpa using h)]
    simp
theorem sameS_iff (us vs : List Usr) : sameS us vs = true ↔ us = vs := by
  unfold sameS
  rw [Bool.and_eq_true, beq_iff_eq]
  constructor
  · rintro ⟨h1, h2⟩; exact (sameF_iff us vs h1).1 h2
  · rintro rfl; exact ⟨rfl, (sameF_iff us us rfl).2 rfl⟩
theorem sameF_step (us vs : List Usr) (k : Nat) (u v : Usr) (hu : us[k]? = some u) (hv : vs[k]? = some v) : sameF (us.drop k) (vs.drop k) = (eqU u v && sameF (us.drop (k + 1)) (vs.drop (k + 1))) := by
  rw [(take_next us k u hu).2, (take_next vs k v hv).2, sameF]
def saRel (us vs : List Usr) (w : World) (i : Value) (wr : World) : Prop := ∃ k : Nat, k ≤ us.length ∧ i = .int .i64 k ∧ Dr w wr ∧ sameF (us.drop k) (vs.drop k) = sameF us vs
theorem at_drew {w : World} {b o n : Nat} {u : Usr} (h : UAt w b o u) : UAt (w.drewN n) b o u := h
set_option maxRecDepth 100000 in
set_option maxHeartbeats 3200000 in
theorem same_any (p q : Option Addr) (n m cap cap2 : Nat) (us vs : List Usr) (w : World) (hin : InUsers w p n us) (hin2 : InUsers w q m vs) (hn : n ≤ maxLen) (hm : m ≤ maxLen) :
    Calls Tryz.prog 9 #[.slice p n cap, .slice q m cap2] w fun e w' => e = .returned (.bool (sameS us vs)) ∧ Dr w w' := by
  have hlen := hin.1
  have hlen2 := hin2.1
  unfold maxLen at hn hm
  by_cases hnm : n = m
  · have Hr := Lib.hid (show sameS us vs = sameF us vs by unfold sameS; rw [hlen, hlen2, hnm]; simp)
    subst hnm
    have Hin := Lib.hid hin
    have Hin2 := Lib.hid hin2
    have Hl2 := Lib.hid hlen2
    clear hin hin2 hlen2
    subst hlen
    go_enter Tryz.func9, Tryz.ntmps9
    go_wp2
    go_loopw [5] (fun i wr => saRel us vs w i wr) (fun i _ => us.length - (intOf i).toNat)
    case atStart => exact ⟨0, Nat.zero_le _, rfl, Dr.refl _, rfl⟩
    case round =>
      obtain ⟨k, hk, rfl, ⟨nd, rfl⟩, hf⟩ := hrel
      by_cases hlt : k < us.length
      · have hu : us[k]? = some us[k] := List.getElem?_eq_getElem hlt
        have hlt2 : k < vs.length := by have := Hl2.out; omega
        have hv : vs[k]? = some vs[k] := List.getElem?_eq_getElem hlt2
        obtain ⟨ok1, b, off, hpp, hc⟩ := Hin.out.2 k _ hu
        obtain ⟨ok2, b2, off2, hqq, hc2⟩ := Hin2.out.2 k _ hv
        have hstep := sameF_step us vs k _ _ hu hv
        clear ok1 ok2
        generalize us[k] = u at hu hc hstep
        generalize vs[k] = v at hv hc2 hstep
        subst hpp hqq
        obtain ⟨c0, c1, c2, c3, c4, c5⟩ := at_drew (n := nd) hc
        obtain ⟨d0, d1, d2, d3, d4, d5⟩ := at_drew (n := nd) hc2
        obtain ⟨wq, hwq⟩ : ∃ wq, w.drewN nd = wq := ⟨_, rfl⟩
        have heq := equal_user u v
        have hgd := fun op a b => guard_user op a b u v
        have Hf := Lib.hid hf
        clear hu hv hc hc2 hlt2 hf
        cases he : eqU u v
        · have Hs := Lib.hid (show sameF us vs = false by rw [← Hf.out, hstep, he]; rfl)
          rw [he] at heq
          unfold Usr.val at heq hgd
          rw [hwq] at c0 c1 c2 c3 c4 c5 d0 d1 d2 d3 d4 d5 ⊢
          have Hwq := Lib.hid hwq
          clear hstep he hwq
          go_wp2_with fail
          go_quiet (fail)
          go_wp2
          go_ret
          exact ⟨ret_bool (by rw [Hr.out, Hs.out]), nd + nq, by rw [← World.drewN_drewN, Hwq.out]⟩
        · have Hs := Lib.hid (show sameF (us.drop (k + 1)) (vs.drop (k + 1)) = sameF us vs by rw [← Hf.out, hstep, he]; rfl)
          rw [he] at heq
          unfold Usr.val at heq hgd
          rw [hwq] at c0 c1 c2 c3 c4 c5 d0 d1 d2 d3 d4 d5 ⊢
          have Hwq := Lib.hid hwq
          clear hstep he hwq
          go_wp2_with fail
          go_quiet (fail)
          go_wp2
          go_roundw
          case rel => exact ⟨k + 1, by omega, by go_num, ⟨nd + nq, by rw [← World.drewN_drewN, Hwq.out]⟩, Hs.out⟩
          case measure => simp [intOf]; omega
      · have Hs := Lib.hid (show sameF us vs = true by rw [← hf, List.drop_of_length_le (show us.length ≤ k by omega)]; cases vs.drop k <;> rfl)
        clear hf
        go_wp2
        go_ret
        exact ⟨ret_bool (by rw [Hr.out, Hs.out]), nd, rfl⟩
  · have Hr := Lib.hid (show sameS us vs = false by unfold sameS; rw [hlen, hlen2, beq_eq_false_iff_ne.2 hnm]; rfl)
    have hne : (((n : Int) != (m : Int)) : Bool) = true := by rw [bne_iff_ne]; omega
    clear hin hin2 hlen hlen2
    go_enter Tryz.func9, Tryz.ntmps9
    go_wp2
    go_ret
    exact ⟨ret_bool Hr.out.symm, Dr.refl _⟩
end Go.Proofs.YtjopmchbphjliaaGreatDoor
