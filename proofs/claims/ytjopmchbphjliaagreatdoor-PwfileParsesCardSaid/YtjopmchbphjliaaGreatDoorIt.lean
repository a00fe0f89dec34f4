/- The lines of a text; the iterator over them. -/
import Derived.Test.YtjopmchbphjliaaGreatDoorRb
import Derived.Test.YtjopmchbphjliaaGreatDoorL5
namespace Go.Proofs.YtjopmchbphjliaaGreatDoor
open Go.RowKit Go.Shelf
attribute [local go_sem] Oper.semAt_some

/-- the lines, each with its line feed, if it has one. -/
def linesS : List UInt8 → List (List UInt8)
  | [] => []
  | c :: r => if c = 10 then [10] :: linesS r else
    match linesS r with
    | [] => [[c]]
    | p :: ps => (c :: p) :: ps
theorem lines_eq (r : List UInt8) : linesS (10 :: r) = [10] :: linesS r := by rw [linesS, if_pos rfl]
theorem lines_app (a r : List UInt8) (h : ∀ x ∈ a, x ≠ 10) : linesS (a ++ 10 :: r) = (a ++ [10]) :: linesS r := by
  induction a with
  | nil => exact lines_eq r
  | cons b t ih =>
    rw [List.cons_append, linesS, if_neg (h b (by simp)), ih (fun x hx => h x (by simp [hx]))]; rfl
theorem lines_last (a : List UInt8) (h : ∀ x ∈ a, x ≠ 10) (h0 : a ≠ []) : linesS a = [a] := by
  induction a with
  | nil => exact absurd rfl h0
  | cons b t ih =>
    rw [linesS, if_neg (h b (by simp))]
    cases t with
    | nil => rfl
    | cons c r => rw [ih (fun x hx => h x (by simp [hx])) (by simp)]
/-- the first line, and what stands behind it, by where the first line feed is. -/
theorem lines_hit (l : List UInt8) (k : Nat) (h : Lib.indexByte l 10 = k) : k < l.length ∧ linesS l = l.take (k + 1) :: linesS (l.drop (k + 1)) := by
  obtain ⟨h1, h2⟩ := Lib.indexByte_some h
  obtain ⟨hk, he⟩ := List.getElem?_eq_some_iff.1 h1
  refine ⟨hk, ?_⟩
  have hsp : l = l.take k ++ 10 :: l.drop (k + 1) := by
    have := List.take_append_drop k l
    rw [List.drop_eq_getElem_cons hk, he] at this; exact this.symm
  have hno : ∀ x ∈ l.take k, x ≠ 10 := by
    intro x hx e
    subst e
    obtain ⟨j, hj⟩ := List.getElem?_of_mem hx
    have hjk : j < k := by have := (List.getElem?_eq_some_iff.1 hj).1; rw [List.length_take] at this; omega
    rw [List.getElem?_take_of_lt hjk] at hj
    exact h2 j hjk hj
  have e1 := lines_app (l.take k) (l.drop (k + 1)) hno
  rw [← hsp] at e1
  rw [e1, List.take_succ_eq_append_getElem hk, he]
theorem lines_miss (l : List UInt8) (h : Lib.indexByte l 10 = -1) (h0 : l ≠ []) : linesS l = [l] := by
  refine lines_last l (fun x hx e => ?_) h0
  subst e
  obtain ⟨j, hj⟩ := List.getElem?_of_mem hx
  exact Lib.indexByte_none h j hj
theorem lines_len (l : List UInt8) : (linesS l).length ≤ l.length := by
  induction l with
  | nil => exact Nat.le_refl _
  | cons c r ih =>
    rw [linesS]
    by_cases h : c = 10
    · rw [if_pos h]; simp; omega
    · rw [if_neg h]
      cases hr : linesS r with
      | nil => simp
      | cons p ps => rw [hr] at ih; simp at ih ⊢; omega
/-- a line that is handed on. -/
def LineT : Type := { x : ByteArray // x.size ≤ 4096 }
def rowsOf (ys : List LineT) : List (List UInt8) := ys.map fun x => x.1.data.toList
theorem lines_in (n : Nat) (s : ByteArray) (w : World) :
    CallsIn Fence.wide n Tryz.prog 21 #[.string s] w fun e w' => e = .returned (.func (.func 36) #[] #[.pointer (some ⟨w.heap.size, 0, none⟩)]) ∧ w' = w.alloc (.cells #[.string s] 9) := by
  refine callsIn_of_wp Tryz.func21 rfl trivial ?_ rfl
  simp only [Tryz.ntmps21, List.size_toArray, List.length_cons, List.length_nil, Nat.reduceAdd, Nat.reduceSub, Array.replicate_succ, Array.replicate_zero, List.push_toArray, List.append_toArray, List.nil_append, List.cons_append]
  gi_wp2
  go_ret
  exact ⟨rfl, rfl⟩
def liRel (l : List UInt8) (Bn : Nat) (J : List LineT → World → Prop) (wr : World) : Prop :=
  ∃ (pre : List LineT) (t : ByteArray), Boxed wr Bn 9 (.string t) ∧ t.size ≤ 4096 ∧ linesS l = rowsOf pre ++ linesS t.data.toList ∧ J pre wr
def boxLen (Bn : Nat) (wr : World) : Nat :=
  match wr.cell? ⟨Bn, 0, none⟩ with
  | some (.string t) => t.size
  | _ => 0
theorem boxLen_at {Bn : Nat} {wr : World} {t : ByteArray} (h : Boxed wr Bn 9 (.string t)) : boxLen Bn wr = t.size := by
  unfold boxLen; rw [h.cell]
theorem ab_draw {J : List LineT → World → Prop} {Bn : Nat} (hJ : AbBox Bn J) {pre : List LineT} {W : World} (h : J pre W) : J pre W.drew :=
  hJ pre W _ none h ⟨rfl, rfl, rfl, Nat.le_refl _, fun _ _ _ => rfl⟩ (fun r e => by cases e)
theorem ab_set {J : List LineT → World → Prop} {Bn : Nat} (hJ : AbBox Bn J) {pre : List LineT} {W : World} (h : J pre W) (v : Value) : J pre (W.setCell ⟨Bn, 0, none⟩ v) :=
  hJ pre W _ (some Bn) h (grownBy_setCell' W Bn v) (fun _ e => (Option.some.inj e).symm)
theorem index10 (t : ByteArray) (v : Int) (hv : Lib.indexByte t.data.toList 10 = v) (w : World) :
    Calls Tryz.prog 37 #[.string t, .int .u8 10] w fun e w' => e = .returned (.int .i64 v) ∧ w = w' :=
  (Tryz.strings_IndexByte t 10 w).mono fun e w' ⟨he, hw⟩ => ⟨by rw [he, ← hv]; rfl, hw.symm⟩
theorem li_len {s : ByteArray} {pre : List LineT} {x : List UInt8} {r : List (List UInt8)} (h : linesS s.data.toList = rowsOf pre ++ (x :: r)) : pre.length < (linesS s.data.toList).length := by
  rw [h, List.length_append]; unfold rowsOf; simp
theorem li_next {s : ByteArray} {pre : List LineT} {x : LineT} {r : List (List UInt8)} (h : linesS s.data.toList = rowsOf pre ++ (x.1.data.toList :: r)) : linesS s.data.toList = rowsOf (pre ++ [x]) ++ r := by
  rw [h]; unfold rowsOf; simp
set_option maxRecDepth 100000 in
set_option maxHeartbeats 1600000 in
theorem lines_seq (n : Nat) (hn : 1 ≤ n) (Bn : Nat) (s : ByteArray) (hs : s.size ≤ 4096) (w : World) (hbox : Boxed w Bn 9 (.string s)) :
    SeqBox n Tryz.prog 36 #[.pointer (some ⟨Bn, 0, none⟩)] (fun x : LineT => #[Value.string x.1]) (fun ys => rowsOf ys = linesS s.data.toList) (fun pre => rowsOf pre <+: linesS s.data.toList) (linesS s.data.toList).length Bn w := by
  intro l J Jx W hW hJ hJx hY h0
  have hBn := hbox.lt
  have hbox2 : Boxed W Bn 9 (.string s) := (hW.block Bn hBn).trans hbox
  refine callsIn_of_wp Tryz.func36 rfl trivial ?_ rfl
  simp only [Tryz.ntmps36, List.size_toArray, List.length_cons, List.length_nil, Nat.reduceAdd, Nat.reduceSub, Array.replicate_succ, Array.replicate_zero, List.push_toArray, List.append_toArray, List.nil_append, List.cons_append]
  gi_wp2
  gi_loopw [3] (fun _ wr => liRel s.data.toList Bn J wr) (fun _ wr => boxLen Bn wr)
  case atStart => exact ⟨[], s, hbox2, hs, rfl, h0⟩
  case round =>
    obtain ⟨pre, t, hb, ht, hx, hJs⟩ := hrel
    have hc := hb.cell
    have hf := hb.frozen
    have Hb := Lib.hid hb
    have Hm := Lib.hid (boxLen_at hb)
    clear hb
    by_cases h0t : t.size = 0
    · have htl : t.data.toList = [] := List.length_eq_zero_iff.1 (by rw [size_len]; exact h0t)
      have hx2 : linesS s.data.toList = rowsOf pre := by rw [hx, htl]; exact List.append_nil _
      have Hx := Lib.hid hx2
      clear hx hx2 htl
      gi_wp2
      go_end0
      exact ⟨⟨_, rfl⟩, .inl ⟨pre, Hx.out.symm, hJs⟩⟩
    · have hpos : 0 < t.size := by omega
      have Hx := Lib.hid hx
      clear hx h0t
      have hne : t.data.toList ≠ [] := fun e => by have := size_len t; rw [e] at this; simp at this; omega
      have hge := Lib.indexByte_ge t.data.toList 10
      by_cases hi : Lib.indexByte t.data.toList 10 = -1
      · have hl1 : linesS s.data.toList = rowsOf pre ++ (t.data.toList :: []) := by rw [Hx.out, lines_miss _ hi hne]
        have hlen := li_len hl1
        have Hn := Lib.hid (li_next (x := ⟨t, ht⟩) hl1)
        have Hi := Lib.hid hi
        clear hne hge hi hl1
        gi_wp2_with (refine ⟨trivial, ?_⟩; gi_at_call 37; refine (callsIn_wide.2 (index10 t _ Hi.out _)).mono ?_; rintro e w' ⟨rfl, rfl⟩)
        have hb2 := Boxed.set (.string ⟨#[]⟩) Hb.out
        have hY2 := hY pre ⟨t, ht⟩ _ (ab_set hJ hJs (.string ⟨#[]⟩)) hlen
        obtain ⟨fn, tmps, assign, body, hy, hR⟩ := hY2
        clear hlen hY
        rw [hy]
        gi_wp2
        refine hR.mono ?_
        rintro e W3 (⟨rfl, hJ3, hk3⟩ | ⟨rfl, hJx3⟩)
        · have hb3 : Boxed W3 Bn 9 (.string ⟨#[]⟩) := hk3.trans hb2
          gi_wp2
          go_roundw
          case rel => exact ⟨_, ⟨#[]⟩, hb3, Nat.zero_le _, by rw [Hn.out]; rfl, hJ3⟩
          case measure => rw [Hm.out, boxLen_at hb3]; exact hpos
        · gi_wp2
          refine bodyPost_ret (results_none rfl _ _ _) rfl ?_
          exact ⟨⟨_, rfl⟩, .inr ⟨_, ⟨_, Hn.out.symm⟩, hJx3⟩⟩
      · obtain ⟨k, hk⟩ : ∃ k : Nat, Lib.indexByte t.data.toList 10 = k := ⟨(Lib.indexByte t.data.toList 10).toNat, by omega⟩
        obtain ⟨hkl, hl0⟩ := lines_hit _ k hk
        rw [size_len] at hkl
        have Hi := Lib.hid hk
        have Hl := Lib.hid hl0
        clear hne hge hi hk hl0
        gi_wp2_with (refine ⟨trivial, ?_⟩; gi_at_call 37; refine (callsIn_wide.2 (index10 t _ Hi.out _)).mono ?_; rintro e w' ⟨rfl, rfl⟩)
        have hk64 : (k : Int) + 1 ≤ 9223372036854775807 := by omega
        refine wpIn_wide.2 ?_
        go_region
        have hb2 : Boxed (wr.setCell ⟨Bn, 0, none⟩ (.string (t.extract (k + 1) t.size))).drew Bn 9 (.string (t.extract (k + 1) t.size)) := Boxed.set (.string (t.extract (k + 1) t.size)) Hb.out
        have hJ2 : J pre (wr.setCell ⟨Bn, 0, none⟩ (.string (t.extract (k + 1) t.size))).drew := ab_draw hJ (ab_set hJ hJs (.string (t.extract (k + 1) t.size)))
        have ha : (t.extract 0 (k + 1)).data.toList = t.data.toList.take (k + 1) := by rw [extract_take]
        have hr : (t.extract (k + 1) t.size).data.toList = t.data.toList.drop (k + 1) := by rw [extract_drop]
        rw [← ha, ← hr] at Hl
        have has : (t.extract 0 (k + 1)).size ≤ 4096 := by rw [← size_len, ha, List.length_take, size_len]; omega
        have hrs : (t.extract (k + 1) t.size).size + (k + 1) = t.size := by rw [← size_len, hr, List.length_drop, size_len]; omega
        clear ha hr hk64 hf hc hJs
        generalize t.extract 0 (k + 1) = a at *
        generalize t.extract (k + 1) t.size = r at *
        generalize (wr.setCell ⟨Bn, 0, none⟩ (.string r)).drew = W2 at *
        have hl1 : linesS s.data.toList = rowsOf pre ++ (a.data.toList :: linesS r.data.toList) := by rw [Hx.out, Hl.out]
        have hlen := li_len hl1
        have Hn := Lib.hid (li_next (x := ⟨a, has⟩) hl1)
        have hY2 := hY pre ⟨a, has⟩ _ hJ2 hlen
        obtain ⟨fn, tmps, assign, body, hy, hR⟩ := hY2
        have Hrs := Lib.hid hrs
        clear hlen hY hl1 hrs
        gi_wp2
        refine hR.mono ?_
        rintro e W3 (⟨rfl, hJ3, hk3⟩ | ⟨rfl, hJx3⟩)
        · have hb3 : Boxed W3 Bn 9 (.string r) := hk3.trans hb2
          gi_wp2
          go_roundw
          case rel => exact ⟨_, r, hb3, by have := Hrs.out; omega, Hn.out, hJ3⟩
          case measure => rw [Hm.out, boxLen_at hb3]; have := Hrs.out; omega
        · gi_wp2
          refine bodyPost_ret (results_none rfl _ _ _) rfl ?_
          exact ⟨⟨_, rfl⟩, .inr ⟨_, ⟨_, Hn.out.symm⟩, hJx3⟩⟩
end Go.Proofs.YtjopmchbphjliaaGreatDoor
