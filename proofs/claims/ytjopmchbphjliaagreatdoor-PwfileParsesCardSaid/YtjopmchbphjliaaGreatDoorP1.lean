/- Contract of Print. -/
import Derived.Test.YtjopmchbphjliaaGreatDoorL2
namespace Go.Proofs.YtjopmchbphjliaaGreatDoor
open Go.RowKit Go.Shelf

def linesOf (us : List Usr) : List UInt8 := (us.map lineS).flatten
def printS (us : List Usr) : List UInt8 := if rightL us = true then linesOf us else []
theorem write_any (B b : Nat) (l : List UInt8) (s : ByteArray) (w : World) (h : Lib.IsBuilderF 50 5 B b (Lib.byteCells l) w) (hlen : l.length + s.size ≤ 140737488355328) (hB : B ≤ w.heap.size) :
    Calls Tryz.prog 26 #[.pointer (some ⟨b, 0, none⟩), .string s] w fun e w' => e = .returned (.tuple #[.int .i64 s.size, .nilIface]) ∧ Lib.IsBuilderF 50 5 B b (Lib.byteCells (l ++ s.data.toList)) w' ∧ Below B w w' := by
  refine (Any.Builder_WriteString_k (P := Tryz.prog) (ρ := Tryz.lays156_ren) { Tryz.lays156 with } Tryz.Builder_Extra_156 B b (Lib.byteCells l) s w h (by rw [Lib.byteCells_length]; exact hlen) hB).mono ?_
  rintro e w' ⟨he, hk, hb, _⟩
  refine ⟨he, .inr ?_, hb⟩
  have e1 : Lib.byteCells l ++ Lib.strCells s = Lib.byteCells (l ++ s.data.toList) := by rw [Lib.strCells_eq]; unfold Lib.byteCells; rw [List.map_append]
  rw [← e1]; exact hk
theorem builder_below {B b : Nat} {bs : List Value} {w w' : World} (h : Lib.IsBuilderF 50 5 B b bs w) (hb : Below w.heap.size w w') : Lib.IsBuilderF 50 5 B b bs w' := by
  have one : ∀ p, Lib.BuilderAtF 50 5 B b p bs w → Lib.BuilderAtF 50 5 B b p bs w' := by
    rintro p ⟨h1, v, h2, h3, h4⟩
    refine ⟨h1, v, (hb.block b (Array.getElem?_eq_some_iff.1 h2).1).trans h2, ⟨h3.1, ?_⟩, h4⟩
    rcases h3.2 with hn | ⟨g, cap, cur, fz, k1, k2, k3, k4⟩
    · exact .inl hn
    · exact .inr ⟨g, cap, cur, fz, k1, k2, (hb.block g (Array.getElem?_eq_some_iff.1 k3).1).trans k3, k4⟩
  exact h.elim (fun x => .inl (one _ x)) (fun x => .inr (one _ x))
theorem rightF_all : ∀ (us seen : List Usr), rightF seen us = true → ∀ u ∈ us, rightU u = true
  | [], _, _, u, hu => by cases hu
  | x :: r, seen, h, u, hu => by
    unfold rightF at h
    rw [Bool.and_eq_true, Bool.and_eq_true] at h
    rcases List.mem_cons.1 hu with rfl | hu
    · exact h.1
    · exact rightF_all r _ h.2.2 u hu
theorem rightL_parts {us : List Usr} (h : rightL us = true) : us.length ≤ 8 ∧ ∀ u ∈ us, rightU u = true := by
  unfold rightL at h
  rw [Bool.and_eq_true, decide_eq_true_iff] at h
  exact ⟨h.1, rightF_all us [] h.2⟩
theorem linesOf_len : ∀ (us : List Usr), (∀ u ∈ us, rightU u = true) → (linesOf us).length ≤ us.length * 301
  | [], _ => by unfold linesOf; simp
  | u :: r, h => by
    have h1 := line_len (h u (by simp))
    have h2 := linesOf_len r (fun x hx => h x (by simp [hx]))
    unfold linesOf at h2 ⊢
    rw [List.map_cons, List.flatten_cons, List.length_append, List.length_cons]; omega
def prRel (w : World) (us : List Usr) (i : Value) (wr : World) : Prop :=
  ∃ k : Nat, k ≤ us.length ∧ i = .int .i64 k ∧ Below w.heap.size w wr ∧ Lib.IsBuilderF 50 5 w.heap.size w.heap.size (Lib.byteCells (linesOf (us.take k))) wr
set_option maxRecDepth 100000 in
set_option maxHeartbeats 3200000 in
theorem print_any (p : Option Addr) (n cap : Nat) (us : List Usr) (w : World) (henv : Env w) (hin : InUsers w p n us) (hn : n ≤ cap) (hm : cap ≤ maxLen) :
    Calls Tryz.prog 12 #[.slice p n cap] w fun e w' => e = .returned (.string ⟨(printS us).toArray⟩) ∧ Below w.heap.size w w' := by
  have hright := right_any p n cap us w hin hn hm
  cases hr : rightL us
  · have Hr := Lib.hid (show Value.string ⟨#[]⟩ = .string ⟨(printS us).toArray⟩ by unfold printS; rw [hr]; rfl)
    rw [hr] at hright
    clear hin henv
    go_enter Tryz.func12, Tryz.ntmps12
    go_wp2_with (go_at_call 10; refine hright.mono ?_; rintro e w1 ⟨rfl, hb⟩)
    go_ret
    exact ⟨ret_val Hr.out, hb⟩
  · have Hr := Lib.hid (show printS us = linesOf us by unfold printS; rw [hr]; rfl)
    obtain ⟨h8, hall⟩ := rightL_parts hr
    rw [hr] at hright
    have hlen := hin.1
    subst hlen
    unfold maxLen at hm
    have Hin := Lib.hid hin
    have Hall := Lib.hid hall
    clear hin hr hall
    go_enter Tryz.func12, Tryz.ntmps12
    go_wp2_with fail
    refine hright.mono ?_
    rintro e w1 ⟨rfl, hb1⟩
    clear hright
    have henv1 := henv.below hb1
    have hI0 : Lib.IsBuilderF 50 5 w1.heap.size w1.heap.size (Lib.byteCells (linesOf (us.take 0))) (w1.alloc (.cells #[.pointer none, .slice none 0 0] 50)) :=
      .inl ⟨Nat.le_refl _, _, World.alloc_heap_new w1 _, ⟨rfl, .inl ⟨rfl, rfl⟩⟩, by simp [Value.ownBlock]⟩
    have hB0 : Below w1.heap.size w1 (w1.alloc (.cells #[.pointer none, .slice none 0 0] 50)) := (Below.refl _ w1).alloc (Nat.le_refl _) _
    go_wp2
    go_loopw [11] (fun i wr => prRel w1 us i wr) (fun i _ => us.length - (intOf i).toNat)
    case atStart => exact ⟨0, Nat.zero_le _, rfl, hB0, hI0⟩
    case round =>
      obtain ⟨k, hk, rfl, hB, hI⟩ := hrel
      clear hI0 hB0
      by_cases hlt : k < us.length
      · have hu : us[k]? = some us[k] := List.getElem?_eq_getElem hlt
        obtain ⟨hok, b, off, hpp, hc⟩ := Hin.out.2 k _ hu
        have hru := Hall.out us[k] (List.getElem_mem hlt)
        have hcw := (hc.below hb1 hc.lt).below hB (Nat.lt_of_lt_of_le hc.lt hb1.size)
        have hacc := linesOf_len (us.take k) (fun x hx => Hall.out x (List.mem_of_mem_take hx))
        have htk : linesOf (us.take (k + 1)) = linesOf (us.take k) ++ lineS us[k] := by
          rw [(take_next us k _ hu).1]; unfold linesOf; rw [List.map_append, List.flatten_append]; simp only [List.map_cons, List.map_nil, List.flatten_cons, List.flatten_nil, List.append_nil]
        generalize us[k] = u at hu hcw hru hok htk
        subst hpp
        have hll := line_len hru
        have hline := lineOf_any u hru
        obtain ⟨tl, htl⟩ : ∃ tl : ByteArray, (⟨(lineS u).toArray⟩ : ByteArray) = tl := ⟨_, rfl⟩
        have htd : tl.data.toList = lineS u := by rw [← htl]
        have hts : tl.size ≤ 301 := by rw [← size_len, htd]; exact hll
        rw [htl] at hline
        unfold Usr.val at hline
        rw [List.length_take] at hacc
        obtain ⟨c0, c1, c2, c3, c4, c5⟩ := hcw
        have hb2 : Below wr.heap.size wr (wr.alloc (boxU u)) := (Below.refl _ wr).alloc (Nat.le_refl _) _
        have hB2 := next hB hB.size hb2
        have hI2 := builder_below hI hb2
        have henv2 := (henv1.below hB).below hb2
        have Hline := Lib.hid hline
        have HI2 := Lib.hid hI2
        have Hacc := Lib.hid hacc
        have Htk := Lib.hid htk
        have Htd := Lib.hid htd
        have HI := Lib.hid hI
        clear hu hc hok hru hll htl hline hI2 hacc htk htd hI
        unfold boxU at hb2 hB2 HI2 henv2
        go_wp2_with fail
        refine (Hline.out _ henv2).mono ?_
        rintro e w2 ⟨rfl, hbz⟩
        have hB3 := next hB2 hB2.size hbz
        have hI3 := builder_below HI2.out hbz
        have hwr := write_any w1.heap.size w1.heap.size _ tl w2 hI3 (by have := Hacc.out; omega) hB3.size
        rw [Htd.out, ← Htk.out] at hwr
        clear hB2 hbz henv2 hI3 hb2 c0 c1 c2 c3 c4 c5
        go_wp2_with fail
        refine hwr.mono ?_
        rintro e w3 ⟨rfl, hI4, hb4⟩
        have hB4 : Below w1.heap.size w1 w3 := hB3.trans hb4
        clear hB3 hb4 hwr hts
        go_wp2
        go_roundw
        case rel => exact ⟨k + 1, by omega, by go_num, hB4, hI4⟩
        case measure => simp [intOf]; omega
      · obtain rfl : k = us.length := by omega
        rw [List.take_length] at hI
        have hst := Tryz.Builder_String_any_k w1.heap.size w1.heap.size (linesOf us) wr hI hB.size
        have Hv := Lib.hid (show Value.string ⟨(linesOf us).toArray⟩ = .string ⟨(printS us).toArray⟩ by rw [Hr.out])
        have Hst := Lib.hid hst
        clear hst hI
        go_wp2_with fail
        refine Hst.out.mono ?_
        rintro e w3 ⟨rfl, _, hb4, _⟩
        have hB4 : Below w1.heap.size w1 w3 := hB.trans hb4
        go_wp2
        go_ret
        exact ⟨ret_val Hv.out, next hb1 hb1.size hB4⟩
end Go.Proofs.YtjopmchbphjliaaGreatDoor
