/- Contracts of the program's Plain and Quote. -/
import Derived.Test.YtacohhmhggljhaaHE
import Derived.Laws.MakeOwn
import Derived.Laws.IdiomStrings
import Derived.WalkSmall
namespace Go.Proofs.Ytacohhmhggljhaa
open Go.RowKit
set_option linter.unusedVariables false
set_option linter.unusedSimpArgs false
theorem Try.info5 : (Try.prog.info? 5).map (fun i => (i.zero, i.size, i.bytes)) = some (some (.int .u8 0), 1, 1) := by kernel_rfl
def cellB (b : UInt8) : Value := .int .u8 (b.toNat : Int)
theorem own_cellB {w : World} {base g cap n : Nat} {l : List UInt8} (h : w.ownsRow base 5 1 (.slice (some ⟨g, 0, none⟩) n cap) n (l.map cellB)) (j : Nat) (hj : j < l.length) :
    w.cell? ⟨g, j, none⟩ = some (.int .u8 ((l[j]'hj).toNat : Int)) := by
  have hl : l.length = n := by simpa using h.1
  rw [h.cellAt j (by omega), List.getElem?_map, List.getElem?_eq_getElem hj]; rfl
theorem own_string {w : World} {base g cap n : Nat} {l : List UInt8} (h : w.ownsRow base 5 1 (.slice (some ⟨g, 0, none⟩) n cap) n (l.map cellB)) :
    (convert 29 9 (.slice (some ⟨g, 0, none⟩) n cap)).run Try.prog w = .ok (.string ⟨l.toArray⟩) w := by
  have hl : l.length = n := by simpa using h.1
  rw [← hl]
  refine run_convert_bytes_back w 29 9 5 ⟨g, 0, none⟩ cap l Try.underlying29 Try.underlying5 Try.underlying9 fun j hj => ?_
  rw [Addr.add_lit, Nat.zero_add]
  exact own_cellB h j hj
theorem cell_byte_new (w : World) (x : Value) (t : TypeId) : ∀ j u, [x][j]? = some u → (w.alloc (.cells #[x] t)).cell? ((⟨w.heap.size, 0, none⟩ : Addr).add j) = some u := by
  intro j u hj
  match j, hj with
  | 0, hj => simp at hj; subst hj; simp [Addr.add]
/-- a row of bytes that grows: in a block of its own, never nil. -/
def Grw (w wr : World) (v : Value) (l : List UInt8) : Prop := (∃ g cap, v = .slice (some ⟨g, 0, none⟩) l.length cap) ∧ wr.ownsRow w.heap.size 5 1 v l.length (l.map cellB) ∧ Below w.heap.size w wr
theorem Grw.step {w wr w1 : World} {v v' : Value} {l : List UInt8} {c : UInt8} (h : Grw w wr v l) (hown : w1.ownsRow w.heap.size 5 1 v' (l.length + 1) (l.map cellB ++ [.int .u8 (c.toNat : Int)])) (hg : (wr.alloc (.cells #[.int .u8 (c.toNat : Int)] 5)).grownBy w1 v.ownBlock) :
    Grw w w1 v' (l ++ [c]) := by
  have e : (l ++ [c]).length = l.length + 1 := by simp
  refine ⟨?_, ?_, ?_⟩
  · rw [e]
    rcases hown.2 with ⟨_, h0⟩ | ⟨g, cap, cur, hv, _⟩
    · omega
    · exact ⟨g, cap, hv⟩
  · rw [e, List.map_append]; exact hown
  · exact (h.2.2.alloc h.2.2.size _).grown hg (by have := h.2.2.size; simp; omega) (fun g hg => (h.2.1.lt g hg).1)
set_option maxHeartbeats 1000000 in
theorem plain_any (s : ByteArray) (hs : s.size ≤ 70368744177664) (w : World) :
    Calls Try.prog 14 #[.string s] w fun e w' => e = .returned (.string ⟨(plainB s.data.toList).toArray⟩) ∧ Below w.heap.size w w' := by
  have hs' : s.size ≤ maxLen := by unfold maxLen; omega
  obtain ⟨i0, hi, hz0, hz1, hz2⟩ := info_parts Try.info5
  obtain ⟨w1, hmk, hown, hgr⟩ := run_make_own (P := Try.prog) w w.heap.size 29 5 i0 (.int .u8 0) 1 Try.underlying29 hi hz0 hz1 .i64 .i64 s.size (by rw [hz2]; omega) hs' (Nat.le_refl _)
  have HG0 := Lib.hid (show Grw w w1 (.slice (some ⟨w.heap.size, 0, none⟩) 0 s.size) [] from ⟨⟨_, _, rfl⟩, hown, (Below.refl _ _).grown hgr (Nat.le_refl _) (fun k e => by cases e)⟩)
  clear hown hgr
  go_enter Try.func14, Try.ntmps14
  go_wp2
  clear hmk
  go_loopw [3, 4, 5, 6] (fun v i a b wr => ∃ (k : Nat) (pre ts : List Tok), i = .int .i64 k ∧ toks s.data.toList = pre ++ ts ∧ At s k ts ∧ Grw w wr v (pre.map Prod.fst)) (fun _ i _ _ _ => s.size - (intOf i).toNat)
  case atStart => exact ⟨0, [], toks s.data.toList, rfl, rfl, ⟨Nat.zero_le _, rfl⟩, HG0.out⟩
  case round =>
    obtain ⟨k, pre, ts, rfl, hp, hat, hg⟩ := hrel
    clear HG0
    cases ts with
    | nil =>
      have he := hat.end
      subst he
      obtain ⟨⟨g, cap, rfl⟩, hown, hb⟩ := hg
      have HP := Lib.hid (show plainB s.data.toList = pre.map Prod.fst by unfold plainB; rw [hp, List.append_nil])
      clear hp hat
      generalize pre.map Prod.fst = l at *
      have hcv := own_string hown
      clear hown
      go_wp2
      go_ret
      exact ⟨ret_val (show Value.string ⟨l.toArray⟩ = Value.string ⟨(plainB s.data.toList).toArray⟩ by rw [HP.out]), hb⟩
    | cons t r =>
      have hlt := hat.lt
      have htl := tl_pos t
      have hn := hat.next
      have hle := hn.1
      have HC := Lib.hid (fun w => byteAt_any s k t r hat hs' w)
      have HN := Lib.hid hn
      have HP := Lib.hid (show toks s.data.toList = (pre ++ [t]) ++ r by rw [hp]; simp)
      have HG := Lib.hid hg
      have hpl : pre.length + 1 ≤ s.size := by
        have h1 := lenT_toks s.data.toList
        rw [hp, size_len] at h1
        have : ∀ ts : List Tok, ts.length ≤ lenT ts := by
          intro ts
          induction ts with
          | nil => simp [lenT]
          | cons t r ih => have := tl_pos t; rw [lenT, List.length_cons]; omega
        have := this (pre ++ t :: r)
        simp at this
        omega
      have hwz := hg.2.2.size
      obtain ⟨⟨g, cap, rfl⟩, hown, hb⟩ := hg
      have HO := Lib.hid hown
      clear hp hat hn hown hb
      generalize tl t = d at *
      rw [List.length_map] at HO
      go_wp2_with (first | (at_builtin; refine wpList_append_own _ rfl _ _ 29 rfl w.heap.size 5 i0 (.int .u8 0) 1 1 Try.underlying29 hi hz0 hz1 hz2 rfl (by decide) _ _ _ rfl (HO.out.alloc _) ⟨_, 0, none⟩ 1 1 [.int .u8 t.1.toNat] rfl rfl (cell_byte_new _ _ _) (by intro u hu; simp at hu; subst hu; rfl) (by unfold maxLen; omega) (by omega) (by simp; omega) ?_; intro v' w2 hown' hgrow _) | (go_at_call 25; (with_reducible refine (HC.out _).mono ?_); rintro e w' ⟨rfl, rfl⟩))
      have R := Lib.hid (HG.out.step (c := t.1) (by rw [List.length_map]; exact hown') hgrow)
      clear hown' hgrow
      go_wp2
      go_roundw
      case rel => exact ⟨k + d, pre ++ [t], r, by go_num, HP.out, HN.out, by rw [List.map_append]; exact R.out⟩
      case measure => simp [intOf]; omega

theorem quo_append (a b : List UInt8) : quo (a ++ b) = quo a ++ quo b := by
  induction a with
  | nil => rfl
  | cons c a ih =>
    rw [List.cons_append, quo, quo, ih]
    split <;> rfl
theorem take_succ (s : ByteArray) (k : Nat) (h : k < s.size) : s.data.toList.take (k + 1) = s.data.toList.take k ++ [s[k]] := by
  rw [List.take_succ_eq_append_getElem (by simpa using h)]; rfl
theorem quo_len (l : List UInt8) : (quo l).length ≤ 2 * l.length := by
  induction l with
  | nil => simp [quo]
  | cons c l ih => rw [quo]; split <;> simp <;> omega
theorem quo_yes (s : ByteArray) (k : Nat) (h : k < s.size) (hc : spc s[k] = true) : quo (s.data.toList.take (k + 1)) = (quo (s.data.toList.take k) ++ [92]) ++ [s[k]] := by
  rw [take_succ s k h, quo_append, quo, if_pos hc]; simp [quo]
theorem quo_no (s : ByteArray) (k : Nat) (h : k < s.size) (hc : spc s[k] = false) : quo (s.data.toList.take (k + 1)) = quo (s.data.toList.take k) ++ [s[k]] := by
  rw [take_succ s k h, quo_append, quo, if_neg (by rw [hc]; decide)]; simp [quo]
set_option maxHeartbeats 4000000 in
theorem quote_any (s : ByteArray) (hs : s.size ≤ 1099511627776) (w : World) :
    Calls Try.prog 16 #[.string s] w fun e w' => e = .returned (.string ⟨(quo s.data.toList).toArray⟩) ∧ Below w.heap.size w w' := by
  have hs' : s.size ≤ maxLen := by unfold maxLen; omega
  obtain ⟨i0, hi, hz0, hz1, hz2⟩ := info_parts Try.info5
  obtain ⟨w1, hmk, hown, hgr⟩ := run_make_own (P := Try.prog) w w.heap.size 29 5 i0 (.int .u8 0) 1 Try.underlying29 hi hz0 hz1 .i64 .i64 s.size (by rw [hz2]; omega) hs' (Nat.le_refl _)
  have HG0 := Lib.hid (show Grw w w1 (.slice (some ⟨w.heap.size, 0, none⟩) 0 s.size) [] from ⟨⟨_, _, rfl⟩, hown, (Below.refl _ _).grown hgr (Nat.le_refl _) (fun k e => by cases e)⟩)
  clear hown hgr
  go_enter Try.func16, Try.ntmps16
  go_wp2
  clear hmk
  go_loopw [3, 4, 10] (fun v i c wr => ∃ k : Nat, c = .int .i64 k ∧ k ≤ s.size ∧ Grw w wr v (quo (s.data.toList.take k))) (fun _ _ c _ => s.size - (intOf c).toNat)
  case atStart => exact ⟨0, rfl, Nat.zero_le _, HG0.out⟩
  case round =>
    obtain ⟨k, rfl, hk, hg⟩ := hrel
    clear HG0
    by_cases hlt : k < s.size
    · have HG := Lib.hid hg
      have hwz := hg.2.2.size
      have hql := quo_len (s.data.toList.take k)
      rw [List.length_take, size_len] at hql
      have hql2 : (quo (s.data.toList.take k)).length ≤ 140737488355328 - 16 := by omega
      obtain ⟨⟨g, cap, rfl⟩, hown, hb⟩ := hg
      have HO := Lib.hid hown
      clear hown hb hql
      have HY := Lib.hid (quo_yes s k hlt)
      have HN := Lib.hid (quo_no s k hlt)
      generalize quo (s.data.toList.take k) = l at *

      by_cases h42 : s[k] = 42
      · have HQ := Lib.hid (HY.out (by rw [h42]; rfl))
        have g42 : (((s[k].toNat : Int) == 42) : Bool) = true := u8_true _ 42 h42
        clear HY HN h42
        go_wp2_with (first | (at_builtin; refine wpList_append_own _ rfl _ _ 29 rfl w.heap.size 5 i0 (.int .u8 0) 1 1 Try.underlying29 hi hz0 hz1 hz2 rfl (by decide) _ _ _ rfl (HO2.out.alloc _) ⟨_, 0, none⟩ 1 1 [.int .u8 s[k].toNat] rfl rfl (cell_byte_new _ _ _) (by intro u hu; simp at hu; subst hu; rfl) (by unfold maxLen; omega) (by omega) (by simp; omega) ?_; intro v4 w4 hown4 hgrow4 _) | (at_builtin; refine wpList_append_own _ rfl _ _ 29 rfl w.heap.size 5 i0 (.int .u8 0) 1 1 Try.underlying29 hi hz0 hz1 hz2 rfl (by decide) _ _ _ rfl (HO.out.alloc _) ⟨_, 0, none⟩ 1 1 [.int .u8 92] rfl rfl (cell_byte_new _ _ _) (by intro u hu; simp at hu; subst hu; rfl) (by unfold maxLen; omega) (by omega) (by simp; omega) ?_; intro v2 w2 hown2 hgrow2 _; obtain ⟨g2, cap2, rfl⟩ := ownsRow_succ hown2; have R2 := HG.out.step (c := 92) hown2 hgrow2; have hwz2 := R2.2.2.size; have HG2 := Lib.hid R2; have HO2 := Lib.hid R2.2.1; clear R2 hown2 hgrow2; have hl2 : (l ++ [(92 : UInt8)]).length = l.length + 1 := List.length_append; rw [hl2] at HO2; clear hl2))
        have hl2 : (l ++ [92]).length = l.length + 1 := by simp
        have R := Lib.hid (HG2.out.step (c := s[k]) (by rw [hl2]; exact hown4) hgrow4)
        clear hown4 hgrow4 hl2
        go_wp2
        go_roundw
        case rel => exact ⟨k + 1, by go_num, by omega, by rw [HQ.out]; exact R.out⟩
        case measure => simp [intOf]; omega
      · skip
        by_cases h63 : s[k] = 63
        · have HQ := Lib.hid (HY.out (by rw [h63]; rfl))
          have g42 : (((s[k].toNat : Int) == 42) : Bool) = false := u8_false _ 42 h42
          have g63 : (((s[k].toNat : Int) == 63) : Bool) = true := u8_true _ 63 h63
          clear HY HN h42 h63
          go_wp2_with (first | (at_builtin; refine wpList_append_own _ rfl _ _ 29 rfl w.heap.size 5 i0 (.int .u8 0) 1 1 Try.underlying29 hi hz0 hz1 hz2 rfl (by decide) _ _ _ rfl (HO2.out.alloc _) ⟨_, 0, none⟩ 1 1 [.int .u8 s[k].toNat] rfl rfl (cell_byte_new _ _ _) (by intro u hu; simp at hu; subst hu; rfl) (by unfold maxLen; omega) (by omega) (by simp; omega) ?_; intro v4 w4 hown4 hgrow4 _) | (at_builtin; refine wpList_append_own _ rfl _ _ 29 rfl w.heap.size 5 i0 (.int .u8 0) 1 1 Try.underlying29 hi hz0 hz1 hz2 rfl (by decide) _ _ _ rfl (HO.out.alloc _) ⟨_, 0, none⟩ 1 1 [.int .u8 92] rfl rfl (cell_byte_new _ _ _) (by intro u hu; simp at hu; subst hu; rfl) (by unfold maxLen; omega) (by omega) (by simp; omega) ?_; intro v2 w2 hown2 hgrow2 _; obtain ⟨g2, cap2, rfl⟩ := ownsRow_succ hown2; have R2 := HG.out.step (c := 92) hown2 hgrow2; have hwz2 := R2.2.2.size; have HG2 := Lib.hid R2; have HO2 := Lib.hid R2.2.1; clear R2 hown2 hgrow2; have hl2 : (l ++ [(92 : UInt8)]).length = l.length + 1 := List.length_append; rw [hl2] at HO2; clear hl2))
          have hl2 : (l ++ [92]).length = l.length + 1 := by simp
          have R := Lib.hid (HG2.out.step (c := s[k]) (by rw [hl2]; exact hown4) hgrow4)
          clear hown4 hgrow4 hl2
          go_wp2
          go_roundw
          case rel => exact ⟨k + 1, by go_num, by omega, by rw [HQ.out]; exact R.out⟩
          case measure => simp [intOf]; omega
        · skip
          by_cases h91 : s[k] = 91
          · have HQ := Lib.hid (HY.out (by rw [h91]; rfl))
            have g42 : (((s[k].toNat : Int) == 42) : Bool) = false := u8_false _ 42 h42
            have g63 : (((s[k].toNat : Int) == 63) : Bool) = false := u8_false _ 63 h63
            have g91 : (((s[k].toNat : Int) == 91) : Bool) = true := u8_true _ 91 h91
            clear HY HN h42 h63 h91
            go_wp2_with (first | (at_builtin; refine wpList_append_own _ rfl _ _ 29 rfl w.heap.size 5 i0 (.int .u8 0) 1 1 Try.underlying29 hi hz0 hz1 hz2 rfl (by decide) _ _ _ rfl (HO2.out.alloc _) ⟨_, 0, none⟩ 1 1 [.int .u8 s[k].toNat] rfl rfl (cell_byte_new _ _ _) (by intro u hu; simp at hu; subst hu; rfl) (by unfold maxLen; omega) (by omega) (by simp; omega) ?_; intro v4 w4 hown4 hgrow4 _) | (at_builtin; refine wpList_append_own _ rfl _ _ 29 rfl w.heap.size 5 i0 (.int .u8 0) 1 1 Try.underlying29 hi hz0 hz1 hz2 rfl (by decide) _ _ _ rfl (HO.out.alloc _) ⟨_, 0, none⟩ 1 1 [.int .u8 92] rfl rfl (cell_byte_new _ _ _) (by intro u hu; simp at hu; subst hu; rfl) (by unfold maxLen; omega) (by omega) (by simp; omega) ?_; intro v2 w2 hown2 hgrow2 _; obtain ⟨g2, cap2, rfl⟩ := ownsRow_succ hown2; have R2 := HG.out.step (c := 92) hown2 hgrow2; have hwz2 := R2.2.2.size; have HG2 := Lib.hid R2; have HO2 := Lib.hid R2.2.1; clear R2 hown2 hgrow2; have hl2 : (l ++ [(92 : UInt8)]).length = l.length + 1 := List.length_append; rw [hl2] at HO2; clear hl2))
            have hl2 : (l ++ [92]).length = l.length + 1 := by simp
            have R := Lib.hid (HG2.out.step (c := s[k]) (by rw [hl2]; exact hown4) hgrow4)
            clear hown4 hgrow4 hl2
            go_wp2
            go_roundw
            case rel => exact ⟨k + 1, by go_num, by omega, by rw [HQ.out]; exact R.out⟩
            case measure => simp [intOf]; omega
          · skip
            by_cases h93 : s[k] = 93
            · have HQ := Lib.hid (HY.out (by rw [h93]; rfl))
              have g42 : (((s[k].toNat : Int) == 42) : Bool) = false := u8_false _ 42 h42
              have g63 : (((s[k].toNat : Int) == 63) : Bool) = false := u8_false _ 63 h63
              have g91 : (((s[k].toNat : Int) == 91) : Bool) = false := u8_false _ 91 h91
              have g93 : (((s[k].toNat : Int) == 93) : Bool) = true := u8_true _ 93 h93
              clear HY HN h42 h63 h91 h93
              go_wp2_with (first | (at_builtin; refine wpList_append_own _ rfl _ _ 29 rfl w.heap.size 5 i0 (.int .u8 0) 1 1 Try.underlying29 hi hz0 hz1 hz2 rfl (by decide) _ _ _ rfl (HO2.out.alloc _) ⟨_, 0, none⟩ 1 1 [.int .u8 s[k].toNat] rfl rfl (cell_byte_new _ _ _) (by intro u hu; simp at hu; subst hu; rfl) (by unfold maxLen; omega) (by omega) (by simp; omega) ?_; intro v4 w4 hown4 hgrow4 _) | (at_builtin; refine wpList_append_own _ rfl _ _ 29 rfl w.heap.size 5 i0 (.int .u8 0) 1 1 Try.underlying29 hi hz0 hz1 hz2 rfl (by decide) _ _ _ rfl (HO.out.alloc _) ⟨_, 0, none⟩ 1 1 [.int .u8 92] rfl rfl (cell_byte_new _ _ _) (by intro u hu; simp at hu; subst hu; rfl) (by unfold maxLen; omega) (by omega) (by simp; omega) ?_; intro v2 w2 hown2 hgrow2 _; obtain ⟨g2, cap2, rfl⟩ := ownsRow_succ hown2; have R2 := HG.out.step (c := 92) hown2 hgrow2; have hwz2 := R2.2.2.size; have HG2 := Lib.hid R2; have HO2 := Lib.hid R2.2.1; clear R2 hown2 hgrow2; have hl2 : (l ++ [(92 : UInt8)]).length = l.length + 1 := List.length_append; rw [hl2] at HO2; clear hl2))
              have hl2 : (l ++ [92]).length = l.length + 1 := by simp
              have R := Lib.hid (HG2.out.step (c := s[k]) (by rw [hl2]; exact hown4) hgrow4)
              clear hown4 hgrow4 hl2
              go_wp2
              go_roundw
              case rel => exact ⟨k + 1, by go_num, by omega, by rw [HQ.out]; exact R.out⟩
              case measure => simp [intOf]; omega
            · skip
              by_cases h33 : s[k] = 33
              · have HQ := Lib.hid (HY.out (by rw [h33]; rfl))
                have g42 : (((s[k].toNat : Int) == 42) : Bool) = false := u8_false _ 42 h42
                have g63 : (((s[k].toNat : Int) == 63) : Bool) = false := u8_false _ 63 h63
                have g91 : (((s[k].toNat : Int) == 91) : Bool) = false := u8_false _ 91 h91
                have g93 : (((s[k].toNat : Int) == 93) : Bool) = false := u8_false _ 93 h93
                have g33 : (((s[k].toNat : Int) == 33) : Bool) = true := u8_true _ 33 h33
                clear HY HN h42 h63 h91 h93 h33
                go_wp2_with (first | (at_builtin; refine wpList_append_own _ rfl _ _ 29 rfl w.heap.size 5 i0 (.int .u8 0) 1 1 Try.underlying29 hi hz0 hz1 hz2 rfl (by decide) _ _ _ rfl (HO2.out.alloc _) ⟨_, 0, none⟩ 1 1 [.int .u8 s[k].toNat] rfl rfl (cell_byte_new _ _ _) (by intro u hu; simp at hu; subst hu; rfl) (by unfold maxLen; omega) (by omega) (by simp; omega) ?_; intro v4 w4 hown4 hgrow4 _) | (at_builtin; refine wpList_append_own _ rfl _ _ 29 rfl w.heap.size 5 i0 (.int .u8 0) 1 1 Try.underlying29 hi hz0 hz1 hz2 rfl (by decide) _ _ _ rfl (HO.out.alloc _) ⟨_, 0, none⟩ 1 1 [.int .u8 92] rfl rfl (cell_byte_new _ _ _) (by intro u hu; simp at hu; subst hu; rfl) (by unfold maxLen; omega) (by omega) (by simp; omega) ?_; intro v2 w2 hown2 hgrow2 _; obtain ⟨g2, cap2, rfl⟩ := ownsRow_succ hown2; have R2 := HG.out.step (c := 92) hown2 hgrow2; have hwz2 := R2.2.2.size; have HG2 := Lib.hid R2; have HO2 := Lib.hid R2.2.1; clear R2 hown2 hgrow2; have hl2 : (l ++ [(92 : UInt8)]).length = l.length + 1 := List.length_append; rw [hl2] at HO2; clear hl2))
                have hl2 : (l ++ [92]).length = l.length + 1 := by simp
                have R := Lib.hid (HG2.out.step (c := s[k]) (by rw [hl2]; exact hown4) hgrow4)
                clear hown4 hgrow4 hl2
                go_wp2
                go_roundw
                case rel => exact ⟨k + 1, by go_num, by omega, by rw [HQ.out]; exact R.out⟩
                case measure => simp [intOf]; omega
              · skip
                by_cases h45 : s[k] = 45
                · have HQ := Lib.hid (HY.out (by rw [h45]; rfl))
                  have g42 : (((s[k].toNat : Int) == 42) : Bool) = false := u8_false _ 42 h42
                  have g63 : (((s[k].toNat : Int) == 63) : Bool) = false := u8_false _ 63 h63
                  have g91 : (((s[k].toNat : Int) == 91) : Bool) = false := u8_false _ 91 h91
                  have g93 : (((s[k].toNat : Int) == 93) : Bool) = false := u8_false _ 93 h93
                  have g33 : (((s[k].toNat : Int) == 33) : Bool) = false := u8_false _ 33 h33
                  have g45 : (((s[k].toNat : Int) == 45) : Bool) = true := u8_true _ 45 h45
                  clear HY HN h42 h63 h91 h93 h33 h45
                  go_wp2_with (first | (at_builtin; refine wpList_append_own _ rfl _ _ 29 rfl w.heap.size 5 i0 (.int .u8 0) 1 1 Try.underlying29 hi hz0 hz1 hz2 rfl (by decide) _ _ _ rfl (HO2.out.alloc _) ⟨_, 0, none⟩ 1 1 [.int .u8 s[k].toNat] rfl rfl (cell_byte_new _ _ _) (by intro u hu; simp at hu; subst hu; rfl) (by unfold maxLen; omega) (by omega) (by simp; omega) ?_; intro v4 w4 hown4 hgrow4 _) | (at_builtin; refine wpList_append_own _ rfl _ _ 29 rfl w.heap.size 5 i0 (.int .u8 0) 1 1 Try.underlying29 hi hz0 hz1 hz2 rfl (by decide) _ _ _ rfl (HO.out.alloc _) ⟨_, 0, none⟩ 1 1 [.int .u8 92] rfl rfl (cell_byte_new _ _ _) (by intro u hu; simp at hu; subst hu; rfl) (by unfold maxLen; omega) (by omega) (by simp; omega) ?_; intro v2 w2 hown2 hgrow2 _; obtain ⟨g2, cap2, rfl⟩ := ownsRow_succ hown2; have R2 := HG.out.step (c := 92) hown2 hgrow2; have hwz2 := R2.2.2.size; have HG2 := Lib.hid R2; have HO2 := Lib.hid R2.2.1; clear R2 hown2 hgrow2; have hl2 : (l ++ [(92 : UInt8)]).length = l.length + 1 := List.length_append; rw [hl2] at HO2; clear hl2))
                  have hl2 : (l ++ [92]).length = l.length + 1 := by simp
                  have R := Lib.hid (HG2.out.step (c := s[k]) (by rw [hl2]; exact hown4) hgrow4)
                  clear hown4 hgrow4 hl2
                  go_wp2
                  go_roundw
                  case rel => exact ⟨k + 1, by go_num, by omega, by rw [HQ.out]; exact R.out⟩
                  case measure => simp [intOf]; omega
                · skip
                  by_cases h92 : s[k] = 92
                  · have HQ := Lib.hid (HY.out (by rw [h92]; rfl))
                    have g42 : (((s[k].toNat : Int) == 42) : Bool) = false := u8_false _ 42 h42
                    have g63 : (((s[k].toNat : Int) == 63) : Bool) = false := u8_false _ 63 h63
                    have g91 : (((s[k].toNat : Int) == 91) : Bool) = false := u8_false _ 91 h91
                    have g93 : (((s[k].toNat : Int) == 93) : Bool) = false := u8_false _ 93 h93
                    have g33 : (((s[k].toNat : Int) == 33) : Bool) = false := u8_false _ 33 h33
                    have g45 : (((s[k].toNat : Int) == 45) : Bool) = false := u8_false _ 45 h45
                    have g92 : (((s[k].toNat : Int) == 92) : Bool) = true := u8_true _ 92 h92
                    clear HY HN h42 h63 h91 h93 h33 h45 h92
                    go_wp2_with (first | (at_builtin; refine wpList_append_own _ rfl _ _ 29 rfl w.heap.size 5 i0 (.int .u8 0) 1 1 Try.underlying29 hi hz0 hz1 hz2 rfl (by decide) _ _ _ rfl (HO2.out.alloc _) ⟨_, 0, none⟩ 1 1 [.int .u8 s[k].toNat] rfl rfl (cell_byte_new _ _ _) (by intro u hu; simp at hu; subst hu; rfl) (by unfold maxLen; omega) (by omega) (by simp; omega) ?_; intro v4 w4 hown4 hgrow4 _) | (at_builtin; refine wpList_append_own _ rfl _ _ 29 rfl w.heap.size 5 i0 (.int .u8 0) 1 1 Try.underlying29 hi hz0 hz1 hz2 rfl (by decide) _ _ _ rfl (HO.out.alloc _) ⟨_, 0, none⟩ 1 1 [.int .u8 92] rfl rfl (cell_byte_new _ _ _) (by intro u hu; simp at hu; subst hu; rfl) (by unfold maxLen; omega) (by omega) (by simp; omega) ?_; intro v2 w2 hown2 hgrow2 _; obtain ⟨g2, cap2, rfl⟩ := ownsRow_succ hown2; have R2 := HG.out.step (c := 92) hown2 hgrow2; have hwz2 := R2.2.2.size; have HG2 := Lib.hid R2; have HO2 := Lib.hid R2.2.1; clear R2 hown2 hgrow2; have hl2 : (l ++ [(92 : UInt8)]).length = l.length + 1 := List.length_append; rw [hl2] at HO2; clear hl2))
                    have hl2 : (l ++ [92]).length = l.length + 1 := by simp
                    have R := Lib.hid (HG2.out.step (c := s[k]) (by rw [hl2]; exact hown4) hgrow4)
                    clear hown4 hgrow4 hl2
                    go_wp2
                    go_roundw
                    case rel => exact ⟨k + 1, by go_num, by omega, by rw [HQ.out]; exact R.out⟩
                    case measure => simp [intOf]; omega
                  · skip
                    have HQ := Lib.hid (HN.out (by unfold spc; simp [h42, h63, h91, h93, h33, h45, h92]))
                    have g42 : (((s[k].toNat : Int) == 42) : Bool) = false := u8_false _ 42 h42
                    have g63 : (((s[k].toNat : Int) == 63) : Bool) = false := u8_false _ 63 h63
                    have g91 : (((s[k].toNat : Int) == 91) : Bool) = false := u8_false _ 91 h91
                    have g93 : (((s[k].toNat : Int) == 93) : Bool) = false := u8_false _ 93 h93
                    have g33 : (((s[k].toNat : Int) == 33) : Bool) = false := u8_false _ 33 h33
                    have g45 : (((s[k].toNat : Int) == 45) : Bool) = false := u8_false _ 45 h45
                    have g92 : (((s[k].toNat : Int) == 92) : Bool) = false := u8_false _ 92 h92
                    clear HY HN h42 h63 h91 h93 h33 h45 h92
                    go_wp2_with (at_builtin; refine wpList_append_own _ rfl _ _ 29 rfl w.heap.size 5 i0 (.int .u8 0) 1 1 Try.underlying29 hi hz0 hz1 hz2 rfl (by decide) _ _ _ rfl (HO.out.alloc _) ⟨_, 0, none⟩ 1 1 [.int .u8 s[k].toNat] rfl rfl (cell_byte_new _ _ _) (by intro u hu; simp at hu; subst hu; rfl) (by unfold maxLen; omega) (by omega) (by simp; omega) ?_; intro v2 w2 hown2 hgrow2 _)
                    have R := Lib.hid (HG.out.step (c := s[k]) hown2 hgrow2)
                    clear hown2 hgrow2
                    go_wp2
                    go_roundw
                    case rel => exact ⟨k + 1, by go_num, by omega, by rw [HQ.out]; exact R.out⟩
                    case measure => simp [intOf]; omega
    · obtain rfl : k = s.size := by omega
      obtain ⟨⟨g, cap, rfl⟩, hown, hb⟩ := hg
      have HQ := Lib.hid (show s.data.toList.take s.size = s.data.toList from List.take_of_length_le (by simp))
      simp only [HQ.out] at hown ⊢
      have hcv := own_string hown
      clear hown
      go_wp2
      go_ret
      exact ⟨rfl, hb⟩
end Go.Proofs.Ytacohhmhggljhaa
