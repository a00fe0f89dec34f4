/- Contract of the program's tokens. -/
import Derived.Test.YtbmnngliapmgfaaGreatDoorAF
import Derived.Laws.AppendOwn
import Derived.Deep.AppendLies
import Derived.WalkSmall
namespace Go.Proofs.YtbmnngliapmgfaaGreatDoor
open Go.RowKit
set_option linter.unusedVariables false
set_option linter.unusedSimpArgs false
theorem info_parts {e : TypeId} {z : Value} {s b : Nat} (h : (Tryz.prog.info? e).map (fun i => (i.zero, i.size, i.bytes)) = some (some z, s, b)) : ∃ i, Tryz.prog.info? e = some i ∧ i.zero = some z ∧ i.size = s ∧ i.bytes = b := by
  cases hi : Tryz.prog.info? e with
  | none => rw [hi] at h; cases h
  | some i => rw [hi] at h; simp at h; exact ⟨i, rfl, h.1, h.2.1, h.2.2⟩
theorem infoString : (Tryz.prog.info? 9).map (fun i => (i.zero, i.size, i.bytes)) = some (some (.string ByteArray.empty), 1, 16) := by kernel_rfl
theorem trim_any (s : ByteArray) (w : World) :
    Calls Tryz.prog 30 #[.string s, .string ⟨#[32, 9, 10]⟩] w fun e w' => e = .returned (.string (st (trimB s.data.toList))) ∧ Below w.heap.size w w' :=
  Any.strings_TrimLeft_laid Tryz.lays161 (by kernel_rfl) s ⟨#[32, 9, 10]⟩ w (by decide) (by
    intro j b hj
    have : b ∈ ([32, 9, 10] : List UInt8) := List.mem_of_getElem? hj
    simp at this
    rcases this with rfl | rfl | rfl <;> decide)
def cellS (t : Bs) : Value := .string (st t)
theorem cell_new (w : World) (x : Value) (t : TypeId) : ∀ j u, [x][j]? = some u → (w.alloc (.cells #[x] t)).cell? ((⟨w.heap.size, 0, none⟩ : Addr).add j) = some u := by
  intro j u hj
  match j, hj with
  | 0, hj => simp at hj; subst hj; simp [Addr.add]
/-- a row of strings of the call's own that grows, and the text that is left. -/
def tkRel (w : World) (F : Option (List Bs)) (xv lv : Value) (wr : World) : Prop :=
  ∃ (x : ByteArray) (pre : List Bs) (f : Nat), xv = .string x ∧ x.size + pre.length ≤ 256 ∧ x.size < f ∧ F = (toksT f x.data.toList).map (pre ++ ·) ∧ wr.ownsRow w.heap.size 9 1 lv pre.length (pre.map cellS) ∧ Below w.heap.size w wr
/-- what a call leaves that answers a row of strings or finds no expression. -/
def rowPost (r : Option (List Bs)) (w : World) (e : Ending) (w' : World) : Prop := match r with
  | some ts => ∃ v, e = .returned v ∧ w'.ownsRow w.heap.size 9 1 v ts.length (ts.map cellS) ∧ Below w.heap.size w w'
  | none => e = .panicked bad ∧ Below w.heap.size w w'
theorem tk_step {w wr w1 w2 wz : World} {F : Option (List Bs)} {x : ByteArray} {pre : List Bs} {f k : Nat} {lv v' : Value} (hB : x.size + pre.length ≤ 256) (hf : x.size < f + 1) (hne : x.data.toList ≠ []) (hk : tokN x.data.toList = some k)
    (hF : F = (toksT (f + 1) x.data.toList).map (pre ++ ·)) (hown : wr.ownsRow w.heap.size 9 1 lv pre.length (pre.map cellS)) (hb : Below w.heap.size w wr) (h1 : Below wr.heap.size wr w1)
    (hown' : w2.ownsRow w.heap.size 9 1 v' (pre.length + 1) (pre.map cellS ++ [.string (x.extract 0 k)])) (hg : w1.grownBy w2 lv.ownBlock) (hz : Below w2.heap.size w2 wz) :
    tkRel w F (.string (st (trimB (x.extract k x.size).data.toList))) v' wz := by
  obtain ⟨k0, k1⟩ := tokN_pos hk
  rw [size_len] at k1
  have hb1 : Below w.heap.size w w1 := hb.trans (h1.mono hb.size)
  have hb2 : Below w.heap.size w w2 := hb1.grown hg hb1.size (fun k e => (hown.lt k e).1)
  have he : (x.extract k x.size).data.toList = x.data.toList.drop k := by rw [extract_drop, st_data]
  have hl := trimB_le (x.data.toList.drop k)
  rw [List.length_drop, size_len] at hl
  refine ⟨_, pre ++ [x.data.toList.take k], f, rfl, ?_, ?_, ?_, ?_, hb2.trans (hz.mono hb2.size)⟩
  · rw [st_size, he, List.length_append, List.length_singleton]; omega
  · rw [st_size, he]; omega
  · rw [st_data, he, hF, toksT, if_neg hne, hk]
    show Option.map _ (Option.map _ _) = _
    rw [Option.map_map]
    congr 1
    funext z
    simp
  · have e : (pre ++ [x.data.toList.take k]).map cellS = pre.map cellS ++ [.string (x.extract 0 k)] := by
      rw [List.map_append, extract_take]; rfl
    rw [List.length_append, List.length_singleton, e]
    refine ⟨hown'.1, ?_⟩
    rcases hown'.2 with hn | ⟨g, cap, cur, hv, hB, hg2, rest⟩
    · exact .inl hn
    · exact .inr ⟨g, cap, cur, hv, hB, (hz.block g (by exact (Array.getElem?_eq_some_iff.1 hg2).1)).trans hg2, rest⟩
set_option maxRecDepth 100000 in
set_option maxHeartbeats 3000000 in
theorem tokens_any (s : ByteArray) (hs : s.size ≤ 256) (w : World) :
    Calls Tryz.prog 21 #[.string s] w (rowPost (toks s.data.toList) w) := by
  obtain ⟨i0, hi, hz0, hz1, hz2⟩ := info_parts infoString
  have hT := trim_any s w
  have HF := Lib.hid (show toks s.data.toList = toksT (s.data.toList.length + 1) (trimB s.data.toList) from rfl)
  have hl := trimB_le s.data.toList
  rw [size_len] at hl HF
  generalize trimB s.data.toList = t0 at *
  generalize toks s.data.toList = F at *
  have hst : (st t0).size = t0.length := st_size t0
  have hsd : (st t0).data.toList = t0 := st_data t0
  generalize st t0 = x0 at *
  subst hsd
  clear hst
  rw [size_len] at hl
  go_enter Tryz.func21, Tryz.ntmps21
  go_wp2_with (go_at_call 30; refine hT.mono ?_; rintro e w1 ⟨rfl, hb1⟩)
  clear hT
  have HB1 := Lib.hid hb1
  clear hb1
  go_loopw [0, 3, 4, 9, 10, 11] (fun xv lv _ _ _ _ wr => tkRel w F xv lv wr) (fun xv _ _ _ _ _ _ => match xv with | .string x => x.size | _ => 0)
  case atStart => exact ⟨x0, [], s.size + 1, rfl, by simp; omega, by omega, by rw [HF.out]; simp, World.ownsRow_nil _ _ _ _, HB1.out⟩
  case round =>
    obtain ⟨x, pre, f, rfl, hp, hf, hF, hown, hb⟩ := hrel
    clear HB1 HF hl
    by_cases h0 : 0 < x.size
    · obtain ⟨q, rfl⟩ : ∃ q, f = q + 1 := ⟨f - 1, by omega⟩
      obtain ⟨r, hr⟩ := head_byte h0
      have hne0 : x.data.toList ≠ [] := by rw [hr]; simp
      have hne : x.toList.isEmpty = false := by rw [Lib.toList_data, hr]; rfl
      have hx256 : x.size ≤ 256 := by omega
      have HS := Lib.hid (tokenSize_any x (by unfold maxLen; omega) h0)
      clear hr r
      have hbz := hb.size
      cases hk : tokN x.data.toList with
      | none =>
        rw [hk] at HS
        have E := Lib.hid (show F = none by rw [hF, toksT, if_neg hne0, hk]; rfl)
        have HB := Lib.hid hb
        clear hF hk hown hb hne0
        go_wp2_with (go_at_call 31; (with_reducible refine (HS.out _).mono ?_); rintro e w' ⟨rfl, rfl⟩)
        refine ⟨rfl, ?_⟩
        rw [E.out]
        exact ⟨rfl, HB.out⟩
      | some k =>
        rw [hk] at HS
        obtain ⟨k0, k1⟩ := tokN_pos hk
        rw [size_len] at k1
        have HT := Lib.hid (fun w => trim_any (x.extract k x.size) w)
        have HR := Lib.hid (fun (w1 w2 wz : World) (v' : Value) => tk_step (w := w) (w1 := w1) (w2 := w2) (wz := wz) (v' := v') hp (by omega) hne0 hk hF hown hb)
        have HM := Lib.hid (show (trimB (x.extract k x.size).data.toList).length < x.size by
          have := trimB_le (x.extract k x.size).data.toList
          rw [extract_drop, st_data, List.length_drop, size_len] at this
          rw [extract_drop, st_data]
          omega)
        have HO := Lib.hid hown
        have HB := Lib.hid hb
        have hpl : pre.length ≤ 256 := by omega
        clear hF hk hown hb hne0
        go_wp2_with (first
          | (go_at_call 31; (with_reducible refine (HS.out _).mono ?_); rintro e w' ⟨rfl, rfl⟩)
          | (at_builtin; refine wpList_append_own _ rfl _ _ 53 rfl w.heap.size 9 i0 (.string ByteArray.empty) 1 16 Tryz.underlying53 hi hz0 hz1 hz2 rfl (by decide) _ _ _ rfl (HO.out.alloc _) ⟨_, 0, none⟩ 1 1 [.string (x.extract 0 k)] rfl rfl (cell_new _ _ _) (by simp [Value.oneCell']) (by unfold maxLen; omega) (by omega) (by simp; omega) ?_; intro v' w2 hown' hgrow _))
        have R := Lib.hid (fun wz => HR.out _ w2 wz v' ((Below.refl _ _).alloc (Nat.le_refl _) _) hown' hgrow)
        clear hown' hgrow HO HR
        go_wp2_with (go_at_call 30; (with_reducible refine (HT.out _).mono ?_); rintro e w3 ⟨rfl, hb3⟩)
        go_roundw
        case rel =>
          have := R.out _ hb3
          rw [extract_mid] at this
          exact this
        case measure =>
          have := HM.out
          rw [extract_mid] at this
          show (st _).size < x.size
          rw [st_size]; exact this
    · have hx0 : x.data.toList = [] := by
        have := size_len x
        match hl : x.data.toList with
        | [] => rfl
        | c :: r => rw [hl] at this; simp at this; omega
      have hne : x.toList.isEmpty = true := by rw [Lib.toList_data, hx0]; rfl
      have E := Lib.hid (show F = some pre by
        obtain ⟨q, rfl⟩ : ∃ q, f = q + 1 := ⟨f - 1, by omega⟩
        rw [hF, hx0, toksT, if_pos rfl]; simp)
      have HO := Lib.hid hown
      have HB := Lib.hid hb
      clear hF hown hb hx0
      go_wp2
      go_ret
      rw [E.out]
      exact ⟨_, rfl, HO.out, HB.out⟩
end Go.Proofs.YtbmnngliapmgfaaGreatDoor
