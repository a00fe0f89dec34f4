/- Read of the program's terminal. -/
import Derived.Test.YtojbgokbobkbdaaEG
namespace Go.Proofs.Ytojbgokbobkbdaa
open Go.RowKit
set_option linter.unusedVariables false
set_option linter.unusedSimpArgs false
variable {W W' : World} {B T : Nat} {v0 v2 p v5 : Value} {q : Int} {e : Bool} {L : List Bs} {line sh : Bs} {S : Nat → Prop} {s : TS}
theorem ext_take (s : ByteArray) (m : Nat) : (s.extract 0 m).data.toList = s.data.toList.take m := by
  simp [ByteArray.data_extract]
theorem ext_drop (s : ByteArray) (m : Nat) : (s.extract m s.size).data.toList = s.data.toList.drop m := by
  simp [ByteArray.data_extract, List.take_of_length_le]
theorem ba_drop (x : Bs) (m : Nat) : (⟨x.toArray⟩ : ByteArray).extract m x.length = ⟨(x.drop m).toArray⟩ := by
  have h := ext_drop ⟨x.toArray⟩ m
  rw [ba_size] at h
  apply ByteArray.ext
  apply Array.toList_inj.1
  rw [h]
theorem ba_take (x : Bs) (m : Nat) : (⟨x.toArray⟩ : ByteArray).extract 0 m = ⟨(x.take m).toArray⟩ := by
  have h := ext_take ⟨x.toArray⟩ m
  apply ByteArray.ext
  apply Array.toList_inj.1
  rw [h]
theorem own_setCells {B : Nat} {e : TypeId} {g n cap : Nat} : ∀ (vs : List Value) (o : Nat) (W : World) (xs : List Value), W.ownsRow B e 1 (.slice (some ⟨g, 0, none⟩) n cap) n xs → o + vs.length = n →
    ∃ ys, (W.setCells g o vs).ownsRow B e 1 (.slice (some ⟨g, 0, none⟩) n cap) n ys ∧ ys.take o = xs.take o ∧ ys.drop o = vs
  | [], o, W, xs, h, hv => ⟨xs, h, rfl, List.drop_eq_nil_of_le (by have := h.1; simp at hv; omega)⟩
  | v :: r, o, W, xs, h, hv => by
    have hl := h.1
    simp at hv
    obtain ⟨ys, h1, h2, h3⟩ := own_setCells r (o + 1) _ _ (h.stored o v).1 (by omega)
    have hl' := h1.1
    have h4 : ys[o]? = some v := by
      have := congrArg (·[o]?) h2
      simp only [List.getElem?_take, Nat.lt_succ_self, if_true] at this
      rw [this, List.getElem?_set_self (by omega)]
    refine ⟨ys, h1, ?_, ?_⟩
    · have := congrArg (List.take o) h2
      rw [List.take_take, List.take_take, Nat.min_eq_left (by omega)] at this
      rw [this, List.take_set_of_le (by omega)]
    · rw [List.drop_eq_getElem_cons (by omega), h3]
      congr 1
      rw [List.getElem?_eq_getElem (by omega)] at h4
      exact Option.some.inj h4
theorem own_all {B : Nat} {e : TypeId} {g n cap : Nat} {W : World} {xs vs : List Value} (h : W.ownsRow B e 1 (.slice (some ⟨g, 0, none⟩) n cap) n xs) (hv : vs.length = n) : (W.setCells g 0 vs).ownsRow B e 1 (.slice (some ⟨g, 0, none⟩) n cap) n vs := by
  obtain ⟨ys, h1, _, h3⟩ := own_setCells vs 0 W xs h (by omega)
  rw [List.drop_zero] at h3
  subst h3
  exact h1
/-- the row of lines is written anew. -/
theorem TR.row0 {g cap : Nat} (h : TR W B T (.slice (some ⟨g, 0, none⟩) L.length cap) q v2 e p v5 L line sh) {L' : List Bs} (f : Fr (· = g) W W') (h0 : W'.ownsRow B 9 1 (.slice (some ⟨g, 0, none⟩) L.length cap) L.length (L'.map encStr)) :
    TR W' B T (.slice (some ⟨g, 0, none⟩) L.length cap) q v2 e p v5 L' line sh := by
  have hl : L'.length = L.length := by have := h0.1; simpa using this
  refine ⟨(f.block T (heap_lt h.hb) (fun he => h.n0 g rfl he.symm)).trans h.hb, h.hp, by rw [hl]; exact h0, own_fr h.o2 f (fun k hk he => ?_), ownF_fr h.o5 f (fun k hk he => ?_), h.n25, h.base, h.z5⟩
  · subst he; exact h.n02 k rfl hk
  · subst he; exact h.n05 k rfl hk
theorem del_any (g cap : Nat) (x : Bs) (r : List Bs) (B : Nat) (w : World) (h : w.ownsRow B 9 1 (.slice (some ⟨g, 0, none⟩) (r.length + 1) cap) (r.length + 1) ((x :: r).map encStr)) :
    Calls Try.prog 31 #[.slice (some ⟨g, 0, none⟩) (r.length + 1) cap, .int .i64 0, .int .i64 1] w fun e w' => e = .returned (.slice (some ⟨g, 0, none⟩) r.length cap) ∧
      w'.ownsRow B 9 1 (.slice (some ⟨g, 0, none⟩) r.length cap) r.length (r.map encStr) ∧ Fr (· = g) w w' := by
  have hcap : r.length + 1 ≤ cap ∧ cap ≤ maxLen := by
    rcases h.2 with ⟨hv, _⟩ | ⟨g', cap', cur, hv, hb, hg, h1, h2, _⟩
    · cases hv
    · cases hv; exact ⟨h1, h2⟩
  have hs : Lib.strsOf (fun i => ⟨((x :: r)[i]?.getD []).toArray⟩) (r.length + 1) = x :: r := by
    apply List.ext_getElem?
    intro i
    unfold Lib.strsOf
    rw [List.getElem?_map]
    by_cases hi : i < r.length + 1
    · rw [List.getElem?_range hi, List.getElem?_eq_getElem (by simpa using hi)]
      simp only [Option.map_some, List.getElem?_eq_getElem (show i < (x :: r).length by simpa using hi), Option.getD_some]
    · rw [List.getElem?_eq_none (by simp; omega), List.getElem?_eq_none (by simp; omega)]
      rfl
  have key := Try.slices_Delete_string_cells g 0 (r.length + 1) cap 0 1 (fun i => ⟨((x :: r)[i]?.getD []).toArray⟩) w hcap.1 (by have := hcap.2; unfold maxLen at this; omega) (by decide) (by omega)
    (fun i hi => by
      rw [Nat.zero_add, h.cellAt i (by omega), List.getElem?_map, List.getElem?_eq_getElem (by simpa using hi)]
      rfl) (fun j hj => by rw [Nat.zero_add]; exact h.frozenAt j)
  rw [hs] at key
  refine key.mono ?_
  rintro e w' ⟨rfl, q, rfl⟩
  have hf0 : Fr (fun _ => False) w (w.drewN q) := (Fr.refl _ w).drewN q
  have h1 := own_fr h hf0 (fun _ _ => id)
  have h2 := own_all h1 (vs := ((x :: r).take 0 ++ (x :: r).drop 1 ++ List.replicate (1 - 0) []).map encStr) (by simp)
  have h3 := own_cut h2 (show r.length ≤ r.length + 1 by omega)
  refine ⟨rfl, ?_, Fr.setCells (S := (· = g)) (.inl rfl) _ 0 _ (hf0.mono fun _ _ h => h.elim)⟩
  simpa using h3
/-- what Read tells. -/
def readV (n : Int) (s : TS) : Value := .tuple #[.string ⟨(readS n s).toArray⟩, .bool (readB n s)]
theorem read_any (n : Int) (h : TAt W B T S s) (hk : Ok s) :
    Calls Try.prog 19 #[.pointer (some ⟨T, 0, none⟩), .int .i64 n] W fun r w' => r = .returned (readV n s) ∧ Does W B T S (readP n s) w' := by
  obtain ⟨L, line, echo, sh⟩ := s
  have hkl := hk.lines
  have hka := hk.all
  have H := Lib.hid h
  by_cases hn : n < 1
  · have R1 : readP n ⟨L, line, echo, sh⟩ = ⟨L, line, echo, sh⟩ := if_pos hn
    have R2 : readV n ⟨L, line, echo, sh⟩ = .tuple #[.string ⟨#[]⟩, .bool false] := by unfold readV readS readB; rw [if_pos hn, if_pos hn]
    rw [R1, R2]
    clear h hk R1 R2
    go_enter Try.func19, Try.ntmps19
    go_wp2
    go_ret2
    exact ⟨rfl, H.out.does⟩
  · cases L with
    | nil =>
      have R1 : readP n ⟨[], line, echo, sh⟩ = ⟨[], line, echo, sh⟩ := (read_none n line sh echo).1
      have R2 : readV n ⟨[], line, echo, sh⟩ = .tuple #[.string ⟨#[]⟩, .bool false] := by unfold readV; rw [(read_none n line sh echo).2.1, (read_none n line sh echo).2.2]
      rw [R1, R2]
      have hc : ∃ ao cap, W.cell? ⟨T, 0, none⟩ = some (.slice ao 0 cap) := by
        obtain ⟨v0, v2, v5, p, h1, hS⟩ := h
        obtain ⟨ao, cap, hv, -⟩ := own_form h1.o0
        exact ⟨ao, cap, hv ▸ h1.cell.1⟩
      obtain ⟨ao, cap, c0⟩ := hc
      clear h hk R1 R2
      go_enter Try.func19, Try.ntmps19
      go_wp2
      go_ret2
      exact ⟨rfl, H.out.does⟩
    | cons x r =>
      obtain ⟨v0, v2, v5, p, h1, hS⟩ := h
      simp only at h1
      obtain ⟨g, cap, rfl, hgB, hgl⟩ := h1.o0.form (by simp)
      have hne : ((r.length : Int) + 1 == 0) = false := by simp; omega
      have hcx : W.cell? ⟨g, 0, none⟩ = some (.string ⟨x.toArray⟩) := by
        rw [h1.o0.cellAt 0 (by simp)]; rfl
      have hfx : W.frozen? ⟨g, 0, none⟩ = false := h1.o0.frozenAt 0
      have hgT : g ≠ T := h1.n0 g rfl
      obtain ⟨c0, c1, -, -, -, -⟩ := h1.cell
      simp only [List.length_cons] at c0
      have f0 := h1.frozen 0
      have f1 := h1.frozen 1
      have hxs := ba_size x
      have hxl : x.length ≤ 1024 := by simp [cnt] at hka; omega
      by_cases hx : n < x.length
      · obtain ⟨k, rfl⟩ : ∃ k : Nat, n = k := ⟨n.toNat, by omega⟩
        have hk1 : k < x.length := by omega
        have R1 : readP (k : Int) ⟨x :: r, line, echo, sh⟩ = ⟨x.drop k :: r, line, echo, sh⟩ := by
          unfold readP; rw [if_neg hn]; exact if_pos hx
        have R2 : readV (k : Int) ⟨x :: r, line, echo, sh⟩ = .tuple #[.string ⟨(x.take k).toArray⟩, .bool true] := by
          unfold readV readS readB; rw [if_neg hn, if_neg hn]; simp only; rw [if_pos hx]; rfl
        rw [R1, R2]
        have hb1 : (k : Int) ≤ x.length := by omega
        have hq : ((cnt (x :: r) : Nat) : Int) - k = (cnt (x.drop k :: r) : Nat) := by simp [cnt]; omega
        have hd1 : W.drew.cell? ⟨T, 0, none⟩ = some (.slice (some ⟨g, 0, none⟩) (r.length + 1) cap) := c0
        have hd2 : W.drew.cell? ⟨g, 0, none⟩ = some (.string ⟨x.toArray⟩) := hcx
        have hd3 : W.drew.frozen? ⟨g, 0, none⟩ = false := hfx
        have H1 := Lib.hid h1
        have hext := ba_drop x k
        have hext2 := ba_take x k
        obtain ⟨X, hX⟩ : ∃ X, X = (⟨x.toArray⟩ : ByteArray) := ⟨_, rfl⟩
        rw [← hX] at hcx hd2 hxs hext hext2
        have HX := Lib.hid hX
        have hx2 : (k : Int) < X.size := by omega
        have hb2 : (k : Int) ≤ X.size := by omega
        rw [← hxs] at hext
        clear hX hk R1 R2 H h1 hx hb1 hk1
        have HXS := Lib.hid hxs
        clear hxs
        go_enter Try.func19, Try.ntmps19
        go_wp2
        go_region
        all_goals
          have hst := (H1.out.o0.stored 0 (encStr (x.drop k))).1
          have hr1 := H1.out.row0 (L' := x.drop k :: r) (Fr.one W g 0 _) hst
          have hr2 := hr1.fr (S := fun _ => False) ((Fr.refl _ _).drew) (fun _ _ => id)
          have F1 := Lib.hid ((Fr.one W g 0 (encStr (x.drop k))).drew)
          have K1 := Lib.hid hr2
          clear hst hr1 hr2 c0 c1 f0 f1 hcx hfx hd1 hd2 hd3
          generalize (W.setCell ⟨g, 0, none⟩ (.string ⟨(x.drop k).toArray⟩)).drew = w1 at *
          obtain ⟨-, c1, -, -, -, -⟩ := K1.out.cell
          have f1 := K1.out.frozen 1
          go_wp2
          go_ret2
          refine ⟨rfl, _, ⟨_, _, _, _, K1.out.sq _, rfl⟩, ?_, fun k hk => .inl (by rw [hS]; exact hk)⟩
          rw [hS]
          exact ((F1.out.mono fun k _ hk => .inr (.inl (by rw [hk]; rfl)))).setCell (p := ⟨T, 1, none⟩) (.inl (.inl rfl)) _
      · have R1 : readP n ⟨x :: r, line, echo, sh⟩ = ⟨r, line, echo, sh⟩ := by
          unfold readP; rw [if_neg hn]; exact if_neg hx
        have R2 : readV n ⟨x :: r, line, echo, sh⟩ = .tuple #[.string ⟨x.toArray⟩, .bool true] := by
          unfold readV readS readB; rw [if_neg hn, if_neg hn]; simp only; rw [if_neg hx]
        rw [R1, R2]
        have hq : ((cnt (x :: r) : Nat) : Int) - (max 1 x.length : Nat) = (cnt r : Nat) := by simp [cnt]; omega
        have HZ := fun w => size_any x (by unfold maxLen; omega) w
        have HD := Lib.hid (del_any g cap x r B W h1.o0)
        have H1 := Lib.hid h1
        obtain ⟨X, hX⟩ : ∃ X, X = (⟨x.toArray⟩ : ByteArray) := ⟨_, rfl⟩
        rw [← hX] at hcx hxs HZ ⊢
        have hx2 : ¬ n < X.size := by omega
        have HXS := Lib.hid hxs
        have hwr : IntKind.i64.wrap ((cnt r : Nat) : Int) = (cnt r : Nat) := by rw [IntKind.wrap_i64]; simp [cnt] at hka; omega
        clear hX hk R1 R2 H h1 hx hxs hfx
        go_enter Try.func19, Try.ntmps19
        go_wp2_with fail
        refine HD.out.mono ?_
        rintro r' w1 ⟨rfl, o1, fd⟩
        have hgr : W.grownBy w1 (some g) := ⟨fd.os, fd.tape, fd.output, fd.size, fun k hk hne => fd.block k hk (fun e => hne (by rw [e]))⟩
        obtain ⟨k1, k2, k3⟩ := H1.out.a0 hgr (v0' := .slice (some ⟨g, 0, none⟩) r.length cap) (L' := r) o1 (.inl rfl)
        have hT := fd.block T (heap_lt H1.out.hb) (fun he => hgT he.symm)
        have e0 : w1.cell? ⟨T, 0, none⟩ = some (.slice (some ⟨g, 0, none⟩) (r.length + 1) cap) := (World.cell?_of_block hT).trans c0
        have g0 : w1.frozen? ⟨T, 0, none⟩ = false := (World.frozen?_of_block hT).trans f0
        have K1 := Lib.hid k1
        have K2 := Lib.hid k2
        have K3 := Lib.hid k3
        clear k1 k2 k3 o1 fd hgr HD H1 hT c0 c1 f0 f1 hcx
        go_wp2_with fail
        generalize w1.setCell ⟨T, 0, none⟩ (.slice (some ⟨g, 0, none⟩) r.length cap) = w3 at *
        clear e0 g0
        have hD := K1.out.fr (S := fun _ => False) ((Fr.refl _ w3).drew) (fun _ _ => id)
        have c1 := hD.cell.2.1
        have f1 := hD.frozen 1
        have d1 := K1.out.cell.2.1
        have g1 := K1.out.frozen 1
        clear hD
        go_region_with (go_at_call 32; refine (HZ _).mono ?_; rintro r w4 ⟨rfl, rfl⟩)
        all_goals
          go_wp2
          go_ret2
          have k1 := K1.out.sq (cnt r : Nat)
          have k2 := k1.fr (S := fun _ => False) ((Fr.refl _ _).drew) (fun _ _ => id)
          refine ⟨rfl, _, ⟨_, _, _, _, k2, rfl⟩, ?_, fun k hk => ?_⟩
          · rw [hS]
            exact (K2.out.setCell (p := ⟨T, 1, none⟩) (.inl (.inl rfl)) _).drew
          · rw [hS]
            exact K3.out k hk
end Go.Proofs.Ytojbgokbobkbdaa
