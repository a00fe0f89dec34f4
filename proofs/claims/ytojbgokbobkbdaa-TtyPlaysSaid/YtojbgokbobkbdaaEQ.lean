/- The document's terminal in memory; its small calls. -/
import Derived.Test.YtojbgokbobkbdaaEK
namespace Go.Proofs.Ytojbgokbobkbdaa
open Go.RowKit
set_option linter.unusedVariables false
set_option linter.unusedSimpArgs false
section
variable {W W' : World} {B n size : Nat} {e : TypeId} {v : Value} {xs : List Value}
theorem ownG_type (h : W.ownsRow B e size v n xs) {k : Nat} (hk : v.ownBlock = some k) : B ≤ k ∧ k < W.heap.size ∧ ∃ cur fz, W.heap[k]? = some (.cells cur e fz) := by
  rcases h.2 with ⟨rfl, _⟩ | ⟨g, cap, cur, rfl, hb, hg, _⟩
  · simp [Value.ownBlock] at hk
  · simp [Value.ownBlock] at hk
    subst hk
    exact ⟨hb, heap_lt hg, cur, _, hg⟩
theorem ownG_fr {S : Nat → Prop} (h : W.ownsRow B e size v n xs) (f : Fr S W W') (hs : ∀ k, v.ownBlock = some k → ¬ S k) : W'.ownsRow B e size v n xs := by
  refine ⟨h.1, ?_⟩
  rcases h.2 with hn | ⟨g, cap, cur, rfl, hb, hg, rest⟩
  · exact .inl hn
  · exact .inr ⟨g, cap, cur, rfl, hb, (f.block g (heap_lt hg) (hs g rfl)).trans hg, rest⟩
theorem ownG_form (h : W.ownsRow B e size v n xs) : ∃ ao cap, v = .slice ao n cap ∧ n ≤ cap ∧ cap ≤ maxLen := by
  rcases h.2 with ⟨rfl, rfl⟩ | ⟨g, cap, cur, rfl, _, _, hc, hm, _⟩
  · exact ⟨_, _, rfl, Nat.le_refl _, Nat.zero_le _⟩
  · exact ⟨_, _, rfl, hc, hm⟩
end
/-- a line's cells. -/
def lineC (x : Bs) : List Value := [encStr x, .bool (x.length == 0)]
def rowsC (L : List Bs) : List Value := L.flatMap lineC
theorem rowsC_len (L : List Bs) : (rowsC L).length = L.length * 2 := by
  induction L with
  | nil => rfl
  | cons x r ih => simp [rowsC, lineC] at ih ⊢; omega
theorem rowsC_app (a b : List Bs) : rowsC (a ++ b) = rowsC a ++ rowsC b := by simp [rowsC]
theorem rowsC_cons (x : Bs) (r : List Bs) : rowsC (x :: r) = lineC x ++ rowsC r := by simp [rowsC]
theorem rowsC_get (L : List Bs) (k : Nat) (h : k < L.length) : (rowsC L)[k * 2]? = some (encStr L[k]) ∧ (rowsC L)[k * 2 + 1]? = some (.bool (L[k].length == 0)) := by
  induction L generalizing k with
  | nil => simp at h
  | cons x r ih =>
    rw [rowsC_cons]
    cases k with
    | zero => exact ⟨rfl, rfl⟩
    | succ k =>
      have := ih k (by simp at h; omega)
      rw [show (k + 1) * 2 = 2 + k * 2 by omega, show 2 + k * 2 + 1 = 2 + (k * 2 + 1) by omega]
      rw [List.getElem?_append_right (by simp [lineC]), List.getElem?_append_right (by simp [lineC])]
      rw [show 2 + k * 2 - (lineC x).length = k * 2 by simp [lineC], show 2 + (k * 2 + 1) - (lineC x).length = k * 2 + 1 by simp [lineC]]
      simpa using this
/-- the document's terminal. -/
structure DR (W : World) (B D : Nat) (v : Value) (L : List Bs) (line : Bs) (off : Bool) (sh : Bs) : Prop where
  hb : W.heap[D]? = some (.cells #[v, .string ⟨line.toArray⟩, .bool off, .string ⟨sh.toArray⟩] 29 (0, 0))
  o : W.ownsRow B 57 2 v L.length (rowsC L)
  base : B ≤ D
def Bd (D : Nat) (v : Value) (k : Nat) : Prop := k = D ∨ v.ownBlock = some k
section
variable {W W' : World} {B D : Nat} {v : Value} {off : Bool} {L : List Bs} {line sh : Bs}
theorem DR.lt (h : DR W B D v L line off sh) {k : Nat} (hk : Bd D v k) : B ≤ k ∧ k < W.heap.size := by
  rcases hk with rfl | hk
  · exact ⟨h.base, heap_lt h.hb⟩
  · exact ⟨(ownG_type h.o hk).1, (ownG_type h.o hk).2.1⟩
theorem DR.nD (h : DR W B D v L line off sh) : ∀ k, v.ownBlock = some k → k ≠ D := by
  rintro k hk rfl
  obtain ⟨_, _, c, f, hc⟩ := ownG_type h.o hk
  exact types_ne hc h.hb (by decide)
theorem DR.fr {S : Nat → Prop} (h : DR W B D v L line off sh) (f : Fr S W W') (hs : ∀ k, Bd D v k → ¬ S k) : DR W' B D v L line off sh :=
  ⟨(f.block D (heap_lt h.hb) (hs D (.inl rfl))).trans h.hb, ownG_fr h.o f fun k hk => hs k (.inr hk), h.base⟩
theorem DR.cell (h : DR W B D v L line off sh) : W.cell? ⟨D, 0, none⟩ = some v ∧ W.cell? ⟨D, 1, none⟩ = some (.string ⟨line.toArray⟩) ∧ W.cell? ⟨D, 2, none⟩ = some (.bool off) ∧ W.cell? ⟨D, 3, none⟩ = some (.string ⟨sh.toArray⟩) := by
  refine ⟨?_, ?_, ?_, ?_⟩ <;> rw [Lib.cell_of_heap h.hb] <;> rfl
theorem DR.frozen (h : DR W B D v L line off sh) (o : Nat) : W.frozen? ⟨D, o, none⟩ = false := Lib.frozen_of_heap h.hb o
theorem DR.s1 (h : DR W B D v L line off sh) (line' : Bs) : DR (W.setCell ⟨D, 1, none⟩ (.string ⟨line'.toArray⟩)) B D v L line' off sh :=
  ⟨heap_set h.hb _ _, ownG_fr h.o (Fr.one _ _ _ _) h.nD, h.base⟩
theorem DR.s2 (h : DR W B D v L line off sh) (off' : Bool) : DR (W.setCell ⟨D, 2, none⟩ (.bool off')) B D v L line off' sh :=
  ⟨heap_set h.hb _ _, ownG_fr h.o (Fr.one _ _ _ _) h.nD, h.base⟩
theorem DR.s3 (h : DR W B D v L line off sh) (sh' : Bs) : DR (W.setCell ⟨D, 3, none⟩ (.string ⟨sh'.toArray⟩)) B D v L line off sh' :=
  ⟨heap_set h.hb _ _, ownG_fr h.o (Fr.one _ _ _ _) h.nD, h.base⟩
theorem DR.s0 (h : DR W B D v L line off sh) {v' : Value} {L' : List Bs} (h0 : W.ownsRow B 57 2 v' L'.length (rowsC L')) : DR (W.setCell ⟨D, 0, none⟩ v') B D v' L' line off sh :=
  ⟨heap_set h.hb _ _, ownG_fr h0 (Fr.one _ _ _ _) (by
    rintro k hk rfl
    obtain ⟨_, _, c, f, hc⟩ := ownG_type h0 hk
    exact types_ne hc h.hb (by decide)), h.base⟩
theorem ownG_none (W : World) (B : Nat) (e : TypeId) : W.ownsRow B e 2 (.slice none 0 0) 0 [] := World.ownsRow_nil W B e 2
/-- a new row. -/
theorem DR.a0 (h : DR W B D v L line off sh) {v' : Value} {L' : List Bs} (g : W.grownBy W' v.ownBlock) (h0 : W'.ownsRow B 57 2 v' L'.length (rowsC L')) (hv : v'.ownBlock = v.ownBlock ∨ ∃ k, v'.ownBlock = some k ∧ W.heap.size ≤ k) :
    DR (W'.setCell ⟨D, 0, none⟩ v') B D v' L' line off sh ∧ Fr (Bd D v) W (W'.setCell ⟨D, 0, none⟩ v') ∧ (∀ k, Bd D v' k → Bd D v k ∨ W.heap.size ≤ k) := by
  have f := Fr.grown g
  have hT : W'.heap[D]? = _ := (f.block D (heap_lt h.hb) (fun hk => h.nD D hk rfl)).trans h.hb
  refine ⟨⟨heap_set hT _ _, ownG_fr h0 (Fr.one _ _ _ _) (by
    rintro k hk rfl
    obtain ⟨_, _, c, f, hc⟩ := ownG_type h0 hk
    exact types_ne hc hT (by decide)), h.base⟩, (f.mono fun k _ hk => .inr hk).setCell (p := ⟨D, 0, none⟩) (.inl (.inl rfl)) _, ?_⟩
  rintro k (rfl | hk)
  · exact .inl (.inl rfl)
  · rcases hv with hv | ⟨j, hv, hj⟩
    · exact .inl (.inr (hv ▸ hk))
    · rw [hv] at hk; cases hk; exact .inr hj
end
def DAt (W : World) (B D : Nat) (R : Nat → Prop) (s : TS) : Prop := ∃ v, DR W B D v s.L s.line (!s.echo) s.shown ∧ R = Bd D v
def DDoes (W : World) (B D : Nat) (R : Nat → Prop) (s : TS) (w' : World) : Prop := ∃ R', DAt w' B D R' s ∧ Step R R' W w'
section
variable {W W' : World} {B D : Nat} {v : Value} {off : Bool} {L : List Bs} {line sh : Bs} {R : Nat → Prop} {s : TS}
theorem DAt.lt (h : DAt W B D R s) {k : Nat} (hk : R k) : B ≤ k ∧ k < W.heap.size := by
  obtain ⟨v, h1, rfl⟩ := h
  exact h1.lt hk
theorem DAt.fr {S : Nat → Prop} (h : DAt W B D R s) (f : Fr S W W') (hs : ∀ k, R k → ¬ S k) : DAt W' B D R s := by
  obtain ⟨v, h1, rfl⟩ := h
  exact ⟨v, h1.fr f hs, rfl⟩
theorem DAt.does (h : DAt W B D R s) : DDoes W B D R s W := ⟨R, h, Step.refl _ _⟩
theorem DDoes.then {W1 W2 : World} {R1 : Nat → Prop} {s2 : TS} (k : Step R R1 W W1) (h : DDoes W1 B D R1 s2 W2) : DDoes W B D R s2 W2 := by
  obtain ⟨S', h1, h2⟩ := h
  exact ⟨S', h1, k.trans h2⟩
theorem rclear_any (h : DAt W B D R s) :
    Calls Try.prog 27 #[.pointer (some ⟨D, 0, none⟩)] W fun r w' => r = .returned (.tuple #[]) ∧ DDoes W B D R (clearP s) w' := by
  obtain ⟨v, h1, hR⟩ := h
  obtain ⟨c0, c1, c2, -⟩ := h1.cell
  have f0 := h1.frozen 0
  have f1 := h1.frozen 1
  have f2 := h1.frozen 2
  have H := Lib.hid h1
  clear h1
  go_enter Try.func27, Try.ntmps27
  go_wp2
  refine bodyPost_end (results_none rfl _ _ _) rfl ?_
  have k0 := ((H.out.s0 (v' := .slice none 0 0) (L' := []) (ownG_none _ _ _)).s1 []).s2 false
  refine ⟨rfl, _, ⟨_, k0, rfl⟩, (((Fr.one _ _ _ _).trans (Fr.one _ _ _ _)).trans (Fr.one _ _ _ _)).mono (fun k _ hk => by rw [hR]; exact .inl hk), fun k hk => ?_⟩
  rcases hk with hk | hk
  · exact .inl (by rw [hR]; exact .inl hk)
  · cases hk
theorem recho_any (on : Bool) (h : DAt W B D R s) :
    Calls Try.prog 25 #[.pointer (some ⟨D, 0, none⟩), .bool on] W fun r w' => r = .returned (.tuple #[]) ∧ DDoes W B D R (echoP on s) w' := by
  obtain ⟨v, h1, hR⟩ := h
  obtain ⟨c0, c1, c2, -⟩ := h1.cell
  have f0 := h1.frozen 0
  have f1 := h1.frozen 1
  have f2 := h1.frozen 2
  have H := Lib.hid h1
  clear h1
  by_cases ho : on = s.echo
  · have R1 : echoP on s = s := if_pos ho
    have HR := Lib.hid R1
    have b1 : (on == !s.echo) = false := by rw [ho]; cases s.echo <;> rfl
    have HO := Lib.hid ho
    clear R1 ho
    go_enter Try.func25, Try.ntmps25
    go_wp2
    refine bodyPost_end (results_none rfl _ _ _) rfl ?_
    rw [HR.out]
    exact ⟨rfl, R, ⟨v, HO.out ▸ H.out.s2 (!on), hR⟩, (Fr.one _ _ _ _).mono (fun k _ hk => by rw [hR]; exact .inl hk), fun k hk => .inl hk⟩
  · have R1 : echoP on s = ⟨[], [], on, s.shown⟩ := if_neg ho
    have HR := Lib.hid R1
    have b1 : (on == !s.echo) = true := by cases on <;> cases h : s.echo <;> simp [h] at ho ⊢
    clear R1 ho
    go_enter Try.func25, Try.ntmps25
    go_wp2
    refine bodyPost_end (results_none rfl _ _ _) rfl ?_
    have k0 := ((H.out.s0 (v' := .slice none 0 0) (L' := []) (ownG_none _ _ _)).s1 []).s2 (!on)
    rw [HR.out]
    refine ⟨rfl, _, ⟨_, k0, rfl⟩, (((Fr.one _ _ _ _).trans (Fr.one _ _ _ _)).trans (Fr.one _ _ _ _)).mono (fun k _ hk => by rw [hR]; exact .inl hk), fun k hk => ?_⟩
    rcases hk with hk | hk
    · exact .inl (by rw [hR]; exact .inl hk)
    · cases hk
theorem app_list (l : Bs) (t : ByteArray) : (⟨l.toArray⟩ : ByteArray) ++ t = ⟨(l ++ t.data.toList).toArray⟩ := by
  apply ByteArray.ext
  apply Array.toList_inj.1
  simp
theorem rwrite_any (t : ByteArray) (h : DAt W B D R s) (hlen : s.shown.length + t.size ≤ 140737488355328) :
    Calls Try.prog 24 #[.pointer (some ⟨D, 0, none⟩), .string t] W fun r w' => r = .returned (.tuple #[]) ∧ DDoes W B D R (writeP t.data.toList s) w' := by
  obtain ⟨v, h1, hR⟩ := h
  obtain ⟨-, -, -, c3⟩ := h1.cell
  have f3 := h1.frozen 3
  have H := Lib.hid (h1.s3 (s.shown ++ t.data.toList))
  rw [← app_list] at H
  have hX : (⟨s.shown.toArray⟩ : ByteArray).size + t.size ≤ 140737488355328 := by rw [ba_size]; exact hlen
  generalize (⟨s.shown.toArray⟩ : ByteArray) = X at *
  clear h1
  go_enter Try.func24, Try.ntmps24
  go_wp2
  refine bodyPost_end (results_none rfl _ _ _) rfl ?_
  exact ⟨rfl, R, ⟨v, H.out, hR⟩, (Fr.one _ _ _ _).mono (fun k _ hk => by rw [hR]; exact .inl hk), fun k hk => .inl hk⟩
theorem cnt_snoc (l : List Bs) (x : Bs) : cnt (l ++ [x]) = cnt l + x.length + (if x.length = 0 then 1 else 0) := by
  rw [cnt_app, cnt_one]
  split <;> omega
theorem cnt_take (L : List Bs) (k : Nat) (h : k < L.length) : cnt (L.take (k + 1)) = cnt (L.take k) + L[k].length + (if L[k].length = 0 then 1 else 0) := by
  rw [List.take_add_one, List.getElem?_eq_getElem h]
  exact cnt_snoc _ _
theorem cnt_take_le (L : List Bs) (k : Nat) : cnt (L.take k) ≤ cnt L := by
  have := cnt_app (L.take k) (L.drop k)
  rw [List.take_append_drop] at this
  omega
def unRel (W : World) (L : List Bs) (iv nv : Value) (wr : World) : Prop := ∃ (k : Nat), iv = .int .i64 k ∧ k ≤ L.length ∧ nv = .int .i64 (cnt (L.take k) : Nat) ∧ wr = W
set_option maxHeartbeats 2000000 in
set_option maxRecDepth 100000 in
theorem runread_any (h : DAt W B D R s) (hk : Ok s) :
    Calls Try.prog 13 #[.pointer (some ⟨D, 0, none⟩)] W fun r w' => r = .returned (.tuple #[.int .i64 (cnt s.L : Nat), .int .i64 (s.line.length : Nat)]) ∧ DAt w' B D R s ∧ Fr (fun _ => False) W w' := by
  have H := Lib.hid h
  obtain ⟨v, h1, hR⟩ := h
  obtain ⟨c0, c1, -, -⟩ := h1.cell
  obtain ⟨ao, cap, hv, -, -⟩ := ownG_form h1.o
  have hls := ba_size s.line
  have hkl := hk.lines
  have hka := hk.all
  subst hv
  have HO := Lib.hid h1.o
  have HLS := Lib.hid hls
  obtain ⟨X, hX⟩ : ∃ X, X = (⟨s.line.toArray⟩ : ByteArray) := ⟨_, rfl⟩
  rw [← hX] at c1 HLS
  clear h1 hls hX
  go_enter Try.func13, Try.ntmps13
  go_wp2
  go_loopw [5, 4] (fun iv nv wr => unRel W s.L iv nv wr) (fun iv _ _ => s.L.length - (Lib.intOf iv).toNat)
  case atStart => exact ⟨0, rfl, Nat.zero_le _, rfl, rfl⟩
  case round =>
    obtain ⟨k, rfl, hk, rfl, rfl⟩ := hrel
    by_cases hlt : k < s.L.length
    · obtain ⟨g, cap2, hao, -, -⟩ := HO.out.form (by omega)
      cases hao
      have hg := rowsC_get s.L k hlt
      have hcl : ∀ j, j < s.L.length * 2 → wr.cell? ⟨g, j, none⟩ = (rowsC s.L)[j]? := fun j hj => HO.out.cellAt j hj
      have d0 : wr.cell? ⟨g, k * 2, none⟩ = some (encStr s.L[k]) := (hcl _ (by omega)).trans hg.1
      have d1 : wr.cell? ⟨g, k * 2 + 1, none⟩ = some (.bool (s.L[k].length == 0)) := (hcl _ (by omega)).trans hg.2
      have HC := Lib.hid (cnt_take s.L k hlt)
      have hle := cnt_take_le s.L (k + 1)
      have hle2 := HC.out
      have hxs := ba_size s.L[k]
      unfold encStr at d0
      generalize (⟨s.L[k].toArray⟩ : ByteArray) = Y at *
      generalize s.L[k].length = m at *
      have i0 : (0 : Int) ≤ k := by omega
      have i1 : (k : Int) < s.L.length := by omega
      have HXS := Lib.hid hxs
      have hY : Y.size ≤ 1024 := by omega
      clear hg hcl
      by_cases hm : m = 0
      · have d1' : wr.cell? ⟨g, k * 2 + 1, none⟩ = some (.bool true) := by rw [d1, hm]; rfl
        rw [if_pos hm] at HC hle2
        have hY2 : Y.size = 0 := by omega
        have hcc : cnt (s.L.take (k + 1)) = cnt (s.L.take k) + 0 + 1 := by omega
        have HCC := Lib.hid hcc
        have hcb : cnt (s.L.take k) ≤ 1024 := by omega
        clear d1 hle2 hm HC hxs hY hcc
        generalize cnt (s.L.take k) = c at *
        go_wp2
        go_roundw
        case rel => exact ⟨k + 1, by go_num, by omega, by rw [HCC.out]; congr 1, rfl⟩
        case measure => simp [Lib.intOf]; omega
      · have d1' : wr.cell? ⟨g, k * 2 + 1, none⟩ = some (.bool false) := by rw [d1]; simp [hm]
        rw [if_neg hm] at HC hle2
        have hcc : cnt (s.L.take (k + 1)) = cnt (s.L.take k) + Y.size := by omega
        have HCC := Lib.hid hcc
        have hcb : cnt (s.L.take k) ≤ 1024 := by omega
        clear d1 hle2 hm HC hxs hcc
        generalize cnt (s.L.take k) = c at *
        go_wp2
        go_roundw
        case rel => exact ⟨k + 1, by go_num, by omega, by rw [HCC.out]; congr 1, rfl⟩
        case measure => simp [Lib.intOf]; omega
    · have i1 : ¬ (k : Int) < s.L.length := by omega
      rw [List.take_of_length_le (by omega)]
      clear hlt
      go_wp2
      go_quiet (fail)
      go_wp2
      go_ret2
      rw [HLS.out]
      exact ⟨rfl, H.out.fr (S := fun _ => False) ((Fr.refl _ _).drewN _) (fun _ _ => id), (Fr.refl _ _).drewN _⟩
theorem rfull_any (h : DAt W B D R s) (hk : Ok s) :
    Calls Try.prog 39 #[.pointer (some ⟨D, 0, none⟩)] W fun r w' => r = .returned (.bool (isFull s)) ∧ DAt w' B D R s ∧ Fr (fun _ => False) W w' := by
  have H := Lib.hid (runread_any h hk)
  have hka := hk.all
  have R1 : isFull s = decide ((1024 : Int) ≤ (cnt s.L : Int) + s.line.length) := by unfold isFull; congr 1; simp; omega
  have HR := Lib.hid R1
  clear h hk R1
  go_enter Try.func39, Try.ntmps39
  go_wp2_with fail
  refine H.out.mono ?_
  rintro r w1 ⟨rfl, h1, f1⟩
  clear H
  go_wp2
  go_ret
  exact ⟨ret_bool (by rw [HR.out]), h1, f1⟩
theorem ba_nil (l : Bs) : (⟨l.toArray⟩ : ByteArray).toList.isEmpty = (l.length == 0) := by
  have h : (⟨l.toArray⟩ : ByteArray).toList = l := by simp
  rw [h]
  cases l <;> rfl
theorem rback_any (h : DAt W B D R s) (hk : Ok s) (hs : s.shown.length ≤ 100000000000000) :
    Calls Try.prog 40 #[.pointer (some ⟨D, 0, none⟩)] W fun r w' => r = .returned (.tuple #[]) ∧ DDoes W B D R (eraseP 1 s) w' := by
  obtain ⟨v, h1, hR⟩ := h
  obtain ⟨-, c1, c2, c3⟩ := h1.cell
  have f1 := h1.frozen 1
  have f3 := h1.frozen 3
  have H := Lib.hid h1
  have hl := hk.line
  have hnil := ba_nil s.line
  have hsz := ba_size s.line
  by_cases h0 : s.line.length = 0
  · have hz : s.line = [] := List.eq_nil_of_length_eq_zero h0
    have R1 : eraseP 1 s = s := by
      obtain ⟨L, line, e, sh⟩ := s
      simp only at hz
      subst hz
      cases e <;> simp [eraseP, backs]
    have HR := Lib.hid R1
    rw [h0] at hnil
    have hb : (⟨s.line.toArray⟩ : ByteArray).toList.isEmpty = true := hnil
    generalize (⟨s.line.toArray⟩ : ByteArray) = X at *
    clear hz R1 h0 h1 hsz hnil hl
    go_enter Try.func40, Try.ntmps40
    go_wp2
    refine bodyPost_ret (results_none rfl _ _ _) rfl ?_
    rw [HR.out]
    exact ⟨rfl, R, ⟨v, H.out, hR⟩, Step.refl _ _⟩
  · obtain ⟨m, hm⟩ : ∃ m, s.line.length = m + 1 := ⟨s.line.length - 1, by omega⟩
    have hb : (⟨s.line.toArray⟩ : ByteArray).toList.isEmpty = false := by rw [hnil, hm]; rfl
    have hcut := ba_take s.line m
    have hX2 : (⟨s.shown.toArray⟩ : ByteArray).size + 3 ≤ 140737488355328 := by rw [ba_size]; omega
    have K0 := h1.fr (S := fun _ => False) ((Fr.refl _ W).drew) (fun _ _ => id)
    have K1 := h1.s1 (s.line.take m)
    have K2 := K1.fr (S := fun _ => False) ((Fr.refl _ _).drew) (fun _ _ => id)
    have HK2 := Lib.hid K2
    have R1 : eraseP 1 s = ⟨s.L, s.line.take m, s.echo, if s.echo then s.shown ++ [8, 32, 8] else s.shown⟩ := by
      unfold eraseP
      rw [show s.line.length - 1 = m by omega, show min 1 s.line.length = 1 by omega]
      rfl
    have HR := Lib.hid R1
    obtain ⟨-, d1, d2, d3⟩ := K0.cell
    have g1 := K0.frozen 1
    rw [hm] at hsz
    obtain ⟨X, hX⟩ : ∃ X, X = (⟨s.line.toArray⟩ : ByteArray) := ⟨_, rfl⟩
    rw [← hX] at c1 d1 hb hcut hsz
    have hmx : (m : Int) ≤ X.size := by omega
    have hwr : IntKind.i64.wrap (m : Int) = m := by rw [IntKind.wrap_i64]; omega
    have hfin : Fr (Bd D v) W (W.setCell ⟨D, 1, none⟩ (.string ⟨(s.line.take m).toArray⟩)).drew := ((Fr.one W D 1 _).mono (fun k _ hk => .inl hk)).drew
    have HFN := Lib.hid hfin
    clear hX h1 K0 K1 K2 R1 hl hk h0 hm hfin hnil
    go_enter Try.func40, Try.ntmps40
    go_wp2
    go_region
    all_goals
      clear c1 d1 f1 g1 hb c2 c3 d2 d3 f3
      generalize (W.setCell ⟨D, 1, none⟩ (.string ⟨(s.line.take m).toArray⟩)).drew = w1 at *
      obtain ⟨-, -, c2, c3⟩ := HK2.out.cell
      have f3 := HK2.out.frozen 3
      have HK3 := Lib.hid (HK2.out.s3 (s.shown ++ [8, 32, 8]))
      have q3 : (⟨(s.shown ++ [8, 32, 8]).toArray⟩ : ByteArray) = (⟨s.shown.toArray⟩ : ByteArray) ++ (⟨#[8, 32, 8]⟩ : ByteArray) := (app_list s.shown (⟨#[8, 32, 8]⟩ : ByteArray)).symm
      rw [q3] at HK3
      clear q3
      generalize (⟨s.shown.toArray⟩ : ByteArray) = Z at *
      cases he : s.echo
      · rw [he] at HR c2
        go_wp2
        refine bodyPost_end (results_none rfl _ _ _) rfl ?_
        rw [HR.out]
        exact ⟨rfl, _, ⟨v, by rw [he] at HK2; exact HK2.out, rfl⟩, hR ▸ HFN.out, fun k hk => .inl (hR ▸ hk)⟩
      · rw [he] at HR c2
        go_wp2
        refine bodyPost_end (results_none rfl _ _ _) rfl ?_
        rw [HR.out]
        exact ⟨rfl, _, ⟨v, by rw [he] at HK3; exact HK3.out, rfl⟩, hR ▸ (HFN.out.setCell (p := ⟨D, 3, none⟩) (.inl (.inl rfl)) _), fun k hk => .inl (hR ▸ hk)⟩
end
end Go.Proofs.Ytojbgokbobkbdaa
