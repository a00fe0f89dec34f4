/- The builder in the terminal; the small calls of the program. -/
import Derived.Test.YtojbgokbobkbdaaEB
import Derived.Test.YtojbgokbobkbdaaShelf
namespace Go.Proofs.Ytojbgokbobkbdaa
open Go.RowKit
set_option linter.unusedVariables false
set_option linter.unusedSimpArgs false

/-- 'append(buf, s...)' behind a frozen head, and where the new slice lies. -/
theorem run_app_str {P : Program} (w : World) (base : Nat) (t u ty e : TypeId) (i : TypeInfo) (ht : P.underlying t = some (.slice e)) (hu : P.underlying u = some .string) (hi : P.info? e = some i) (hz : i.zero = some (.int .u8 0))
    (hsize : i.size = 1) (hby : i.bytes = 1) (v : Value) (n : Nat) (xs : List Value) (hown : w.ownsRowF base e 1 v n xs) (s : ByteArray)
    (hbytes : n + s.size ≤ 140737488355328) (hbase : base ≤ w.heap.size) :
    ∃ v' w', (Builtin.append_ #[t, u] ty #[v, .string s]).run P w = .ok v' w' ∧ w'.ownsRowF base e 1 v' (n + s.size) (xs ++ Lib.strCells s) ∧ w.grownBy w' v.ownBlock ∧ (v' = .slice none 0 0 ↔ v = .slice none 0 0 ∧ s.size = 0) ∧
      (v'.ownBlock = v.ownBlock ∨ ∃ k, v'.ownBlock = some k ∧ w.heap.size ≤ k) := by
  have h63 : n + s.size ≤ maxLen := by unfold maxLen; omega
  rcases hown.2 with ⟨rfl, rfl⟩ | ⟨g, cap, cur, fz, rfl, hbg, hg, hfz, hnc, hcm, hcs, htake⟩
  · obtain ⟨v', w', h1, h2, h3, h4⟩ := Lib.run_append_own_stringF (P := P) w w.heap.size t u ty e i ht hu hi hz hsize hby (.slice none 0 0) 0 xs ⟨hown.1, .inl ⟨rfl, rfl⟩⟩ s h63 hbytes (Nat.le_refl _)
    refine ⟨v', w', h1, ⟨h2.1, ?_⟩, h3, h4, ?_⟩
    · rcases h2.2 with hn | ⟨g, cap, cur, fz, hv, hb, rest⟩
      · exact .inl hn
      · exact .inr ⟨g, cap, cur, fz, hv, Nat.le_trans hbase hb, rest⟩
    · rcases h2.2 with ⟨rfl, _⟩ | ⟨g, cap, cur, fz, rfl, hb, rest⟩
      · exact .inl rfl
      · exact .inr ⟨g, rfl, hb⟩
  · obtain ⟨v', w', h1, h2, h3, h4⟩ := Lib.run_append_own_stringF (P := P) w base t u ty e i ht hu hi hz hsize hby _ n xs hown s h63 hbytes hbase
    refine ⟨v', w', h1, h2, h3, h4, ?_⟩
    by_cases hroom : n + s.size ≤ cap
    · have hr := Lib.run_append_room_stringF (P := P) w t u ty e i ht hu hi hsize g n cap cur fz hg (by simpa using hfz) s hroom (by simp at hcs; omega)
      rw [h1] at hr
      injection hr with hv _
      exact .inl (by rw [hv]; rfl)
    · have holds : ∀ j u, xs[j]? = some u → w.cell? ((⟨g, 0, none⟩ : Addr).add j) = some u := hown.cells (g := g) rfl
      have hr := Lib.run_append_grow_string (P := P) w t u ty e i (.int .u8 0) ht hu hi hz ⟨g, 0, none⟩ n cap xs (by rw [hsize]; exact hown.1) holds s (by omega) (by omega) (by rw [hby]; exact growslice_fits (by omega) (by omega))
      rw [h1] at hr
      injection hr with hv _
      exact .inr ⟨w.heap.size, by rw [hv]; rfl, Nat.le_refl _⟩
theorem wpList_app_str {P : Program} {w : World} {ops : Array Oper} {rest : List Oper} {o : Oper} {a : Act} {Q : Exit → Act → World → Prop} (hgd : o.guard = none) (sl x : Operand) (t u : TypeId)
    (ho : o.op = .call { callee := .builtin .append, args := #[sl, x], argTypes := #[t, u] })
    (base : Nat) (e : TypeId) (i : TypeInfo) (ht : P.underlying t = some (.slice e)) (hu : P.underlying u = some .string) (hi : P.info? e = some i) (hz : i.zero = some (.int .u8 0))
    (hsize : i.size = 1) (hby : i.bytes = 1)
    (v : Value) (n : Nat) (xs : List Value) (hs : a.eval sl = v) (hown : w.ownsRowF base e 1 v n xs) (s : ByteArray) (hx : a.eval x = .string s)
    (hbytes : n + s.size ≤ 140737488355328) (hbase : base ≤ w.heap.size)
    (h : ∀ v' w', w'.ownsRowF base e 1 v' (n + s.size) (xs ++ Lib.strCells s) → w.grownBy w' v.ownBlock → (v' = .slice none 0 0 ↔ v = .slice none 0 0 ∧ s.size = 0) → (v'.ownBlock = v.ownBlock ∨ ∃ k, v'.ownBlock = some k ∧ w.heap.size ≤ k) → wpList P ops Q rest (a.put o.dst v') w') : wpList P ops Q (o :: rest) a w := by
  refine wpList_plain hgd fun K hK => ?_
  obtain ⟨v', w', hr, h2, h3, h4, h5⟩ := run_app_str (P := P) w base t u o.type e i ht hu hi hz hsize hby v n xs hown s hbytes hbase
  unfold Oper.wp execOp
  simp only [ho, resolve, invoke, builtin, Sem.run_bind, Sem.run_pure, Result.andThen_ok, List.map_toArray, List.map_cons, List.map_nil, hs, hx, hr]
  exact hK _ _ (h v' w' h2 h3 h4 h5)
theorem info_byte : ∃ i, Try.prog.info? 5 = some i ∧ i.zero = some (.int .u8 0) ∧ i.size = 1 ∧ i.bytes = 1 := by
  obtain ⟨i, hi⟩ : ∃ i, Try.prog.info? 5 = some i := by
    cases h : Try.prog.info? 5 with
    | none => have : (Try.prog.info? 5).isSome = true := by kernel_rfl
              rw [h] at this; cases this
    | some i => exact ⟨i, rfl⟩
  have h2 : (Try.prog.info? 5).map (fun i => (i.zero, i.size, i.bytes)) = some (some (.int .u8 0), 1, 1) := by kernel_rfl
  rw [hi] at h2
  simp only [Option.map_some, Option.some.injEq, Prod.mk.injEq] at h2
  exact ⟨i, hi, h2.1, h2.2.1, h2.2.2⟩
theorem info_string : ∃ i, Try.prog.info? 9 = some i ∧ i.zero = some (.string .empty) ∧ i.size = 1 ∧ i.bytes = 16 := by
  obtain ⟨i, hi⟩ : ∃ i, Try.prog.info? 9 = some i := by
    cases h : Try.prog.info? 9 with
    | none => have : (Try.prog.info? 9).isSome = true := by kernel_rfl
              rw [h] at this; cases this
    | some i => exact ⟨i, rfl⟩
  have h2 : (Try.prog.info? 9).map (fun i => (i.zero, i.size, i.bytes)) = some (some (.string .empty), 1, 16) := by kernel_rfl
  rw [hi] at h2
  simp only [Option.map_some, Option.some.injEq, Prod.mk.injEq] at h2
  exact ⟨i, hi, h2.1, h2.2.1, h2.2.2⟩
theorem info_builder : ∃ i, Try.prog.info? 53 = some i ∧ i.size = 2 := by
  cases h : Try.prog.info? 53 with
  | none => have : (Try.prog.info? 53).isSome = true := by kernel_rfl
            rw [h] at this; cases this
  | some i =>
    have h2 : (Try.prog.info? 53).map (·.size) = some 2 := by kernel_rfl
    rw [h] at h2
    exact ⟨i, rfl, by simpa using h2⟩
section
variable {W W' : World} {B T : Nat} {v0 v2 p v5 : Value} {q : Int} {e : Bool} {L : List Bs} {line sh : Bs}
theorem copy_fresh (T : Nat) (w : World) (h0 : w.cell? ⟨T, 4, none⟩ = some (.pointer none)) (hsh : w.shape? T = some (55, 6)) (hfz : w.frozen? ⟨T, 4, none⟩ = false) :
    Calls Try.prog 41 #[.pointer (some ⟨T, 4, none⟩)] w fun r w' => r = .returned (.tuple #[]) ∧ w' = w.setCell ⟨T, 4, none⟩ (.pointer (some ⟨T, 4, none⟩)) := by
  obtain ⟨j, hj, hjs⟩ := info_builder
  go_enter Try.func41, Try.ntmps41
  go_wp2
  rw [Lib.run_to_unsafe w ⟨T, 4, none⟩ Try.underlying51 Try.underlying67 hj (by rw [hjs]; decide) hsh (show 4 < 6 by decide)]
  simp only [Result.andThen]
  rw [Oper.upon_value]
  go_wp2
  rw [run_callFunc_extern Try.func46 (by kernel_rfl) (by kernel_rfl) (by kernel_rfl) (e := Extern.AbiNoEscape.same) (by kernel_rfl)]
  rw [Lib.run_noEscape]
  simp only [Result.andThen]
  rw [Oper.upon_value]
  go_wp2
  rw [Lib.run_from_unsafe w ⟨T, 4, none⟩ Try.underlying67 Try.underlying51 hj hsh (by kernel_rfl)]
  simp only [Result.andThen]
  rw [Oper.upon_value]
  go_wp2
  refine bodyPost_end (results_none rfl _ _ _) rfl ?_
  exact ⟨rfl, rfl⟩
theorem copy_used (T : Nat) (w : World) (h0 : w.cell? ⟨T, 4, none⟩ = some (.pointer (some ⟨T, 4, none⟩))) :
    Calls Try.prog 41 #[.pointer (some ⟨T, 4, none⟩)] w fun r w' => r = .returned (.tuple #[]) ∧ w' = w := by
  obtain ⟨j, hj, hjs⟩ := info_builder
  go_enter Try.func41, Try.ntmps41
  go_wp2
  rw [Lib.run_neq_ptr_same w _ Try.underlying51 hj]
  go_wp2
  refine bodyPost_end (results_none rfl _ _ _) rfl ?_
  exact ⟨rfl, rfl⟩
theorem copy_any (h : TR W B T v0 q v2 e p v5 L line sh) :
    Calls Try.prog 41 #[.pointer (some ⟨T, 4, none⟩)] W fun r w' => r = .returned (.tuple #[]) ∧ TR w' B T v0 q v2 e (.pointer (some ⟨T, 4, none⟩)) v5 L line sh ∧ Fr (· = T) W w' := by
  have h4 := h.cell.2.2.2.2.1
  rcases h.hp with hp | hp
  · rw [hp] at h4
    refine (copy_fresh T W h4 (by simp [World.shape?, h.hb]) (h.frozen 4)).mono ?_
    rintro r w' ⟨rfl, rfl⟩
    exact ⟨rfl, h.sp, Fr.one _ _ _ _⟩
  · rw [hp] at h4
    refine (copy_used T W h4).mono ?_
    rintro r w' ⟨rfl, rfl⟩
    exact ⟨rfl, hp ▸ h, Fr.refl _ _⟩
theorem bws_any (s : ByteArray) (h : TR W B T v0 q v2 e p v5 L line sh) (hlen : sh.length + s.size ≤ 140737488355328) :
    Calls Try.prog 34 #[.pointer (some ⟨T, 4, none⟩), .string s] W fun r w' => r = .returned (.tuple #[.int .i64 s.size, .nilIface]) ∧ ∃ p' v5', TR w' B T v0 q v2 e p' v5' L line (sh ++ s.data.toList) ∧ Step (Bl T v0 v2 v5) (Bl T v0 v2 v5') W w' := by
  obtain ⟨i0, hi, hz0, hz1, hz2⟩ := info_byte
  have H := Lib.hid h
  have hB : B ≤ W.heap.size := Nat.le_trans h.base (Nat.le_of_lt (heap_lt h.hb))
  have HC := Lib.hid (copy_any h)
  clear h
  go_enter Try.func34, Try.ntmps34
  go_wp2_with fail
  refine HC.out.mono ?_
  rintro r w1 ⟨rfl, h1, f1⟩
  obtain ⟨-, -, -, -, -, c5⟩ := h1.cell
  have hB1 := f1.size
  have H1 := Lib.hid h1
  have F1 := Lib.hid f1
  clear h1 f1 HC
  go_wp2_with (refine wpList_app_str rfl _ _ 46 9 rfl B 5 i0 Try.underlying46 Try.underlying9 hi hz0 hz1 hz2 _ _ _ rfl H1.out.o5 s rfl hlen (by omega) ?_)
  intro v' w2 hown' hgrow hnil hat
  obtain ⟨ao, cap, rfl⟩ := ownF_form hown'
  have h5 : w2.ownsRowF B 5 1 (.slice ao (sh.length + s.size) cap) (sh ++ s.data.toList).length (Lib.byteCells (sh ++ s.data.toList)) := by
    rw [List.length_append, Lib.byteCells_append]
    exact hown'
  obtain ⟨k1, k2, k3⟩ := H1.out.a5 hgrow h5 (fun he => hnil.2 (by
    have h1 := List.append_eq_nil_iff.1 he
    exact ⟨H1.out.z5 h1.1, by have := congrArg List.length h1.2; simpa using this⟩)) hat
  have f5 : w2.frozen? ⟨T, 5, none⟩ = false := (World.frozen?_of_block ((Fr.grown hgrow).block T (heap_lt H1.out.hb) (fun hk => H1.out.n5 T hk rfl))).trans (H1.out.frozen 5)
  have e5 : (w2.cell? ⟨T, 5, none⟩).isSome = true := by
    rw [World.cell?_of_block ((Fr.grown hgrow).block T (heap_lt H1.out.hb) (fun hk => H1.out.n5 T hk rfl)), c5]; rfl
  obtain ⟨x5, e5⟩ := Option.isSome_iff_exists.1 e5
  have K1 := Lib.hid k1
  have K2 := Lib.hid k2
  have K3 := Lib.hid k3
  clear k1 k2 k3 h5 hown' hgrow hnil hat c5
  go_wp2
  go_ret2
  refine ⟨rfl, _, _, K1.out, (F1.out.mono fun k _ hk => .inl hk).trans K2.out, fun k hk => ?_⟩
  rcases K3.out k hk with h | h
  · exact .inl h
  · exact .inr (by have := F1.out.size; omega)
end
end Go.Proofs.Ytojbgokbobkbdaa
