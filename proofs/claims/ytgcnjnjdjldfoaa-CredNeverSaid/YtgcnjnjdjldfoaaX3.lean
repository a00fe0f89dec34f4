/- The walk of CredNever; steps that come in as a slice of structs. -/
import Derived.Test.YtgcnjnjdjldfoaaX2
import Derived.Deep.Slices
import Derived.DataReads
namespace Go.Proofs.Ytgcnjnjdjldfoaa
open Go.RowKit Go.ChangeShapes Go.WideShapes Go.Deep
set_option linter.unusedVariables false
set_option linter.unusedSimpArgs false

/-- a step: its kind and two numbers. -/
structure Opr where
  k : Int
  a : Int
  b : Int
def Opr.cells (o : Opr) : List Value := [.int .i64 o.k, .int .i64 o.a, .int .i64 o.b]
/-- a slice that reads as these steps. -/
def InOps (W : World) (p : Option Addr) (n : Nat) (zs : List Opr) : Prop :=
  zs.length = n ∧ ∀ (j : Nat) (o : Opr), zs[j]? = some o → ∃ g off, p = some ⟨g, off, none⟩ ∧ W.cell? ⟨g, off + j * 3, none⟩ = some (.int .i64 o.k) ∧ W.cell? ⟨g, off + j * 3 + 1, none⟩ = some (.int .i64 o.a) ∧ W.cell? ⟨g, off + j * 3 + 2, none⟩ = some (.int .i64 o.b)
theorem opT : Try.prog.underlying 33 = some (.struct (Try.prog.fieldsOf 33)) := by kernel_rfl
theorem list3 {l : List Value} (h : l.length = 3) : ∃ a b c, l = [a, b, c] := by
  match l, h with
  | [a, b, c], _ => exact ⟨a, b, c, rfl⟩
theorem plain_addr {W : World} {a : Addr} {v0 : Value} (h0 : W.cell? a = some v0) : ∃ b off, a = ⟨b, off, none⟩ := by
  obtain ⟨b, off, spot⟩ := a
  have hs2 : spot = none := World.cell?_spot h0
  subst hs2
  exact ⟨b, off, rfl⟩
section
variable {H : Type} {enc : TypeId × Value → H} {w : World} {base : Nat} {spare : Nat → Bool} {held : Bool}
theorem cells_op {n : Nat} {cs : List Value} {x : DataW H × List MemPlace} (h : DataW.trod enc Try.prog w base spare held n 33 cs = some x) : ∃ o : Opr, cs = o.cells := by
  obtain ⟨xs, m, _, _, hl, hxl, hf⟩ := DataW.trod_struct opT h
  rw [show Try.prog.cellsOf 33 = 3 by kernel_rfl] at hl
  obtain ⟨c0, c1, c2, rfl⟩ := list3 hl
  have hs : (Try.prog.fieldsOf 33).size = 3 := by kernel_rfl
  have key : ∀ (i : Nat), i < 3 → ((Try.prog.fieldsOf 33)[i]?.map fun g => (g.offset, g.type)) = some (i, 3) → ∃ y, DataW.trod enc Try.prog w base spare held m 3 (([c0, c1, c2].drop i).take (Try.prog.cellsOf 3)) = some y := by
    intro i hi ht
    cases hgi : (Try.prog.fieldsOf 33)[i]? with
    | none => rw [hgi] at ht; cases ht
    | some f =>
      rw [hgi] at ht
      obtain ⟨fo, ft⟩ := Prod.mk.inj (Option.some.inj ht)
      have := hf i f hgi
      rw [fo, ft] at this
      exact ⟨xs[i]'(by omega), by rw [← List.getElem?_eq_getElem (show i < xs.length by omega)]; exact this⟩
  have c3' : Try.prog.cellsOf 3 = 1 := by kernel_rfl
  obtain ⟨_, h0⟩ := key 0 (by decide) (by kernel_rfl)
  obtain ⟨_, h1⟩ := key 1 (by decide) (by kernel_rfl)
  obtain ⟨_, h2⟩ := key 2 (by decide) (by kernel_rfl)
  rw [c3'] at h0 h1 h2
  obtain ⟨n0, e0, _, k0⟩ := DataW.trod_int Try.underlying3 h0
  obtain ⟨n1, e1, _, k1⟩ := DataW.trod_int Try.underlying3 h1
  obtain ⟨n2, e2, _, k2⟩ := DataW.trod_int Try.underlying3 h2
  simp at e0 e1 e2
  subst e0 e1 e2
  exact ⟨⟨n0, n1, n2⟩, rfl⟩
theorem open_ops {n : Nat} {p : Option Addr} {len cap : Nat} {x : DataW H × List MemPlace} (h : DataW.trod enc Try.prog w base (fun _ => true) held n 31 [.slice p len cap] = some x) :
    ∃ zs, InOps w p len zs ∧ len ≤ maxLen := by
  rcases open_slice Try.underlying31 h with ⟨hcs, _⟩ | ⟨a, len', cap', m, n', D, Pl, hcs, _, hl, hm, hmm, _, hi⟩
  · cases hcs
    exact ⟨[], ⟨rfl, fun j u hj => by cases hj⟩, Nat.zero_le _⟩
  · cases hcs
    have hmm' : m = cap := hmm
    subst hmm'
    rw [show Try.prog.cellsOf 33 = 3 by kernel_rfl] at hi
    have hu : ∀ i, i < m → ∃ u : Opr, ∀ j v, u.cells[j]? = some v → w.cell? ((a.add (i * 3)).add j) = some v := by
      intro i him
      obtain ⟨cs', hc, ht⟩ := hi i him
      obtain ⟨u, hu⟩ := cells_op ht
      obtain ⟨_, hcl, hat⟩ := World.cells?_some hc
      refine ⟨u, fun j v hj => ?_⟩
      have hj3 : j < 3 := (List.getElem?_eq_some_iff.1 hj).1
      rw [hat j hj3, hu, hj]
    have hex : ∃ f : Nat → Opr, ∀ i, i < m → ∀ j v, (f i).cells[j]? = some v → w.cell? ((a.add (i * 3)).add j) = some v :=
      ⟨fun i => if h : i < m then Classical.choose (hu i h) else ⟨0, 0, 0⟩, fun i h => by
        simp only [dif_pos h]; exact Classical.choose_spec (hu i h)⟩
    obtain ⟨f, hf⟩ := hex
    refine ⟨(List.range len).map f, ⟨by simp, fun j u hj => ?_⟩, by omega⟩
    have hjl : j < len := by have := (List.getElem?_eq_some_iff.1 hj).1; simpa using this
    rw [List.getElem?_map, List.getElem?_range hjl] at hj
    cases hj
    have h0 := (hf 0 (by omega)) 0 _ rfl
    rw [Nat.zero_mul] at h0
    have hz : ∀ x : Addr, x.add 0 = x := fun x => if_pos rfl
    rw [hz, hz] at h0
    obtain ⟨b, off, rfl⟩ := plain_addr h0
    have hc := hf j (by omega)
    refine ⟨b, off, rfl, ?_⟩
    have key : ∀ i v, (f j).cells[i]? = some v → w.cell? ⟨b, off + j * 3 + i, none⟩ = some v := fun i v hv => by
      have := hc i v hv
      rw [Addr.add_lit, Addr.add_lit] at this
      exact this
    exact ⟨key 0 _ rfl, key 1 _ rfl, key 2 _ rfl⟩
end
theorem cell_lt {w : World} {g j : Nat} {v : Value} (hc : w.cell? ⟨g, j, none⟩ = some v) : g < w.heap.size := by
  unfold World.cell? at hc
  cases ho : w.heap[g]? with
  | none => simp [ho] at hc
  | some o => exact (Array.getElem?_eq_some_iff.1 ho).1
theorem CAt.set5o {w : World} {g : Nat} {c : Crd} (h : CAt w g c) {r e s k x : Int} : CAt (((((w.setCell ⟨g, 0, none⟩ (.int .i64 r)).setCell ⟨g, 1, none⟩ (.int .i64 e)).setCell ⟨g, 2, none⟩ (.int .i64 s)).setCell ⟨g, 3, none⟩ (.int .i64 k)).setCell ⟨g, 4, none⟩ (.int .i64 x)) g ⟨r, e, s, k, x⟩ := five h _ _ _ _ _
/-- what holds of the credentials ahead of each step. -/
def nvRel (w : World) (zs : List Opr) (u g : Int) (bC bW : Nat) (i : Value) (wr : World) : Prop :=
  ∃ k : Nat, k ≤ zs.length ∧ k ≤ 100 ∧ i = .int .i64 k ∧ Below w.heap.size w wr ∧ CAt wr bW ⟨u, u, u, g, g⟩ ∧ ∃ e s x, CAt wr bC ⟨u, e, s, g, x⟩ ∧ e ≠ 0 ∧ s ≠ 0 ∧ (e = s ∨ e = u)
theorem suid_keeps {u e s g x a r' e' s' g' x' k : Int} (h : suidP ⟨u, e, s, g, x⟩ a = (⟨r', e', s', g', x'⟩, k)) (hk : k = 0) (hu : u ≠ 0) (he : e ≠ 0) (hs : s ≠ 0) : r' = u ∧ g' = g ∧ e' ≠ 0 ∧ s' ≠ 0 ∧ (e' = s' ∨ e' = u) := by
  subst hk
  unfold suidP at h
  split at h
  · try rw [if_neg he] at h
    split at h
    · rename_i h1
      simp only [Prod.mk.injEq, Crd.mk.injEq] at h
      obtain ⟨⟨rfl, rfl, rfl, rfl, rfl⟩, _⟩ := h
      simp only at h1
      exact ⟨rfl, rfl, by omega, hs, .inr h1⟩
    · split at h
      · rename_i h1 h2
        simp only [Prod.mk.injEq, Crd.mk.injEq] at h
        obtain ⟨⟨rfl, rfl, rfl, rfl, rfl⟩, _⟩ := h
        simp only at h2
        exact ⟨rfl, rfl, by omega, hs, .inl h2⟩
      · simp at h
  · simp at h
theorem sgid_keeps {u e s g x a r' e' s' g' x' k : Int} (h : sgidP ⟨u, e, s, g, x⟩ a = (⟨r', e', s', g', x'⟩, k)) (hk : k = 0) (hu : u ≠ 0) (he : e ≠ 0) (hs : s ≠ 0) (hes : e = s ∨ e = u) : r' = u ∧ g' = g ∧ e' ≠ 0 ∧ s' ≠ 0 ∧ (e' = s' ∨ e' = u) := by
  subst hk
  unfold sgidP at h
  split at h
  · try rw [if_neg he] at h
    split at h
    · simp only [Prod.mk.injEq, Crd.mk.injEq] at h
      obtain ⟨⟨rfl, rfl, rfl, rfl, rfl⟩, _⟩ := h
      exact ⟨rfl, rfl, he, hs, hes⟩
    · simp at h
  · simp at h
theorem exec_keeps {u e s g x m o r' e' s' g' x' k : Int} (h : execP ⟨u, e, s, g, x⟩ m o = (⟨r', e', s', g', x'⟩, k)) (hk : k = 0) (hu : u ≠ 0) (he : e ≠ 0) (hmo : (bits .and .i64 m 2048 != 0) = false ∨ o ≠ 0) : r' = u ∧ g' = g ∧ e' ≠ 0 ∧ s' ≠ 0 ∧ (e' = s' ∨ e' = u) := by
  subst hk
  unfold execP effP at h
  split at h
  · simp only [Prod.mk.injEq, Crd.mk.injEq] at h
    obtain ⟨⟨rfl, rfl, rfl, rfl, rfl⟩, _⟩ := h
    have : (if (bits .and .i64 m 2048 != 0) = true then o else e) ≠ 0 := by
      rcases hmo with hm | ho
      · rw [hm, if_neg Bool.false_ne_true]; exact he
      · split
        · exact ho
        · exact he
    exact ⟨rfl, rfl, this, this, .inl rfl⟩
  · simp at h
set_option maxHeartbeats 4000000 in
set_option maxRecDepth 100000 in
theorem never_walk (a0 a1 : Int) (p : Option Addr) (n cap : Nat) (zs : List Opr) (w : World) (hin : InOps w p n zs) (hn : n ≤ maxLen) :
    Calls Try.prog 4 #[.int .i64 a0, .int .i64 a1, .slice p n cap] w fun v w' => v = .returned (.bool true) ∧ Below w.heap.size w w' := by
  unfold maxLen at hn
  obtain ⟨hlen, hzs⟩ := hin
  subst hlen
  have Hzs := Lib.hid hzs
  clear hzs
  obtain ⟨u, hu, hMu⟩ := mask_nat a0 32767 (by decide)
  have hMu' : bits .and .i64 a0 32767 = (u : Int) := hMu
  obtain ⟨g, hg, hMg⟩ := mask_nat a1 32767 (by decide)
  have hMg' : bits .and .i64 a1 32767 = (g : Int) := hMg
  clear hMu hMg
  have H1 := Lib.hid (of_ok (u := 1 + (u : Int)) (g := (g : Int)) (by omega))
  go_enter Try.func4, Try.ntmps4
  go_wp2_with fail
  refine (shown_any _).mono ?_
  rintro e w1 ⟨rfl, hb1⟩
  go_wp2_with fail
  refine (of_at _ _ _ _ _ _ _ _ H1.out _).mono ?_
  rintro e w2 ⟨rfl, hb2⟩
  obtain ⟨hB2, hs2, hz2⟩ := next0 hb1 hb1.size hb2
  clear hb1 hb2
  go_wp2_with fail
  go_loopw [11] (fun i wr => nvRel w zs (1 + (u : Int)) (g : Int) w2.heap.size (w2.heap.size + 1) i wr) (fun i _ => zs.length - (intOf i).toNat)
  case atStart =>
    have hW := CAt.new (w2.alloc (.cells #[.int .i64 (1 + (u : Int)), .int .i64 (1 + (u : Int)), .int .i64 (1 + (u : Int)), .int .i64 (g : Int), .int .i64 (g : Int)] 23)) (1 + (u : Int)) (1 + (u : Int)) (1 + (u : Int)) (g : Int) (g : Int)
    rw [show (w2.alloc (.cells #[.int .i64 (1 + (u : Int)), .int .i64 (1 + (u : Int)), .int .i64 (1 + (u : Int)), .int .i64 (g : Int), .int .i64 (g : Int)] 23)).heap.size = w2.heap.size + 1 by simp] at hW
    exact ⟨0, Nat.zero_le _, Nat.zero_le _, rfl, (hB2.alloc hs2 _).alloc (by simp; omega) _, hW, _, _, _, (CAt.new w2 _ _ _ _ _).alloc _, by omega, by omega, .inl rfl⟩
  case round =>
    obtain ⟨k, hk, hk100, rfl, hB, hKW, e, s, x, hKC, he, hs, hes⟩ := hrel
    have hU : (1 + (u : Int)) ≠ 0 := by omega
    have hsz := hB.size
    have hCl := hKC.lt
    have hWl := hKW.lt
    have KC := Lib.hid hKC
    have KW := Lib.hid hKW
    have He := Lib.hid he
    have Hs := Lib.hid hs
    have Hes := Lib.hid hes
    obtain ⟨cc0, cc1, cc2, cc3, cc4⟩ := hKC.cells
    clear hKC hKW he hs hes
    by_cases hlt : k < zs.length
    · by_cases hl100 : k < 100
      · have hz : zs[k]? = some zs[k] := List.getElem?_eq_getElem hlt
        obtain ⟨b, off, hpp, o0, o1, o2⟩ := Hzs.out k _ hz
        have hbl : b < w.heap.size := cell_lt o0
        replace o0 := (hB.cell (p := ⟨b, _, none⟩) hbl).trans o0
        replace o1 := (hB.cell (p := ⟨b, _, none⟩) hbl).trans o1
        replace o2 := (hB.cell (p := ⟨b, _, none⟩) hbl).trans o2
        generalize zs[k] = q at hz o0 o1 o2
        obtain ⟨kd, qa, qb⟩ := q
        simp only at o0 o1 o2
        have Hp := Lib.hid hpp
        clear hz hpp
        obtain rfl := Hp.out
        cases h1 : (kd == 1)
        · cases h2 : (kd == 2)
          · cases h3 : (qb == 0)
            · have h3' := ne_of_beq_false h3
              obtain ⟨r', e', s', g', x', kk, hans⟩ := open_ans (execP ⟨1 + (u : Int), e, s, (g : Int), x⟩ qa qb)
              have Hans := Lib.hid hans
              have hbk := fun h0 : kk = 0 => exec_keeps hans h0 hU He.out (.inr h3')
              clear hans
              have Hk := Lib.hid hbk
              clear hbk
              cases hkk : (kk == 0)
              · go_wp2_with fail
                refine (exec_at _ _ _ _ _ _ _ _ _ _ _ _ _ Hans.out _).mono ?_
                rintro ev w3 ⟨rfl, hb3⟩
                have hD := CAt.new (wr.alloc (.cells #[.int .i64 kd, .int .i64 qa, .int .i64 qb] 33)) (1 + (u : Int)) e s (g : Int) x
                rw [show (wr.alloc (.cells #[.int .i64 kd, .int .i64 qa, .int .i64 qb] 33)).heap.size = wr.heap.size + 1 by simp] at hD
                have hs3 : wr.heap.size + 2 ≤ w3.heap.size := by have := hb3.size; simp at this; omega
                have KD := hD.below hb3 (by simp)
                have KC3 := ((KC.out.alloc _).alloc _).below hb3 (by simp; omega)
                have KW3 := ((KW.out.alloc _).alloc _).below hb3 (by simp; omega)
                have hB3 : Below w.heap.size w w3 := ((hB.alloc hsz _).alloc (by simp; omega) _).trans (hb3.mono (by simp; omega))
                clear hD hb3
                clear cc0 cc1 cc2 cc3 cc4
                obtain ⟨cc0, cc1, cc2, cc3, cc4⟩ := KC3.cells
                obtain ⟨cf0, cf1, cf2, cf3, cf4⟩ := KC3.frozens
                obtain ⟨wc0, wc1, wc2, wc3, wc4⟩ := KW3.cells
                obtain ⟨dc0, dc1, dc2, dc3, dc4⟩ := KD.cells
                obtain ⟨df0, df1, df2, df3, df4⟩ := KD.frozens
                have KC4 := Lib.hid KC3
                have KW4 := Lib.hid KW3
                have KD4 := Lib.hid KD
                clear KC3 KW3 KD
                have hq1 : (e == 0) = false := by have := He.out; simpa using this
                have hq2 : (s == 0) = false := by have := Hs.out; simpa using this
                rcases Hes.out with heq | heq
                · have hq3 : (s != e) = false := by rw [heq]; simp
                  clear heq
                  go_wp2_with fail
                  go_roundw
                  case rel => exact ⟨k + 1, by omega, by omega, by go_num, set5_below hB3 (by omega) _ _ _ _ _, KW4.out.far5 (by omega) _ _ _ _ _, e, s, x, KC4.out.far5 (by omega) _ _ _ _ _, He.out, Hs.out, Hes.out⟩
                  case measure => simp [intOf]; omega
                · have hq4 : (e != 1 + (u : Int)) = false := by rw [heq]; simp
                  clear heq
                  cases hq5 : (s != e)
                  all_goals
                    go_wp2_with fail
                    go_roundw
                    case rel => exact ⟨k + 1, by omega, by omega, by go_num, set5_below hB3 (by omega) _ _ _ _ _, KW4.out.far5 (by omega) _ _ _ _ _, e, s, x, KC4.out.far5 (by omega) _ _ _ _ _, He.out, Hs.out, Hes.out⟩
                    case measure => simp [intOf]; omega
              · obtain ⟨rfl, rfl, he', hs', hes'⟩ := Hk.out (eq_of_beq hkk)
                have He' := Lib.hid he'
                have Hs' := Lib.hid hs'
                have Hes' := Lib.hid hes'
                clear he' hs' hes'
                go_wp2_with fail
                refine (exec_at _ _ _ _ _ _ _ _ _ _ _ _ _ Hans.out _).mono ?_
                rintro ev w3 ⟨rfl, hb3⟩
                have hD := CAt.new (wr.alloc (.cells #[.int .i64 kd, .int .i64 qa, .int .i64 qb] 33)) (1 + (u : Int)) e s (g : Int) x
                rw [show (wr.alloc (.cells #[.int .i64 kd, .int .i64 qa, .int .i64 qb] 33)).heap.size = wr.heap.size + 1 by simp] at hD
                have hs3 : wr.heap.size + 2 ≤ w3.heap.size := by have := hb3.size; simp at this; omega
                have KD := hD.below hb3 (by simp)
                have KC3 := ((KC.out.alloc _).alloc _).below hb3 (by simp; omega)
                have KW3 := ((KW.out.alloc _).alloc _).below hb3 (by simp; omega)
                have hB3 : Below w.heap.size w w3 := ((hB.alloc hsz _).alloc (by simp; omega) _).trans (hb3.mono (by simp; omega))
                clear hD hb3
                clear cc0 cc1 cc2 cc3 cc4
                obtain ⟨cc0, cc1, cc2, cc3, cc4⟩ := KC3.cells
                obtain ⟨cf0, cf1, cf2, cf3, cf4⟩ := KC3.frozens
                obtain ⟨wc0, wc1, wc2, wc3, wc4⟩ := KW3.cells
                obtain ⟨dc0, dc1, dc2, dc3, dc4⟩ := KD.cells
                obtain ⟨df0, df1, df2, df3, df4⟩ := KD.frozens
                have KC4 := Lib.hid KC3
                have KW4 := Lib.hid KW3
                have KD4 := Lib.hid KD
                clear KC3 KW3 KD
                have hq1 : (e' == 0) = false := by have := He'.out; simpa using this
                have hq2 : (s' == 0) = false := by have := Hs'.out; simpa using this
                rcases Hes'.out with heq | heq
                · have hq3 : (s' != e') = false := by rw [heq]; simp
                  clear heq
                  go_wp2_with fail
                  go_roundw
                  case rel => exact ⟨k + 1, by omega, by omega, by go_num, set5_below (set5_below hB3 (by omega) _ _ _ _ _) (by omega) _ _ _ _ _, (KW4.out.far5 (by omega) _ _ _ _ _).far5 (by omega) _ _ _ _ _, e', s', x', (KC4.out.far5 (by omega) _ _ _ _ _).set5o, He'.out, Hs'.out, Hes'.out⟩
                  case measure => simp [intOf]; omega
                · have hq4 : (e' != 1 + (u : Int)) = false := by rw [heq]; simp
                  clear heq
                  cases hq5 : (s' != e')
                  all_goals
                    go_wp2_with fail
                    go_roundw
                    case rel => exact ⟨k + 1, by omega, by omega, by go_num, set5_below (set5_below hB3 (by omega) _ _ _ _ _) (by omega) _ _ _ _ _, (KW4.out.far5 (by omega) _ _ _ _ _).far5 (by omega) _ _ _ _ _, e', s', x', (KC4.out.far5 (by omega) _ _ _ _ _).set5o, He'.out, Hs'.out, Hes'.out⟩
                    case measure => simp [intOf]; omega
            · cases h4 : (bits .and .i64 qa 2048 != 0)
              · obtain ⟨r', e', s', g', x', kk, hans⟩ := open_ans (execP ⟨1 + (u : Int), e, s, (g : Int), x⟩ qa qb)
                have Hans := Lib.hid hans
                have hbk := fun h0 : kk = 0 => exec_keeps hans h0 hU He.out (.inl h4)
                clear hans
                have Hk := Lib.hid hbk
                clear hbk
                cases hkk : (kk == 0)
                · go_wp2_with fail
                  refine (exec_at _ _ _ _ _ _ _ _ _ _ _ _ _ Hans.out _).mono ?_
                  rintro ev w3 ⟨rfl, hb3⟩
                  have hD := CAt.new (wr.alloc (.cells #[.int .i64 kd, .int .i64 qa, .int .i64 qb] 33)) (1 + (u : Int)) e s (g : Int) x
                  rw [show (wr.alloc (.cells #[.int .i64 kd, .int .i64 qa, .int .i64 qb] 33)).heap.size = wr.heap.size + 1 by simp] at hD
                  have hs3 : wr.heap.size + 2 ≤ w3.heap.size := by have := hb3.size; simp at this; omega
                  have KD := hD.below hb3 (by simp)
                  have KC3 := ((KC.out.alloc _).alloc _).below hb3 (by simp; omega)
                  have KW3 := ((KW.out.alloc _).alloc _).below hb3 (by simp; omega)
                  have hB3 : Below w.heap.size w w3 := ((hB.alloc hsz _).alloc (by simp; omega) _).trans (hb3.mono (by simp; omega))
                  clear hD hb3
                  clear cc0 cc1 cc2 cc3 cc4
                  obtain ⟨cc0, cc1, cc2, cc3, cc4⟩ := KC3.cells
                  obtain ⟨cf0, cf1, cf2, cf3, cf4⟩ := KC3.frozens
                  obtain ⟨wc0, wc1, wc2, wc3, wc4⟩ := KW3.cells
                  obtain ⟨dc0, dc1, dc2, dc3, dc4⟩ := KD.cells
                  obtain ⟨df0, df1, df2, df3, df4⟩ := KD.frozens
                  have KC4 := Lib.hid KC3
                  have KW4 := Lib.hid KW3
                  have KD4 := Lib.hid KD
                  clear KC3 KW3 KD
                  have hq1 : (e == 0) = false := by have := He.out; simpa using this
                  have hq2 : (s == 0) = false := by have := Hs.out; simpa using this
                  rcases Hes.out with heq | heq
                  · have hq3 : (s != e) = false := by rw [heq]; simp
                    clear heq
                    go_wp2_with fail
                    go_roundw
                    case rel => exact ⟨k + 1, by omega, by omega, by go_num, set5_below hB3 (by omega) _ _ _ _ _, KW4.out.far5 (by omega) _ _ _ _ _, e, s, x, KC4.out.far5 (by omega) _ _ _ _ _, He.out, Hs.out, Hes.out⟩
                    case measure => simp [intOf]; omega
                  · have hq4 : (e != 1 + (u : Int)) = false := by rw [heq]; simp
                    clear heq
                    cases hq5 : (s != e)
                    all_goals
                      go_wp2_with fail
                      go_roundw
                      case rel => exact ⟨k + 1, by omega, by omega, by go_num, set5_below hB3 (by omega) _ _ _ _ _, KW4.out.far5 (by omega) _ _ _ _ _, e, s, x, KC4.out.far5 (by omega) _ _ _ _ _, He.out, Hs.out, Hes.out⟩
                      case measure => simp [intOf]; omega
                · obtain ⟨rfl, rfl, he', hs', hes'⟩ := Hk.out (eq_of_beq hkk)
                  have He' := Lib.hid he'
                  have Hs' := Lib.hid hs'
                  have Hes' := Lib.hid hes'
                  clear he' hs' hes'
                  go_wp2_with fail
                  refine (exec_at _ _ _ _ _ _ _ _ _ _ _ _ _ Hans.out _).mono ?_
                  rintro ev w3 ⟨rfl, hb3⟩
                  have hD := CAt.new (wr.alloc (.cells #[.int .i64 kd, .int .i64 qa, .int .i64 qb] 33)) (1 + (u : Int)) e s (g : Int) x
                  rw [show (wr.alloc (.cells #[.int .i64 kd, .int .i64 qa, .int .i64 qb] 33)).heap.size = wr.heap.size + 1 by simp] at hD
                  have hs3 : wr.heap.size + 2 ≤ w3.heap.size := by have := hb3.size; simp at this; omega
                  have KD := hD.below hb3 (by simp)
                  have KC3 := ((KC.out.alloc _).alloc _).below hb3 (by simp; omega)
                  have KW3 := ((KW.out.alloc _).alloc _).below hb3 (by simp; omega)
                  have hB3 : Below w.heap.size w w3 := ((hB.alloc hsz _).alloc (by simp; omega) _).trans (hb3.mono (by simp; omega))
                  clear hD hb3
                  clear cc0 cc1 cc2 cc3 cc4
                  obtain ⟨cc0, cc1, cc2, cc3, cc4⟩ := KC3.cells
                  obtain ⟨cf0, cf1, cf2, cf3, cf4⟩ := KC3.frozens
                  obtain ⟨wc0, wc1, wc2, wc3, wc4⟩ := KW3.cells
                  obtain ⟨dc0, dc1, dc2, dc3, dc4⟩ := KD.cells
                  obtain ⟨df0, df1, df2, df3, df4⟩ := KD.frozens
                  have KC4 := Lib.hid KC3
                  have KW4 := Lib.hid KW3
                  have KD4 := Lib.hid KD
                  clear KC3 KW3 KD
                  have hq1 : (e' == 0) = false := by have := He'.out; simpa using this
                  have hq2 : (s' == 0) = false := by have := Hs'.out; simpa using this
                  rcases Hes'.out with heq | heq
                  · have hq3 : (s' != e') = false := by rw [heq]; simp
                    clear heq
                    go_wp2_with fail
                    go_roundw
                    case rel => exact ⟨k + 1, by omega, by omega, by go_num, set5_below (set5_below hB3 (by omega) _ _ _ _ _) (by omega) _ _ _ _ _, (KW4.out.far5 (by omega) _ _ _ _ _).far5 (by omega) _ _ _ _ _, e', s', x', (KC4.out.far5 (by omega) _ _ _ _ _).set5o, He'.out, Hs'.out, Hes'.out⟩
                    case measure => simp [intOf]; omega
                  · have hq4 : (e' != 1 + (u : Int)) = false := by rw [heq]; simp
                    clear heq
                    cases hq5 : (s' != e')
                    all_goals
                      go_wp2_with fail
                      go_roundw
                      case rel => exact ⟨k + 1, by omega, by omega, by go_num, set5_below (set5_below hB3 (by omega) _ _ _ _ _) (by omega) _ _ _ _ _, (KW4.out.far5 (by omega) _ _ _ _ _).far5 (by omega) _ _ _ _ _, e', s', x', (KC4.out.far5 (by omega) _ _ _ _ _).set5o, He'.out, Hs'.out, Hes'.out⟩
                      case measure => simp [intOf]; omega
              · go_wp2_with fail
                go_roundw
                case rel => exact ⟨k + 1, by omega, by omega, by go_num, (hB.alloc hsz _).alloc (by simp; omega) _, (KW.out.alloc _).alloc _, e, s, x, (KC.out.alloc _).alloc _, He.out, Hs.out, Hes.out⟩
                case measure => simp [intOf]; omega
          · obtain ⟨r', e', s', g', x', kk, hans⟩ := open_ans (sgidP ⟨1 + (u : Int), e, s, (g : Int), x⟩ qa)
            have Hans := Lib.hid hans
            have hbk := fun h0 : kk = 0 => sgid_keeps hans h0 hU He.out Hs.out Hes.out
            clear hans
            have Hk := Lib.hid hbk
            clear hbk
            cases hkk : (kk == 0)
            · go_wp2_with fail
              refine (sgid_at _ _ _ _ _ _ _ _ _ _ _ _ Hans.out _).mono ?_
              rintro ev w3 ⟨rfl, hb3⟩
              have hD := CAt.new (wr.alloc (.cells #[.int .i64 kd, .int .i64 qa, .int .i64 qb] 33)) (1 + (u : Int)) e s (g : Int) x
              rw [show (wr.alloc (.cells #[.int .i64 kd, .int .i64 qa, .int .i64 qb] 33)).heap.size = wr.heap.size + 1 by simp] at hD
              have hs3 : wr.heap.size + 2 ≤ w3.heap.size := by have := hb3.size; simp at this; omega
              have KD := hD.below hb3 (by simp)
              have KC3 := ((KC.out.alloc _).alloc _).below hb3 (by simp; omega)
              have KW3 := ((KW.out.alloc _).alloc _).below hb3 (by simp; omega)
              have hB3 : Below w.heap.size w w3 := ((hB.alloc hsz _).alloc (by simp; omega) _).trans (hb3.mono (by simp; omega))
              clear hD hb3
              clear cc0 cc1 cc2 cc3 cc4
              obtain ⟨cc0, cc1, cc2, cc3, cc4⟩ := KC3.cells
              obtain ⟨cf0, cf1, cf2, cf3, cf4⟩ := KC3.frozens
              obtain ⟨wc0, wc1, wc2, wc3, wc4⟩ := KW3.cells
              obtain ⟨dc0, dc1, dc2, dc3, dc4⟩ := KD.cells
              obtain ⟨df0, df1, df2, df3, df4⟩ := KD.frozens
              have KC4 := Lib.hid KC3
              have KW4 := Lib.hid KW3
              have KD4 := Lib.hid KD
              clear KC3 KW3 KD
              have hq1 : (e == 0) = false := by have := He.out; simpa using this
              have hq2 : (s == 0) = false := by have := Hs.out; simpa using this
              rcases Hes.out with heq | heq
              · have hq3 : (s != e) = false := by rw [heq]; simp
                clear heq
                go_wp2_with fail
                go_roundw
                case rel => exact ⟨k + 1, by omega, by omega, by go_num, set5_below hB3 (by omega) _ _ _ _ _, KW4.out.far5 (by omega) _ _ _ _ _, e, s, x, KC4.out.far5 (by omega) _ _ _ _ _, He.out, Hs.out, Hes.out⟩
                case measure => simp [intOf]; omega
              · have hq4 : (e != 1 + (u : Int)) = false := by rw [heq]; simp
                clear heq
                cases hq5 : (s != e)
                all_goals
                  go_wp2_with fail
                  go_roundw
                  case rel => exact ⟨k + 1, by omega, by omega, by go_num, set5_below hB3 (by omega) _ _ _ _ _, KW4.out.far5 (by omega) _ _ _ _ _, e, s, x, KC4.out.far5 (by omega) _ _ _ _ _, He.out, Hs.out, Hes.out⟩
                  case measure => simp [intOf]; omega
            · obtain ⟨rfl, rfl, he', hs', hes'⟩ := Hk.out (eq_of_beq hkk)
              have He' := Lib.hid he'
              have Hs' := Lib.hid hs'
              have Hes' := Lib.hid hes'
              clear he' hs' hes'
              go_wp2_with fail
              refine (sgid_at _ _ _ _ _ _ _ _ _ _ _ _ Hans.out _).mono ?_
              rintro ev w3 ⟨rfl, hb3⟩
              have hD := CAt.new (wr.alloc (.cells #[.int .i64 kd, .int .i64 qa, .int .i64 qb] 33)) (1 + (u : Int)) e s (g : Int) x
              rw [show (wr.alloc (.cells #[.int .i64 kd, .int .i64 qa, .int .i64 qb] 33)).heap.size = wr.heap.size + 1 by simp] at hD
              have hs3 : wr.heap.size + 2 ≤ w3.heap.size := by have := hb3.size; simp at this; omega
              have KD := hD.below hb3 (by simp)
              have KC3 := ((KC.out.alloc _).alloc _).below hb3 (by simp; omega)
              have KW3 := ((KW.out.alloc _).alloc _).below hb3 (by simp; omega)
              have hB3 : Below w.heap.size w w3 := ((hB.alloc hsz _).alloc (by simp; omega) _).trans (hb3.mono (by simp; omega))
              clear hD hb3
              clear cc0 cc1 cc2 cc3 cc4
              obtain ⟨cc0, cc1, cc2, cc3, cc4⟩ := KC3.cells
              obtain ⟨cf0, cf1, cf2, cf3, cf4⟩ := KC3.frozens
              obtain ⟨wc0, wc1, wc2, wc3, wc4⟩ := KW3.cells
              obtain ⟨dc0, dc1, dc2, dc3, dc4⟩ := KD.cells
              obtain ⟨df0, df1, df2, df3, df4⟩ := KD.frozens
              have KC4 := Lib.hid KC3
              have KW4 := Lib.hid KW3
              have KD4 := Lib.hid KD
              clear KC3 KW3 KD
              have hq1 : (e' == 0) = false := by have := He'.out; simpa using this
              have hq2 : (s' == 0) = false := by have := Hs'.out; simpa using this
              rcases Hes'.out with heq | heq
              · have hq3 : (s' != e') = false := by rw [heq]; simp
                clear heq
                go_wp2_with fail
                go_roundw
                case rel => exact ⟨k + 1, by omega, by omega, by go_num, set5_below (set5_below hB3 (by omega) _ _ _ _ _) (by omega) _ _ _ _ _, (KW4.out.far5 (by omega) _ _ _ _ _).far5 (by omega) _ _ _ _ _, e', s', x', (KC4.out.far5 (by omega) _ _ _ _ _).set5o, He'.out, Hs'.out, Hes'.out⟩
                case measure => simp [intOf]; omega
              · have hq4 : (e' != 1 + (u : Int)) = false := by rw [heq]; simp
                clear heq
                cases hq5 : (s' != e')
                all_goals
                  go_wp2_with fail
                  go_roundw
                  case rel => exact ⟨k + 1, by omega, by omega, by go_num, set5_below (set5_below hB3 (by omega) _ _ _ _ _) (by omega) _ _ _ _ _, (KW4.out.far5 (by omega) _ _ _ _ _).far5 (by omega) _ _ _ _ _, e', s', x', (KC4.out.far5 (by omega) _ _ _ _ _).set5o, He'.out, Hs'.out, Hes'.out⟩
                  case measure => simp [intOf]; omega
        · obtain ⟨r', e', s', g', x', kk, hans⟩ := open_ans (suidP ⟨1 + (u : Int), e, s, (g : Int), x⟩ qa)
          have Hans := Lib.hid hans
          have hbk := fun h0 : kk = 0 => suid_keeps hans h0 hU He.out Hs.out
          clear hans
          have Hk := Lib.hid hbk
          clear hbk
          cases hkk : (kk == 0)
          · go_wp2_with fail
            refine (suid_at _ _ _ _ _ _ _ _ _ _ _ _ Hans.out _).mono ?_
            rintro ev w3 ⟨rfl, hb3⟩
            have hD := CAt.new (wr.alloc (.cells #[.int .i64 kd, .int .i64 qa, .int .i64 qb] 33)) (1 + (u : Int)) e s (g : Int) x
            rw [show (wr.alloc (.cells #[.int .i64 kd, .int .i64 qa, .int .i64 qb] 33)).heap.size = wr.heap.size + 1 by simp] at hD
            have hs3 : wr.heap.size + 2 ≤ w3.heap.size := by have := hb3.size; simp at this; omega
            have KD := hD.below hb3 (by simp)
            have KC3 := ((KC.out.alloc _).alloc _).below hb3 (by simp; omega)
            have KW3 := ((KW.out.alloc _).alloc _).below hb3 (by simp; omega)
            have hB3 : Below w.heap.size w w3 := ((hB.alloc hsz _).alloc (by simp; omega) _).trans (hb3.mono (by simp; omega))
            clear hD hb3
            clear cc0 cc1 cc2 cc3 cc4
            obtain ⟨cc0, cc1, cc2, cc3, cc4⟩ := KC3.cells
            obtain ⟨cf0, cf1, cf2, cf3, cf4⟩ := KC3.frozens
            obtain ⟨wc0, wc1, wc2, wc3, wc4⟩ := KW3.cells
            obtain ⟨dc0, dc1, dc2, dc3, dc4⟩ := KD.cells
            obtain ⟨df0, df1, df2, df3, df4⟩ := KD.frozens
            have KC4 := Lib.hid KC3
            have KW4 := Lib.hid KW3
            have KD4 := Lib.hid KD
            clear KC3 KW3 KD
            have hq1 : (e == 0) = false := by have := He.out; simpa using this
            have hq2 : (s == 0) = false := by have := Hs.out; simpa using this
            rcases Hes.out with heq | heq
            · have hq3 : (s != e) = false := by rw [heq]; simp
              clear heq
              go_wp2_with fail
              go_roundw
              case rel => exact ⟨k + 1, by omega, by omega, by go_num, set5_below hB3 (by omega) _ _ _ _ _, KW4.out.far5 (by omega) _ _ _ _ _, e, s, x, KC4.out.far5 (by omega) _ _ _ _ _, He.out, Hs.out, Hes.out⟩
              case measure => simp [intOf]; omega
            · have hq4 : (e != 1 + (u : Int)) = false := by rw [heq]; simp
              clear heq
              cases hq5 : (s != e)
              all_goals
                go_wp2_with fail
                go_roundw
                case rel => exact ⟨k + 1, by omega, by omega, by go_num, set5_below hB3 (by omega) _ _ _ _ _, KW4.out.far5 (by omega) _ _ _ _ _, e, s, x, KC4.out.far5 (by omega) _ _ _ _ _, He.out, Hs.out, Hes.out⟩
                case measure => simp [intOf]; omega
          · obtain ⟨rfl, rfl, he', hs', hes'⟩ := Hk.out (eq_of_beq hkk)
            have He' := Lib.hid he'
            have Hs' := Lib.hid hs'
            have Hes' := Lib.hid hes'
            clear he' hs' hes'
            go_wp2_with fail
            refine (suid_at _ _ _ _ _ _ _ _ _ _ _ _ Hans.out _).mono ?_
            rintro ev w3 ⟨rfl, hb3⟩
            have hD := CAt.new (wr.alloc (.cells #[.int .i64 kd, .int .i64 qa, .int .i64 qb] 33)) (1 + (u : Int)) e s (g : Int) x
            rw [show (wr.alloc (.cells #[.int .i64 kd, .int .i64 qa, .int .i64 qb] 33)).heap.size = wr.heap.size + 1 by simp] at hD
            have hs3 : wr.heap.size + 2 ≤ w3.heap.size := by have := hb3.size; simp at this; omega
            have KD := hD.below hb3 (by simp)
            have KC3 := ((KC.out.alloc _).alloc _).below hb3 (by simp; omega)
            have KW3 := ((KW.out.alloc _).alloc _).below hb3 (by simp; omega)
            have hB3 : Below w.heap.size w w3 := ((hB.alloc hsz _).alloc (by simp; omega) _).trans (hb3.mono (by simp; omega))
            clear hD hb3
            clear cc0 cc1 cc2 cc3 cc4
            obtain ⟨cc0, cc1, cc2, cc3, cc4⟩ := KC3.cells
            obtain ⟨cf0, cf1, cf2, cf3, cf4⟩ := KC3.frozens
            obtain ⟨wc0, wc1, wc2, wc3, wc4⟩ := KW3.cells
            obtain ⟨dc0, dc1, dc2, dc3, dc4⟩ := KD.cells
            obtain ⟨df0, df1, df2, df3, df4⟩ := KD.frozens
            have KC4 := Lib.hid KC3
            have KW4 := Lib.hid KW3
            have KD4 := Lib.hid KD
            clear KC3 KW3 KD
            have hq1 : (e' == 0) = false := by have := He'.out; simpa using this
            have hq2 : (s' == 0) = false := by have := Hs'.out; simpa using this
            rcases Hes'.out with heq | heq
            · have hq3 : (s' != e') = false := by rw [heq]; simp
              clear heq
              go_wp2_with fail
              go_roundw
              case rel => exact ⟨k + 1, by omega, by omega, by go_num, set5_below (set5_below hB3 (by omega) _ _ _ _ _) (by omega) _ _ _ _ _, (KW4.out.far5 (by omega) _ _ _ _ _).far5 (by omega) _ _ _ _ _, e', s', x', (KC4.out.far5 (by omega) _ _ _ _ _).set5o, He'.out, Hs'.out, Hes'.out⟩
              case measure => simp [intOf]; omega
            · have hq4 : (e' != 1 + (u : Int)) = false := by rw [heq]; simp
              clear heq
              cases hq5 : (s' != e')
              all_goals
                go_wp2_with fail
                go_roundw
                case rel => exact ⟨k + 1, by omega, by omega, by go_num, set5_below (set5_below hB3 (by omega) _ _ _ _ _) (by omega) _ _ _ _ _, (KW4.out.far5 (by omega) _ _ _ _ _).far5 (by omega) _ _ _ _ _, e', s', x', (KC4.out.far5 (by omega) _ _ _ _ _).set5o, He'.out, Hs'.out, Hes'.out⟩
                case measure => simp [intOf]; omega
      · go_wp2_with fail
        go_ret
        exact ⟨rfl, hB⟩
    · go_wp2_with fail
      go_ret
      exact ⟨rfl, hB⟩
end Go.Proofs.Ytgcnjnjdjldfoaa
