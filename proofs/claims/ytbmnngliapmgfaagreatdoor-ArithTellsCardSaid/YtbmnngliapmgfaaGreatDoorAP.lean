/- Contract of the program's parse. -/
import Derived.Test.YtbmnngliapmgfaaGreatDoorAO
namespace Go.Proofs.YtbmnngliapmgfaaGreatDoor
open Go.RowKit
set_option linter.unusedVariables false
set_option linter.unusedSimpArgs false
/-- the parser that is made of a row of tokens. -/
theorem pt_made {W : World} {B g cap : Nat} {ts : List Bs} (h : W.ownsRow B 9 1 (.slice (some ⟨g, 0, none⟩) ts.length cap) ts.length (ts.map cellS)) (hn : ∀ t ∈ ts, t ≠ [] ∧ t.length ≤ 256) (hl : ts.length ≤ 256) :
    PT (W.alloc (.cells #[.slice (some ⟨g, 0, none⟩) ts.length cap, .int .i64 0] 56)) W.heap.size 0 ts := by
  obtain ⟨hc, hm, hg⟩ : ts.length ≤ cap ∧ cap ≤ maxLen ∧ g < W.heap.size := by
    rcases h.2 with ⟨h', _⟩ | ⟨g', cap', cur, h', _, hg, h1, h2, _, _⟩
    · cases h'
    · cases h'; exact ⟨h1, h2, heap_lt hg⟩
  refine ⟨g, 0, cap, ?_, hc, hm, (by simp; omega), by omega, fun i t ht => ?_, hn, hl, by omega⟩
  · show (W.heap.push _)[W.heap.size]? = _
    simp
  · have hi : i < ts.length := (List.getElem?_eq_some_iff.1 ht).1
    rw [Nat.zero_add]
    refine ((Fr.refl (fun _ => False) W).alloc _).cell ?_ id
    rw [h.cellAt i (by omega), List.getElem?_map, ht]; rfl
theorem heap_alloc_new (w : World) (o : Obj) : (w.alloc o).heap[w.heap.size]? = some o := by show (w.heap.push o)[w.heap.size]? = _; simp
/-- the two named results, as they stand. -/
def Res (H : Nat) (w : World) (v : Value) (x : Int) : Prop := w.cell? ⟨H, 0, none⟩ = some v ∧ w.cell? ⟨H + 1, 0, none⟩ = some (.int .i64 x) ∧ w.frozen? ⟨H, 0, none⟩ = false ∧ w.frozen? ⟨H + 1, 0, none⟩ = false
theorem Res.bel {H : Nat} {w w' : World} {v : Value} {x : Int} (h : Res H w v x) (f : Below (H + 2) w w') : Res H w' v x := by
  obtain ⟨h1, h2, h3, h4⟩ := h
  exact ⟨(f.cell (p := ⟨H, 0, none⟩) (by show H < H + 2; omega)).trans h1, (f.cell (p := ⟨H + 1, 0, none⟩) (by show H + 1 < H + 2; omega)).trans h2, (f.frozen (p := ⟨H, 0, none⟩) (by show H < H + 2; omega)).trans h3, (f.frozen (p := ⟨H + 1, 0, none⟩) (by show H + 1 < H + 2; omega)).trans h4⟩
theorem res_made (W : World) (v : Value) (x : Int) : Res W.heap.size ((W.alloc (.cells #[v] 36)).alloc (.cells #[.int .i64 x] 24)) v x := by
  have e0 : (W.alloc (.cells #[v] 36)).heap[W.heap.size]? = some (.cells #[v] 36 (0, 0)) := by show (W.heap.push _)[W.heap.size]? = _; simp
  have hs : (W.alloc (.cells #[v] 36)).heap.size = W.heap.size + 1 := by simp
  have e1 : ((W.alloc (.cells #[v] 36)).alloc (.cells #[.int .i64 x] 24)).heap[W.heap.size + 1]? = some (.cells #[.int .i64 x] 24 (0, 0)) := by
    have h := heap_alloc_new (W.alloc (.cells #[v] 36)) (.cells #[.int .i64 x] 24)
    rw [hs] at h
    exact h
  have e2 : ((W.alloc (.cells #[v] 36)).alloc (.cells #[.int .i64 x] 24)).heap[W.heap.size]? = some (.cells #[v] 36 (0, 0)) := by
    rw [Below.heap_alloc _ _ _ (by rw [hs]; omega)]; exact e0
  refine ⟨?_, ?_, Lib.frozen_of_heap e2 0, Lib.frozen_of_heap e1 0⟩
  · rw [Lib.cell_of_heap e2]; rfl
  · rw [Lib.cell_of_heap e1]; rfl
/-- what parse leaves. -/
def parPost (W : World) (r : Option Nd) (e : Ending) (w' : World) : Prop := Below W.heap.size W w' ∧ match r with
  | some n => e = .returned (.tuple #[enc n, .int .i64 0])
  | none => e = .returned (.tuple #[.nilIface, .int .i64 17])
def recD (H : Nat) : List Deferred := [{ target := .fn (.func 20) #[.pointer (some ⟨H, 0, none⟩), .pointer (some ⟨H + 1, 0, none⟩)], args := #[] }]
theorem res_run {H : Nat} {w : World} {tm : Array Value} {v : Value} {x : Int} (h : Res H w v x) (h2 : tm.getD 2 undef = .pointer (some ⟨H, 0, none⟩)) (h3 : tm.getD 3 undef = .pointer (some ⟨H + 1, 0, none⟩)) :
    (results Tryz.f10 tm).run Tryz.prog w = .ok (.tuple #[v, .int .i64 x]) w := by
  obtain ⟨r1, r2, r3, r4⟩ := h
  rw [Array.getD_eq_getD_getElem?] at h2 h3
  simp [results, Tryz.results10, go_sem, h2, h3, r1, r2]
theorem par_bad {W w : World} {tm : Array Value} {v : Value} {x : Int} (hr : Res W.heap.size w v x) (hb : Below W.heap.size W w) (h2 : tm.getD 2 undef = .pointer (some ⟨W.heap.size, 0, none⟩)) (h3 : tm.getD 3 undef = .pointer (some ⟨W.heap.size + 1, 0, none⟩)) :
    bodyPostD Tryz.prog Tryz.f10 (parPost W none) (.panic bad) { tmps := tm, defers := recD W.heap.size } w := by
  show Leaves Tryz.prog Tryz.f10 tm (parPost W none) (recD W.heap.size) (.panicking bad) w
  obtain ⟨r1, r2, r3, r4⟩ := hr
  refine leaves_cons (f := 20) (args := #[.pointer (some ⟨W.heap.size, 0, none⟩), .pointer (some ⟨W.heap.size + 1, 0, none⟩)]) (by simp) (by simp [go_sem]) ?_
  refine (rec_bad _ _ _ _ r1 r2 r3 r4).mono ?_
  rintro e u' w' ⟨rfl, rfl, rfl⟩
  have hset : settle (.panicking [{ v := .iface 52 (.agg #[]), recovered := true }]) = .returning := rfl
  show Leaves Tryz.prog Tryz.f10 tm (parPost W none) [] (settle (.panicking [{ v := .iface 52 (.agg #[]), recovered := true }])) _
  rw [hset]
  have bH0 := cell_lt r1
  have bH1 := cell_lt r2
  have hR : Res W.heap.size (((w.setCell ⟨W.heap.size, 0, none⟩ .nilIface).setCell ⟨W.heap.size + 1, 0, none⟩ (.int .i64 17)).alloc (.cells #[] 52)) .nilIface 17 := by
    refine Res.bel ⟨?_, ?_, ?_, ?_⟩ ((Below.refl _ _).alloc (by simp [World.setCell]; omega) _)
    · simp [go_sem, r1]
    · simp [go_sem, r2]
    · simp [go_sem, r3]
    · simp [go_sem, r4]
  refine ⟨.tuple #[.nilIface, .int .i64 17], ?_, ?_, rfl⟩
  · exact res_run hR h2 h3
  · exact ((hb.setCell (p := ⟨W.heap.size, 0, none⟩) (Nat.le_refl _) _).setCell (p := ⟨W.heap.size + 1, 0, none⟩) (Nat.le_succ _) _).alloc (by simp [World.setCell]; have := hb.size; omega) _
theorem par_ret {W w : World} {tm : Array Value} {n : Nd} (hr : Res W.heap.size w (enc n) 0) (hb : Below W.heap.size W w) (h2 : tm.getD 2 undef = .pointer (some ⟨W.heap.size, 0, none⟩)) (h3 : tm.getD 3 undef = .pointer (some ⟨W.heap.size + 1, 0, none⟩)) :
    bodyPostD Tryz.prog Tryz.f10 (parPost W (some n)) .ret { tmps := tm, defers := recD W.heap.size } w := by
  show Leaves Tryz.prog Tryz.f10 tm (parPost W (some n)) (recD W.heap.size) .returning w
  refine leaves_cons (f := 20) (args := #[.pointer (some ⟨W.heap.size, 0, none⟩), .pointer (some ⟨W.heap.size + 1, 0, none⟩)]) (by simp) (by simp [go_sem]) ?_
  refine (rec_idle _ _ w).mono ?_
  rintro e u' w' ⟨rfl, rfl, rfl⟩
  exact ⟨_, res_run hr h2 h3, hb, rfl⟩
theorem toksT_short : ∀ (f : Nat) (s : Bs) (ts : List Bs), toksT f s = some ts → ∀ t ∈ ts, t.length ≤ s.length
  | 0, s, ts, h => by cases h
  | f + 1, s, ts, h => by
    rw [toksT] at h
    split at h
    · cases h; intro t ht; cases ht
    · split at h
      · cases h
      · rename_i k hk
        cases hr : toksT f (trimB (s.drop k)) with
        | none => rw [hr] at h; cases h
        | some r =>
          rw [hr] at h
          cases h
          intro t ht
          rcases List.mem_cons.1 ht with rfl | ht
          · rw [List.length_take]; omega
          · have h1 := toksT_short f _ r hr t ht
            have h2 := trimB_le (s.drop k)
            rw [List.length_drop] at h2
            omega
theorem toks_short {s : Bs} {ts : List Bs} (h : toks s = some ts) {n : Nat} (hn : s.length ≤ n) (t : Bs) (ht : t ∈ ts) : t.length ≤ n := by
  have h1 := toksT_short _ _ _ h t ht
  have h2 := trimB_le s
  omega
set_option maxRecDepth 100000 in
set_option maxHeartbeats 2000000 in
theorem parse_long (s : ByteArray) (W : World) (h : 256 < s.size) (hs : s.size ≤ maxLen) : Calls Tryz.prog 10 #[.string s] W (parPost W none) := by
  unfold maxLen at hs
  have hmf : ∀ (fn : Fn) (first cap : Array Value) (w : World), (Instr.makeFunc fn first cap).run Tryz.prog w = .ok (.func fn first cap) w := fun _ _ _ _ => rfl
  have HR := Lib.hid (res_made W .nilIface 0)
  have HB := Lib.hid (((Below.refl W.heap.size W).alloc (Nat.le_refl _) (.cells #[.nilIface] 36)).alloc (by simp) (.cells #[.int .i64 0] 24))
  go_enter_defers Tryz.func10, Tryz.ntmps10
  go_wp2
  exact par_bad HR.out HB.out rfl rfl
/-- the results are stored, behind whatever world. -/
theorem res_store {H : Nat} {w : World} {v u : Value} {x : Int} (h : Res H w v x) : Res H ((w.setCell ⟨H, 0, none⟩ u).setCell ⟨H + 1, 0, none⟩ (.int .i64 0)) u 0 := by
  obtain ⟨r1, r2, r3, r4⟩ := h
  refine ⟨?_, ?_, ?_, ?_⟩
  · simp [go_sem, r1]
  · simp [go_sem, r2]
  · simp [go_sem, r3]
  · simp [go_sem, r4]
theorem res_one {H : Nat} {w : World} {v u : Value} {x : Int} (h : Res H w v x) : Res H (w.setCell ⟨H, 0, none⟩ u) u x := by
  obtain ⟨r1, r2, r3, r4⟩ := h
  refine ⟨?_, ?_, ?_, ?_⟩
  · simp [go_sem, r1]
  · simp [go_sem, r2]
  · simp [go_sem, r3]
  · simp [go_sem, r4]
theorem below_two {B H : Nat} {w0 w : World} (h : Below B w0 w) (hB : B ≤ H) (u v : Value) : Below B w0 ((w.setCell ⟨H, 0, none⟩ u).setCell ⟨H + 1, 0, none⟩ v) :=
  (h.setCell (p := ⟨H, 0, none⟩) hB _).setCell (p := ⟨H + 1, 0, none⟩) (Nat.le_succ_of_le hB) _
set_option maxRecDepth 100000 in
set_option maxHeartbeats 4000000 in
theorem parse_any (s : ByteArray) (W : World) (hs : s.size ≤ maxLen) : Calls Tryz.prog 10 #[.string s] W (parPost W (parsed s.data.toList)) := by
  unfold parsed
  rw [size_len]
  by_cases h256 : 256 < s.size
  · rw [if_pos h256]
    exact parse_long s W h256 hs
  rw [if_neg h256]
  have h256' : s.size ≤ 256 := by omega
  have hmf : ∀ (fn : Fn) (first cap : Array Value) (w : World), (Instr.makeFunc fn first cap).run Tryz.prog w = .ok (.func fn first cap) w := fun _ _ _ _ => rfl
  have HR := Lib.hid (res_made W .nilIface 0)
  have HB := Lib.hid (((Below.refl W.heap.size W).alloc (Nat.le_refl _) (.cells #[.nilIface] 36)).alloc (by simp) (.cells #[.int .i64 0] 24))
  have HT := tokens_any s h256' ((W.alloc (.cells #[.nilIface] 36)).alloc (.cells #[.int .i64 0] 24))
  have hsz : ((W.alloc (.cells #[.nilIface] 36)).alloc (.cells #[.int .i64 0] 24)).heap.size = W.heap.size + 2 := by simp
  have HSZ := Lib.hid hsz
  cases ht : toks s.data.toList with
  | none =>
    rw [ht] at HT
    have HT := Lib.hid HT
    clear ht hs hsz h256
    go_enter_defers Tryz.func10, Tryz.ntmps10
    go_wp2_with (go_at_call 21; (with_reducible refine HT.out.mono ?_); rintro e w1 ⟨rfl, hb1⟩; have HB1 := Lib.hid hb1; clear hb1)
    exact par_bad (HR.out.bel (HSZ.out ▸ HB1.out)) (HB.out.trans (HB1.out.mono (by rw [HSZ.out]; omega))) rfl rfl
  | some ts =>
    have ht0 := ht
    rw [ht] at HT
    obtain ⟨hne, hln⟩ := toks_ne ht
    rw [size_len] at hln
    have HT := Lib.hid (show Calls Tryz.prog 21 #[.string s] ((W.alloc (.cells #[.nilIface] 36)).alloc (.cells #[.int .i64 0] 24)) (fun e w' => ∃ ao cap, e = .returned (.slice ao ts.length cap) ∧ ts.length ≤ 256 ∧ w'.ownsRow (W.heap.size + 2) 9 1 (.slice ao ts.length cap) ts.length (ts.map cellS) ∧ Res W.heap.size w' .nilIface 0 ∧ Below W.heap.size W w' ∧ W.heap.size + 2 ≤ w'.heap.size) from HT.mono (by
      rintro e w' ⟨v, rfl, hown, hb⟩
      rw [hsz] at hown hb
      obtain ⟨ao, cap, rfl, -⟩ := own_form hown
      exact ⟨ao, cap, rfl, by omega, hown, HR.out.bel hb, HB.out.trans (hb.mono (by omega)), by rw [← hsz]; exact hb.size⟩))
    clear ht hs hsz h256 HSZ
    dsimp only
    by_cases hts : ts = []
    · subst hts
      rw [if_pos rfl]
      rw [List.length_nil] at HT
      have HV := Lib.hid (show Value.iface 57 (.int .i64 0) = enc (.num 0) from rfl)
      clear hne hln
      go_enter_defers Tryz.func10, Tryz.ntmps10
      go_wp2_with (go_at_call 21; (with_reducible refine HT.out.mono ?_); rintro e w1 ⟨ao, cap, rfl, -, -, hr1, hb1, hle1⟩; have HR1 := Lib.hid hr1; have HB1 := Lib.hid hb1; obtain ⟨r1, r2, r3, r4⟩ := hr1; have b0 : W.heap.size < w1.heap.size := (by omega); have b1 : W.heap.size + 1 < w1.heap.size := (by omega); clear hb1)
      have hf : Res W.heap.size (((w1.setCell ⟨W.heap.size, 0, none⟩ (.iface 57 (.int .i64 0))).setCell ⟨W.heap.size + 1, 0, none⟩ (.int .i64 0)).alloc (.cells #[.slice ao 0 cap, .int .i64 0] 56)) (enc (.num 0)) 0 :=
        (res_store HR1.out).bel ((Below.refl _ _).alloc (by simp [World.setCell]; omega) _)
      exact par_ret hf ((below_two HB1.out (Nat.le_refl _) _ _).alloc (by simp [World.setCell]; omega) _) rfl rfl
    · rw [if_neg hts]
      have HT := Lib.hid (HT.out.mono (show ∀ e w', _ → ∃ g cap, e = .returned (.slice (some ⟨g, 0, none⟩) ts.length cap) ∧ PT (w'.alloc (.cells #[.slice (some ⟨g, 0, none⟩) ts.length cap, .int .i64 0] 56)) w'.heap.size 0 ts ∧ Res W.heap.size w' .nilIface 0 ∧ Below W.heap.size W w' ∧ W.heap.size + 2 ≤ w'.heap.size from by
        rintro e w' ⟨ao, cap, rfl, hl, hown, hr, hb, hle⟩
        obtain ⟨g, rfl⟩ : ∃ g, ao = some ⟨g, 0, none⟩ := by
          rcases hown.2 with ⟨h', h0⟩ | ⟨g, cap', cur, h', _⟩
          · exact absurd (List.length_eq_zero_iff.1 h0) hts
          · cases h'; exact ⟨g, rfl⟩
        exact ⟨g, cap, rfl, pt_made hown (fun t ht => ⟨hne t ht, toks_short ht0 (by rw [size_len]; exact h256') t ht⟩) hl, hr, hb, hle⟩))
      have hlp : 0 < ts.length := List.length_pos_iff.2 hts
      have hlt : ts.length ≤ 256 := by omega
      have HA0 := fun (pb : Nat) (w2 : World) (h : PT w2 pb 0 ts) => (reads_all pb (20 * ts.length + 15)).1 0 ts w2 h (Nat.le_refl _)
      clear hne hln hts ht0
      generalize hn : ts.length = n at *
      clear hn
      cases hp : pP (20 * n + 15) .asg 0 ts with
      | none =>
        rw [hp] at HA0
        have HA := Lib.hid (fun pb w2 h => nd_none (HA0 pb w2 h))
        clear HA0 hp
        go_enter_defers Tryz.func10, Tryz.ntmps10
        go_wp2_with (first
          | (go_at_call 21; (with_reducible refine HT.out.mono ?_); rintro e w1 ⟨g, cap, rfl, hpt, hr1, hb1, hle1⟩; have HP1 := Lib.hid hpt; have HR1 := Lib.hid hr1; have HB1 := Lib.hid hb1; obtain ⟨r1, r2, r3, r4⟩ := hr1; have b0 : W.heap.size < w1.heap.size := (by omega); have b1 : W.heap.size + 1 < w1.heap.size := (by omega); clear hb1 hpt)
          | (go_at_call 22; (with_reducible refine (HA.out _ _ HP1.out).mono ?_); rintro e w3 ⟨rfl, hP, hF⟩; have HF3 := Lib.hid hF; clear hP hF))
        have h2 := HR1.out.bel ((Below.refl (W.heap.size + 2) w1).alloc hle1 (.cells #[.slice (some ⟨g, 0, none⟩) n cap, .int .i64 0] 56))
        have h3 := HF3.out.bel (B := W.heap.size + 2) (fun k hk => by omega) (by simp; omega)
        exact par_bad (h2.bel h3) ((HB1.out.alloc (by omega) _).trans (h3.mono (by omega))) rfl rfl
      | some y =>
        obtain ⟨nd, r⟩ := y
        rw [hp] at HA0
        obtain ⟨va, vx, hv⟩ := enc_eq nd
        have HA := Lib.hid (fun pb w2 h => nd_open (HA0 pb w2 h) hv)
        have HV := Lib.hid hv.symm
        clear HA0 hp hv
        dsimp only
        by_cases hr : r = []
        · subst hr
          rw [if_pos rfl]
          go_enter_defers Tryz.func10, Tryz.ntmps10
          go_wp2_with (first
            | (go_at_call 21; (with_reducible refine HT.out.mono ?_); rintro e w1 ⟨g, cap, rfl, hpt, hr1, hb1, hle1⟩; have HP1 := Lib.hid hpt; have HR1 := Lib.hid hr1; have HB1 := Lib.hid hb1; obtain ⟨r1, r2, r3, r4⟩ := hr1; have b0 : W.heap.size < w1.heap.size := (by omega); have b1 : W.heap.size + 1 < w1.heap.size := (by omega); clear hb1 hpt)
            | (go_at_call 22; (with_reducible refine (HA.out _ _ HP1.out).mono ?_); rintro e w3 ⟨rfl, hP, hF⟩; have h3 := hF.bel (B := W.heap.size + 2) (fun k hk => (by omega)) (by simp; omega); have HF3 := Lib.hid h3; have hR3 := (HR1.out.bel ((Below.refl (W.heap.size + 2) w1).alloc hle1 (.cells #[.slice (some ⟨g, 0, none⟩) n cap, .int .i64 0] 56))).bel h3; have HR3 := Lib.hid hR3; obtain ⟨q1, q2, q3, q4⟩ := hR3; obtain ⟨tb, off, cap3, c0, -, -, hcap3, hmax3, -, -, -, -⟩ := hP.cells; have hpl := hP.lt; have b2 : W.heap.size < w3.heap.size := (by omega); have b3 : W.heap.size + 1 < w3.heap.size := (by omega); have n0 : w1.heap.size ≠ W.heap.size := (by omega); have n1 : w1.heap.size ≠ W.heap.size + 1 := (by omega); rw [List.length_nil] at c0; unfold maxLen at hmax3; clear hP hF h3 r1 r2 r3 r4))
          have hb2 : Below W.heap.size W w3 := (HB1.out.alloc (by omega) (.cells #[.slice (some ⟨g, 0, none⟩) n cap, .int .i64 0] 56)).trans (HF3.out.mono (by omega))
          exact par_ret (by rw [← HV.out]; exact res_store (res_one HR3.out)) (below_two (hb2.setCell (p := ⟨W.heap.size, 0, none⟩) (Nat.le_refl _) _) (Nat.le_refl _) _ _) rfl rfl
        · rw [if_neg hr]
          have hrl : 0 < r.length := List.length_pos_iff.2 hr
          generalize hrn : r.length = rn at *
          go_enter_defers Tryz.func10, Tryz.ntmps10
          go_wp2_with (first
            | (go_at_call 21; (with_reducible refine HT.out.mono ?_); rintro e w1 ⟨g, cap, rfl, hpt, hr1, hb1, hle1⟩; have HP1 := Lib.hid hpt; have HR1 := Lib.hid hr1; have HB1 := Lib.hid hb1; obtain ⟨r1, r2, r3, r4⟩ := hr1; have b0 : W.heap.size < w1.heap.size := (by omega); have b1 : W.heap.size + 1 < w1.heap.size := (by omega); clear hb1 hpt)
            | (go_at_call 22; (with_reducible refine (HA.out _ _ HP1.out).mono ?_); rintro e w3 ⟨rfl, hP, hF⟩; have h3 := hF.bel (B := W.heap.size + 2) (fun k hk => (by omega)) (by simp; omega); have HF3 := Lib.hid h3; have hR3 := (HR1.out.bel ((Below.refl (W.heap.size + 2) w1).alloc hle1 (.cells #[.slice (some ⟨g, 0, none⟩) n cap, .int .i64 0] 56))).bel h3; have HR3 := Lib.hid hR3; obtain ⟨q1, q2, q3, q4⟩ := hR3; obtain ⟨tb, off, cap3, c0, -, -, hcap3, hmax3, -, -, -, -⟩ := hP.cells; have hpl := hP.lt; have b2 : W.heap.size < w3.heap.size := (by omega); have b3 : W.heap.size + 1 < w3.heap.size := (by omega); have n0 : w1.heap.size ≠ W.heap.size := (by omega); have n1 : w1.heap.size ≠ W.heap.size + 1 := (by omega); rw [hrn] at c0; unfold maxLen at hmax3; clear hP hF h3 r1 r2 r3 r4))
          have hb2 : Below W.heap.size W w3 := (HB1.out.alloc (by omega) (.cells #[.slice (some ⟨g, 0, none⟩) n cap, .int .i64 0] 56)).trans (HF3.out.mono (by omega))
          exact par_bad (res_one HR3.out) (hb2.setCell (p := ⟨W.heap.size, 0, none⟩) (Nat.le_refl _) _) rfl rfl
end Go.Proofs.YtbmnngliapmgfaaGreatDoor
