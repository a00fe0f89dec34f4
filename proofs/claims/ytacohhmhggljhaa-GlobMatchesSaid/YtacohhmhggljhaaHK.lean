/- Contract of the program's Match. -/
import Derived.Test.YtacohhmhggljhaaHJ
import Derived.Test.YtacohhmhggljhaaHS
import Derived.Deep.CutRange
import Derived.Deep.DeepCutAuto
namespace Go.Proofs.Ytacohhmhggljhaa
open Go.RowKit Go.Shelf
set_option linter.unusedVariables false
set_option linter.unusedSimpArgs false
attribute [local go_sem] Oper.semAt_some
def pfx (loose : Bool) : List Prt := if loose = true then [star] else []
/-- what is left of the text and of the row is what all parts stand for. -/
structure MtF (s : List UInt8) (pre : List Prt) (rest : List UInt8) (loose : Bool) (run : List (UInt8 → Bool)) : Prop where
  tight : loose = false → run = []
  size : rest.length ≤ s.length
  len : run.length ≤ pre.length
  law : ∀ post, M (pre ++ post) s = M (pfx loose ++ (run.map one ++ post)) rest
theorem MtF.start (s : List UInt8) : MtF s [] s false [] := ⟨fun _ => rfl, Nat.le_refl _, Nat.le_refl _, fun _ => rfl⟩
theorem MtF.law' {s rest : List UInt8} {pre : List Prt} {loose : Bool} {run : List (UInt8 → Bool)} (h : MtF s pre rest loose run) (x : Prt) (post : List Prt) : M ((pre ++ [x]) ++ post) s = M (pfx loose ++ (run.map one ++ x :: post)) rest := by
  rw [List.append_assoc]; exact h.law (x :: post)
theorem MtF.fits {s rest : List UInt8} {pre : List Prt} {run : List (UInt8 → Bool)} {x : Prt} {c : UInt8} (h : MtF s pre (c :: rest) false run) (hx : x.many = false) (hc : x.set c = true) : MtF s (pre ++ [x]) rest false [] := by
  refine ⟨fun _ => rfl, by have := h.size; simp at this; omega, by simp, fun post => ?_⟩
  rw [h.law' x post, h.tight rfl]
  show M (x :: post) (c :: rest) = M post rest
  rw [M_one hx, hc]; rfl
theorem MtF.miss {s rest : List UInt8} {pre : List Prt} {run : List (UInt8 → Bool)} {x : Prt} {c : UInt8} (h : MtF s pre (c :: rest) false run) (hx : x.many = false) (hc : x.set c = false) (post : List Prt) : M ((pre ++ [x]) ++ post) s = false := by
  rw [h.law' x post, h.tight rfl]
  show M (x :: post) (c :: rest) = false
  rw [M_one hx, hc]; rfl
theorem MtF.over {s : List UInt8} {pre : List Prt} {run : List (UInt8 → Bool)} {x : Prt} (h : MtF s pre [] false run) (hx : x.many = false) (post : List Prt) : M ((pre ++ [x]) ++ post) s = false := by
  rw [h.law' x post, h.tight rfl]
  exact M_one_nil hx post
theorem MtF.more {s rest : List UInt8} {pre : List Prt} {run : List (UInt8 → Bool)} {x : Prt} (h : MtF s pre rest true run) (hx : x.many = false) : MtF s (pre ++ [x]) rest true (run ++ [x.set]) := by
  refine ⟨(fun e => by cases e), h.size, by have := h.len; simp; omega, fun post => ?_⟩
  rw [h.law' x post]
  exact map_one_snoc run x post hx [star] rest
theorem star_eq {x y : Prt} (hx : x.many = true) (hy : y.many = true) (L : List Prt) (s : List UInt8) : M (x :: L) s = M (y :: L) s := by rw [M_star hx, M_star hy]
theorem place_nil (s : List UInt8) : place [] s = some 0 := by
  cases s <;> simp [place, fitsP]
theorem MtF.star {s rest : List UInt8} {pre : List Prt} {loose : Bool} {run : List (UInt8 → Bool)} {x : Prt} {k : Nat} (h : MtF s pre rest loose run) (hx : x.many = true) (hk : place run rest = some k) : MtF s (pre ++ [x]) (rest.drop (k + run.length)) true [] := by
  refine ⟨(fun e => by cases e), by have := h.size; rw [List.length_drop]; omega, by simp, fun post => ?_⟩
  rw [h.law' x post]
  show _ = M (Go.Proofs.Ytacohhmhggljhaa.star :: post) _
  cases loose
  · have hr := h.tight rfl
    subst hr
    rw [place_nil] at hk
    injection hk with hk
    subst hk
    exact star_eq hx rfl post rest
  · show M (Go.Proofs.Ytacohhmhggljhaa.star :: (run.map one ++ x :: post)) rest = _
    rw [greedy rfl hx run post rest, hk]
    exact star_eq hx rfl post _
theorem MtF.lost {s rest : List UInt8} {pre : List Prt} {loose : Bool} {run : List (UInt8 → Bool)} {x : Prt} (h : MtF s pre rest loose run) (hx : x.many = true) (hk : place run rest = none) (post : List Prt) : M ((pre ++ [x]) ++ post) s = false := by
  rw [h.law' x post]
  cases loose
  · have hr := h.tight rfl
    subst hr
    rw [place_nil] at hk
    cases hk
  · show M (Go.Proofs.Ytacohhmhggljhaa.star :: (run.map one ++ x :: post)) rest = _
    rw [greedy rfl hx run post rest, hk]
theorem MtF.done {s rest : List UInt8} {pre : List Prt} {loose : Bool} {run : List (UInt8 → Bool)} (h : MtF s pre rest loose run) : M pre s = if loose = true then decide (run.length ≤ rest.length) && fitsP run (rest.drop (rest.length - run.length)) else rest.isEmpty := by
  have := h.law []
  rw [List.append_nil, List.append_nil] at this
  rw [this]
  cases loose
  · rw [h.tight rfl]; rfl
  · exact loose_end rfl run rest
def mtI (w : World) (s : ByteArray) (pre : List Prt) (W : World) : Prop :=
  ∃ (rest : ByteArray) (loose : Bool) (run : List (UInt8 → Bool)),
    (((∃ v, Boxed W (w.heap.size + 1 + 1 + 1) 32 v ∧ W.ownsRow w.heap.size 37 4 v run.length (run.flatMap setC) ∧ True) ∧
      (Blk W (w.heap.size + 1) 9 #[.string rest] ∧ (Blk W (w.heap.size + 1 + 1) 4 #[.bool loose] ∧ Blk W w.heap.size 4 #[.bool false]))) ∧
      MtF s.data.toList pre rest.data.toList loose run) ∧ Below w.heap.size w W
def mtX (w : World) (s : ByteArray) (c : Code) (pre : List Prt) (W : World) : Prop :=
  (c = .ret ∧ Blk W w.heap.size 4 #[.bool false] ∧ ∀ post, M (pre ++ post) s.data.toList = false) ∧ Below w.heap.size w W
theorem mtI_own (w : World) (s : ByteArray) (B : Nat) (hB : w.heap.size ≤ B) : OwnFrom B (mtI w s) :=
  OwnFrom.ex fun rest => OwnFrom.ex fun loose => OwnFrom.ex fun run =>
    OwnFrom.and (Own.from (Own.and2 (Own.and2 (holdsRow_own w.heap.size (w.heap.size + 1 + 1 + 1) 32 37 4 (fun _ : List Prt => run.length) (fun _ => run.flatMap setC) (fun _ _ => True))
      (Own.and2 (blk_own _ _ (fun _ => _)) (Own.and2 (blk_own _ _ (fun _ => _)) (blk_own _ _ (fun _ => _))))) (own_pure (fun pre => MtF s.data.toList pre rest.data.toList loose run))) _) (ownFrom_below (Nat.le_refl _) hB)
theorem mtX_own (w : World) (s : ByteArray) (B : Nat) (hB : w.heap.size ≤ B) (c : Code) : OwnFrom B (mtX w s c) :=
  OwnFrom.and (Own.from (Own.and2 (own_pure (fun _ => c = .ret)) (Own.and2 (blk_own _ _ (fun _ => _)) (own_pure (fun pre : List Prt => ∀ post, M (pre ++ post) s.data.toList = false)))) _) (ownFrom_below (Nat.le_refl _) hB)
theorem match_results (W : World) (B : Nat) (b : Bool) (h : Blk W B 4 #[.bool b]) (tmps : Array Value)
    (h2 : tmps.getD 6 undef = .pointer (some ⟨B, 0, none⟩)) :
    (results Try.f10 tmps).run Try.prog W = .ok (.bool b) W := by
  have c0 := h.cell 0
  simp only [List.getElem?_toArray, List.getElem?_cons_zero] at c0
  simp only [Array.getD_eq_getD_getElem?] at h2
  simp only [results, Try.f10]
  simp [go_sem, h2, c0]
theorem not_listed {l : Array Bool} {j : Nat} {p : Prop} (hl : l.getD j false = true) : l.getD j false = false → p := fun h => by rw [hl] at h; cases h
theorem Try.info37 : (Try.prog.info? 37).map (fun i => (i.zero, i.size, i.bytes)) = some (some (.agg #[.int .u64 0, .int .u64 0, .int .u64 0, .int .u64 0]), 4, 32) := by kernel_rfl
theorem addr_add (b j : Nat) : ((⟨b, 0, none⟩ : Addr).add j) = ⟨b, j, none⟩ := by
  unfold Addr.add
  by_cases h : j = 0
  · subst h; rfl
  · rw [if_neg h]; simp
theorem cell_four_new (w : World) (a b c d : Value) (t : TypeId) : ∀ j u, [a, b, c, d][j]? = some u → (w.alloc (.cells #[a, b, c, d] t)).cell? ((⟨w.heap.size, 0, none⟩ : Addr).add j) = some u := by
  intro j u h
  have hb := (Blk.new w t #[a, b, c, d]).cell j
  rw [addr_add, hb, List.getElem?_toArray]
  exact h
theorem still_skip {P : Program} {ops : Array Oper} {w : World} {Q : Act → Prop} {o : Oper} {rest : List Oper} {a : Act} (h : Region.wanted o (yielded ops a.tmps) = false) (h2 : wpStill P ops w Q rest (a.put o.dst undef)) : wpStill P ops w Q (o :: rest) a := by
  unfold wpStill
  rw [if_neg (by rw [h]; decide)]
  exact h2
theorem toks_len (l : List UInt8) : (toks l).length ≤ l.length := by
  have h := lenT_toks l
  have : ∀ ts : List Tok, ts.length ≤ lenT ts := by
    intro ts
    induction ts with
    | nil => simp [lenT]
    | cons t r ih => have := tl_pos t; rw [lenT, List.length_cons]; omega
  have := this (toks l)
  omega
theorem flat_at (run : List (UInt8 → Bool)) : ∀ (k : Nat) (f : UInt8 → Bool) (j : Nat), run[k]? = some f → j < 4 → (run.flatMap setC)[k * 4 + j]? = (setC f)[j]? := by
  induction run with
  | nil => intro k f j h; simp at h
  | cons g r ih =>
    intro k f j h hj
    have hl : (setC g).length = 4 := rfl
    cases k with
    | zero =>
      simp at h
      subst h
      rw [List.flatMap_cons, List.getElem?_append_left (by omega)]
      simp
    | succ k =>
      have := ih k f j (by simpa using h) hj
      rw [List.flatMap_cons, List.getElem?_append_right (by omega), hl, show (k + 1) * 4 + j - 4 = k * 4 + j by omega]
      exact this
theorem inrun_of {W : World} {B n cap : Nat} {ao : Option Addr} {run : List (UInt8 → Bool)} (h : W.ownsRow B 37 4 (.slice ao n cap) n (run.flatMap setC)) (hn : n = run.length) : InRun W ao run := by
  intro k f hk
  have hkl : k < run.length := (List.getElem?_eq_some_iff.1 hk).1
  rcases h.2 with ⟨hv, h0⟩ | ⟨g, cap', cur, hv, hb, hg, hc, hm, hs, ht⟩
  · omega
  · cases hv
    have hcell : ∀ j, j < 4 → W.cell? ⟨g, k * 4 + j, none⟩ = (setC f)[j]? := fun j hj => by
      rw [← flat_at run k f j hk hj, ← ht, List.getElem?_take_of_lt (by omega)]
      simp [World.cell?, hg]
    exact ⟨g, rfl, hcell 0 (by omega), hcell 1 (by omega), hcell 2 (by omega), hcell 3 (by omega)⟩
theorem row_slice {W : World} {base : Nat} {e : TypeId} {size : Nat} {v : Value} {n : Nat} {xs : List Value} (h : W.ownsRow base e size v n xs) : ∃ a cap, v = .slice a n cap ∧ n ≤ cap ∧ cap ≤ maxLen := by
  rcases h.2 with ⟨h1, h2⟩ | ⟨g, cap, _, h1, _, _, h3, h4, _⟩
  · exact ⟨none, 0, by rw [h1, h2], by omega, Nat.zero_le _⟩
  · exact ⟨_, _, h1, h3, h4⟩
theorem row_empty {W : World} {base : Nat} {e : TypeId} {size n cap : Nat} {ao : Option Addr} {xs : List Value} (h : W.ownsRow base e size (.slice ao n cap) n xs) : W.ownsRow base e size (.slice ao 0 cap) 0 [] := by
  refine ⟨by simp, ?_⟩
  rcases h.2 with ⟨h1, h2⟩ | ⟨g, cap', cur, h1, hb, hg, h3, h4, h5, h6⟩
  · cases h1; exact .inl ⟨rfl, rfl⟩
  · cases h1; exact .inr ⟨g, cap, cur, rfl, hb, hg, Nat.zero_le _, h4, h5, by simp⟩
theorem Blk.not_row {W : World} {base : Nat} {e : TypeId} {size : Nat} {v : Value} {n : Nat} {xs : List Value} {B : Nat} {t : TypeId} {cs : Array Value} (hB : Blk W B t cs) (hte : t ≠ e) (h : W.ownsRow base e size v n xs) : some B ≠ v.ownBlock := by
  rcases h.2 with ⟨rfl, _⟩ | ⟨g, cap, cur, rfl, _, hgb, _⟩
  · simp [Value.ownBlock]
  · intro e'
    obtain rfl : B = g := by simpa [Value.ownBlock] using e'
    have := (show W.heap[B]? = _ from hB).symm.trans hgb
    simp at this
    exact hte this.2
theorem row_later {W W' : World} {base : Nat} {e : TypeId} {size : Nat} {v : Value} {n : Nat} {xs : List Value} (h : W.ownsRow base e size v n xs) (hb : Below W.heap.size W W') : W'.ownsRow base e size v n xs :=
  h.kept (grown_below hb (Nat.le_refl _)) (by cases v.ownBlock <;> simp)
theorem row_other {W : World} {base : Nat} {e : TypeId} {size : Nat} {v : Value} {n : Nat} {xs : List Value} {B : Nat} {t : TypeId} {cs : Array Value} (h : W.ownsRow base e size v n xs) (hB : Blk W B t cs) (hte : t ≠ e) (k : Nat) (u : Value) :
    (W.setCell ⟨B, k, none⟩ u).ownsRow base e size v n xs := h.kept (grownBy_setAt W B k u) (.inr (hB.not_row hte h).symm)
/-- the early no. -/
theorem match_no (p s : ByteArray) (hp : p.size ≤ maxLen) (hs : s.size ≤ maxLen) (hd : dotNo p.data.toList s.data.toList true = true) (w : World) :
    Calls Try.prog 10 #[.string p, .string s, .bool true] w fun e w' => e = .returned (.bool (matchB p.data.toList s.data.toList true)) ∧ Below w.heap.size w w' := by
  have HR := Lib.hid (show matchB p.data.toList s.data.toList true = false by unfold matchB; rw [if_pos hd])
  unfold dotNo at hd
  simp only [Bool.and_eq_true, Bool.not_eq_true', Bool.true_and] at hd
  obtain ⟨⟨h1, h2⟩, h3⟩ := hd
  have C1 := Lib.hid (fun w => (show Calls Try.prog 18 #[.string s, .string ⟨#[46]⟩] w fun e w' => e = .returned (.bool true) ∧ w = w' from by
    have := begins_any s ⟨#[46]⟩ hs (by unfold maxLen; decide) w; rw [h1] at this; exact this))
  have C2 := Lib.hid (fun w => (show Calls Try.prog 18 #[.string p, .string ⟨#[46]⟩] w fun e w' => e = .returned (.bool false) ∧ w = w' from by
    have := begins_any p ⟨#[46]⟩ hp (by unfold maxLen; decide) w; rw [h2] at this; exact this))
  have C3 := Lib.hid (fun w => (show Calls Try.prog 18 #[.string p, .string ⟨#[92, 46]⟩] w fun e w' => e = .returned (.bool false) ∧ w = w' from by
    have := begins_any p ⟨#[92, 46]⟩ hp (by unfold maxLen; decide) w; rw [h3] at this; exact this))
  clear h1 h2 h3
  go_enter Try.func10, Try.ntmps10
  go_wp2_with (first | (go_at_call 18; (with_reducible refine (C3.out _).mono ?_); rintro e w' ⟨rfl, rfl⟩) | (go_at_call 18; (with_reducible refine (C2.out _).mono ?_); rintro e w' ⟨rfl, rfl⟩) | (go_at_call 18; (with_reducible refine (C1.out _).mono ?_); rintro e w' ⟨rfl, rfl⟩))
  refine bodyPost_ret (match_results _ _ _ (Blk.new _ _ _) _ rfl) rfl ⟨ret_bool HR.out.symm, ?_⟩
  exact (Below.refl _ _).alloc (Nat.le_refl _) _
set_option maxRecDepth 100000 in
set_option maxHeartbeats 4000000 in
theorem match_in (p s : ByteArray) (dot : Bool) (hp : p.size ≤ 1099511627776) (hs : s.size ≤ 140737488355328) (hd : dotNo p.data.toList s.data.toList dot = false) (w : World) :
    CallsIn Fence.wide 6 Try.prog 10 #[.string p, .string s, .bool dot] w fun e w' => e = .returned (.bool (matchB p.data.toList s.data.toList dot)) ∧ Below w.heap.size w w' := by
  have hpm : p.size ≤ maxLen := by unfold maxLen; omega
  have hsm : s.size ≤ maxLen := by unfold maxLen; omega
  have HR := Lib.hid (show matchB p.data.toList s.data.toList dot = M (parts (toks p.data.toList)) s.data.toList by unfold matchB; rw [hd]; rfl)
  have HD := Lib.hid hd
  clear hd
  refine callsIn_of_wp_marks Try.func10 rfl trivial ?_ rfl
  simp only [Try.ntmps10, List.size_toArray, List.length_cons, List.length_nil, Nat.reduceAdd, Nat.reduceSub, Array.replicate_succ, Array.replicate_zero, List.push_toArray, List.append_toArray, List.nil_append, List.cons_append]
  refine wpIn_wide.2 ?_
  go_upto_region 1 with fail
  go_cut [26] from 12 to 26 (fun d wx => d = .bool false ∧ wx = w.alloc (.cells #[.bool false] 4))
  case first =>
    have C1 := Lib.hid (fun w => (show Calls Try.prog 18 #[.string s, .string ⟨#[46]⟩] w fun e w' => e = .returned (.bool (beg s.data.toList [46])) ∧ w = w' from begins_any s ⟨#[46]⟩ hsm (by unfold maxLen; decide) w))
    have C2 := Lib.hid (fun w => (show Calls Try.prog 18 #[.string p, .string ⟨#[46]⟩] w fun e w' => e = .returned (.bool (beg p.data.toList [46])) ∧ w = w' from begins_any p ⟨#[46]⟩ hpm (by unfold maxLen; decide) w))
    have C3 := Lib.hid (fun w => (show Calls Try.prog 18 #[.string p, .string ⟨#[92, 46]⟩] w fun e w' => e = .returned (.bool (beg p.data.toList [92, 46])) ∧ w = w' from begins_any p ⟨#[92, 46]⟩ hpm (by unfold maxLen; decide) w))
    unfold dotNo at HD
    generalize beg s.data.toList [46] = b1 at *
    generalize beg p.data.toList [46] = b2 at *
    generalize beg p.data.toList [92, 46] = b3 at *
    cases dot
    · go_wp2_with fail
      go_meet
      exact ⟨rfl, rfl⟩
    · cases b1
      · go_wp2_with (go_at_call 18; (with_reducible refine (C1.out _).mono ?_); rintro e w' ⟨rfl, rfl⟩)
        go_meet
        exact ⟨rfl, rfl⟩
      · cases b2
        · cases b3
          · exact absurd HD.out (by decide)
          · go_wp2_with (first | (go_at_call 18; (with_reducible refine (C3.out _).mono ?_); rintro e w' ⟨rfl, rfl⟩) | (go_at_call 18; (with_reducible refine (C2.out _).mono ?_); rintro e w' ⟨rfl, rfl⟩) | (go_at_call 18; (with_reducible refine (C1.out _).mono ?_); rintro e w' ⟨rfl, rfl⟩))
            go_meet
            exact ⟨rfl, rfl⟩
        · go_wp2_with (first | (go_at_call 18; (with_reducible refine (C2.out _).mono ?_); rintro e w' ⟨rfl, rfl⟩) | (go_at_call 18; (with_reducible refine (C1.out _).mono ?_); rintro e w' ⟨rfl, rfl⟩))
          go_meet
          exact ⟨rfl, rfl⟩
  case rest =>
    obtain ⟨rfl, rfl⟩ := hcut
    go_wp2_with (go_at_call 19; refine (callsIn_wide.1 (parts_in 6 _ _)).mono ?_; rintro e w' ⟨rfl, rfl⟩)
    have bR := ((((Blk.new w 4 #[.bool false]).alloc (.cells #[.string s] 9)).alloc (.cells #[.bool false] 4)).alloc (.cells #[.slice none 0 0] 32)).alloc (.cells #[.string p] 9)
    have bT := (((Blk.new (w.alloc (.cells #[.bool false] 4)) 9 #[.string s]).alloc (.cells #[.bool false] 4)).alloc (.cells #[.slice none 0 0] 32)).alloc (.cells #[.string p] 9)
    have bL := ((Blk.new ((w.alloc (.cells #[.bool false] 4)).alloc (.cells #[.string s] 9)) 4 #[.bool false]).alloc (.cells #[.slice none 0 0] 32)).alloc (.cells #[.string p] 9)
    have bU := (Blk.new (((w.alloc (.cells #[.bool false] 4)).alloc (.cells #[.string s] 9)).alloc (.cells #[.bool false] 4)) 32 #[.slice none 0 0]).alloc (.cells #[.string p] 9)
    have bN := Blk.new ((((w.alloc (.cells #[.bool false] 4)).alloc (.cells #[.string s] 9)).alloc (.cells #[.bool false] 4)).alloc (.cells #[.slice none 0 0] 32)) 9 #[.string p]
    simp only [World.size_alloc] at bT bL bU bN
    have hB0 : Below w.heap.size w (((((w.alloc (.cells #[.bool false] 4)).alloc (.cells #[.string s] 9)).alloc (.cells #[.bool false] 4)).alloc (.cells #[.slice none 0 0] 32)).alloc (.cells #[.string p] 9)) := (((((Below.refl _ w).alloc (Nat.le_refl _) _).alloc (by simp) _).alloc (by simp; omega) _).alloc (by simp; omega) _).alloc (by simp; omega) _
    have HI0 := Lib.hid (show mtI w s [] (((((w.alloc (.cells #[.bool false] 4)).alloc (.cells #[.string s] 9)).alloc (.cells #[.bool false] 4)).alloc (.cells #[.slice none 0 0] 32)).alloc (.cells #[.string p] 9)) from ⟨s, false, [], ⟨⟨⟨_, bU, World.ownsRow_nil _ _ _ _, trivial⟩, bT, bL, bR⟩, MtF.start _⟩, hB0⟩)
    refine (wpIn_wide (n := 6)).1 ?_
    refine wpIn_rangeFunc_ownH rfl (by decide) (gf := 26) (lb := #[.pointer (some ⟨w.heap.size + 1 + 1 + 1 + 1, 0, none⟩)]) rfl trivial (enters_of Try.func26 (by kernel_rfl) rfl)
      (it_stops 5 (by decide) (w.heap.size + 1 + 1 + 1 + 1) p (by omega) _ bN) kpb_t (fun W l o o' _ hl ho _ => kpb_b _ _ W l o o' hl ho) (Below.refl _ _) (fun _ => rfl)
      (mtI w s) (mtX w s) (mtI_own w s _ (by simp; omega)) (mtX_own w s _ (by simp; omega)) HI0.out
      (prA (fun B x => { tmps := #[.string p, .string s, .bool dot, undef, undef, undef, .pointer (some ⟨w.heap.size, 0, none⟩), .pointer (some ⟨w.heap.size + 1, 0, none⟩), .pointer (some ⟨w.heap.size + 1 + 1, 0, none⟩), .pointer (some ⟨w.heap.size + 1 + 1 + 1, 0, none⟩), .pointer (some ⟨B, 0, none⟩), undef, u12, u13, u14, u15, u16, u17, u18, u19, u20, u21, u22, u23, u24, u25, .bool false, .string s, .string p, .func (.func 26) #[] #[.pointer (some ⟨w.heap.size + 1 + 1 + 1 + 1, 0, none⟩)], prtV x, undef, undef, undef, undef, undef, undef, undef, undef, undef, undef, undef, undef, undef, undef, undef, undef, undef, undef, undef, undef, undef, undef, undef, undef, undef, undef, undef, undef, undef, undef, undef, undef, undef, undef, undef, undef, undef, undef, undef, undef, undef, undef, undef, undef, undef, undef, undef, undef, undef, undef, undef, undef, undef, undef, undef, undef], defers := [] }) (w.heap.size + 1 + 1 + 1 + 1))
      (fun x a' => prA_own _ _ _ x a') ?assign ?body ?done ?stop
    case assign =>
      intro l pre x W K hI hK
      have HN := Lib.hid (prt_new W x)
      have HP := Lib.hid (show prtV x = .agg #[.bool x.many, .bool x.special, wd x.set 0, wd x.set 1, wd x.set 2, wd x.set 3] from rfl)
      have HK := Lib.hid hK
      have HI := Lib.hid hI
      have hsz : w.heap.size ≤ W.heap.size := by obtain ⟨_, _, _, _, hb⟩ := hI; exact hb.size
      have hlt : w.heap.size + 1 + 1 + 1 < W.heap.size := by obtain ⟨_, _, _, ⟨⟨⟨_, hv, _, _⟩, _⟩, _⟩, _⟩ := hI; exact Boxed.lt hv
      rw [HP.out]
      clear hK hI
      unfold wd at *
      generalize word x.set 0 = v0 at *
      generalize word x.set 1 = v1 at *
      generalize word x.set 2 = v2 at *
      generalize word x.set 3 = v3 at *
      gi_wp2
      have hal : Below W.heap.size W (W.alloc (.cells #[.bool x.many, .bool x.special, .int .u64 v0, .int .u64 v1, .int .u64 v2, .int .u64 v3] 39)) := (Below.refl _ _).alloc (Nat.le_refl _) _
      refine HK.out _ _ (below_keeps hal) (kpb_below hal) ?_ ⟨W.heap.size, ?_, ?_, HN.out⟩
      · obtain ⟨rest, loose, run, ⟨⟨⟨v, hv, hrow, _⟩, hT, hL, hR⟩, hF⟩, hb⟩ := HI.out
        exact ⟨rest, loose, run, ⟨⟨⟨v, hv.alloc _, hrow.alloc _, trivial⟩, hT.alloc _, hL.alloc _, hR.alloc _⟩, hF⟩, hb.alloc hsz _⟩
      · dsimp only; rw [HP.out]
      · exact hlt
    case body =>
      rintro l pre x a' W hl hrec ⟨rest, loose, run, ⟨⟨⟨v, hv, hrow, _⟩, hT, hL, hR⟩, hF⟩, hb⟩ ⟨Bx, rfl, hBx, hX⟩ hlen
      have hpl := parts_len (toks p.data.toList)
      have htl := toks_len p.data.toList
      rw [size_len] at htl
      have hrl : run.length ≤ 1099511627776 := by have := hF.len; omega
      have hrs : rest.size ≤ 140737488355328 := by have := hF.size; rw [size_len, size_len] at this; omega
      obtain ⟨ao, cap, rfl, hcap, hcapm⟩ := row_slice hrow
      unfold maxLen at hcapm
      have hrun := inrun_of hrow rfl
      have hm0 := Blk.cell hX 0
      have hv0 := hv.cell
      have hT0 := hT.cell 0
      have hL0 := hL.cell 0
      have hR0 := hR.cell 0
      have hRf := hR.frozen 0
      simp only [List.getElem?_toArray, List.getElem?_cons_zero, List.getElem?_cons_succ] at hm0 hT0 hL0 hR0
      have HX := Lib.hid hX
      have HV := Lib.hid hv
      have HO := Lib.hid hrow
      have HT := Lib.hid hT
      have HL := Lib.hid hL
      have HRs := Lib.hid hR
      have HF := Lib.hid hF
      clear hX hv hrow hT hL hR hF hrec hpl htl hlen
      generalize prtV x = PV
      dsimp only
      cases hmany : x.many
      · rw [hmany] at hm0
        have hx2 := Blk.cell HX.out 2
        have hx3 := Blk.cell HX.out 3
        have hx4 := Blk.cell HX.out 4
        have hx5 := Blk.cell HX.out 5
        simp only [List.getElem?_toArray, List.getElem?_cons_zero, List.getElem?_cons_succ] at hx2 hx3 hx4 hx5
        cases loose
        · cases hrl2 : rest.data.toList with
          | nil =>
            have HWB := Lib.hid hb.size
            have hrun0 := HF.out.tight rfl
            subst hrun0
            have he : rest.toList.isEmpty = true := by rw [ByteArray.toList_eq, hrl2]; rfl
            have HX2 := Lib.hid (fun post => (by rw [hrl2] at HF; exact HF.out.over hmany post : M ((pre ++ [x]) ++ post) s.data.toList = false))
            clear hrl2
            clear hmany hrun hx2 hx3 hx4 hx5 hT0 hv0 hR0 hRf
            gi_wp2
            refine round_tail 7 (by kernel_rfl) (by kernel_rfl) (by rintro ⟨_, _, h⟩; exact h) (by kernel_rfl) ?_
            have HD2 := Lib.hid (drew_below W)
            have hsz2 : W.heap.size ≤ W.drew.heap.size := Nat.le_refl _
            have HX1 := Lib.hid (Blk.drew HX.out)
            have HT1 := Lib.hid HT.out.drew
            have HL1 := Lib.hid HL.out.drew
            have HV1 := Lib.hid (Blk.drew HV.out)
            have HR1 := Lib.hid HRs.out.drew
            have HO1 := Lib.hid (row_later HO.out HD2.out)
            clear hm0 hL0
            generalize W.drew = W2 at *
            have hT0 := HT1.out.cell 0
            have hTf := HT1.out.frozen 0
            have hR0 := HR1.out.cell 0
            have hRf := HR1.out.frozen 0
            have hx2 := HX1.out.cell 2
            have hx3 := HX1.out.cell 3
            have hx4 := HX1.out.cell 4
            have hx5 := HX1.out.cell 5
            simp only [List.getElem?_toArray, List.getElem?_cons_zero, List.getElem?_cons_succ] at hT0 hR0 hx2 hx3 hx4 hx5
            simp only [List.take_succ_cons, List.take_zero, List.drop_succ_cons, List.drop_zero]
            repeat still_step
            refine wpStill_nil ?_
            go_wp2
            gi_wp2
            exact ⟨(below_keeps HD2.out).trans (keeps_set HR1.out 0 _), ⟨rfl, HR1.out.set 0 _, HX2.out⟩, (hb.trans (HD2.out.mono HWB.out)).setCell (p := ⟨w.heap.size, 0, none⟩) (Nat.le_refl _) _⟩
          | cons c tl =>
            have HWB := Lib.hid hb.size
            have hrun0 := HF.out.tight rfl
            subst hrun0
            have he : rest.toList.isEmpty = false := by rw [ByteArray.toList_eq, hrl2]; rfl
            have h0 : 0 < rest.size := by rw [← size_len, hrl2]; simp
            have hc0 : rest[0] = c := by
              have := drop_eq rest 0 h0
              rw [List.drop_zero, hrl2] at this
              injection this with h1 h2
              exact h1.symm
            have htl : (rest.extract 1 rest.size).data.toList = tl := by
              rw [extract_mid, hrl2, List.drop_succ_cons, List.drop_zero, List.take_of_length_le]
              have := size_len rest
              rw [hrl2] at this
              simp at this
              omega
            rw [hrl2] at HF
            have HC := Lib.hid (fun w => (show Calls Try.prog 21 #[.agg #[wd x.set 0, wd x.set 1, wd x.set 2, wd x.set 3], .int .u8 rest[0].toNat] w fun e w' => e = .returned (.bool (x.set rest[0])) ∧ Below w.heap.size w w' from has_any x.set rest[0] w))
            clear hrl2
            cases hxs : x.set rest[0]
            · rw [hxs] at HC
              rw [hc0] at hxs
              have HX2 := Lib.hid (fun post => HF.out.miss hmany hxs post)
              clear hc0 htl hxs
              clear hmany hrun hx2 hx3 hx4 hx5 hT0 hv0 hR0 hRf
              gi_wp2
              refine round_tail 7 (by kernel_rfl) (by kernel_rfl) (by rintro ⟨_, _, h⟩; exact h) (by kernel_rfl) ?_
              have HD2 := Lib.hid (drew_below W)
              have hsz2 : W.heap.size ≤ W.drew.heap.size := Nat.le_refl _
              have HX1 := Lib.hid (Blk.drew HX.out)
              have HT1 := Lib.hid HT.out.drew
              have HL1 := Lib.hid HL.out.drew
              have HV1 := Lib.hid (Blk.drew HV.out)
              have HR1 := Lib.hid HRs.out.drew
              have HO1 := Lib.hid (row_later HO.out HD2.out)
              clear hm0 hL0
              generalize W.drew = W2 at *
              have hT0 := HT1.out.cell 0
              have hTf := HT1.out.frozen 0
              have hR0 := HR1.out.cell 0
              have hRf := HR1.out.frozen 0
              have hx2 := HX1.out.cell 2
              have hx3 := HX1.out.cell 3
              have hx4 := HX1.out.cell 4
              have hx5 := HX1.out.cell 5
              simp only [List.getElem?_toArray, List.getElem?_cons_zero, List.getElem?_cons_succ] at hT0 hR0 hx2 hx3 hx4 hx5
              simp only [List.take_succ_cons, List.take_zero, List.drop_succ_cons, List.drop_zero]
              repeat still_step
              refine wpStill_nil ?_
              go_wp2_with (go_at_call 21; (with_reducible refine (HC.out _).mono ?_); rintro e w7 ⟨rfl, h7⟩; have HT7 := Lib.hid (HT1.out.later h7); have HR7 := Lib.hid (HR1.out.later h7); have hT0 := HT7.out.cell 0; have hTf := HT7.out.frozen 0; have hR0 := HR7.out.cell 0; have hRf := HR7.out.frozen 0; simp only [List.getElem?_toArray, List.getElem?_cons_zero] at hT0 hR0)
              gi_wp2
              have hbw := (hb.trans (HD2.out.mono HWB.out)).trans (h7.mono (Nat.le_trans HWB.out HD2.out.size))
              exact ⟨((below_keeps HD2.out).trans (below_keeps h7)).trans (keeps_set HR7.out 0 _), ⟨rfl, HR7.out.set 0 _, HX2.out⟩, hbw.setCell (p := ⟨w.heap.size, 0, none⟩) (Nat.le_refl _) _⟩
            · rw [hxs] at HC
              rw [hc0] at hxs
              have HX2 := Lib.hid (HF.out.fits hmany hxs)
              rw [← htl] at HX2
              clear hc0 htl hxs
              clear hmany hrun hx2 hx3 hx4 hx5 hT0 hv0 hR0 hRf
              gi_wp2
              refine round_tail 7 (by kernel_rfl) (by kernel_rfl) (by rintro ⟨_, _, h⟩; exact h) (by kernel_rfl) ?_
              have HD2 := Lib.hid (drew_below W)
              have hsz2 : W.heap.size ≤ W.drew.heap.size := Nat.le_refl _
              have HX1 := Lib.hid (Blk.drew HX.out)
              have HT1 := Lib.hid HT.out.drew
              have HL1 := Lib.hid HL.out.drew
              have HV1 := Lib.hid (Blk.drew HV.out)
              have HR1 := Lib.hid HRs.out.drew
              have HO1 := Lib.hid (row_later HO.out HD2.out)
              clear hm0 hL0
              generalize W.drew = W2 at *
              have hT0 := HT1.out.cell 0
              have hTf := HT1.out.frozen 0
              have hR0 := HR1.out.cell 0
              have hRf := HR1.out.frozen 0
              have hx2 := HX1.out.cell 2
              have hx3 := HX1.out.cell 3
              have hx4 := HX1.out.cell 4
              have hx5 := HX1.out.cell 5
              simp only [List.getElem?_toArray, List.getElem?_cons_zero, List.getElem?_cons_succ] at hT0 hR0 hx2 hx3 hx4 hx5
              simp only [List.take_succ_cons, List.take_zero, List.drop_succ_cons, List.drop_zero]
              repeat still_step
              refine wpStill_nil ?_
              go_wp2_with (go_at_call 21; (with_reducible refine (HC.out _).mono ?_); rintro e w7 ⟨rfl, h7⟩; have HT7 := Lib.hid (HT1.out.later h7); have HR7 := Lib.hid (HR1.out.later h7); have hT0 := HT7.out.cell 0; have hTf := HT7.out.frozen 0; have hR0 := HR7.out.cell 0; have hRf := HR7.out.frozen 0; simp only [List.getElem?_toArray, List.getElem?_cons_zero] at hT0 hR0)
              gi_wp2
              have hbw := (hb.trans (HD2.out.mono HWB.out)).trans (h7.mono (Nat.le_trans HWB.out HD2.out.size))
              exact ⟨((below_keeps HD2.out).trans (below_keeps h7)).trans (keeps_set HT7.out 0 _), kpb_t (kpb_below HD2.out) (kpb_t (kpb_below h7) (kpb_set 0 _ (by omega))), rest.extract 1 rest.size, false, [],
                ⟨⟨⟨_, (Blk.later HV1.out h7).other _ _ _ (by omega), row_other (row_later HO1.out h7) HT7.out (by decide) 0 _, trivial⟩, HT7.out.set 0 _, (HL1.out.later h7).other _ _ _ (by omega), HR7.out.other _ _ _ (by omega)⟩, HX2.out⟩,
                hbw.setCell (p := ⟨w.heap.size + 1, 0, none⟩) (by show w.heap.size ≤ w.heap.size + 1; omega) _⟩
        · have HX2 := Lib.hid (HF.out.more hmany)
          have hxc := Lib.hid (show (run ++ [x.set]).flatMap setC = run.flatMap setC ++ setC x.set by simp)
          obtain ⟨i0, hi, hz0, hz1, hz2⟩ := info_parts Try.info37
          have hsetc := Lib.hid (show setC x.set = [wd x.set 0, wd x.set 1, wd x.set 2, wd x.set 3] from rfl)
          rw [hsetc.out] at hxc
          clear hsetc
          have HWB := Lib.hid hb.size
          have hvf := Boxed.frozen HV.out
          unfold wd at *
          generalize word x.set 0 = v0 at *
          generalize word x.set 1 = v1 at *
          generalize word x.set 2 = v2 at *
          generalize word x.set 3 = v3 at *
          clear hmany
          gi_wp2_with (gi_at_builtin; refine wpListIn_append_own _ rfl _ _ 32 rfl w.heap.size 37 i0 (.agg #[.int .u64 0, .int .u64 0, .int .u64 0, .int .u64 0]) 4 32 Try.underlying32 hi hz0 hz1 hz2 rfl (by decide) _ _ _ rfl (HO.out.alloc _) ⟨W.heap.size, 0, none⟩ 1 1 [.int .u64 v0, .int .u64 v1, .int .u64 v2, .int .u64 v3] rfl rfl (cell_four_new _ _ _ _ _ _) (by simp [Value.oneCell']) (by unfold maxLen; omega) (by omega) (by have := HWB.out; simp; omega) ?_; intro v' w1 hown' hgrow _; obtain ⟨g', cap', rfl⟩ := ownsRow_succ hown'; obtain ⟨hv1, hv2, hr2, hk2, hb2⟩ := Boxed.appended HV.out (by decide) HO.out HWB.out (by omega) hown' hgrow; have hc1 := hv1.cell; have hf1 := hv1.frozen)
          exact ⟨hk2.from _, fun y => ((y.alloc _).kept hgrow (y.not_row (by decide) HO.out)).other _ _ _ (by omega), rest, true, run ++ [x.set],
            ⟨⟨⟨_, hv2, by rw [hxc.out, List.length_append]; exact hr2, trivial⟩,
              ((HT.out.alloc _).kept hgrow (HT.out.not_row (by decide) HO.out)).other _ _ _ (by omega), ((HL.out.alloc _).kept hgrow (HL.out.not_row (by decide) HO.out)).other _ _ _ (by omega), ((HRs.out.alloc _).kept hgrow (HRs.out.not_row (by decide) HO.out)).other _ _ _ (by omega)⟩, HX2.out⟩, hb.trans hb2⟩
      · rw [hmany] at hm0
        have HP := Lib.hid (place_any rest run ao cap W hrun (by omega) hrs)
        cases hpk : place run rest.data.toList with
        | none =>
          have HX2 := Lib.hid (fun post => HF.out.lost hmany hpk post)
          rw [show placeI run rest.data.toList = -1 by unfold placeI; rw [hpk]] at HP
          gi_wp2_with (refine ⟨trivial, ?_⟩; gi_at_call 20; (with_reducible refine (CallsIn.inRound l (callsIn_wide.2 HP.out)).mono ?_); rintro e w1 ⟨rfl, hb1⟩; have hR1 := HRs.out.later hb1; have hR0 := hR1.cell 0; have hRf := hR1.frozen 0; simp only [List.getElem?_toArray, List.getElem?_cons_zero] at hR0)
          exact ⟨(below_keeps hb1).trans (keeps_set hR1 0 _), ⟨rfl, hR1.set 0 _, HX2.out⟩, (hb.trans (hb1.mono hb.size)).setCell (p := ⟨w.heap.size, 0, none⟩) (Nat.le_refl _) _⟩
        | some k =>
          have hpi := place_inv (run := run) (s := rest.data.toList)
          rw [hpk] at hpi
          obtain ⟨hk1, -, -⟩ := hpi
          rw [size_len] at hk1
          have HX2 := Lib.hid (HF.out.star hmany hpk)
          rw [show placeI run rest.data.toList = (k : Int) by unfold placeI; rw [hpk]] at HP
          have g1 : ((k : Int) + run.length) ≤ rest.size := by omega
          have g0 : (0 : Int) ≤ (k : Int) + run.length := by omega
          clear hpk hmany
          gi_wp2_with (refine ⟨trivial, ?_⟩; gi_at_call 20; (with_reducible refine (CallsIn.inRound l (callsIn_wide.2 HP.out)).mono ?_); rintro e w1 ⟨rfl, hb1⟩; have hR1 := HRs.out.later hb1; have hT1 := HT.out.later hb1; have hL1 := HL.out.later hb1; have hV1 := Blk.later HV.out hb1; have hT0 := hT1.cell 0; have hTf := hT1.frozen 0; have hL0 := hL1.cell 0; have hLf := hL1.frozen 0; have hv0 := hV1.cell 0; have hvf := hV1.frozen 0; simp only [List.getElem?_toArray, List.getElem?_cons_zero] at hT0 hL0 hv0)
          have w1e : IntKind.i64.wrap ((k : Int) + run.length) = (k : Int) + run.length := IntWalk.i64_in _ (by omega)
          have w2e : ((k : Int) + run.length).toNat = k + run.length := by omega
          have HD2 := Lib.hid (drew_below w1)
          have HB1 := Lib.hid hb1
          have HT1 := Lib.hid hT1.drew
          have HL1 := Lib.hid hL1.drew
          have HV1 := Lib.hid hV1.drew
          have HR1 := Lib.hid hR1.drew
          have HO1 := Lib.hid (row_later HO.out (hb1.trans (drew_below w1 |>.mono hb1.size)))
          refine round_anyT (S := fun l W => (l.getD 8 false = false → W.cell? ⟨w.heap.size + 1, 0, none⟩ = some (.string rest)) ∧ (l.getD 9 false = false → W.cell? ⟨w.heap.size + 1 + 1 + 1, 0, none⟩ = some (.slice ao run.length cap))) (by kernel_rfl) (by kernel_rfl) (by rintro ⟨_, _, h⟩; exact h) ?_
          clear hb1 hT1 hL1 hV1 hR1 hT0 hTf hL0 hLf hv0 hvf hm0
          generalize w1.drew = W2 at *
          have hT0 := HT1.out.cell 0
          have hTf := HT1.out.frozen 0
          have hL0 := HL1.out.cell 0
          have hLf := HL1.out.frozen 0
          have hv0 := HV1.out.cell 0
          have hvf := HV1.out.frozen 0
          simp only [List.getElem?_toArray, List.getElem?_cons_zero] at hT0 hL0 hv0
          refine anyT_take (i := 0) (v := .string rest) (fun W => W.cell? ⟨w.heap.size + 1, 0, none⟩ = some (.string rest)) rfl (by kernel_rfl) (by kernel_rfl) (by kernel_rfl) (fun _ _ _ h => h) (fun l W hcl hi hS => hS.1 (hcl.not (j := 8) (by kernel_rfl) hi)) (fun l W => by rw [getD_set_ne false (by decide : 0 ≠ 8), getD_set_ne false (by decide : 0 ≠ 9)]) (Clos.start _) (Or.inl ⟨by rfl, ?y0⟩) ⟨fun _ => hT0, fun _ => hv0⟩ (fun hc0 hS0 => ?r0)
          case y0 => (intro W hSw; go_simp)
          try simp only [Act.put, List.setIfInBounds_toArray, List.set_cons_zero, List.set_cons_succ]
          refine anyT_take (i := 1) (v := .int .i64 k) (fun _ => True) rfl (by kernel_rfl) (by kernel_rfl) (by kernel_rfl) (fun _ _ _ h => h) (fun _ _ _ _ _ => trivial) (fun l W => by rw [getD_set_ne false (by decide : 1 ≠ 8), getD_set_ne false (by decide : 1 ≠ 9)]) hc0 (Or.inl ⟨by rfl, ?y1⟩) hS0 (fun hc1 hS1 => ?r1)
          case y1 => (intro W hSw; go_simp)
          try simp only [Act.put, List.setIfInBounds_toArray, List.set_cons_zero, List.set_cons_succ]
          refine anyT_take (i := 2) (v := .slice ao run.length cap) (fun W => W.cell? ⟨w.heap.size + 1 + 1 + 1, 0, none⟩ = some (.slice ao run.length cap)) rfl (by kernel_rfl) (by kernel_rfl) (by kernel_rfl) (fun _ _ _ h => h) (fun l W hcl hi hS => hS.2 (hcl.not (j := 9) (by kernel_rfl) hi)) (fun l W => by rw [getD_set_ne false (by decide : 2 ≠ 8), getD_set_ne false (by decide : 2 ≠ 9)]) hc1 (Or.inl ⟨by rfl, ?y2⟩) hS1 (fun hc2 hS2 => ?r2)
          case y2 => (intro W hSw; go_simp)
          try simp only [Act.put, List.setIfInBounds_toArray, List.set_cons_zero, List.set_cons_succ]
          refine anyT_take (i := 3) (v := .int .i64 run.length) (fun _ => True) rfl (by kernel_rfl) (by kernel_rfl) (by kernel_rfl) (fun _ _ _ h => h) (fun _ _ _ _ _ => trivial) (fun l W => by rw [getD_set_ne false (by decide : 3 ≠ 8), getD_set_ne false (by decide : 3 ≠ 9)]) hc2 (Or.inl ⟨by rfl, ?y3⟩) hS2 (fun hc3 hS3 => ?r3)
          case y3 => (intro W hSw; go_simp)
          try simp only [Act.put, List.setIfInBounds_toArray, List.set_cons_zero, List.set_cons_succ]
          refine anyT_take (i := 4) (v := .int .i64 ((k : Int) + run.length)) (fun _ => True) rfl (by kernel_rfl) (by kernel_rfl) (by kernel_rfl) (fun _ _ _ h => h) (fun _ _ _ _ _ => trivial) (fun l W => by rw [getD_set_ne false (by decide : 4 ≠ 8), getD_set_ne false (by decide : 4 ≠ 9)]) hc3 (Or.inl ⟨by rfl, ?y4⟩) hS3 (fun hc4 hS4 => ?r4)
          case y4 => (intro W hSw; go_simp)
          try simp only [Act.put, List.setIfInBounds_toArray, List.set_cons_zero, List.set_cons_succ]
          refine anyT_take (i := 5) (v := .string (rest.extract (k + run.length) rest.size)) (fun _ => True) rfl (by kernel_rfl) (by kernel_rfl) (by kernel_rfl) (fun _ _ _ h => h) (fun _ _ _ _ _ => trivial) (fun l W => by rw [getD_set_ne false (by decide : 5 ≠ 8), getD_set_ne false (by decide : 5 ≠ 9)]) hc4 (Or.inl ⟨by rfl, ?y5⟩) hS4 (fun hc5 hS5 => ?r5)
          case y5 => (intro W hSw; go_simp)
          try simp only [Act.put, List.setIfInBounds_toArray, List.set_cons_zero, List.set_cons_succ]
          refine anyT_take (i := 6) (v := .slice ao run.length cap) (fun W => W.cell? ⟨w.heap.size + 1 + 1 + 1, 0, none⟩ = some (.slice ao run.length cap)) rfl (by kernel_rfl) (by kernel_rfl) (by kernel_rfl) (fun _ _ _ h => h) (fun l W hcl hi hS => hS.2 (hcl.not (j := 9) (by kernel_rfl) hi)) (fun l W => by rw [getD_set_ne false (by decide : 6 ≠ 8), getD_set_ne false (by decide : 6 ≠ 9)]) hc5 (Or.inl ⟨by rfl, ?y6⟩) hS5 (fun hc6 hS6 => ?r6)
          case y6 => (intro W hSw; go_simp)
          try simp only [Act.put, List.setIfInBounds_toArray, List.set_cons_zero, List.set_cons_succ]
          refine anyT_take (i := 7) (v := .slice ao 0 cap) (fun _ => True) rfl (by kernel_rfl) (by kernel_rfl) (by kernel_rfl) (fun _ _ _ h => h) (fun _ _ _ _ _ => trivial) (fun l W => by rw [getD_set_ne false (by decide : 7 ≠ 8), getD_set_ne false (by decide : 7 ≠ 9)]) hc6 (Or.inl ⟨by rfl, ?y7⟩) hS6 (fun hc7 hS7 => ?r7)
          case y7 => (intro W hSw; go_simp)
          try simp only [Act.put, List.setIfInBounds_toArray, List.set_cons_zero, List.set_cons_succ]
          refine anyT_step (k := 8) (by kernel_rfl) rfl (fun K hK => ?s8)
          case s8 =>
            have HK := Lib.hid hK
            clear hK
            go_simp
            refine HK.out _ _ ⟨not_listed (by kernel_rfl), fun _ => ?_⟩ ?_
            · exact (HV1.out.other (w.heap.size + 1) 0 _ (by omega)).cell 0
            try simp only [Act.put, List.setIfInBounds_toArray, List.set_cons_zero, List.set_cons_succ]
            clear HK
            refine anyT_step (k := 9) (by kernel_rfl) rfl (fun K hK => ?s9)
            case s9 =>
              have HK := Lib.hid hK
              clear hK
              go_simp
              refine HK.out _ _ ⟨not_listed (by kernel_rfl), not_listed (by kernel_rfl)⟩ ?_
              try simp only [Act.put, List.setIfInBounds_toArray, List.set_cons_zero, List.set_cons_succ]
              clear HK
              refine anyT_step (k := 10) (by kernel_rfl) rfl (fun K hK => ?s10)
              case s10 =>
                have HK := Lib.hid hK
                clear hK
                go_simp
                refine HK.out _ _ ⟨not_listed (by kernel_rfl), not_listed (by kernel_rfl)⟩ ?_
                clear HK
                refine anyT_done (by kernel_rfl) ?_
                have t1 := HT1.out.set 0 (.string (rest.extract (k + run.length) rest.size))
                have v1 := HV1.out.other (w.heap.size + 1) 0 (.string (rest.extract (k + run.length) rest.size)) (by omega)
                have l1 := HL1.out.other (w.heap.size + 1) 0 (.string (rest.extract (k + run.length) rest.size)) (by omega)
                have r1 := HR1.out.other (w.heap.size + 1) 0 (.string (rest.extract (k + run.length) rest.size)) (by omega)
                have o1 := row_other HO1.out HT1.out (by decide) 0 (.string (rest.extract (k + run.length) rest.size))
                have o2 := row_other o1 v1 (by decide) 0 (.slice ao 0 cap)
                have l2 := l1.other (w.heap.size + 1 + 1 + 1) 0 (.slice ao 0 cap) (by omega)
                have o3 := row_empty (row_other o2 l2 (by decide) 0 (.bool true))
                have e1 : (rest.extract (k + run.length) rest.size).data.toList = rest.data.toList.drop (k + run.length) := by
                  rw [extract_mid, List.take_of_length_le (by simp)]
                refine ⟨(below_keeps HB1.out).trans ((below_keeps HD2.out).trans ((keeps_set HT1.out 0 _).trans ((keeps_set v1 0 _).trans (keeps_set l2 0 _)))),
                  kpb_t (kpb_below HB1.out) (kpb_t (kpb_below HD2.out) (kpb_t (kpb_set 0 _ (by omega)) (kpb_t (kpb_set 0 _ (by omega)) (kpb_set 0 _ (by omega))))),
                  rest.extract (k + run.length) rest.size, true, [], ⟨⟨⟨_, (v1.set 0 (.slice ao 0 cap)).other (w.heap.size + 1 + 1) 0 (.bool true) (by omega), o3, trivial⟩,
                    (t1.other (w.heap.size + 1 + 1 + 1) 0 (.slice ao 0 cap) (by omega)).other (w.heap.size + 1 + 1) 0 (.bool true) (by omega), l2.set 0 (.bool true), (r1.other (w.heap.size + 1 + 1 + 1) 0 (.slice ao 0 cap) (by omega)).other (w.heap.size + 1 + 1) 0 (.bool true) (by omega)⟩, ?_⟩, ?_⟩
                · rw [e1]; exact HX2.out
                · exact ((((hb.trans (HB1.out.mono hb.size)).trans (HD2.out.mono (Nat.le_trans hb.size HB1.out.size))).setCell (p := ⟨w.heap.size + 1, 0, none⟩) (by show w.heap.size ≤ w.heap.size + 1; omega) _).setCell (p := ⟨w.heap.size + 1 + 1 + 1, 0, none⟩) (by show w.heap.size ≤ w.heap.size + 1 + 1 + 1; omega) _).setCell (p := ⟨w.heap.size + 1 + 1, 0, none⟩) (by show w.heap.size ≤ w.heap.size + 1 + 1; omega) _
    case done =>
      rintro D ys W hD rfl ⟨rest, loose, run, ⟨⟨⟨v, hv, hrow, _⟩, hT, hL, hR⟩, hF⟩, hb⟩ hK
      have HP := Lib.hid hF.done
      have hrs : rest.size ≤ 140737488355328 := by have := hF.size; rw [size_len, size_len] at this; omega
      have hpl := parts_len (toks p.data.toList)
      have htl := toks_len p.data.toList
      rw [size_len] at htl
      have hrl : run.length ≤ 1099511627776 := by have := hF.len; omega
      have hL0 := hL.cell 0
      have hT0 := hT.cell 0
      have hR0 := hR.cell 0
      have hRf := hR.frozen 0
      simp only [List.getElem?_toArray, List.getElem?_cons_zero] at hL0 hT0 hR0
      have HD3 := Lib.hid hD
      have HWB := Lib.hid hb.size
      clear hpl htl hF
      cases loose
      · have HPr := Lib.hid (show M (parts (toks p.data.toList)) s.data.toList = rest.toList.isEmpty by rw [HP.out, ByteArray.toList_eq]; rfl)
        have HTt := Lib.hid hT
        have HRt := Lib.hid hR
        have HKt := Lib.hid hK
        clear HP hT hR hK hv hrow hL hD
        go_wp2
        have hK' := (keeps_set (B := 0) HRt.out 0 (.bool rest.toList.isEmpty)).same D _ (Nat.zero_le _) HKt.out rfl
        refine ⟨by simp, .inl ⟨_, _, rfl, run_takeDeferred hK', ?_⟩⟩
        refine ⟨_, match_results _ _ _ ((HRt.out.set 0 _).putObj (.deferred none) hK' rfl) _ rfl, ret_bool ?_, (hb.setCell (p := ⟨w.heap.size, 0, none⟩) (Nat.le_refl _) _).trans (belowK_b (w := w) (Nat.le_refl _) _ D _ _ (by have := HD3.out; simp at this; omega) hK')⟩
        rw [HR.out, HPr.out]
      · obtain ⟨ao, cap, rfl, hcap, hcapm⟩ := row_slice hrow
        unfold maxLen at hcapm
        have hrun := inrun_of hrow rfl
        have HTt := Lib.hid hT.drew
        have HRt := Lib.hid hR.drew
        have HLt := Lib.hid hL.drew
        have HVt := Lib.hid (Blk.drew hv)
        have HKt := Lib.hid (show W.drew.heap[D]? = some (.deferred (some [])) from hK)
        have HD2 := Lib.hid (drew_below W)
        have HUt := Lib.hid (hrun.later (drew_below W))
        have hv0 := hv.cell
        by_cases hle : run.length ≤ rest.size
        · have HPr := Lib.hid (show M (parts (toks p.data.toList)) s.data.toList = fitsP run (rest.data.toList.drop (rest.size - run.length)) by
            rw [HP.out, if_pos rfl, decide_eq_true (by rw [size_len]; exact hle), Bool.true_and, size_len])
          clear HP hT hR hK hv hrow hL hD hrun
          go_wp2
          refine wp_region_still_tail 14 (by kernel_rfl) (by kernel_rfl) ?_
          change wpStill _ _ W.drew (fun a' => wpList _ _ _ _ a' W.drew) _ _
          clear hL0 hT0 hR0 hRf hv0
          generalize W.drew = W2 at *
          have hT0 := HTt.out.cell 0
          have hv0 := HVt.out.cell 0
          have hR0 := HRt.out.cell 0
          have hRf := HRt.out.frozen 0
          simp only [List.getElem?_toArray, List.getElem?_cons_zero] at hT0 hR0 hv0
          have hes : (rest.extract (rest.size - run.length) rest.size).size = run.length := by simp; omega
          have HC := Lib.hid (show Calls Try.prog 22 #[.slice ao run.length cap, .string (rest.extract (rest.size - run.length) rest.size)] W2 fun e w' => e = .returned (.bool (fitsP run (rest.data.toList.drop (rest.size - run.length)))) ∧ Below W2.heap.size W2 w' from by
            have := fits_any (rest.extract (rest.size - run.length) rest.size) run ao cap W2 HUt.out (by rw [hes]; exact Nat.le_refl _) (by unfold maxLen; rw [hes]; omega)
            rwa [extract_mid, List.take_of_length_le (by simp)] at this)
          clear hes
          have w1e : IntKind.i64.wrap ((rest.size : Int) - run.length) = (rest.size : Int) - run.length := IntWalk.i64_in _ (by omega)
          have w2e : ((rest.size : Int) - run.length).toNat = rest.size - run.length := by omega
          have w3e : (0 : Int) ≤ (rest.size : Int) - run.length := by omega
          have w4e : (rest.size : Int) - run.length ≤ rest.size := by omega
          have hle2 : (run.length : Int) ≤ rest.size := by omega
          simp only [List.take_succ_cons, List.take_zero, List.drop_succ_cons, List.drop_zero]
          repeat still_step
          refine wpStill_nil ?_
          clear w1e w2e w3e w4e
          go_wp2_with (go_at_call 22; (with_reducible refine HC.out.mono ?_); rintro e w7 ⟨rfl, h7⟩; have HR7 := Lib.hid (HRt.out.later h7); have hR0 := HR7.out.cell 0; have hRf := HR7.out.frozen 0; simp only [List.getElem?_toArray, List.getElem?_cons_zero] at hR0)
          have hK' := (keeps_set (B := 0) HR7.out 0 (.bool (fitsP run (rest.data.toList.drop (rest.size - run.length))))).same D _ (Nat.zero_le _) ((below_keeps (B := 0) h7).same D _ (Nat.zero_le _) HKt.out rfl) rfl
          refine ⟨by simp, .inl ⟨_, _, rfl, run_takeDeferred hK', ?_⟩⟩
          refine ⟨_, match_results _ _ _ ((HR7.out.set 0 _).putObj (.deferred none) hK' rfl) _ rfl, ret_bool ?_, (((hb.trans (HD2.out.mono HWB.out)).trans (h7.mono (Nat.le_trans HWB.out HD2.out.size))).setCell (p := ⟨w.heap.size, 0, none⟩) (Nat.le_refl _) _).trans (belowK_b (w := w) (Nat.le_refl _) _ D _ _ (by have := HD3.out; simp at this; omega) hK')⟩
          rw [HR.out, HPr.out]
        · have HPr := Lib.hid (show M (parts (toks p.data.toList)) s.data.toList = false by
            rw [HP.out, if_pos rfl, decide_eq_false (by rw [size_len]; exact hle), Bool.false_and])
          clear HP hT hR hK hv hrow hL hD hrun
          have hle3 : decide (run.length ≤ rest.size) = false := decide_eq_false hle
          clear hle
          go_wp2
          clear hL0 hT0 hR0 hRf hv0
          have hT0 := HTt.out.cell 0
          have hv0 := HVt.out.cell 0
          have hR0 := HRt.out.cell 0
          have hRf := HRt.out.frozen 0
          simp only [List.getElem?_toArray, List.getElem?_cons_zero] at hT0 hR0 hv0
          refine wp_region_noPanic ?_
          refine wp_region_any (by kernel_rfl) (any_of_T (S := fun _ W => W.cell? ⟨w.heap.size + 1, 0, none⟩ = some (.string rest) ∧ W.cell? ⟨w.heap.size + 1 + 1 + 1, 0, none⟩ = some (.slice ao run.length cap)) _ _ _ _ ?_)
          change anyT _ _ _ _ _ _ _ _ W.drew
          clear hT0 hv0 hR0 hRf
          generalize W.drew = W2 at *
          have hT0 := HTt.out.cell 0
          have hv0 := HVt.out.cell 0
          have hR0 := HRt.out.cell 0
          have hRf := HRt.out.frozen 0
          simp only [List.getElem?_toArray, List.getElem?_cons_zero] at hT0 hR0 hv0
          refine anyT_take (i := 0) (v := .string rest) (fun W => W.cell? ⟨w.heap.size + 1, 0, none⟩ = some (.string rest)) rfl (by kernel_rfl) (by kernel_rfl) (by kernel_rfl) (fun _ _ _ h => h) (fun l W hcl hi hS => hS.1) (fun _ _ => Iff.rfl) (Clos.start _) (Or.inl ⟨by rfl, ?yy0⟩) ⟨hT0, hv0⟩ (fun ic0 iS0 => ?rr0)
          case yy0 => (intro W hSw; go_simp)
          try simp only [Act.put, List.setIfInBounds_toArray, List.set_cons_zero, List.set_cons_succ]
          refine anyT_take (i := 1) (v := .int .i64 rest.size) (fun _ => True) rfl (by kernel_rfl) (by kernel_rfl) (by kernel_rfl) (fun _ _ _ h => h) (fun _ _ _ _ _ => trivial) (fun _ _ => Iff.rfl) ic0 (Or.inl ⟨by rfl, ?yy1⟩) iS0 (fun ic1 iS1 => ?rr1)
          case yy1 => (intro W hSw; go_simp)
          try simp only [Act.put, List.setIfInBounds_toArray, List.set_cons_zero, List.set_cons_succ]
          refine anyT_take (i := 2) (v := .slice ao run.length cap) (fun W => W.cell? ⟨w.heap.size + 1 + 1 + 1, 0, none⟩ = some (.slice ao run.length cap)) rfl (by kernel_rfl) (by kernel_rfl) (by kernel_rfl) (fun _ _ _ h => h) (fun l W hcl hi hS => hS.2) (fun _ _ => Iff.rfl) ic1 (Or.inl ⟨by rfl, ?yy2⟩) iS1 (fun ic2 iS2 => ?rr2)
          case yy2 => (intro W hSw; go_simp)
          try simp only [Act.put, List.setIfInBounds_toArray, List.set_cons_zero, List.set_cons_succ]
          refine anyT_take (i := 3) (v := .int .i64 run.length) (fun _ => True) rfl (by kernel_rfl) (by kernel_rfl) (by kernel_rfl) (fun _ _ _ h => h) (fun _ _ _ _ _ => trivial) (fun _ _ => Iff.rfl) ic2 (Or.inl ⟨by rfl, ?yy3⟩) iS2 (fun ic3 iS3 => ?rr3)
          case yy3 => (intro W hSw; go_simp)
          try simp only [Act.put, List.setIfInBounds_toArray, List.set_cons_zero, List.set_cons_succ]
          refine anyT_take (i := 4) (v := .bool false) (fun _ => True) rfl (by kernel_rfl) (by kernel_rfl) (by kernel_rfl) (fun _ _ _ h => h) (fun _ _ _ _ _ => trivial) (fun _ _ => Iff.rfl) ic3 (Or.inl ⟨by rfl, ?yy4⟩) iS3 (fun ic4 iS4 => ?rr4)
          case yy4 => (intro W hSw; go_simp)
          try simp only [Act.put, List.setIfInBounds_toArray, List.set_cons_zero, List.set_cons_succ]
          refine anyT_take (i := 5) (v := .bool false) (fun _ => True) rfl (by kernel_rfl) (by kernel_rfl) (by kernel_rfl) (fun _ _ _ h => h) (fun _ _ _ _ _ => trivial) (fun _ _ => Iff.rfl) ic4 (Or.inl ⟨by rfl, ?yy5⟩) iS4 (fun ic5 iS5 => ?rr5)
          case yy5 => (intro W hSw; go_simp)
          try simp only [Act.put, List.setIfInBounds_toArray, List.set_cons_zero, List.set_cons_succ]
          refine anyT_take (i := 6) (v := undef) (fun _ => True) rfl (by kernel_rfl) (by kernel_rfl) (by kernel_rfl) (fun _ _ _ h => h) (fun _ _ _ _ _ => trivial) (fun _ _ => Iff.rfl) ic5 (Or.inr ⟨by kernel_rfl, rfl⟩) iS5 (fun ic6 iS6 => ?rr6)
          try simp only [Act.put, List.setIfInBounds_toArray, List.set_cons_zero, List.set_cons_succ]
          refine anyT_take (i := 7) (v := undef) (fun _ => True) rfl (by kernel_rfl) (by kernel_rfl) (by kernel_rfl) (fun _ _ _ h => h) (fun _ _ _ _ _ => trivial) (fun _ _ => Iff.rfl) ic6 (Or.inr ⟨by kernel_rfl, rfl⟩) iS6 (fun ic7 iS7 => ?rr7)
          try simp only [Act.put, List.setIfInBounds_toArray, List.set_cons_zero, List.set_cons_succ]
          refine anyT_take (i := 8) (v := undef) (fun _ => True) rfl (by kernel_rfl) (by kernel_rfl) (by kernel_rfl) (fun _ _ _ h => h) (fun _ _ _ _ _ => trivial) (fun _ _ => Iff.rfl) ic7 (Or.inr ⟨by kernel_rfl, rfl⟩) iS7 (fun ic8 iS8 => ?rr8)
          try simp only [Act.put, List.setIfInBounds_toArray, List.set_cons_zero, List.set_cons_succ]
          refine anyT_take (i := 9) (v := undef) (fun _ => True) rfl (by kernel_rfl) (by kernel_rfl) (by kernel_rfl) (fun _ _ _ h => h) (fun _ _ _ _ _ => trivial) (fun _ _ => Iff.rfl) ic8 (Or.inr ⟨by kernel_rfl, rfl⟩) iS8 (fun ic9 iS9 => ?rr9)
          try simp only [Act.put, List.setIfInBounds_toArray, List.set_cons_zero, List.set_cons_succ]
          refine anyT_take (i := 10) (v := undef) (fun _ => True) rfl (by kernel_rfl) (by kernel_rfl) (by kernel_rfl) (fun _ _ _ h => h) (fun _ _ _ _ _ => trivial) (fun _ _ => Iff.rfl) ic9 (Or.inr ⟨by kernel_rfl, rfl⟩) iS9 (fun ic10 iS10 => ?rr10)
          try simp only [Act.put, List.setIfInBounds_toArray, List.set_cons_zero, List.set_cons_succ]
          refine anyT_take (i := 11) (v := undef) (fun _ => True) rfl (by kernel_rfl) (by kernel_rfl) (by kernel_rfl) (fun _ _ _ h => h) (fun _ _ _ _ _ => trivial) (fun _ _ => Iff.rfl) ic10 (Or.inr ⟨by kernel_rfl, rfl⟩) iS10 (fun ic11 iS11 => ?rr11)
          try simp only [Act.put, List.setIfInBounds_toArray, List.set_cons_zero, List.set_cons_succ]
          refine anyT_take (i := 12) (v := undef) (fun _ => True) rfl (by kernel_rfl) (by kernel_rfl) (by kernel_rfl) (fun _ _ _ h => h) (fun _ _ _ _ _ => trivial) (fun _ _ => Iff.rfl) ic11 (Or.inr ⟨by kernel_rfl, rfl⟩) iS11 (fun ic12 iS12 => ?rr12)
          try simp only [Act.put, List.setIfInBounds_toArray, List.set_cons_zero, List.set_cons_succ]
          refine anyT_take (i := 13) (v := undef) (fun _ => True) rfl (by kernel_rfl) (by kernel_rfl) (by kernel_rfl) (fun _ _ _ h => h) (fun _ _ _ _ _ => trivial) (fun _ _ => Iff.rfl) ic12 (Or.inr ⟨by kernel_rfl, rfl⟩) iS12 (fun ic13 iS13 => ?rr13)
          try simp only [Act.put, List.setIfInBounds_toArray, List.set_cons_zero, List.set_cons_succ]
          refine anyT_take (i := 14) (v := undef) (fun _ => True) rfl (by kernel_rfl) (by kernel_rfl) (by kernel_rfl) (fun _ _ _ h => h) (fun _ _ _ _ _ => trivial) (fun _ _ => Iff.rfl) ic13 (Or.inr ⟨by kernel_rfl, rfl⟩) iS13 (fun ic14 iS14 => ?rr14)
          try simp only [Act.put, List.setIfInBounds_toArray, List.set_cons_zero, List.set_cons_succ]
          refine anyT_take (i := 15) (v := .bool false) (fun _ => True) rfl (by kernel_rfl) (by kernel_rfl) (by kernel_rfl) (fun _ _ _ h => h) (fun _ _ _ _ _ => trivial) (fun _ _ => Iff.rfl) ic14 (Or.inl ⟨by rfl, ?yy15⟩) iS14 (fun ic15 iS15 => ?rr15)
          case yy15 => (intro W hSw; go_simp)
          try simp only [Act.put, List.setIfInBounds_toArray, List.set_cons_zero, List.set_cons_succ]
          refine anyT_step (k := 16) (by kernel_rfl) rfl (fun K hK => ?s16)
          case s16 =>
            have HK := Lib.hid hK
            clear hK
            go_simp
            refine HK.out _ _ ⟨(HTt.out.other w.heap.size 0 (.bool false) (by omega)).cell 0, (HVt.out.other w.heap.size 0 (.bool false) (by omega)).cell 0⟩ ?_
            clear HK
            refine anyT_done (by kernel_rfl) ?_
            refine NoPanic.normal ?_
            go_wp2
            have hK' := (keeps_set (B := 0) HRt.out 0 (.bool false)).same D _ (Nat.zero_le _) HKt.out rfl
            refine ⟨by simp, .inl ⟨_, _, rfl, run_takeDeferred hK', ?_⟩⟩
            refine ⟨_, match_results _ _ _ ((HRt.out.set 0 _).putObj (.deferred none) hK' rfl) _ rfl, ret_bool ?_, ((hb.trans (HD2.out.mono HWB.out)).setCell (p := ⟨w.heap.size, 0, none⟩) (Nat.le_refl _) _).trans (belowK_b (w := w) (Nat.le_refl _) _ D _ _ (by have := HD3.out; simp at this; omega) hK')⟩
            rw [HR.out, HPr.out]
    case stop =>
      rintro D c pre W hD hpre ⟨⟨rfl, hB, hno⟩, hb⟩ hK
      have HP := Lib.hid (show M (parts (toks p.data.toList)) s.data.toList = false by
        obtain ⟨t, ht⟩ := hpre
        rw [← ht]; exact hno t)
      gi_wp2
      refine ⟨by simp, .inl ⟨_, _, rfl, run_takeDeferred hK, ?_⟩⟩
      refine ⟨_, match_results _ _ _ (hB.putObj (.deferred none) hK rfl) _ rfl, ret_bool (by rw [HR.out, HP.out]), hb.trans (belowK_b (w := w) (Nat.le_refl _) _ D _ _ (by simp at hD; omega) hK)⟩
theorem match_any (p s : ByteArray) (dot : Bool) (hp : p.size ≤ 1099511627776) (hs : s.size ≤ 140737488355328) (w : World) :
    Calls Try.prog 10 #[.string p, .string s, .bool dot] w fun e w' => e = .returned (.bool (matchB p.data.toList s.data.toList dot)) ∧ Below w.heap.size w w' := by
  cases hd : dotNo p.data.toList s.data.toList dot
  · exact callsIn_wide.1 (match_in p s dot hp hs hd w)
  · cases dot
    · cases hd
    · exact match_no p s (by unfold maxLen; omega) (by unfold maxLen; omega) hd w
end Go.Proofs.Ytacohhmhggljhaa
