/- A redirection. -/
import Derived.Test.YtoahgblgchmclaaPK
namespace Go.Proofs.Ytoahgblgchmclaa
open Go.RowKit
set_option linter.unusedVariables false
set_option linter.unusedSimpArgs false
theorem set3 {W : World} {T : Nat} {a b c : Value} {ty : TypeId} (h : W.heap[T]? = some (.cells #[a, b, c] ty (0, 0))) :
    (W.cell? ⟨T, 0, none⟩ = some a ∧ W.cell? ⟨T, 1, none⟩ = some b ∧ W.cell? ⟨T, 2, none⟩ = some c ∧ W.frozen? ⟨T, 0, none⟩ = false ∧ W.frozen? ⟨T, 1, none⟩ = false ∧ W.frozen? ⟨T, 2, none⟩ = false) ∧
    (∀ v, (W.setCell ⟨T, 0, none⟩ v).heap[T]? = some (.cells #[v, b, c] ty (0, 0))) ∧ (∀ v, (W.setCell ⟨T, 1, none⟩ v).heap[T]? = some (.cells #[a, v, c] ty (0, 0))) ∧ (∀ v, (W.setCell ⟨T, 2, none⟩ v).heap[T]? = some (.cells #[a, b, v] ty (0, 0))) :=
  ⟨⟨by rw [Lib.cell_of_heap h]; rfl, by rw [Lib.cell_of_heap h]; rfl, by rw [Lib.cell_of_heap h]; rfl, Lib.frozen_of_heap h _, Lib.frozen_of_heap h _, Lib.frozen_of_heap h _⟩,
    fun v => heap_set h 0 v, fun v => heap_set h 1 v, fun v => heap_set h 2 v⟩
section
variable {W W' w w' : World} {n p g cap : Nat} {K : Nat → Prop} {all : List Tk} {nv : Value} {s t u : S} {a b c : Value}
/-- while a redirection is read: the parser, and the struct that is made. -/
structure RW (W : World) (n : Nat) (K : Nat → Prop) (p g cap : Nat) (all : List Tk) (nv : Value) (s : S) (w : World) (t : S) (a b c : Value) : Prop where
  pm : PM w n K p g cap all nv t
  fr : Fr (· = p) W w
  st : St 0 0 s t
  ns : t.ns = s.ns
  t2 : w.heap[W.heap.size]? = some (.cells #[.int .i64 0, .string ⟨#[]⟩, .string ⟨#[]⟩] 43 (0, 0))
  t3 : w.heap[W.heap.size + 1]? = some (.cells #[a, b, c] 43 (0, 0))
  pw : p < W.heap.size
theorem RW.start (h : PM W n K p g cap all nv s) (a b c : Value) : RW W n K p g cap all nv s ((W.alloc (.cells #[.int .i64 0, .string ⟨#[]⟩, .string ⟨#[]⟩] 43)).alloc (.cells #[a, b, c] 43)) s a b c :=
  ⟨h.alc.alc, ((Fr.refl _ _).alloc _).alloc _, St.refl s, rfl, heap_alloc_one _ _ _ rfl, by have := heap_alloc_new (W.alloc (.cells #[.int .i64 0, .string ⟨#[]⟩, .string ⟨#[]⟩] 43)) (.cells #[a, b, c] 43); simpa using this, heap_lt h.cell⟩
theorem RW.call0 (h : RW W n K p g cap all nv s w t a b c) (f : Fr (fun _ => False) w w') : RW W n K p g cap all nv s w' t a b c :=
  ⟨h.pm.fr f, h.fr.trans (f.mono fun _ _ e => e.elim), h.st, h.ns, (f.block _ (heap_lt h.t2) id).trans h.t2, (f.block _ (heap_lt h.t3) id).trans h.t3, h.pw⟩
theorem RW.call (h : RW W n K p g cap all nv s w t a b c) (hp : PM w' n K p g cap all nv u) (f : Fr (· = p) w w') (hs : St 0 0 t u) (hn : u.ns = t.ns) : RW W n K p g cap all nv s w' u a b c :=
  ⟨hp, h.fr.trans f, h.st.to hs (by decide) (by decide), hn.trans h.ns, (f.block _ (heap_lt h.t2) (fun e => by have := h.pw; omega)).trans h.t2, (f.block _ (heap_lt h.t3) (fun e => by have := h.pw; omega)).trans h.t3, h.pw⟩
theorem RW.set (h0 : PM W n K p g cap all nv s) (h : RW W n K p g cap all nv s w t a b c) (v : Value) :
    RW W n K p g cap all nv s (w.setCell ⟨W.heap.size + 1, 0, none⟩ v) t v b c ∧ RW W n K p g cap all nv s (w.setCell ⟨W.heap.size + 1, 1, none⟩ v) t a v c ∧ RW W n K p g cap all nv s (w.setCell ⟨W.heap.size + 1, 2, none⟩ v) t a b v := by
  obtain ⟨-, x0, x1, x2⟩ := set3 h.t3
  have hne : ∀ j, (w.setCell ⟨W.heap.size + 1, j, none⟩ v).heap[W.heap.size]? = w.heap[W.heap.size]? := fun j =>
    ((Fr.refl (· = W.heap.size + 1) w).setCell (p := ⟨W.heap.size + 1, j, none⟩) (.inl rfl) v).block _ (heap_lt h.t2) (by omega)
  have hf : ∀ j, Fr (· = p) W (w.setCell ⟨W.heap.size + 1, j, none⟩ v) := fun j => h.fr.setCell (p := ⟨W.heap.size + 1, j, none⟩) (.inr (Nat.le_succ _)) v
  exact ⟨⟨h0.loc h.pm h.fr (Int.le_refl 0) h.st h.ns (Nat.le_succ _), hf 0, h.st, h.ns, (hne 0).trans h.t2, x0 v, h.pw⟩, ⟨h0.loc h.pm h.fr (Int.le_refl 0) h.st h.ns (Nat.le_succ _), hf 1, h.st, h.ns, (hne 1).trans h.t2, x1 v, h.pw⟩, ⟨h0.loc h.pm h.fr (Int.le_refl 0) h.st h.ns (Nat.le_succ _), hf 2, h.st, h.ns, (hne 2).trans h.t2, x2 v, h.pw⟩⟩
theorem RW.cells (h : RW W n K p g cap all nv s w t a b c) : w.cell? ⟨W.heap.size + 1, 0, none⟩ = some a ∧ w.cell? ⟨W.heap.size + 1, 1, none⟩ = some b ∧ w.cell? ⟨W.heap.size + 1, 2, none⟩ = some c ∧ w.frozen? ⟨W.heap.size + 1, 0, none⟩ = false ∧ w.frozen? ⟨W.heap.size + 1, 1, none⟩ = false ∧ w.frozen? ⟨W.heap.size + 1, 2, none⟩ = false := (set3 h.t3).1
theorem RW.cells2 (h : RW W n K p g cap all nv s w t a b c) : w.cell? ⟨W.heap.size, 0, none⟩ = some (.int .i64 0) ∧ w.cell? ⟨W.heap.size, 1, none⟩ = some (.string ⟨#[]⟩) ∧ w.cell? ⟨W.heap.size, 2, none⟩ = some (.string ⟨#[]⟩) ∧ w.frozen? ⟨W.heap.size, 0, none⟩ = false ∧ w.frozen? ⟨W.heap.size, 1, none⟩ = false ∧ w.frozen? ⟨W.heap.size, 2, none⟩ = false := (set3 h.t2).1
/-- the answer. -/
theorem RW.end_ (h0 : PM W n K p g cap all nv s) (h : RW W n K p g cap all nv s w t a b c) :
    PM (((w.setCell ⟨W.heap.size, 0, none⟩ a).setCell ⟨W.heap.size, 1, none⟩ b).setCell ⟨W.heap.size, 2, none⟩ c) n K p g cap all nv t ∧ Fr (· = p) W (((w.setCell ⟨W.heap.size, 0, none⟩ a).setCell ⟨W.heap.size, 1, none⟩ b).setCell ⟨W.heap.size, 2, none⟩ c) ∧
    (((w.setCell ⟨W.heap.size, 0, none⟩ a).setCell ⟨W.heap.size, 1, none⟩ b).setCell ⟨W.heap.size, 2, none⟩ c).heap[W.heap.size]? = some (.cells #[a, b, c] 43 (0, 0)) := by
  have f1 : Fr (· = p) W (w.setCell ⟨W.heap.size, 0, none⟩ a) := h.fr.setCell (p := ⟨W.heap.size, 0, none⟩) (.inr (Nat.le_refl _)) a
  have f2 : Fr (· = p) W ((w.setCell ⟨W.heap.size, 0, none⟩ a).setCell ⟨W.heap.size, 1, none⟩ b) := f1.setCell (p := ⟨W.heap.size, 1, none⟩) (.inr (Nat.le_refl _)) b
  have m1 := h0.loc (T := W.heap.size) (j := 0) (v := a) h.pm h.fr (Int.le_refl 0) h.st h.ns (Nat.le_refl _)
  have m2 := h0.loc (T := W.heap.size) (j := 1) (v := b) m1 f1 (Int.le_refl 0) h.st h.ns (Nat.le_refl _)
  have m3 := h0.loc (T := W.heap.size) (j := 2) (v := c) m2 f2 (Int.le_refl 0) h.st h.ns (Nat.le_refl _)
  exact ⟨m3, f2.setCell (p := ⟨W.heap.size, 2, none⟩) (.inr (Nat.le_refl _)) c, heap_set (heap_set (heap_set h.t2 0 _) 1 _) 2 _⟩

set_option maxHeartbeats 4000000 in
theorem redir_nn (h : PM W n K p g cap all nv s) (hr : bRedir s.hd = true) (hk : s.hd.kind = 3) (hk2 : s.fdOf.2.adv.hd.kind = 3) :
    Calls Try.prog 76 #[.pointer (some ⟨p, 0, none⟩)] W fun e w' => e = .returned (.agg #[.int .i64 s.redir.1.fd, .string (st s.redir.1.op), .string (st s.redir.1.word)]) ∧ PM w' n K p g cap all nv s.redir.2 ∧ Fr (· = p) W w' := by
  have H := Lib.hid h
  have HN := Lib.hid (fun (w : World) (s : S) (h : PM w n K p g cap all nv s) => next_any h)
  have hop := fdOf_op h.x.inv hr
  obtain ⟨he, -, hb⟩ := bRedir_next h.x.inv hr
  obtain ⟨c, hc, hd⟩ : ∃ c, s.hd.text = [c] ∧ isDig c = true := by
    rcases hb with hb | hb
    · exact hb.2.1
    · exact absurd hk hb.1
  have hd1 : 48 ≤ c.toNat ∧ c.toNat ≤ 57 := by
    unfold isDig at hd
    simpa using hd
  have ef : s.fdOf = (((s.hd.text.getD 0 0).toNat : Int) - 48, s.adv) := by unfold S.fdOf; rw [if_pos hk]
  have efd : s.redir.1.fd = (c.toNat : Int) - 48 := by
    show s.fdOf.1 = _
    rw [ef, hc]; rfl
  have hz : (st s.hd.text).size = 1 := by rw [hc]; rfl
  have hz0 : 0 < (st s.hd.text).size := by rw [hz]; decide
  have hx : (st s.hd.text)[0] = c := by simp only [hc]; rfl
  have hb0 : ((st s.hd.text)[0].toNat : Int) - 48 = s.redir.1.fd := by rw [hx, efd]
  have hb1 : 48 ≤ (st s.hd.text)[0].toNat ∧ (st s.hd.text)[0].toNat ≤ 57 := by rw [hx]; exact hd1
  have HB := Lib.hid hb0
  have hhne : ¬ s.hd.text = [] := by rw [hc]; simp
  have HR := Lib.hid (fun (w : World) (h : PM w n K p g cap all nv s) => read_any h hhne)
  have HST1 := Lib.hid ((adv_st hhne).le (c := 0) (by decide))
  obtain ⟨s1, hs1⟩ : ∃ s1, s1 = s.adv := ⟨_, rfl⟩
  have e1 : s.fdOf.2 = s1 := by rw [ef, hs1]
  rw [← hs1] at HR HST1
  have hn1 : s1.ns = s.ns := by rw [hs1]; rfl
  have HN1 := Lib.hid hn1
  have eop : s.redir.1.op = s1.hd.text := by show s.fdOf.2.hd.text = _; rw [e1]
  rw [e1] at hop hk2
  have HOP := Lib.hid (fun (w : World) (h : PM w n K p g cap all nv s1) => read_any h (rd_ne hop))
  have HST2 := Lib.hid ((adv_st (rd_ne hop)).le (c := 0) (by decide))
  obtain ⟨s2, hs2⟩ : ∃ s2, s2 = s1.adv := ⟨_, rfl⟩
  rw [← hs2] at HOP HST2 hk2
  have hn2 : s2.ns = s1.ns := by rw [hs2]; rfl
  have HN2 := Lib.hid hn2
  have ew : s.redir.1.word = s2.hd.text ∧ s.redir.2 = s2.adv := by
    show s.fdOf.2.adv.rword.1 = _ ∧ s.fdOf.2.adv.rword.2 = _
    rw [e1, ← hs2]
    unfold S.rword
    rw [if_pos hk2]
    exact ⟨rfl, rfl⟩
  have HW := Lib.hid (fun (w : World) (h : PM w n K p g cap all nv s2) => read_any h (by
    rcases h.x.inv.next with ⟨h1, _⟩ | ⟨_, u, r, _, hg, _⟩
    · rw [h1] at hk2; cases hk2
    · exact hg.1))
  have HST3 := Lib.hid ((adv_kind (s := s2) (by rw [hk2]; decide)).le (c := 0) (by decide))
  obtain ⟨s3, hs3⟩ : ∃ s3, s3 = s2.adv := ⟨_, rfl⟩
  rw [← hs3] at HW HST3 ew
  have hn3 : s3.ns = s2.ns := by rw [hs3]; rfl
  have HN3 := Lib.hid hn3
  have HEW := Lib.hid ew
  have HEO := Lib.hid eop
  clear h hr hop e1 eop ef efd hn2 hs2 hn3 ew he hb hc hd hd1 hx hhne hs1 hn1 hb0 hs3
  have HW0 := Lib.hid (RW.start H.out (.int .i64 (-1)) (.string ⟨#[]⟩) (.string ⟨#[]⟩))
  go_enter Try.func76, Try.ntmps76
  go_upto_region 4 with (first | (refine wpList_field rfl _ _ rfl _ _ _ rfl _ rfl ?_) | (go_at_call 25; (with_reducible refine (HN.out _ s HW0.out.pm).mono ?_); rintro e w1 ⟨rfl, hF1⟩; have HW1 := Lib.hid (HW0.out.call0 hF1); clear hF1) | (go_at_call 49; (with_reducible refine (HR.out _ HW1.out.pm).mono ?_); rintro e w2 ⟨rfl, hP, hF2⟩; have hw2 := HW1.out.call hP hF2 HST1.out HN1.out; obtain ⟨c0, c1, c2, f0, f1, f2⟩ := hw2.cells; have HW2 := Lib.hid hw2; clear hw2 hP hF2))
  have HW3 := Lib.hid (RW.set H.out HW2.out (.int .i64 (((st s.hd.text)[0].toNat : Int) - 48))).1
  generalize w2.setCell ⟨W.heap.size + 1, 0, none⟩ (.int .i64 (((st s.hd.text)[0].toNat : Int) - 48)) = w3 at *
  go_upto_region 5 with (first | (refine wpList_field rfl _ _ rfl _ _ _ rfl _ rfl ?_) | (go_at_call 49; (with_reducible refine (HOP.out _ HW3.out.pm).mono ?_); rintro e w4 ⟨rfl, hP, hF4⟩; have hw4 := HW3.out.call hP hF4 HST2.out HN2.out; obtain ⟨d0, d1, d2, g0, g1, g2⟩ := hw4.cells; have HW4 := Lib.hid hw4; clear hw4 hP hF4))
  have HW5 := Lib.hid (RW.set H.out HW4.out (.string (st s1.hd.text))).2.1
  generalize w4.setCell ⟨W.heap.size + 1, 1, none⟩ (.string (st s1.hd.text)) = w5 at *
  go_upto_region 8 with (first | (refine wpList_field rfl _ _ rfl _ _ _ rfl _ rfl ?_) | (go_at_call 25; (with_reducible refine (HN.out _ s2 HW5.out.pm).mono ?_); rintro e w6 ⟨rfl, hF6⟩; have HW6 := Lib.hid (HW5.out.call0 hF6); clear hF6) | (go_at_call 49; (with_reducible refine (HW.out _ HW6.out.pm).mono ?_); rintro e w7 ⟨rfl, hP, hF7⟩; have hw7 := HW6.out.call hP hF7 HST3.out HN3.out; obtain ⟨y0, y1, y2, z0, z1, z2⟩ := hw7.cells; have HW7 := Lib.hid hw7; clear hw7 hP hF7))
  have HW8 := Lib.hid (RW.set H.out HW7.out (.string (st s2.hd.text))).2.2
  generalize w7.setCell ⟨W.heap.size + 1, 2, none⟩ (.string (st s2.hd.text)) = w8 at *
  obtain ⟨a0, a1, a2, b0, b1, b2⟩ := HW8.out.cells
  obtain ⟨u0, u1, u2, v0, v1, v2⟩ := HW8.out.cells2
  go_wp2
  obtain ⟨q1, q2, q3⟩ := RW.end_ H.out HW8.out
  refine bodyPost_ret (resN3 Try.f76 43 rfl aggRd q3 _ rfl) rfl ?_
  rw [HEW.out.1, HEW.out.2, HEO.out, ← HB.out]
  exact ⟨rfl, q1, q2⟩
set_option maxHeartbeats 4000000 in
theorem redir_nw (h : PM W n K p g cap all nv s) (hr : bRedir s.hd = true) (hk : s.hd.kind = 3) (hk2 : ¬ s.fdOf.2.adv.hd.kind = 3) :
    Calls Try.prog 76 #[.pointer (some ⟨p, 0, none⟩)] W fun e w' => e = .returned (.agg #[.int .i64 s.redir.1.fd, .string (st s.redir.1.op), .string (st s.redir.1.word)]) ∧ PM w' n K p g cap all nv s.redir.2 ∧ Fr (· = p) W w' := by
  have H := Lib.hid h
  have HN := Lib.hid (fun (w : World) (s : S) (h : PM w n K p g cap all nv s) => next_any h)
  have hop := fdOf_op h.x.inv hr
  obtain ⟨he, -, hb⟩ := bRedir_next h.x.inv hr
  obtain ⟨c, hc, hd⟩ : ∃ c, s.hd.text = [c] ∧ isDig c = true := by
    rcases hb with hb | hb
    · exact hb.2.1
    · exact absurd hk hb.1
  have hd1 : 48 ≤ c.toNat ∧ c.toNat ≤ 57 := by
    unfold isDig at hd
    simpa using hd
  have ef : s.fdOf = (((s.hd.text.getD 0 0).toNat : Int) - 48, s.adv) := by unfold S.fdOf; rw [if_pos hk]
  have efd : s.redir.1.fd = (c.toNat : Int) - 48 := by
    show s.fdOf.1 = _
    rw [ef, hc]; rfl
  have hz : (st s.hd.text).size = 1 := by rw [hc]; rfl
  have hz0 : 0 < (st s.hd.text).size := by rw [hz]; decide
  have hx : (st s.hd.text)[0] = c := by simp only [hc]; rfl
  have hb0 : ((st s.hd.text)[0].toNat : Int) - 48 = s.redir.1.fd := by rw [hx, efd]
  have hb1 : 48 ≤ (st s.hd.text)[0].toNat ∧ (st s.hd.text)[0].toNat ≤ 57 := by rw [hx]; exact hd1
  have HB := Lib.hid hb0
  have hhne : ¬ s.hd.text = [] := by rw [hc]; simp
  have HR := Lib.hid (fun (w : World) (h : PM w n K p g cap all nv s) => read_any h hhne)
  have HST1 := Lib.hid ((adv_st hhne).le (c := 0) (by decide))
  obtain ⟨s1, hs1⟩ : ∃ s1, s1 = s.adv := ⟨_, rfl⟩
  have e1 : s.fdOf.2 = s1 := by rw [ef, hs1]
  rw [← hs1] at HR HST1
  have hn1 : s1.ns = s.ns := by rw [hs1]; rfl
  have HN1 := Lib.hid hn1
  have eop : s.redir.1.op = s1.hd.text := by show s.fdOf.2.hd.text = _; rw [e1]
  rw [e1] at hop hk2
  have HOP := Lib.hid (fun (w : World) (h : PM w n K p g cap all nv s1) => read_any h (rd_ne hop))
  have HST2 := Lib.hid ((adv_st (rd_ne hop)).le (c := 0) (by decide))
  obtain ⟨s2, hs2⟩ : ∃ s2, s2 = s1.adv := ⟨_, rfl⟩
  rw [← hs2] at HOP HST2 hk2
  have hn2 : s2.ns = s1.ns := by rw [hs2]; rfl
  have HN2 := Lib.hid hn2
  have ew : s.redir.1.word = s2.word.1 ∧ s.redir.2 = s2.word.2 := by
    show s.fdOf.2.adv.rword.1 = _ ∧ s.fdOf.2.adv.rword.2 = _
    rw [e1, ← hs2]
    unfold S.rword
    rw [if_neg hk2]
    exact ⟨rfl, rfl⟩
  have HW := Lib.hid (fun (w : World) (h : PM w n K p g cap all nv s2) => word_any' h)
  have HST3 := Lib.hid (word_st s2)
  have hk3 : (s2.hd.kind == 3) = false := by rw [beq_eq_false_iff_ne]; exact hk2
  have hn3 : s2.word.2.ns = s2.ns := word_ns s2
  have HN3 := Lib.hid hn3
  have HEW := Lib.hid ew
  have HEO := Lib.hid eop
  clear h hr hop e1 eop ef efd hn2 hs2 hn3 ew he hb hc hd hd1 hx hhne hs1 hn1 hb0
  have HW0 := Lib.hid (RW.start H.out (.int .i64 (-1)) (.string ⟨#[]⟩) (.string ⟨#[]⟩))
  go_enter Try.func76, Try.ntmps76
  go_upto_region 4 with (first | (refine wpList_field rfl _ _ rfl _ _ _ rfl _ rfl ?_) | (go_at_call 25; (with_reducible refine (HN.out _ s HW0.out.pm).mono ?_); rintro e w1 ⟨rfl, hF1⟩; have HW1 := Lib.hid (HW0.out.call0 hF1); clear hF1) | (go_at_call 49; (with_reducible refine (HR.out _ HW1.out.pm).mono ?_); rintro e w2 ⟨rfl, hP, hF2⟩; have hw2 := HW1.out.call hP hF2 HST1.out HN1.out; obtain ⟨c0, c1, c2, f0, f1, f2⟩ := hw2.cells; have HW2 := Lib.hid hw2; clear hw2 hP hF2))
  have HW3 := Lib.hid (RW.set H.out HW2.out (.int .i64 (((st s.hd.text)[0].toNat : Int) - 48))).1
  generalize w2.setCell ⟨W.heap.size + 1, 0, none⟩ (.int .i64 (((st s.hd.text)[0].toNat : Int) - 48)) = w3 at *
  go_upto_region 5 with (first | (refine wpList_field rfl _ _ rfl _ _ _ rfl _ rfl ?_) | (go_at_call 49; (with_reducible refine (HOP.out _ HW3.out.pm).mono ?_); rintro e w4 ⟨rfl, hP, hF4⟩; have hw4 := HW3.out.call hP hF4 HST2.out HN2.out; obtain ⟨d0, d1, d2, g0, g1, g2⟩ := hw4.cells; have HW4 := Lib.hid hw4; clear hw4 hP hF4))
  have HW5 := Lib.hid (RW.set H.out HW4.out (.string (st s1.hd.text))).2.1
  generalize w4.setCell ⟨W.heap.size + 1, 1, none⟩ (.string (st s1.hd.text)) = w5 at *
  go_upto_region 8 with (first | (refine wpList_field rfl _ _ rfl _ _ _ rfl _ rfl ?_) | (go_at_call 25; (with_reducible refine (HN.out _ s2 HW5.out.pm).mono ?_); rintro e w6 ⟨rfl, hF6⟩; have HW6 := Lib.hid (HW5.out.call0 hF6); clear hF6) | (go_at_call 78; (with_reducible refine (HW.out _ HW6.out.pm).mono ?_); rintro e w7 ⟨rfl, hP, hF7⟩; have hw7 := HW6.out.call hP hF7 HST3.out HN3.out; obtain ⟨y0, y1, y2, z0, z1, z2⟩ := hw7.cells; have HW7 := Lib.hid hw7; clear hw7 hP hF7))
  have HW8 := Lib.hid (RW.set H.out HW7.out (.string (st s2.word.1))).2.2
  generalize w7.setCell ⟨W.heap.size + 1, 2, none⟩ (.string (st s2.word.1)) = w8 at *
  obtain ⟨a0, a1, a2, b0, b1, b2⟩ := HW8.out.cells
  obtain ⟨u0, u1, u2, v0, v1, v2⟩ := HW8.out.cells2
  go_wp2
  obtain ⟨q1, q2, q3⟩ := RW.end_ H.out HW8.out
  refine bodyPost_ret (resN3 Try.f76 43 rfl aggRd q3 _ rfl) rfl ?_
  rw [HEW.out.1, HEW.out.2, HEO.out, ← HB.out]
  exact ⟨rfl, q1, q2⟩
set_option maxHeartbeats 4000000 in
theorem redir_wn (h : PM W n K p g cap all nv s) (hr : bRedir s.hd = true) (hk : ¬ s.hd.kind = 3) (hk2 : s.fdOf.2.adv.hd.kind = 3) :
    Calls Try.prog 76 #[.pointer (some ⟨p, 0, none⟩)] W fun e w' => e = .returned (.agg #[.int .i64 s.redir.1.fd, .string (st s.redir.1.op), .string (st s.redir.1.word)]) ∧ PM w' n K p g cap all nv s.redir.2 ∧ Fr (· = p) W w' := by
  have H := Lib.hid h
  have HN := Lib.hid (fun (w : World) (s : S) (h : PM w n K p g cap all nv s) => next_any h)
  have hop := fdOf_op h.x.inv hr
  have ef : s.fdOf = (-1, s) := by unfold S.fdOf; rw [if_neg hk]
  have efd : s.redir.1.fd = -1 := by
    show s.fdOf.1 = _
    rw [ef]
  have HB := Lib.hid efd
  obtain ⟨s1, hs1⟩ : ∃ s1, s1 = s := ⟨_, rfl⟩
  have e1 : s.fdOf.2 = s1 := by rw [ef, hs1]
  have hk1 : (s.hd.kind == 3) = false := by rw [beq_eq_false_iff_ne]; exact hk
  have eop : s.redir.1.op = s1.hd.text := by show s.fdOf.2.hd.text = _; rw [e1]
  rw [e1] at hop hk2
  have HOP := Lib.hid (fun (w : World) (h : PM w n K p g cap all nv s1) => read_any h (rd_ne hop))
  have HST2 := Lib.hid ((adv_st (rd_ne hop)).le (c := 0) (by decide))
  obtain ⟨s2, hs2⟩ : ∃ s2, s2 = s1.adv := ⟨_, rfl⟩
  rw [← hs2] at HOP HST2 hk2
  have hn2 : s2.ns = s1.ns := by rw [hs2]; rfl
  have HN2 := Lib.hid hn2
  have ew : s.redir.1.word = s2.hd.text ∧ s.redir.2 = s2.adv := by
    show s.fdOf.2.adv.rword.1 = _ ∧ s.fdOf.2.adv.rword.2 = _
    rw [e1, ← hs2]
    unfold S.rword
    rw [if_pos hk2]
    exact ⟨rfl, rfl⟩
  have HW := Lib.hid (fun (w : World) (h : PM w n K p g cap all nv s2) => read_any h (by
    rcases h.x.inv.next with ⟨h1, _⟩ | ⟨_, u, r, _, hg, _⟩
    · rw [h1] at hk2; cases hk2
    · exact hg.1))
  have HST3 := Lib.hid ((adv_kind (s := s2) (by rw [hk2]; decide)).le (c := 0) (by decide))
  obtain ⟨s3, hs3⟩ : ∃ s3, s3 = s2.adv := ⟨_, rfl⟩
  rw [← hs3] at HW HST3 ew
  have hn3 : s3.ns = s2.ns := by rw [hs3]; rfl
  have HN3 := Lib.hid hn3
  have HEW := Lib.hid ew
  have HEO := Lib.hid eop
  subst hs1
  clear h hr hop e1 eop ef efd hn2 hs2 hn3 ew hs3
  have HW0 := Lib.hid (RW.start H.out (.int .i64 (-1)) (.string ⟨#[]⟩) (.string ⟨#[]⟩))
  go_enter Try.func76, Try.ntmps76
  go_upto_region 4 with (first | (refine wpList_field rfl _ _ rfl _ _ _ rfl _ rfl ?_) | (go_at_call 25; (with_reducible refine (HN.out _ s1 HW0.out.pm).mono ?_); rintro e w1 ⟨rfl, hF1⟩; have HW3 := Lib.hid (HW0.out.call0 hF1); clear hF1))
  go_upto_region 5 with (first | (refine wpList_field rfl _ _ rfl _ _ _ rfl _ rfl ?_) | (go_at_call 49; (with_reducible refine (HOP.out _ HW3.out.pm).mono ?_); rintro e w4 ⟨rfl, hP, hF4⟩; have hw4 := HW3.out.call hP hF4 HST2.out HN2.out; obtain ⟨d0, d1, d2, g0, g1, g2⟩ := hw4.cells; have HW4 := Lib.hid hw4; clear hw4 hP hF4))
  have HW5 := Lib.hid (RW.set H.out HW4.out (.string (st s1.hd.text))).2.1
  generalize w4.setCell ⟨W.heap.size + 1, 1, none⟩ (.string (st s1.hd.text)) = w5 at *
  go_upto_region 8 with (first | (refine wpList_field rfl _ _ rfl _ _ _ rfl _ rfl ?_) | (go_at_call 25; (with_reducible refine (HN.out _ s2 HW5.out.pm).mono ?_); rintro e w6 ⟨rfl, hF6⟩; have HW6 := Lib.hid (HW5.out.call0 hF6); clear hF6) | (go_at_call 49; (with_reducible refine (HW.out _ HW6.out.pm).mono ?_); rintro e w7 ⟨rfl, hP, hF7⟩; have hw7 := HW6.out.call hP hF7 HST3.out HN3.out; obtain ⟨y0, y1, y2, z0, z1, z2⟩ := hw7.cells; have HW7 := Lib.hid hw7; clear hw7 hP hF7))
  have HW8 := Lib.hid (RW.set H.out HW7.out (.string (st s2.hd.text))).2.2
  generalize w7.setCell ⟨W.heap.size + 1, 2, none⟩ (.string (st s2.hd.text)) = w8 at *
  obtain ⟨a0, a1, a2, b0, b1, b2⟩ := HW8.out.cells
  obtain ⟨u0, u1, u2, v0, v1, v2⟩ := HW8.out.cells2
  go_wp2
  obtain ⟨q1, q2, q3⟩ := RW.end_ H.out HW8.out
  refine bodyPost_ret (resN3 Try.f76 43 rfl aggRd q3 _ rfl) rfl ?_
  rw [HEW.out.1, HEW.out.2, HEO.out, HB.out]
  exact ⟨rfl, q1, q2⟩
set_option maxHeartbeats 4000000 in
theorem redir_ww (h : PM W n K p g cap all nv s) (hr : bRedir s.hd = true) (hk : ¬ s.hd.kind = 3) (hk2 : ¬ s.fdOf.2.adv.hd.kind = 3) :
    Calls Try.prog 76 #[.pointer (some ⟨p, 0, none⟩)] W fun e w' => e = .returned (.agg #[.int .i64 s.redir.1.fd, .string (st s.redir.1.op), .string (st s.redir.1.word)]) ∧ PM w' n K p g cap all nv s.redir.2 ∧ Fr (· = p) W w' := by
  have H := Lib.hid h
  have HN := Lib.hid (fun (w : World) (s : S) (h : PM w n K p g cap all nv s) => next_any h)
  have hop := fdOf_op h.x.inv hr
  have ef : s.fdOf = (-1, s) := by unfold S.fdOf; rw [if_neg hk]
  have efd : s.redir.1.fd = -1 := by
    show s.fdOf.1 = _
    rw [ef]
  have HB := Lib.hid efd
  obtain ⟨s1, hs1⟩ : ∃ s1, s1 = s := ⟨_, rfl⟩
  have e1 : s.fdOf.2 = s1 := by rw [ef, hs1]
  have hk1 : (s.hd.kind == 3) = false := by rw [beq_eq_false_iff_ne]; exact hk
  have eop : s.redir.1.op = s1.hd.text := by show s.fdOf.2.hd.text = _; rw [e1]
  rw [e1] at hop hk2
  have HOP := Lib.hid (fun (w : World) (h : PM w n K p g cap all nv s1) => read_any h (rd_ne hop))
  have HST2 := Lib.hid ((adv_st (rd_ne hop)).le (c := 0) (by decide))
  obtain ⟨s2, hs2⟩ : ∃ s2, s2 = s1.adv := ⟨_, rfl⟩
  rw [← hs2] at HOP HST2 hk2
  have hn2 : s2.ns = s1.ns := by rw [hs2]; rfl
  have HN2 := Lib.hid hn2
  have ew : s.redir.1.word = s2.word.1 ∧ s.redir.2 = s2.word.2 := by
    show s.fdOf.2.adv.rword.1 = _ ∧ s.fdOf.2.adv.rword.2 = _
    rw [e1, ← hs2]
    unfold S.rword
    rw [if_neg hk2]
    exact ⟨rfl, rfl⟩
  have HW := Lib.hid (fun (w : World) (h : PM w n K p g cap all nv s2) => word_any' h)
  have HST3 := Lib.hid (word_st s2)
  have hk3 : (s2.hd.kind == 3) = false := by rw [beq_eq_false_iff_ne]; exact hk2
  have hn3 : s2.word.2.ns = s2.ns := word_ns s2
  have HN3 := Lib.hid hn3
  have HEW := Lib.hid ew
  have HEO := Lib.hid eop
  subst hs1
  clear h hr hop e1 eop ef efd hn2 hs2 hn3 ew
  have HW0 := Lib.hid (RW.start H.out (.int .i64 (-1)) (.string ⟨#[]⟩) (.string ⟨#[]⟩))
  go_enter Try.func76, Try.ntmps76
  go_upto_region 4 with (first | (refine wpList_field rfl _ _ rfl _ _ _ rfl _ rfl ?_) | (go_at_call 25; (with_reducible refine (HN.out _ s1 HW0.out.pm).mono ?_); rintro e w1 ⟨rfl, hF1⟩; have HW3 := Lib.hid (HW0.out.call0 hF1); clear hF1))
  go_upto_region 5 with (first | (refine wpList_field rfl _ _ rfl _ _ _ rfl _ rfl ?_) | (go_at_call 49; (with_reducible refine (HOP.out _ HW3.out.pm).mono ?_); rintro e w4 ⟨rfl, hP, hF4⟩; have hw4 := HW3.out.call hP hF4 HST2.out HN2.out; obtain ⟨d0, d1, d2, g0, g1, g2⟩ := hw4.cells; have HW4 := Lib.hid hw4; clear hw4 hP hF4))
  have HW5 := Lib.hid (RW.set H.out HW4.out (.string (st s1.hd.text))).2.1
  generalize w4.setCell ⟨W.heap.size + 1, 1, none⟩ (.string (st s1.hd.text)) = w5 at *
  go_upto_region 8 with (first | (refine wpList_field rfl _ _ rfl _ _ _ rfl _ rfl ?_) | (go_at_call 25; (with_reducible refine (HN.out _ s2 HW5.out.pm).mono ?_); rintro e w6 ⟨rfl, hF6⟩; have HW6 := Lib.hid (HW5.out.call0 hF6); clear hF6) | (go_at_call 78; (with_reducible refine (HW.out _ HW6.out.pm).mono ?_); rintro e w7 ⟨rfl, hP, hF7⟩; have hw7 := HW6.out.call hP hF7 HST3.out HN3.out; obtain ⟨y0, y1, y2, z0, z1, z2⟩ := hw7.cells; have HW7 := Lib.hid hw7; clear hw7 hP hF7))
  have HW8 := Lib.hid (RW.set H.out HW7.out (.string (st s2.word.1))).2.2
  generalize w7.setCell ⟨W.heap.size + 1, 2, none⟩ (.string (st s2.word.1)) = w8 at *
  obtain ⟨a0, a1, a2, b0, b1, b2⟩ := HW8.out.cells
  obtain ⟨u0, u1, u2, v0, v1, v2⟩ := HW8.out.cells2
  go_wp2
  obtain ⟨q1, q2, q3⟩ := RW.end_ H.out HW8.out
  refine bodyPost_ret (resN3 Try.f76 43 rfl aggRd q3 _ rfl) rfl ?_
  rw [HEW.out.1, HEW.out.2, HEO.out, HB.out]
  exact ⟨rfl, q1, q2⟩
theorem redir_any' (h : PM W n K p g cap all nv s) (hr : bRedir s.hd = true) :
    Calls Try.prog 76 #[.pointer (some ⟨p, 0, none⟩)] W fun e w' => e = .returned (.agg #[.int .i64 s.redir.1.fd, .string (st s.redir.1.op), .string (st s.redir.1.word)]) ∧ PM w' n K p g cap all nv s.redir.2 ∧ Fr (· = p) W w' := by
  by_cases h1 : s.hd.kind = 3
  · by_cases h2 : s.fdOf.2.adv.hd.kind = 3
    · exact redir_nn h hr h1 h2
    · exact redir_nw h hr h1 h2
  · by_cases h2 : s.fdOf.2.adv.hd.kind = 3
    · exact redir_wn h hr h1 h2
    · exact redir_ww h hr h1 h2
end
end Go.Proofs.Ytoahgblgchmclaa
