/- Plain facts of the document's table; rows of bools; contract of the document's one. -/
import Derived.Test.YtacohhmhggljhaaJE
import Derived.Deep.OwnRows
namespace Go.Proofs.Ytacohhmhggljhaa
open Go.RowKit
set_option linter.unusedVariables false
set_option linter.unusedSimpArgs false
theorem M_snoc_star {x : Prt} (hx : x.many = true) (L : List Prt) (t : List UInt8) : M (L ++ [x]) t = true ↔ ∃ a b, t = a ++ b ∧ M L a = true := by
  rw [M_append]
  constructor
  · rintro ⟨a, b, e, h1, _⟩; exact ⟨a, b, e, h1⟩
  · rintro ⟨a, b, e, h1⟩
    refine ⟨a, b, e, h1, ?_⟩
    rw [M_star hx, tails_iff]
    exact ⟨b, [], by simp, rfl⟩
theorem M_snoc_one {x : Prt} (hx : x.many = false) (L : List Prt) (t : List UInt8) : M (L ++ [x]) t = true ↔ ∃ a c, t = a ++ [c] ∧ M L a = true ∧ x.set c = true := by
  rw [M_append]
  constructor
  · rintro ⟨a, b, e, h1, h2⟩
    cases b with
    | nil => rw [M_one_nil hx] at h2; cases h2
    | cons c r =>
      rw [M_one hx, Bool.and_eq_true, M_nil] at h2
      exact ⟨a, c, by rw [e, h2.2], h1, h2.1⟩
  · rintro ⟨a, c, e, h1, h2⟩
    exact ⟨a, [c], e, h1, by rw [M_one hx, h2]; rfl⟩
theorem take_one (s : List UInt8) (k : Nat) (h : k < s.length) : s.take (k + 1) = s.take k ++ [s[k]] := by
  rw [List.take_succ_eq_append_getElem h]
theorem can_star0 {x : Prt} (hx : x.many = true) (L : List Prt) (s : List UInt8) : M (L ++ [x]) (s.take 0) = M L (s.take 0) := by
  rw [Bool.eq_iff_iff, M_snoc_star hx]
  constructor
  · rintro ⟨a, b, e, h⟩
    have := List.append_eq_nil_iff.1 e.symm
    rw [this.1] at h; exact h
  · intro h; exact ⟨[], [], rfl, h⟩
theorem can_star {x : Prt} (hx : x.many = true) (L : List Prt) (s : List UInt8) (k : Nat) (hk : k < s.length) : M (L ++ [x]) (s.take (k + 1)) = (M L (s.take (k + 1)) || M (L ++ [x]) (s.take k)) := by
  rw [Bool.eq_iff_iff, Bool.or_eq_true, M_snoc_star hx, M_snoc_star hx]
  constructor
  · rintro ⟨a, b, e, h⟩
    rcases List.eq_nil_or_concat b with rfl | ⟨b', c, rfl⟩
    · exact .inl (by rw [e, List.append_nil]; exact h)
    · rw [List.concat_eq_append, take_one s k hk, ← List.append_assoc] at e
      exact .inr ⟨a, b', (List.append_inj_left' e rfl), h⟩
  · rintro (h | ⟨a, b, e, h⟩)
    · exact ⟨_, [], by simp, h⟩
    · exact ⟨a, b ++ [s[k]], by rw [take_one s k hk, e, List.append_assoc], h⟩
theorem can_one0 {x : Prt} (hx : x.many = false) (L : List Prt) (s : List UInt8) : M (L ++ [x]) (s.take 0) = false := by
  rw [Bool.eq_false_iff]
  intro h
  obtain ⟨a, c, e, _⟩ := (M_snoc_one hx L _).1 h
  simp at e
theorem can_one {x : Prt} (hx : x.many = false) (L : List Prt) (s : List UInt8) (k : Nat) (hk : k < s.length) : M (L ++ [x]) (s.take (k + 1)) = (M L (s.take k) && x.set s[k]) := by
  rw [Bool.eq_iff_iff, Bool.and_eq_true, M_snoc_one hx, take_one s k hk]
  constructor
  · rintro ⟨a, c, e, h1, h2⟩
    have e1 := List.append_inj_left' e rfl
    have e2 := List.append_inj_right' e rfl
    rw [e1]
    exact ⟨h1, by injection e2 with e3; rw [e3]; exact h2⟩
  · rintro ⟨h1, h2⟩; exact ⟨_, _, rfl, h1, h2⟩
/-- a row of bools, known up to a place. -/
def BR (W : World) (g n : Nat) (f : Nat → Bool) (m : Nat) : Prop := ∃ cs, Blk W g 4 cs ∧ cs.size = n ∧ ∀ j, j < m → cs[j]? = some (.bool (f j))
theorem BR.cell {W : World} {g n m : Nat} {f : Nat → Bool} (h : BR W g n f m) (j : Nat) (hj : j < m) : W.cell? ⟨g, j, none⟩ = some (.bool (f j)) := by
  obtain ⟨cs, hb, _, hc⟩ := h
  rw [hb.cell j, hc j hj]
theorem BR.any {W : World} {g n m : Nat} {f : Nat → Bool} (h : BR W g n f m) (j : Nat) (hj : j < n) : ∃ v, W.cell? ⟨g, j, none⟩ = some v := by
  obtain ⟨cs, hb, hs, hc⟩ := h
  exact ⟨cs[j]'(by omega), by rw [hb.cell j]; simp⟩
theorem BR.frozen {W : World} {g n m : Nat} {f : Nat → Bool} (h : BR W g n f m) (j : Nat) : W.frozen? ⟨g, j, none⟩ = false := by
  obtain ⟨cs, hb, _⟩ := h
  exact hb.frozen j
theorem BR.put {W : World} {g n m : Nat} {f : Nat → Bool} (h : BR W g n f m) (hm : m < n) {b : Bool} (e : b = f m) : BR (W.setCell ⟨g, m, none⟩ (.bool b)) g n f (m + 1) := by
  obtain ⟨cs, hb, hs, hc⟩ := h
  refine ⟨_, hb.set m (.bool b), by simp [hs], fun j hj => ?_⟩
  by_cases hjm : j = m
  · subst hjm; rw [Array.getElem?_setIfInBounds_self_of_lt (by omega), e]
  · rw [Array.getElem?_setIfInBounds_ne (by omega)]; exact hc j (by omega)
theorem BR.later {W W' : World} {g n m : Nat} {f : Nat → Bool} (h : BR W g n f m) (hb : Below W.heap.size W W') : BR W' g n f m := by
  obtain ⟨cs, h1, h2⟩ := h
  exact ⟨cs, h1.later hb, h2⟩
theorem BR.other {W : World} {g n m b k : Nat} {f : Nat → Bool} {v : Value} (h : BR W g n f m) (hne : g ≠ b) : BR (W.setCell ⟨b, k, none⟩ v) g n f m := by
  obtain ⟨cs, h1, h2⟩ := h
  exact ⟨cs, h1.other b k v hne, h2⟩
theorem BR.lt {W : World} {g n m : Nat} {f : Nat → Bool} (h : BR W g n f m) : g < W.heap.size := by
  obtain ⟨cs, h1, _⟩ := h
  exact h1.lt
theorem made_size (z : Value) (n : Nat) : (madeCells #[z] n).size = n := by simp [madeCells]
theorem made_get (z : Value) (n j : Nat) (h : j < n) : (madeCells #[z] n)[j]? = some z := by simp [madeCells, h, Nat.mod_one]
theorem BR.made (W : World) (n : Nat) (f : Nat → Bool) : BR (W.alloc (.cells (madeCells #[.bool false] n) 4)) W.heap.size n f 0 := ⟨_, Blk.new _ _ _, made_size _ _, fun j h => by omega⟩
theorem BR.first (W : World) (s : List UInt8) : BR ((W.alloc (.cells (madeCells #[.bool false] (s.length + 1)) 4)).setCell ⟨W.heap.size, 0, none⟩ (.bool true)) W.heap.size (s.length + 1) (fun k => M [] (s.take k)) (s.length + 1) := by
  refine ⟨_, (Blk.new W _ _).set 0 (.bool true), by simp [made_size], fun j hj => ?_⟩
  by_cases h0 : j = 0
  · subst h0; rw [Array.getElem?_setIfInBounds_self_of_lt (by rw [made_size]; omega)]; rfl
  · rw [Array.getElem?_setIfInBounds_ne (by omega), made_get _ _ _ hj]
    have : M [] (s.take j) = false := by
      rw [Bool.eq_false_iff]
      intro h
      have hl : (s.take j).length = 0 := by rw [(M_nil _).1 h]; rfl
      rw [List.length_take] at hl
      omega
    show some (Value.bool false) = some (Value.bool (M [] (s.take j)))
    rw [this]
theorem Try.info4 : (Try.prog.info? 4).map (fun i => (i.zero, i.size, i.bytes)) = some (some (.bool false), 1, 1) := by kernel_rfl
/-- a struct is put into a block of its own. -/
theorem wpList_boxAgg {P : Program} {w : World} {ops : Array Oper} {rest : List Oper} {o : Oper} {a : Act} {Q : Exit → Act → World → Prop} (hg : o.guard = none) (ty : TypeId) (x : Operand) (ho : o.op = .box ty x)
    (cs : Array Value) (hx : a.eval x = .agg cs)
    (h : wpList P ops Q rest (a.put o.dst (.pointer (some ⟨w.heap.size, 0, none⟩))) (w.alloc (.cells cs ty))) : wpList P ops Q (o :: rest) a w := by
  refine wpList_plain hg fun K hK => ?_
  unfold Oper.wp
  simp [execOp, ho, hx, Instr.box, newVar, newRow, Value.cells, Result.andThen]
  exact hK _ _ h
theorem dp_many {d : DP} (h : d.ok) : d.prt.many = decide (d.k = 42) := by
  obtain ⟨k, c, n, f⟩ := d
  rcases h.1 with e | e | e | e <;> (have e' : k = _ := e; subst e'; rfl)
set_option maxHeartbeats 1000000 in
set_option maxRecDepth 100000 in
theorem rone_any (d : DP) (hok : d.ok) (h42 : d.k ≠ 42) (c : UInt8) (w : World) :
    Calls Try.prog 24 #[.agg d.cells, .int .u8 c.toNat] w fun e w' => e = .returned (.bool (d.prt.set c)) ∧ Below w.heap.size w w' := by
  obtain ⟨k, cc, n, f⟩ := d
  have hcc : cc < 256 := hok.2
  have hk := hok.1
  have hb := Blk.new w 48 (pC k cc n f)
  have c0 := hb.cell 0
  have c1 := hb.cell 1
  have c2 := hb.cell 2
  have c3 := (hb.cell (3 + c.toNat)).trans (pC_at k cc n f c.toNat c.toNat_lt)
  have e0 : (pC k cc n f)[0]? = some (.int .u8 k) := rfl
  have e1 : (pC k cc n f)[1]? = some (.int .u8 cc) := rfl
  have e2 : (pC k cc n f)[2]? = some (.bool n) := rfl
  rw [e0] at c0
  rw [e1] at c1
  rw [e2] at c2
  rw [UInt8.ofNat_toNat] at c3
  have HBB := Lib.hid ((Below.refl _ w).alloc (Nat.le_refl _) (.cells (pC k cc n f) 48))
  have hlt := c.toNat_lt
  clear hb e0 e1 e2
  show Calls Try.prog 24 #[.agg (pC k cc n f), .int .u8 c.toNat] w _
  have hk' : k = 63 ∨ k = 91 ∨ k = 99 := by
    rcases hk with e | e | e | e
    · exact absurd e h42
    · exact .inl e
    · exact .inr (.inl e)
    · exact .inr (.inr e)
  clear hk h42
  rcases hk' with rfl | rfl | rfl
  · have HR := Lib.hid (show (DP.prt ⟨63, cc, n, f⟩).set c = true from rfl)
    clear hok
    go_enter Try.func24, Try.ntmps24
    go_wp2_with (refine wpList_boxAgg rfl 48 _ rfl (pC 63 cc n f) rfl ?_)
    go_ret
    exact ⟨ret_bool HR.out.symm, HBB.out⟩
  · have HR := Lib.hid (show (DP.prt ⟨91, cc, n, f⟩).set c = (f c != n) from rfl)
    clear hok
    go_enter Try.func24, Try.ntmps24
    go_wp2_with (refine wpList_boxAgg rfl 48 _ rfl (pC 91 cc n f) rfl ?_)
    go_quiet (fail)
    go_wp2
    go_ret
    have HB := HBB.out
    exact ⟨ret_bool HR.out.symm, HB.os, HB.tape, HB.output, HB.size, HB.block⟩
  · have HR := Lib.hid (show (DP.prt ⟨99, cc, n, f⟩).set c = (c == UInt8.ofNat cc) from rfl)
    have HE := Lib.hid (show (c == UInt8.ofNat cc) = (((cc : Int) == (c.toNat : Int)) : Bool) by
      rw [Bool.eq_iff_iff, beq_iff_eq, beq_iff_eq]
      constructor
      · rintro rfl; rw [ofNat_nat hcc]
      · intro h; exact UInt8.toNat_inj.1 (by rw [ofNat_nat hcc]; omega))
    clear hok
    go_enter Try.func24, Try.ntmps24
    go_wp2_with (refine wpList_boxAgg rfl 48 _ rfl (pC 99 cc n f) rfl ?_)
    go_ret
    exact ⟨ret_bool (HR.out.trans HE.out).symm, HBB.out⟩
end Go.Proofs.Ytacohhmhggljhaa
