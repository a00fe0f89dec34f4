/- Contract of the program's Has; what is kept by a range over a pattern's parts. -/
import Derived.Test.YtacohhmhggljhaaHI
import Derived.StillTailTactics
namespace Go.Proofs.Ytacohhmhggljhaa
open Go.RowKit Go.Shelf
set_option linter.unusedVariables false
set_option linter.unusedSimpArgs false
attribute [local go_sem] Oper.semAt_some
theorem Own.ex {β γ : Type} {I : γ → β → World → Prop} (h : ∀ x, Own (I x)) : Own (fun s W => ∃ x, I x s W) := fun s A B row ⟨x, hx⟩ hg hr => ⟨x, h x s A B row hx hg hr⟩
theorem OwnFrom.ex {β γ : Type} {n : Nat} {I : γ → β → World → Prop} (h : ∀ x, OwnFrom n (I x)) : OwnFrom n (fun s W => ∃ x, I x s W) := fun s A B row ⟨x, hx⟩ hg hr => ⟨x, h x s A B row hx hg hr⟩
theorem belowK_b {w : World} {n₀ : Nat} (hn : n₀ ≤ w.heap.size) (W : World) (l : Nat) (o o' : Obj) (hl : w.heap.size ≤ l) (_ : W.heap[l]? = some o) : Below n₀ W (W.putObj l o') :=
  ⟨rfl, rfl, rfl, by simp, fun k hk => World.putObj_heap_other (by omega)⟩
theorem below_keeps {B : Nat} {W W' : World} (h : Below W.heap.size W W') : KeepsFrom B W W' :=
  ⟨h.size, fun k o _ hk ho => (h.block k (Array.getElem?_eq_some_iff.1 hk).1).trans hk⟩
theorem kept_grown {B : Nat} {W W' : World} {row : Option Nat} (hg : W.grownBy W' row) (hrow : ∀ j, row = some j → ∃ cs t fz, W.heap[j]? = some (.cells cs t fz)) : KeepsFrom B W W' :=
  ⟨hg.size, fun k o _ hk ho => (hg.block k (Array.getElem?_eq_some_iff.1 hk).1 (fun e => by
    obtain ⟨cs, t, fz, hc⟩ := hrow k e.symm
    rw [hk] at hc
    cases hc
    cases ho)).trans hk⟩
theorem keeps_set {B b : Nat} {W : World} {t : TypeId} {cs : Array Value} (h : Blk W b t cs) (k : Nat) (v : Value) : KeepsFrom B W (W.setCell ⟨b, k, none⟩ v) :=
  kept_grown (grownBy_setAt W b k v) (fun j e => by cases e; exact ⟨_, _, _, h⟩)
theorem keeps_drew {B : Nat} (W : World) : KeepsFrom B W W.drew := ⟨Nat.le_refl _, fun _ _ _ h _ => h⟩
theorem kpb_below {Bn : Nat} {s : ByteArray} {W W' : World} (h : Below W.heap.size W W') : KpB Bn s W W' := fun x => x.later h
theorem kpb_set {Bn b : Nat} {s : ByteArray} {W : World} (k : Nat) (v : Value) (hne : Bn ≠ b) : KpB Bn s W (W.setCell ⟨b, k, none⟩ v) := fun x => x.other b k v hne
/-- the loop's word of Has: what came is not special. -/
def hsI (w : World) (p : ByteArray) (pre : List Prt) (W : World) : Prop :=
  (Blk W w.heap.size 4 #[.bool false] ∧ pre.any Prt.special = false) ∧ Below w.heap.size w W
def hsX (w : World) (c : Code) (pre : List Prt) (W : World) : Prop :=
  (c = .ret ∧ Blk W w.heap.size 4 #[.bool true] ∧ pre.any Prt.special = true) ∧ Below w.heap.size w W
theorem hsI_own (w : World) (p : ByteArray) (B : Nat) (hB : w.heap.size ≤ B) : OwnFrom B (hsI w p) :=
  OwnFrom.and (Own.from (Own.and2 (blk_own _ _ (fun _ => _)) (own_pure (fun pre : List Prt => pre.any Prt.special = false))) _) (ownFrom_below (Nat.le_refl _) hB)
theorem hsX_own (w : World) (B : Nat) (hB : w.heap.size ≤ B) (c : Code) : OwnFrom B (hsX w c) :=
  OwnFrom.and (Own.from (Own.and2 (own_pure (fun _ => c = .ret)) (Own.and2 (blk_own _ _ (fun _ => _)) (own_pure (fun pre : List Prt => pre.any Prt.special = true)))) _) (ownFrom_below (Nat.le_refl _) hB)
/-- a part in a block of its own; the frame then. -/
def prA (f : Nat → Prt → Act) (n₀ : Nat) (x : Prt) (a' : Act) (W : World) : Prop := ∃ B, a' = f B x ∧ n₀ ≤ B ∧ PrtAt W B x
theorem prA_own (f : Nat → Prt → Act) (n₀ n : Nat) (x : Prt) (a' : Act) : OwnFrom n (fun (_ : Unit) W => prA f n₀ x a' W) :=
  OwnFrom.ex fun B => Own.from (Own.and2 (own_pure (fun _ : Unit => a' = f B x)) (Own.and2 (own_pure (fun _ : Unit => n₀ ≤ B)) (blk_own B _ (fun _ : Unit => _)))) _
theorem has_results (W : World) (B : Nat) (b : Bool) (h : Blk W B 4 #[.bool b]) (tmps : Array Value)
    (h2 : tmps.getD 2 undef = .pointer (some ⟨B, 0, none⟩)) :
    (results Try.f12 tmps).run Try.prog W = .ok (.bool b) W := by
  have c0 := h.cell 0
  simp only [List.getElem?_toArray, List.getElem?_cons_zero] at c0
  simp only [Array.getD_eq_getD_getElem?] at h2
  simp only [results, Try.f12]
  simp [go_sem, h2, c0]
theorem prt_new (W : World) (x : Prt) : PrtAt (W.alloc (.cells #[.bool x.many, .bool x.special, wd x.set 0, wd x.set 1, wd x.set 2, wd x.set 3] 39)) W.heap.size x := Blk.new _ _ _
set_option maxRecDepth 100000 in
set_option maxHeartbeats 2000000 in
theorem has_in (p : ByteArray) (hp : p.size ≤ 70368744177664) (w : World) :
    CallsIn Fence.wide 6 Try.prog 12 #[.string p] w fun e w' => e = .returned (.bool (hasB p.data.toList)) ∧ Below w.heap.size w w' := by
  refine callsIn_of_wp_marks Try.func12 rfl trivial ?_ rfl
  simp only [Try.ntmps12, List.size_toArray, List.length_cons, List.length_nil, Nat.reduceAdd, Nat.reduceSub, Array.replicate_succ, Array.replicate_zero, List.push_toArray, List.append_toArray, List.nil_append, List.cons_append]
  gi_wp2_with (refine ⟨trivial, ?_⟩; gi_at_call 19; refine (parts_in _ _ _).mono ?_; rintro e w' ⟨rfl, rfl⟩)
  have bR := (Blk.new w 4 #[.bool false]).alloc (Obj.cells #[Value.string p] 9)
  have bN := Blk.new (w.alloc (.cells #[.bool false] 4)) 9 #[.string p]
  rw [World.size_alloc] at bN
  have hB0 : Below w.heap.size w ((w.alloc (.cells #[.bool false] 4)).alloc (.cells #[.string p] 9)) := ((Below.refl _ w).alloc (Nat.le_refl _) _).alloc (by simp) _
  have HR := Lib.hid bR
  have HB := Lib.hid hB0
  refine wpIn_rangeFunc_ownH rfl (by decide) (gf := 26) (lb := #[.pointer (some ⟨w.heap.size + 1, 0, none⟩)]) rfl trivial (enters_of Try.func26 (by kernel_rfl) rfl)
    (it_stops 5 (by decide) (w.heap.size + 1) p hp _ bN) kpb_t (fun W l o o' _ hl ho _ => kpb_b _ _ W l o o' hl ho) (Below.refl _ _) (fun _ => rfl)
    (hsI w p) (hsX w) (hsI_own w p _ (by simp; omega)) (hsX_own w _ (by simp; omega)) ⟨⟨bR, rfl⟩, hB0⟩
    (prA (fun B x => { tmps := #[.string p, undef, .pointer (some ⟨w.heap.size, 0, none⟩), .pointer (some ⟨B, 0, none⟩), .string p, .func (.func 26) #[] #[.pointer (some ⟨w.heap.size + 1, 0, none⟩)], prtV x, undef, undef], defers := [] }) (w.heap.size + 1))
    (fun x a' => prA_own _ _ _ x a') ?assign ?body ?done ?stop
  case assign =>
    intro l pre x W K hI hK
    have HN := Lib.hid (prt_new W x)
    have HP := Lib.hid (show prtV x = .agg #[.bool x.many, .bool x.special, wd x.set 0, wd x.set 1, wd x.set 2, wd x.set 3] from rfl)
    have HK := Lib.hid hK
    have HI := Lib.hid hI
    have hsz := hI.2.size
    rw [HP.out]
    clear hK hI
    unfold wd at *
    generalize word x.set 0 = v0 at *
    generalize word x.set 1 = v1 at *
    generalize word x.set 2 = v2 at *
    generalize word x.set 3 = v3 at *
    gi_wp2
    have hal : Below W.heap.size W (W.alloc (.cells #[.bool x.many, .bool x.special, .int .u64 v0, .int .u64 v1, .int .u64 v2, .int .u64 v3] 39)) := (Below.refl _ _).alloc (Nat.le_refl _) _
    refine HK.out _ _ (below_keeps hal) (kpb_below hal) ?_ ⟨W.heap.size, ?_, ?_, HN.out⟩
    · obtain ⟨⟨hB, hpre⟩, hb⟩ := HI.out
      exact ⟨⟨hB.alloc _, hpre⟩, hb.alloc hsz _⟩
    · dsimp only; rw [HP.out]
    · exact Blk.lt HI.out.1.1
  case body =>
    rintro l pre x a' W hl hrec ⟨⟨hB, hpre⟩, hb⟩ ⟨Bx, rfl, hBx, hX⟩ hlen
    have hc1 := Blk.cell hX 1
    have hr0 := hB.cell 0
    have hf0 := hB.frozen 0
    simp only [List.getElem?_toArray, List.getElem?_cons_zero, List.getElem?_cons_succ] at hc1 hr0
    have HP := Lib.hid (show (pre ++ [x]).any Prt.special = x.special by rw [List.any_append, hpre]; simp)
    have HB := Lib.hid hB
    clear hX hB hpre hrec
    generalize prtV x = PV
    dsimp only
    cases hs : x.special
    · rw [hs] at hc1 HP
      gi_wp2
      exact ⟨KeepsFrom.refl _ _, fun h => h, ⟨HB.out, HP.out⟩, hb⟩
    · rw [hs] at hc1 HP
      gi_wp2
      exact ⟨keeps_set HB.out 0 _, ⟨rfl, HB.out.set 0 _, HP.out⟩, hb.setCell (p := ⟨w.heap.size, 0, none⟩) (Nat.le_refl _) _⟩
  case done =>
    rintro D ys W hD rfl ⟨⟨hB, hpre⟩, hb⟩ hK
    have HP := Lib.hid (show hasB p.data.toList = false from hpre)
    have hr0 := hB.cell 0
    have hf0 := hB.frozen 0
    simp only [List.getElem?_toArray, List.getElem?_cons_zero] at hr0
    gi_wp2
    have hK' := (keeps_set (B := 0) hB 0 (.bool false)).same D _ (Nat.zero_le _) hK rfl
    refine ⟨by simp, .inl ⟨_, _, rfl, run_takeDeferred hK', ?_⟩⟩
    refine ⟨_, has_results _ _ _ ((hB.set 0 (.bool false)).putObj (.deferred none) hK' rfl) _ rfl, ret_bool HP.out.symm, (hb.setCell (p := ⟨w.heap.size, 0, none⟩) (Nat.le_refl _) _).trans (belowK_b (w := w) (Nat.le_refl _) _ D _ _ (by simp at hD; omega) hK')⟩
  case stop =>
    rintro D c pre W hD hpre ⟨⟨rfl, hB, hany⟩, hb⟩ hK
    have HP := Lib.hid (show hasB p.data.toList = true by
      obtain ⟨t, ht⟩ := hpre
      unfold hasB; rw [← ht, List.any_append, hany, Bool.true_or])
    gi_wp2
    refine ⟨by simp, .inl ⟨_, _, rfl, run_takeDeferred hK, ?_⟩⟩
    refine ⟨_, has_results _ _ _ (hB.putObj (.deferred none) hK rfl) _ rfl, ret_bool HP.out.symm, hb.trans (belowK_b (w := w) (Nat.le_refl _) _ D _ _ (by simp at hD; omega) hK)⟩
theorem hasB_any (p : ByteArray) (hp : p.size ≤ 70368744177664) (w : World) :
    Calls Try.prog 12 #[.string p] w fun e w' => e = .returned (.bool (hasB p.data.toList)) ∧ Below w.heap.size w w' := callsIn_wide.1 (has_in p hp w)
end Go.Proofs.Ytacohhmhggljhaa
