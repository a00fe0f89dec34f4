/- A range over an iterator that keeps its state in one box of cells: what the caller owes is that it leaves that box alone. -/
import Derived.Test.YtjopmchbphjliaaGreatDoorB0
namespace Go.Proofs.YtjopmchbphjliaaGreatDoor
open Go.RowKit Go.Shelf

/-- what is said abides a turn of the box Bn. -/
def AbBox {β : Type} (Bn : Nat) (J : β → World → Prop) : Prop :=
  ∀ s W W' row, J s W → W.grownBy W' row → (∀ r, row = some r → r = Bn) → J s W'
/-- .. and of blocks that are no cells, from B on. -/
def OwnBox {β : Type} (B Bn : Nat) (I : β → World → Prop) : Prop :=
  ∀ s W W' row, I s W → W.grownBy W' row → (∀ r, row = some r → r = Bn ∨ (B ≤ r ∧ ∃ o : Obj, W.heap[r]? = some o ∧ o.isCells = false)) → I s W'
theorem OwnBox.of {β : Type} {B Bn : Nat} {I : β → World → Prop} (h : OwnFrom B I) (g : AbBox Bn I) : OwnBox B Bn I := fun s W W' row hs hg hr => by
  cases row with
  | none => exact h s W W' none hs hg (fun r e => by cases e)
  | some r =>
    rcases hr r rfl with rfl | hx
    · exact g s W W' _ hs hg (fun r e => (Option.some.inj e).symm)
    · exact h s W W' _ hs hg (fun r' e => by cases e; exact hx)
theorem OwnBox.turn {β : Type} {B Bn : Nat} {I : β → World → Prop} (h : OwnBox B Bn I) {s : β} {W : World} {l : Nat} {o : Obj} (o' : Obj) (hs : I s W) (hl : B ≤ l) (ho : W.heap[l]? = some o) (hc : o.isCells = false) : I s (W.putObj l o') :=
  h s W _ (some l) hs (grownBy_putObj' W l o') (fun r e => by cases e; exact .inr ⟨hl, o, ho, hc⟩)
theorem OwnBox.laid {β : Type} {B Bn : Nat} {I : β → World → Prop} (h : OwnBox B Bn I) {s : β} {W : World} (o : Obj) (hs : I s W) : I s (W.alloc o) :=
  h s W _ none hs (World.grownBy_alloc W o none) (fun r e => by cases e)
/-- the iterator's word: elements handed on one by one; the box Bn is its own. -/
def SeqBox {α : Type} (n : Nat) (P : Program) (g : Nat) (lb : Array Value) (encs : α → Array Value) (S Sp : List α → Prop) (N Bn : Nat) (w : World) : Prop :=
  ∀ (l : Nat) (J Jx : List α → World → Prop) (W : World), Below w.heap.size w W → AbBox Bn J → AbBox Bn Jx →
    (∀ pre x W1, J pre W1 → pre.length < N → YieldAt Fence.wide (n - 1) P l (encs x) W1 fun e W' =>
      (e = .returned (.bool true) ∧ J (pre ++ [x]) W' ∧ W'.heap[Bn]? = W1.heap[Bn]?) ∨ (e = .returned (.bool false) ∧ Jx (pre ++ [x]) W')) →
    J [] W →
    CallsIn Fence.wide n P g (#[.func (.yield l) #[] #[]] ++ lb) W fun e W' => (∃ v, e = .returned v) ∧ ((∃ xs, S xs ∧ J xs W') ∨ (∃ pre, Sp pre ∧ Jx pre W'))
/-- the loop's own record. -/
def lrec (D : Nat) (fn : FuncId) (a : Act) (ps : Array Tmp) (assign body : Code) (st : LoopState) (pe : Option Code) : Loop :=
  { state := st, pending := pe, fn := fn, tmps := a.tmps, params := ps, assign := assign, body := body, defers := D }
theorem still_kept {W W' : World} {Bn l : Nat} {o : Obj} {row : Option Nat} (hg : W.grownBy W' row) (hr : ∀ r, row = some r → r = Bn) (hl : l ≠ Bn) (ho : W.heap[l]? = some o) : W'.heap[l]? = some o :=
  (hg.block l (Array.getElem?_eq_some_iff.1 ho).1 (fun e => hl (hr l e.symm))).trans ho
theorem range_box {P : Program} {n : Nat} {α : Type} {g : Operand} {ps : Array Tmp} {assign body : Code} {Q : Exit → Act → World → Prop} {a : Act} {w : World}
    (h1 : 1 ≤ n) {gf : Nat} {lb : Array Value} (hg : a.eval g = .func (.func gf) #[] lb) (eg : ∀ args w, (callFunc gf args).run P w = .ok (.enter gf args) w)
    {encs : α → Array Value} {S Sp : List α → Prop} {N Bn : Nat} {w0 : World} (hseq : SeqBox (n - 1) P gf lb encs S Sp N Bn w0) (hBn : Bn < w.heap.size) (hb0 : Below w0.heap.size w0 w) (hps : ∀ x, (encs x).size = ps.size)
    (I : List α → World → Prop) (Ix : Code → List α → World → Prop) (hI : OwnBox w.heap.size Bn I) (hIx : ∀ c, OwnBox w.heap.size Bn (Ix c)) (h0 : I [] w) (a₁ : α → Act)
    (hassign : ∀ (l : Nat) (x : α) (W : World) (K : Act → World → Prop), K (a₁ x) W →
      assign.wpIn (Fence.wide.inRound l) (n - 1 - 1) P (Exit.then K (fun _ _ _ => False)) { tmps := (ps.zip (encs x)).foldl (fun t (p, v) => t.setIfInBounds p v) a.tmps, defers := [] } W)
    (hbody : ∀ (l : Nat) (pre : List α) (x : α) (W : World), I pre W → pre.length < N → body.wpIn (Fence.wide.inRound l) (n - 1 - 1) P (ownPostG w.heap.size (fun X Y => Y.heap[Bn]? = X.heap[Bn]?) I Ix (pre ++ [x]) W) (a₁ x) W)
    (hdone : ∀ (D : Nat) (xs : List α) (W : World), w.heap.size ≤ D → S xs → I xs W → W.heap[D]? = some (.deferred (some [])) → Q .normal { a with defers := { target := .collected D, args := #[] } :: a.defers } W)
    (hstop : ∀ (D : Nat) (c : Code) (pre : List α) (W : World), w.heap.size ≤ D → Sp pre → Ix c pre W → W.heap[D]? = some (.deferred (some [])) → c.wpIn Fence.wide n P Q { a with defers := { target := .collected D, args := #[] } :: a.defers } W) :
    (Code.rangeFunc g ps assign body).wpIn Fence.wide n P Q a w := by
  refine wpIn_rangeFunc fun fn hfn => ?_
  have hD : w.heap.size ≠ Bn := by omega
  have hL : w.heap.size + 1 ≠ Bn := by omega
  have enter : (Instr.enterLoop fn a.tmps ps assign body Fence.wide.round).run P w = .ok (w.heap.size + 1, [{ target := .collected w.heap.size, args := #[] }]) ((w.alloc (.deferred (some []))).alloc (.loop (lrec w.heap.size fn a ps assign body .ready none))) :=
    run_enterLoop_outer fn a.tmps ps assign body
  have at1 : ((w.alloc (.deferred (some []))).alloc (.loop (lrec w.heap.size fn a ps assign body .ready none))).heap[w.heap.size + 1]? = some (.loop (lrec w.heap.size fn a ps assign body .ready none)) := by
    have := World.alloc_heap_new (w.alloc (.deferred (some []))) (.loop (lrec w.heap.size fn a ps assign body .ready none))
    rwa [World.size_alloc] at this
  have at0 : ((w.alloc (.deferred (some []))).alloc (.loop (lrec w.heap.size fn a ps assign body .ready none))).heap[w.heap.size]? = some (.deferred (some [])) :=
    (Below.heap_alloc _ _ _ (by simp)).trans (World.alloc_heap_new w _)
  have hI1 := hI.laid (.loop (lrec w.heap.size fn a ps assign body .ready none)) (hI.laid (.deferred (some [])) h0)
  have hb1 : Below w0.heap.size w0 ((w.alloc (.deferred (some []))).alloc (.loop (lrec w.heap.size fn a ps assign body .ready none))) :=
    hb0.trans ((((Below.refl _ w).alloc (Nat.le_refl _) _).alloc (by simp) _).mono hb0.size)
  generalize (w.alloc (.deferred (some []))).alloc (.loop (lrec w.heap.size fn a ps assign body .ready none)) = W1 at enter at1 at0 hI1 hb1
  refine ⟨_, _, W1, { target := .fn (.func gf) lb, args := #[.func (.yield (w.heap.size + 1)) #[] #[]] }, W1, gf, #[.func (.yield (w.heap.size + 1)) #[] #[]] ++ lb, W1, enter, ?_, ?_, ?_, fun _ => h1, ?_⟩
  · simp only [resolve, hg]
    simp [go_sem]
  · intro f' hf'; simp [Target.leads] at hf'; subst hf'; trivial
  · simp [invoke, go_sem, eg]
  have turn : ∀ {W : World} {st : LoopState} {pe : Option Code} {r' : Loop}, W.heap[w.heap.size + 1]? = some (.loop (lrec w.heap.size fn a ps assign body st pe)) → W.heap[w.heap.size]? = some (.deferred (some [])) →
      (W.putObj (w.heap.size + 1) (.loop r')).heap[w.heap.size + 1]? = some (.loop r') ∧ (W.putObj (w.heap.size + 1) (.loop r')).heap[w.heap.size]? = some (.deferred (some [])) ∧ (W.putObj (w.heap.size + 1) (.loop r')).heap[Bn]? = W.heap[Bn]? :=
    fun hl hk => ⟨World.putObj_heap_same (Array.getElem?_eq_some_iff.1 hl).1, (World.putObj_heap_other (by omega)).trans hk, World.putObj_heap_other (by omega)⟩
  refine (hseq (w.heap.size + 1)
    (fun pre W => I pre W ∧ W.heap[w.heap.size + 1]? = some (.loop (lrec w.heap.size fn a ps assign body .ready none)) ∧ W.heap[w.heap.size]? = some (.deferred (some [])))
    (fun pre W => ∃ c, Ix c pre W ∧ W.heap[w.heap.size + 1]? = some (.loop (lrec w.heap.size fn a ps assign body .done (some c))) ∧ W.heap[w.heap.size]? = some (.deferred (some [])))
    W1 hb1 ?ab ?abx ?round ⟨hI1, at1, at0⟩).mono ?after
  case ab => exact fun s X Y row hs hgr hr => ⟨hI s X Y row hs.1 hgr (fun r e => .inl (hr r e)), still_kept hgr hr hL hs.2.1, still_kept hgr hr hD hs.2.2⟩
  case abx => exact fun s X Y row ⟨c, hc, h2, h3⟩ hgr hr => ⟨c, hIx c s X Y row hc hgr (fun r e => .inl (hr r e)), still_kept hgr hr hL h2, still_kept hgr hr hD h3⟩
  case round =>
    rintro pre x W ⟨hi, hl, hk⟩ hlen
    obtain ⟨t1, t2, t3⟩ := turn (r' := lrec w.heap.size fn a ps assign body .busy none) hl hk
    refine ⟨fn, _, assign, body, run_yield hl (hps x), roundIn_of_wpIn hfn (hassign _ x W _ ⟨_, run_beginRound hl rfl, wpIn_mono (hbody _ pre x _ (hI.turn _ hi (by omega) hl rfl) hlen) ?_⟩)⟩
    have leave : ∀ (jump : Option Code) (W3 : World), KeepsFrom w.heap.size (W.putObj (w.heap.size + 1) (.loop (lrec w.heap.size fn a ps assign body .busy none))) W3 →
        (Instr.endRound (w.heap.size + 1) jump).run P W3 = .ok (.bool jump.isNone) (W3.putObj (w.heap.size + 1) (.loop (lrec w.heap.size fn a ps assign body (if jump.isNone then .ready else .done) jump))) ∧
        W3.heap[w.heap.size + 1]? = some (.loop (lrec w.heap.size fn a ps assign body .busy none)) ∧ W3.heap[w.heap.size]? = some (.deferred (some [])) :=
      fun jump W3 hk3 => by
        have h3 := hk3.same _ _ (by omega) t1 rfl
        exact ⟨run_endRound jump h3, h3, hk3.same _ _ (Nat.le_refl _) t2 rfl⟩
    have gone : ∀ (c : Code) (W3 : World), KeepsFrom w.heap.size (W.putObj (w.heap.size + 1) (.loop (lrec w.heap.size fn a ps assign body .busy none))) W3 → Ix c (pre ++ [x]) W3 →
        ∃ v W4, (Instr.endRound (w.heap.size + 1) (some c)).run P W3 = .ok v W4 ∧ ((Ending.returned v = .returned (.bool true) ∧ (I (pre ++ [x]) W4 ∧ W4.heap[w.heap.size + 1]? = some (.loop (lrec w.heap.size fn a ps assign body .ready none)) ∧ W4.heap[w.heap.size]? = some (.deferred (some []))) ∧ W4.heap[Bn]? = W.heap[Bn]?) ∨
          (Ending.returned v = .returned (.bool false) ∧ ∃ c, Ix c (pre ++ [x]) W4 ∧ W4.heap[w.heap.size + 1]? = some (.loop (lrec w.heap.size fn a ps assign body .done (some c))) ∧ W4.heap[w.heap.size]? = some (.deferred (some [])))) := fun c W3 hk3 hx => by
      obtain ⟨hr, hl3, hd3⟩ := leave (some c) W3 hk3
      obtain ⟨u1, u2, _⟩ := turn (r' := lrec w.heap.size fn a ps assign body .done (some c)) hl3 hd3
      exact ⟨_, _, hr, .inr ⟨rfl, c, (hIx c).turn _ hx (by omega) hl3 rfl, u1, u2⟩⟩
    rintro e a3 W3 hp
    cases e with
    | normal =>
      obtain ⟨hk3, hbn, hi3⟩ := hp
      obtain ⟨hr, hl3, hd3⟩ := leave none W3 hk3
      obtain ⟨u1, u2, u3⟩ := turn (r' := lrec w.heap.size fn a ps assign body .ready none) hl3 hd3
      exact ⟨_, _, hr, .inl ⟨rfl, ⟨hI.turn _ hi3 (by omega) hl3 rfl, u1, u2⟩, u3.trans (hbn.trans t3)⟩⟩
    | ret => exact gone .ret W3 hp.1 hp.2
    | exit id => exact gone (.exit id) W3 hp.1 hp.2
    | goto t => exact gone (.goto t) W3 hp.1 hp.2
    | panic ch => exact hp.elim
    | outgrown => exact hp.elim
  case after =>
    rintro e W2 ⟨⟨v, rfl⟩, (⟨xs, hS, hi, hl, hk⟩ | ⟨pre, hSp, c, hi, hl, hk⟩)⟩
    · obtain ⟨_, u2, _⟩ := turn (r' := lrec w.heap.size fn a ps assign body .exhausted none) hl hk
      exact ⟨none, _, run_endLoop hl (by intro e; cases e), hdone _ xs _ (Nat.le_refl _) hS (hI.turn _ hi (by omega) hl rfl) u2⟩
    · obtain ⟨_, u2, _⟩ := turn (r' := lrec w.heap.size fn a ps assign body .exhausted (some c)) hl hk
      exact ⟨some c, _, run_endLoop hl (by intro e; cases e), hstop _ c pre _ (Nat.le_refl _) hSp ((hIx c).turn _ hi (by omega) hl rfl) u2⟩
end Go.Proofs.YtjopmchbphjliaaGreatDoor
