/- Contract of Parse. -/
import Derived.Test.YtjopmchbphjliaaGreatDoorG1
import Derived.BigRegionIn
namespace Go.Proofs.YtjopmchbphjliaaGreatDoor
open Go.RowKit Go.Shelf
attribute [local go_sem] Oper.semAt_some

theorem Tryz.infoUser : (Tryz.prog.info? 29).map (fun i => (i.zero, i.size, i.bytes)) = some (some (.agg #[.string ByteArray.empty, .string ByteArray.empty, .int .i64 0, .int .i64 0, .string ByteArray.empty, .string ByteArray.empty]), 6, 80) := by kernel_rfl
def parseV (r : List Usr × (Nat × Nat)) (v : Value) : Value := .tuple #[v, .int .i64 (r.2.1 : Int), .int .i64 (r.2.2 : Int)]
def ParsePost (r : List Usr × (Nat × Nat)) (w : World) (e : Ending) (w' : World) : Prop :=
  ∃ v, e = .returned (parseV r v) ∧ w'.ownsRow w.heap.size 29 6 v r.1.length (usCells r.1) ∧ Below w.heap.size w w'
theorem keepB {W W' : World} {row : Option Nat} {Bn b : Nat} {t : TypeId} {cs : Array Value} (hg : W.grownBy W' row) (hr : ∀ r, row = some r → r = Bn ∨ ∃ o : Obj, W.heap[r]? = some o ∧ o.isCells = false) (h : Blk W b t cs) (hne : b ≠ Bn) : Blk W' b t cs :=
  h.kept hg (fun e => by
    rcases hr b e.symm with h1 | ⟨o, ho, hc⟩
    · exact hne h1
    · rw [show W.heap[b]? = _ from h] at ho; cases ho; cases hc)
theorem keepR {W W' : World} {row : Option Nat} {Bn base : Nat} {e : TypeId} {size n : Nat} {v : Value} {xs : List Value} (hg : W.grownBy W' row) (hr : ∀ r, row = some r → r = Bn ∨ ∃ o : Obj, W.heap[r]? = some o ∧ o.isCells = false) (h : W.ownsRow base e size v n xs) (hne : Bn < base) : W'.ownsRow base e size v n xs := by
  refine h.kept hg ?_
  rcases h.2 with ⟨rfl, _⟩ | ⟨g, cap, cur, rfl, hb, hgb, _⟩
  · exact .inl rfl
  · refine .inr fun e' => ?_
    have e2 : row = some g := by simpa [Value.ownBlock] using e'.symm
    rcases hr g e2 with h1 | ⟨o, ho, hc⟩
    · omega
    · rw [hgb] at ho; cases ho; cases hc
/-- the blocks of the results. -/
def ResB (W : World) (B : Nat) (v : Value) (k e : Int) : Prop := Blk W B 23 #[v] ∧ Blk W (B + 1) 3 #[.int .i64 k] ∧ Blk W (B + 1 + 1) 24 #[.int .i64 e]
theorem ResB.keep {W W' : World} {row : Option Nat} {Bn B : Nat} {v : Value} {k e : Int} (hg : W.grownBy W' row) (hr : ∀ r, row = some r → r = Bn ∨ ∃ o : Obj, W.heap[r]? = some o ∧ o.isCells = false) (h : ResB W B v k e) (hne : B + 1 + 1 < Bn) : ResB W' B v k e :=
  ⟨keepB hg hr h.1 (by omega), keepB hg hr h.2.1 (by omega), keepB hg hr h.2.2 (by omega)⟩
theorem ResB.below {W W' : World} {n B : Nat} {v : Value} {k e : Int} (h : ResB W B v k e) (hb : Below n W W') (hn : B + 1 + 1 < n) : ResB W' B v k e :=
  ⟨h.1.below hb (by omega), h.2.1.below hb (by omega), h.2.2.below hb (by omega)⟩
def paI (w : World) (pre : List LineT) (W : World) : Prop :=
  (∃ us v, Run (bl pre) us ∧ Boxed W (w.heap.size + 1 + 1 + 1) 23 v ∧ W.ownsRow (w.heap.size + 1 + 1 + 1 + 1 + 1) 29 6 v us.length (usCells us)) ∧ ResB W w.heap.size (.slice none 0 0) 0 0 ∧ Below w.heap.size w W ∧ w.heap.size + 1 + 1 + 1 + 1 + 1 ≤ W.heap.size
def paX (w : World) (c : Code) (pre : List LineT) (W : World) : Prop :=
  (c = .ret ∧ ∃ k e : Nat, Fell (bl pre) k e ∧ ResB W w.heap.size (.slice none 0 0) k e) ∧ Below w.heap.size w W
theorem paI_own (w : World) (B : Nat) (hB : w.heap.size ≤ B) : OwnBox B (w.heap.size + 1 + 1 + 1 + 1) (paI w) := fun s X Y row ⟨⟨us, v, h1, h2, h3⟩, h4, h5, h6⟩ hg hr => by
  have hr2 : ∀ r, row = some r → r = w.heap.size + 1 + 1 + 1 + 1 ∨ ∃ o : Obj, X.heap[r]? = some o ∧ o.isCells = false := fun r e => (hr r e).imp id (fun x => x.2)
  refine ⟨⟨us, v, h1, keepB hg hr2 (Boxed.blk h2) (by omega), keepR hg hr2 h3 (by omega)⟩, h4.keep hg hr2 (by omega), h5.grown hg h5.size (fun k e => ?_), Nat.le_trans h6 hg.size⟩
  rcases hr k e with h | h
  · omega
  · omega
theorem paX_own (w : World) (B : Nat) (hB : w.heap.size ≤ B) (c : Code) : OwnBox B (w.heap.size + 1 + 1 + 1 + 1) (paX w c) := fun s X Y row ⟨⟨h1, k, e, h2, h3⟩, h5⟩ hg hr => by
  have hr2 : ∀ r, row = some r → r = w.heap.size + 1 + 1 + 1 + 1 ∨ ∃ o : Obj, X.heap[r]? = some o ∧ o.isCells = false := fun r e => (hr r e).imp id (fun x => x.2)
  refine ⟨⟨h1, k, e, h2, h3.keep hg hr2 (by omega)⟩, h5.grown hg h5.size (fun k e => ?_)⟩
  rcases hr k e with h | h
  · omega
  · omega
theorem parse_res (W : World) (B : Nat) (v : Value) (k e : Int) (h : ResB W B v k e) (tmps : Array Value)
    (h2 : tmps.getD 2 undef = .pointer (some ⟨B, 0, none⟩)) (h3 : tmps.getD 3 undef = .pointer (some ⟨B + 1, 0, none⟩)) (h4 : tmps.getD 4 undef = .pointer (some ⟨B + 1 + 1, 0, none⟩)) :
    (results Tryz.f8 tmps).run Tryz.prog W = .ok (.tuple #[v, .int .i64 k, .int .i64 e]) W := by
  have c0 := h.1.cell 0
  have c1 := h.2.1.cell 0
  have c2 := h.2.2.cell 0
  simp only [List.getElem?_toArray, List.getElem?_cons_zero] at c0 c1 c2
  simp only [Array.getD_eq_getD_getElem?] at h2 h3 h4
  simp only [results, Tryz.f8]
  simp [go_sem, h2, h3, h4, c0, c1, c2]
theorem row_below {W W' : World} {base : Nat} {e : TypeId} {size n : Nat} {v : Value} {xs : List Value} (h : W.ownsRow base e size v n xs) (hb : Below W.heap.size W W') : W'.ownsRow base e size v n xs := by
  refine ⟨h.1, ?_⟩
  rcases h.2 with hn | ⟨g, cap, cur, h1, h2, h3, h4⟩
  · exact .inl hn
  · exact .inr ⟨g, cap, cur, h1, h2, (hb.block g (Array.getElem?_eq_some_iff.1 h3).1).trans h3, h4⟩
theorem cells6_new (w : World) (u : Usr) : ∀ j v, u.cells[j]? = some v → (w.alloc (.cells #[.string u.name, .string u.pass, .int .i64 u.id, .int .i64 u.grp, .string u.home, .string u.shell] 29)).cell? ((⟨w.heap.size, 0, none⟩ : Addr).add j) = some v := by
  intro j v hj
  have hb := Blk.new w 29 #[.string u.name, .string u.pass, .int .i64 u.id, .int .i64 u.grp, .string u.home, .string u.shell]
  rw [Addr.add_lit, Nat.zero_add, hb.cell, ← hj]
  simp [Usr.cells]
theorem cells6_one (u : Usr) : ∀ v ∈ u.cells, v.oneCell' = true := by
  intro v hv
  unfold Usr.cells at hv
  simp only [List.mem_cons, List.mem_nil_iff, or_false] at hv
  rcases hv with rfl | rfl | rfl | rfl | rfl | rfl <;> rfl
abbrev st3 (W : World) (B : Nat) (v : Value) (k e : Int) : World :=
  ((W.setCell ⟨B, 0, none⟩ v).setCell ⟨B + 1, 0, none⟩ (.int .i64 k)).setCell ⟨B + 1 + 1, 0, none⟩ (.int .i64 e)
theorem st3_all {W : World} {B n : Nat} {v0 : Value} {k0 e0 : Int} (h : ResB W B v0 k0 e0) (hn : n ≤ B) (v : Value) (k e : Int) :
    ResB (st3 W B v k e) B v k e ∧ KeepsOthers W (st3 W B v k e) ∧ Below n W (st3 W B v k e) := by
  obtain ⟨h0, h1, h2⟩ := h
  refine ⟨⟨?_, ?_, ?_⟩, ?_, ?_⟩
  · exact ((h0.set 0 v).other _ _ _ (by omega)).other _ _ _ (by omega)
  · exact ((h1.other B 0 v (by omega)).set 0 _).other _ _ _ (by omega)
  · exact ((h2.other B 0 v (by omega)).other (B + 1) 0 _ (by omega)).set 0 _
  · exact ((KeepsOthers.setCell _ _ _).trans (KeepsOthers.setCell _ _ _)).trans (KeepsOthers.setCell _ _ _)
  · exact (((Below.refl n W).setCell (p := ⟨B, 0, none⟩) hn _).setCell (p := ⟨B + 1, 0, none⟩) (by show n ≤ B + 1; omega) _).setCell (p := ⟨B + 1 + 1, 0, none⟩) (by show n ≤ B + 1 + 1; omega) _
theorem fell_done {w W W3 : World} {B' : Nat} {pre : List LineT} {x : LineT} {k e : Nat} (hk : KeepsOthers W W3) (hb : Below w.heap.size w W3) (hr : ResB W3 w.heap.size (.slice none 0 0) 0 0) (hf : Fell (bl pre ++ [x.1]) k e) :
    KeepsFrom B' W (st3 W3 w.heap.size (.slice none 0 0) k e).drew ∧ paX w .ret (pre ++ [x]) (st3 W3 w.heap.size (.slice none 0 0) k e).drew := by
  obtain ⟨h1, h2, h3⟩ := st3_all hr (Nat.le_refl w.heap.size) (.slice none 0 0) k e
  refine ⟨⟨(hk.trans h2).size, fun i o _ hi ho => (hk.trans h2).same i o hi ho⟩, ⟨rfl, k, e, ?_, h1⟩, (hb.trans h3).drew⟩
  rw [bl_app]; exact hf
theorem keeps_below {W W' : World} (hb : Below W.heap.size W W') : KeepsOthers W W' :=
  ⟨hb.size, fun k _ hk _ => (hb.block k (Array.getElem?_eq_some_iff.1 hk).1).trans hk⟩
theorem row_ne {W : World} {base : Nat} {e : TypeId} {size n : Nat} {v : Value} {xs : List Value} (h : W.ownsRow base e size v n xs) {b : Nat} (hb : b < base) : some b ≠ v.ownBlock := by
  rcases h.2 with ⟨rfl, _⟩ | ⟨g, cap, cur, rfl, hg, _⟩
  · simp [Value.ownBlock]
  · intro e'
    obtain rfl : b = g := by simpa [Value.ownBlock] using e'
    omega
theorem grow_cells {w W W2 w1 : World} {us : List Usr} {u : Usr} {v : Value} (hv : Boxed W (w.heap.size + 1 + 1 + 1) 23 v) (hbz : Below W.heap.size W W2)
    (hrow : W.ownsRow (w.heap.size + 1 + 1 + 1 + 1 + 1) 29 6 v us.length (usCells us)) (hgrow : ((W2.alloc (boxU u)).alloc (boxU u)).grownBy w1 v.ownBlock) :
    Boxed w1 (w.heap.size + 1 + 1 + 1) 23 v := by
  have hv2 : Boxed W2 (w.heap.size + 1 + 1 + 1) 23 v := (hbz.block _ hv.lt).trans hv
  exact ((hv2.alloc _).alloc _).kept hgrow (row_ne hrow (by omega))
theorem grow_done {w W W2 w1 : World} {us : List Usr} {u : Usr} {v v' : Value} {pre : List LineT} {x : LineT} {B' : Nat} (hB : Below w.heap.size w W) (hge : w.heap.size + 1 + 1 + 1 + 1 + 1 ≤ W.heap.size) (hbz : Below W.heap.size W W2)
    (hv : Boxed W (w.heap.size + 1 + 1 + 1) 23 v) (hres : ResB W w.heap.size (.slice none 0 0) 0 0) (hrow : W.ownsRow (w.heap.size + 1 + 1 + 1 + 1 + 1) 29 6 v us.length (usCells us))
    (hgrow : ((W2.alloc (boxU u)).alloc (boxU u)).grownBy w1 v.ownBlock) (hown : w1.ownsRow (w.heap.size + 1 + 1 + 1 + 1 + 1) 29 6 v' (us.length + 1) (usCells us ++ u.cells)) (hrun : Run (bl pre ++ [x.1]) (us ++ [u])) :
    KeepsFrom B' W (w1.setCell ⟨w.heap.size + 1 + 1 + 1, 0, none⟩ v') ∧ (w1.setCell ⟨w.heap.size + 1 + 1 + 1, 0, none⟩ v').heap[w.heap.size + 1 + 1 + 1 + 1]? = W.heap[w.heap.size + 1 + 1 + 1 + 1]? ∧ paI w (pre ++ [x]) (w1.setCell ⟨w.heap.size + 1 + 1 + 1, 0, none⟩ v') := by
  have hv1 := grow_cells hv hbz hrow hgrow
  have hsz : W.heap.size ≤ w1.heap.size := by have h1 := hgrow.size; have h2 := hbz.size; simp at h1; omega
  have hsz2 : w1.heap.size ≤ (w1.setCell ⟨w.heap.size + 1 + 1 + 1, 0, none⟩ v').heap.size := (KeepsOthers.setCell w1 ⟨w.heap.size + 1 + 1 + 1, 0, none⟩ v').size
  have hrow2 := row_below hrow hbz
  have old : ∀ (k : Nat), k < w.heap.size + 1 + 1 + 1 + 1 + 1 → w1.heap[k]? = W.heap[k]? := fun k hk => by
    have h2 := hbz.size
    refine (hgrow.block k (by simp; omega) (row_ne hrow hk)).trans ?_
    rw [Below.heap_alloc _ _ _ (by simp; omega), Below.heap_alloc _ _ _ (by omega)]
    exact hbz.block k (by omega)
  have hkeep : KeepsOthers W (w1.setCell ⟨w.heap.size + 1 + 1 + 1, 0, none⟩ v') := by
    refine ((((keeps_below hbz).trans (KeepsOthers.alloc W2 _)).trans (KeepsOthers.alloc _ _)).trans (KeepsOthers.of_grownBy hgrow fun j o ej hj => ?_)).trans (KeepsOthers.setCell _ _ _)
    rcases ((hrow2.alloc (boxU u)).alloc (boxU u)).2 with ⟨rfl, _⟩ | ⟨g, cap, cur, rfl, _, hgb, _⟩
    · simp [Value.ownBlock] at ej
    · obtain rfl : g = j := by simpa [Value.ownBlock] using ej
      rw [hgb] at hj; cases hj; rfl
  have hbel : Below w.heap.size w (w1.setCell ⟨w.heap.size + 1 + 1 + 1, 0, none⟩ v') := by
    have b1 : Below w.heap.size w ((W2.alloc (boxU u)).alloc (boxU u)) := ((next hB hB.size hbz).alloc (Nat.le_trans hB.size hbz.size) _).alloc (by have := hbz.size; have := hB.size; simp; omega) _
    refine (b1.grown hgrow b1.size (fun k e => ?_)).setCell (p := ⟨w.heap.size + 1 + 1 + 1, 0, none⟩) (by show w.heap.size ≤ w.heap.size + 1 + 1 + 1; omega) v'
    rcases hrow2.2 with ⟨rfl, _⟩ | ⟨g, cap, cur, rfl, hg, _, _⟩
    · simp [Value.ownBlock] at e
    · obtain rfl : g = k := by simpa [Value.ownBlock] using e
      omega
  refine ⟨hkeep.from _, ?_, ⟨⟨us ++ [u], v', by rw [bl_app]; exact hrun, hv1.set v', ?_⟩, ⟨?_, ?_, ?_⟩, hbel, by omega⟩⟩
  · exact (Below.heap_setCell w1 ⟨w.heap.size + 1 + 1 + 1, 0, none⟩ v' _ (by show w.heap.size + 1 + 1 + 1 + 1 ≠ w.heap.size + 1 + 1 + 1; omega)).trans (old _ (by omega))
  · have e1 : usCells (us ++ [u]) = usCells us ++ u.cells := by unfold usCells; simp
    rw [List.length_append, e1]
    exact ownsRow_setCell_below hown (by show w.heap.size + 1 + 1 + 1 < _; omega) v'
  · exact (Below.heap_setCell w1 ⟨w.heap.size + 1 + 1 + 1, 0, none⟩ v' _ (by show w.heap.size ≠ w.heap.size + 1 + 1 + 1; omega)).trans ((old _ (by omega)).trans hres.1)
  · exact (Below.heap_setCell w1 ⟨w.heap.size + 1 + 1 + 1, 0, none⟩ v' _ (by show w.heap.size + 1 ≠ w.heap.size + 1 + 1 + 1; omega)).trans ((old _ (by omega)).trans hres.2.1)
  · exact (Below.heap_setCell w1 ⟨w.heap.size + 1 + 1 + 1, 0, none⟩ v' _ (by show w.heap.size + 1 + 1 ≠ w.heap.size + 1 + 1 + 1; omega)).trans ((old _ (by omega)).trans hres.2.2)
theorem row_base {W : World} {b1 b2 : Nat} {e : TypeId} {size n : Nat} {v : Value} {xs : List Value} (h : W.ownsRow b1 e size v n xs) (hb : b2 ≤ b1) : W.ownsRow b2 e size v n xs := by
  refine ⟨h.1, ?_⟩
  rcases h.2 with hn | ⟨g, cap, cur, h1, h2, h3⟩
  · exact .inl hn
  · exact .inr ⟨g, cap, cur, h1, Nat.le_trans hb h2, h3⟩
theorem ResB.put {W : World} {B l : Nat} {v : Value} {k e : Int} {o : Obj} (h : ResB W B v k e) (o' : Obj) (hl : W.heap[l]? = some o) (ho : o.isCells = false) : ResB (W.putObj l o') B v k e :=
  ⟨h.1.putObj o' hl ho, h.2.1.putObj o' hl ho, h.2.2.putObj o' hl ho⟩
set_option maxRecDepth 100000 in
set_option maxHeartbeats 4000000 in
theorem parse_in (s : ByteArray) (hs : s.size ≤ 4096) (w : World) (henv : Env w) :
    CallsIn Fence.wide 6 Tryz.prog 8 #[.string s] w (ParsePost (goU [] (linesB s)) w) := by
  obtain ⟨i0, hi, hz0, hz1, hz2⟩ := info_parts Tryz.infoUser
  refine callsIn_of_wp_marks Tryz.func8 rfl trivial ?_ rfl
  simp only [Tryz.ntmps8, List.size_toArray, List.length_cons, List.length_nil, Nat.reduceAdd, Nat.reduceSub, Array.replicate_succ, Array.replicate_zero, List.push_toArray, List.append_toArray, List.nil_append, List.cons_append]
  gi_wp2_with (refine ⟨trivial, ?_⟩; gi_at_call 21; refine (lines_in _ _ _).mono ?_; rintro e w' ⟨rfl, rfl⟩)
  have hB0 : Below w.heap.size w (((((w.alloc (.cells #[.slice none 0 0] 23)).alloc (.cells #[.int .i64 0] 3)).alloc (.cells #[.int .i64 0] 24)).alloc (.cells #[.slice none 0 0] 23)).alloc (.cells #[.string s] 9)) :=
    (((((Below.refl _ w).alloc (Nat.le_refl _) _).alloc (by simp) _).alloc (by simp; omega) _).alloc (by simp; omega) _).alloc (by simp; omega) _
  have r0 : ResB (((((w.alloc (.cells #[.slice none 0 0] 23)).alloc (.cells #[.int .i64 0] 3)).alloc (.cells #[.int .i64 0] 24)).alloc (.cells #[.slice none 0 0] 23)).alloc (.cells #[.string s] 9)) w.heap.size (.slice none 0 0) 0 0 := by
    have b0 := Blk.new w 23 #[.slice none 0 0]
    have b1 := Blk.new (w.alloc (.cells #[.slice none 0 0] 23)) 3 #[.int .i64 0]
    have b2 := Blk.new ((w.alloc (.cells #[.slice none 0 0] 23)).alloc (.cells #[.int .i64 0] 3)) 24 #[.int .i64 0]
    simp only [World.size_alloc] at b1 b2
    exact ⟨(((b0.alloc _).alloc _).alloc _).alloc _, ((b1.alloc _).alloc _).alloc _, (b2.alloc _).alloc _⟩
  have u0 : Boxed (((((w.alloc (.cells #[.slice none 0 0] 23)).alloc (.cells #[.int .i64 0] 3)).alloc (.cells #[.int .i64 0] 24)).alloc (.cells #[.slice none 0 0] 23)).alloc (.cells #[.string s] 9)) (w.heap.size + 1 + 1 + 1) 23 (.slice none 0 0) := by
    have b3 := Boxed.new (((w.alloc (.cells #[.slice none 0 0] 23)).alloc (.cells #[.int .i64 0] 3)).alloc (.cells #[.int .i64 0] 24)) 23 (.slice none 0 0)
    simp only [World.size_alloc] at b3
    exact b3.alloc _
  have s0 : Boxed (((((w.alloc (.cells #[.slice none 0 0] 23)).alloc (.cells #[.int .i64 0] 3)).alloc (.cells #[.int .i64 0] 24)).alloc (.cells #[.slice none 0 0] 23)).alloc (.cells #[.string s] 9)) (w.heap.size + 1 + 1 + 1 + 1) 9 (.string s) := by
    have b4 := Boxed.new ((((w.alloc (.cells #[.slice none 0 0] 23)).alloc (.cells #[.int .i64 0] 3)).alloc (.cells #[.int .i64 0] 24)).alloc (.cells #[.slice none 0 0] 23)) 9 (.string s)
    simp only [World.size_alloc] at b4
    exact b4
  refine range_box (by decide) (gf := 36) (lb := #[.pointer (some ⟨w.heap.size + 1 + 1 + 1 + 1, 0, none⟩)]) rfl (enters_of Tryz.func36 (by kernel_rfl) rfl)
    (lines_seq 5 (by decide) (w.heap.size + 1 + 1 + 1 + 1) s (by omega) _ s0) s0.lt (Below.refl _ _) (fun _ => rfl)
    (paI w) (paX w) (paI_own w _ (by simp; omega)) (paX_own w _ (by simp; omega))
    ⟨⟨[], _, run_nil, u0, World.ownsRow_nil _ _ _ _⟩, r0, hB0, by simp⟩
    (fun x => { tmps := #[.string s, undef, .pointer (some ⟨w.heap.size, 0, none⟩), .pointer (some ⟨w.heap.size + 1, 0, none⟩), .pointer (some ⟨w.heap.size + 1 + 1, 0, none⟩), .pointer (some ⟨w.heap.size + 1 + 1 + 1, 0, none⟩), .string x.1, undef, undef,
          .string s, .int .i64 (s.size : Int), .bool (decide ((4096 : Int) < (s.size : Int))),
          .string s, .func (.func 36) #[] #[.pointer (some ⟨w.heap.size + 1 + 1 + 1 + 1, 0, none⟩)], .string x.1,
          undef, undef, undef, undef, undef, undef, undef, undef, undef, undef, undef, undef, undef, undef, undef, undef, undef], defers := [] }) ?assign ?body ?done ?stop
  case assign =>
    intro l x W K hK
    gi_wp2
    exact hK
  case body =>
    rintro l pre x W ⟨⟨us, v, hrun, hv, hrow⟩, hres, hB, hge⟩ hlt
    obtain ⟨va, vc, rfl⟩ := row_slice hrow
    obtain ⟨hin, _, hcap, hcm⟩ := InUsers.of_row hrow (fun u hu => right_ok (hrun.2.2.2 u hu))
    have hcall := nextUser_any va us.length vc us x.1 x.2 W (henv.below hB) hin (Nat.le_trans hcap hcm)
    have hul : us.length ≤ 8 := hrun.2.2.1
    obtain ⟨u, hu⟩ : ∃ u, (nextS us x.1).1 = u := ⟨_, rfl⟩
    obtain ⟨k, hk⟩ : ∃ k, (nextS us x.1).2 = k := ⟨_, rfl⟩
    have hc := hv.cell
    unfold nextV Usr.val at hcall
    rw [hu, hk] at hcall
    by_cases hk0 : k = 0
    · subst hk0
      have Hrun := Lib.hid (run_next hrun (s := x.1) hk)
      rw [hu] at Hrun
      have Hul := Lib.hid (run_small hk)
      have Hres := Lib.hid hres
      have Hrow := Lib.hid hrow
      have Hge := Lib.hid hge
      clear hin hcap hcm hrun hk hu hrow hres hge hul
      gi_wp2_with fail
      refine ⟨trivial, ?_⟩
      refine (CallsIn.inRound l (callsIn_wide.2 hcall)).mono ?_
      rintro e W2 ⟨rfl, hbz⟩
      have hsz2 : w.heap.size + 1 + 1 + 1 + 1 + 1 ≤ W2.heap.size := Nat.le_trans Hge.out hbz.size
      have hv2 : Boxed W2 (w.heap.size + 1 + 1 + 1) 23 (.slice va us.length vc) := (hbz.block _ hv.lt).trans hv
      have hrow2 := row_below Hrow.out hbz
      have hrow3 := (hrow2.alloc (boxU u)).alloc (.cells #[.string u.name, .string u.pass, .int .i64 u.id, .int .i64 u.grp, .string u.home, .string u.shell] 29)
      have g3 := (hv2.alloc (boxU u)).cell
      have hc6 := cells6_new (W2.alloc (boxU u)) u
      rw [World.size_alloc] at hc6
      have n3 : w.heap.size + 1 + 1 + 1 ≠ W2.heap.size := by omega
      have Hsz2 := Lib.hid hsz2
      have Hv2 := Lib.hid hv2
      have Hrow3 := Lib.hid hrow3
      have Hrow2 := Lib.hid hrow2
      have Hbz := Lib.hid hbz
      have Hc6 := Lib.hid hc6
      clear hsz2 hv2 hrow2 hrow3 hbz hcall hc henv hs hlt r0 u0 s0 hB0 hc6
      unfold boxU at *
      gi_wp2_with (gi_at_builtin; refine wpListIn_append_own _ rfl _ _ 23 rfl (w.heap.size + 1 + 1 + 1 + 1 + 1) 29 i0 (.agg #[.string ByteArray.empty, .string ByteArray.empty, .int .i64 0, .int .i64 0, .string ByteArray.empty, .string ByteArray.empty]) 6 80 Tryz.underlying23 hi hz0 hz1 hz2 rfl (by decide) _ _ _ rfl Hrow3.out ⟨W2.heap.size + 1, 0, none⟩ 1 1 u.cells rfl rfl Hc6.out (cells6_one u) ?b1 ?b2 ?b3 ?go)
      case b1 => have := Hul.out; unfold maxLen; omega
      case b2 => have := Hul.out; omega
      case b3 => have := Hsz2.out; simp; omega
      case go =>
        intro v' w1 hown' hgrow _
        obtain ⟨g', cap', rfl⟩ := ownsRow_succ hown'
        have hv1 := grow_cells hv Hbz.out Hrow.out hgrow
        have hdone := grow_done (B' := (((((w.alloc (.cells #[.slice none 0 0] 23)).alloc (.cells #[.int .i64 0] 3)).alloc (.cells #[.int .i64 0] 24)).alloc (.cells #[.slice none 0 0] 23)).alloc (.cells #[.string s] 9)).heap.size) hB Hge.out Hbz.out hv Hres.out Hrow.out hgrow hown' Hrun.out
        have h1 := hv1.cell
        have h2 := hv1.frozen
        have Hdone := Lib.hid hdone
        clear hdone hv1 hown' hgrow Hrun Hrow3 Hrow2 Hrow Hc6 Hbz hv hB Hres Hge Hv2 g3 hi hz0 hz1 hz2
        gi_wp2
        exact Hdone.out
    · have Hf := Lib.hid (run_fell hrun (s := x.1) (by rw [hk]; exact hk0))
      rw [hk] at Hf
      have hkn : (((k : Int) != 0) : Bool) = true := by rw [bne_iff_ne]; omega
      have Hk := Lib.hid hk0
      have Hres := Lib.hid hres
      have Hge := Lib.hid hge
      clear hin hcap hcm hrun hk hu hk0 hrow hres hge
      gi_wp2_with (refine ⟨trivial, ?_⟩; gi_at_call 22; refine (CallsIn.inRound l (callsIn_wide.2 hcall)).mono ?_; rintro e W2 ⟨rfl, hbz⟩)
      have hbz3 : Below W.heap.size W (W2.alloc (boxU u)) := hbz.alloc hbz.size _
      unfold boxU at hbz3
      generalize W2.alloc (.cells #[.string u.name, .string u.pass, .int .i64 u.id, .int .i64 u.grp, .string u.home, .string u.shell] 29) = W3 at hbz3 ⊢
      have hv2 : Boxed W3 (w.heap.size + 1 + 1 + 1) 23 (.slice va us.length vc) := (hbz3.block _ hv.lt).trans hv
      have hres2 := Hres.out.below hbz3 (by have := Hge.out; omega)
      have hk2 := keeps_below hbz3
      have hb2 : Below w.heap.size w W3 := next hB hB.size hbz3
      have g0 := hres2.1.cell 0
      have g1 := hres2.2.1.cell 0
      have g2 := hres2.2.2.cell 0
      have f0 := hres2.1.frozen 0
      have f1 := hres2.2.1.frozen 0
      have f2 := hres2.2.2.frozen 0
      have g3 := hv2.cell
      have Hul : (us.length : Int) ≤ 8 := by omega
      simp only [List.getElem?_toArray, List.getElem?_cons_zero] at g0 g1 g2
      have Hkk := Lib.hid hk2
      have Hbb := Lib.hid hb2
      have Hrr := Lib.hid hres2
      have hwr : IntKind.i64.wrap ((us.length : Int) + 1) = ((us.length + 1 : Nat) : Int) := by rw [IntKind.wrap_i64]; omega
      clear hbz hbz3 hcall hc hB henv hul hs hi hz0 hz1 hz2 hlt r0 u0 s0 hB0 hk2 hb2 hv2 hres2 hv hkn
      gi_region
      all_goals
        gi_wp2
        exact fell_done Hkk.out Hbb.out Hrr.out Hf.out
  case done =>
    rintro D ys W hD hS ⟨⟨us, v, hrun, hv, hrow⟩, hres, hB, hge⟩ hK
    obtain ⟨va, vc, rfl⟩ := row_slice hrow
    have Hend := Lib.hid (show goU [] (linesB s) = (us, 0, 0) by
      have := hrun.1 []
      rw [List.append_nil, bl_rows, hS] at this
      exact this)
    have g0 := hres.1.cell 0
    have g1 := hres.2.1.cell 0
    have g2 := hres.2.2.cell 0
    have f0 := hres.1.frozen 0
    have f1 := hres.2.1.frozen 0
    have f2 := hres.2.2.frozen 0
    have g3 := hv.cell
    simp only [List.getElem?_toArray, List.getElem?_cons_zero] at g0 g1 g2
    have Hrow := Lib.hid hrow
    have Hres := Lib.hid hres
    clear hrow hres hrun hS hge
    gi_wp2
    obtain ⟨h1, h2, h3⟩ := st3_all Hres.out (Nat.le_refl w.heap.size) (.slice va us.length vc) 0 0
    have hK' := h2.same D _ hK rfl
    have hrow2 : (st3 W w.heap.size (.slice va us.length vc) 0 0).ownsRow (w.heap.size + 1 + 1 + 1 + 1 + 1) 29 6 (.slice va us.length vc) us.length (usCells us) :=
      ownsRow_setCell_below (ownsRow_setCell_below (ownsRow_setCell_below Hrow.out (by show w.heap.size < _; omega) _) (by show w.heap.size + 1 < _; omega) _) (by show w.heap.size + 1 + 1 < _; omega) _
    have hrow3 := row_base (ownsRow_putObj hrow2 (.deferred none) hK' rfl) (show w.heap.size ≤ w.heap.size + 1 + 1 + 1 + 1 + 1 by omega)
    have hres3 := h1.put (.deferred none) hK' rfl
    have hb3 := (hB.trans h3).trans (belowK_b (w := w) (Nat.le_refl _) _ D _ (.deferred none) (by simp at hD; omega) hK' rfl rfl)
    refine ⟨by simp, .inl ⟨_, _, rfl, run_takeDeferred hK', ?_⟩⟩
    exact ⟨_, parse_res _ _ _ _ _ hres3 _ rfl rfl rfl, .slice va us.length vc, by rw [Hend.out]; rfl, by rw [Hend.out]; exact hrow3, hb3⟩
  case stop =>
    rintro D c pre W hD ⟨t, ht⟩ ⟨⟨rfl, k, e, hf, hres⟩, hB⟩ hK
    have Hend := Lib.hid (show goU [] (linesB s) = ([], k, e) by
      have := hf (t.map fun l => ⟨l.toArray⟩)
      rw [bl_rows, ← List.map_append, ht] at this
      exact this)
    gi_wp2
    have hres3 := hres.put (.deferred none) hK rfl
    have hb3 := hB.trans (belowK_b (w := w) (Nat.le_refl _) _ D _ (.deferred none) (by simp at hD; omega) hK rfl rfl)
    refine ⟨by simp, .inl ⟨_, _, rfl, run_takeDeferred hK, ?_⟩⟩
    exact ⟨_, parse_res _ _ _ _ _ hres3 _ rfl rfl rfl, .slice none 0 0, by rw [Hend.out]; rfl, by rw [Hend.out]; exact World.ownsRow_nil _ _ _ _, hb3⟩
set_option maxHeartbeats 1000000 in
theorem parse_any (s : ByteArray) (hs : s.size ≤ maxLen) (w : World) (henv : Env w) : Calls Tryz.prog 8 #[.string s] w (ParsePost (parseR s) w) := by
  unfold maxLen at hs
  by_cases h : 4096 < s.size
  · have Hr := Lib.hid (show parseR s = ([], 0, 10) by unfold parseR; rw [if_pos h])
    have b0 := Blk.new w 23 #[.slice none 0 0]
    have b1 := Blk.new (w.alloc (.cells #[.slice none 0 0] 23)) 3 #[.int .i64 0]
    have b2 := Blk.new ((w.alloc (.cells #[.slice none 0 0] 23)).alloc (.cells #[.int .i64 0] 3)) 24 #[.int .i64 10]
    simp only [World.size_alloc] at b1 b2
    have hres : ResB (((w.alloc (.cells #[.slice none 0 0] 23)).alloc (.cells #[.int .i64 0] 3)).alloc (.cells #[.int .i64 10] 24)) w.heap.size (.slice none 0 0) 0 10 := ⟨(b0.alloc _).alloc _, b1.alloc _, b2⟩
    have hb : Below w.heap.size w (((w.alloc (.cells #[.slice none 0 0] 23)).alloc (.cells #[.int .i64 0] 3)).alloc (.cells #[.int .i64 10] 24)) :=
      (((Below.refl _ w).alloc (Nat.le_refl _) _).alloc (by simp) _).alloc (by simp; omega) _
    have Hres := Lib.hid hres
    clear hres b0 b1 b2
    go_enter Tryz.func8, Tryz.ntmps8
    go_wp2
    exact bodyPost_ret (parse_res _ _ _ _ _ Hres.out _ rfl rfl rfl) rfl ⟨.slice none 0 0, by rw [Hr.out]; rfl, by rw [Hr.out]; exact World.ownsRow_nil _ _ _ _, hb⟩
  · have := parse_in s (by omega) w henv
    unfold parseR
    rw [if_neg h]
    exact callsIn_wide.1 this
end Go.Proofs.YtjopmchbphjliaaGreatDoor
