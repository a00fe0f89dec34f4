/- Contract of the document's Parts. -/
import Derived.Test.YtacohhmhggljhaaJC
import Derived.Great.Walk
import Derived.Laws.OwnMore
namespace Go.Proofs.Ytacohhmhggljhaa
open Go.RowKit
set_option linter.unusedVariables false
set_option linter.unusedSimpArgs false
/-- a part, as the document has it. -/
structure DP where
  k : Nat
  c : Nat
  n : Bool
  f : UInt8 → Bool
def DP.cells (d : DP) : Array Value := pC d.k d.c d.n d.f
def flatD (D : List DP) : List Value := D.flatMap fun d => d.cells.toList
theorem flatD_app (D : List DP) (d : DP) : flatD (D ++ [d]) = flatD D ++ d.cells.toList := by unfold flatD; simp
def DP.prt (d : DP) : Prt := if d.k = 42 then star else if d.k = 63 then anyP else if d.k = 91 then ⟨false, true, fun x => d.f x != d.n⟩ else lit (UInt8.ofNat d.c)
def DP.ok (d : DP) : Prop := (d.k = 42 ∨ d.k = 63 ∨ d.k = 91 ∨ d.k = 99) ∧ d.c < 256
/-- the row of parts so far, in blocks of its own. -/
structure DRow (w W : World) (v : Value) (D : List DP) : Prop where
  own : W.ownsRow w.heap.size 48 259 v D.length (flatD D)
  bel : Below w.heap.size w W
theorem DRow.step {w W w1 : World} {v v' : Value} {D : List DP} {d : DP} (h : DRow w W v D) (hown : w1.ownsRow w.heap.size 48 259 v' (D.length + 1) (flatD D ++ d.cells.toList)) (hg : (W.alloc (.cells d.cells 48)).grownBy w1 v.ownBlock) : DRow w w1 v' (D ++ [d]) := by
  refine ⟨?_, ?_⟩
  · rw [flatD_app, List.length_append]; exact hown
  · exact (h.bel.alloc h.bel.size _).grown hg (by have := h.bel.size; simp; omega) (fun g hg => (h.own.lt g hg).1)
theorem DRow.later {w W W' : World} {v : Value} {D : List DP} (h : DRow w W v D) (hb : Below W.heap.size W W') : DRow w W' v D := ⟨row_later h.own hb, h.bel.trans (hb.mono h.bel.size)⟩
theorem DRow.alloc {w W : World} {v : Value} {D : List DP} (h : DRow w W v D) (o : Obj) : DRow w (W.alloc o) v D := ⟨h.own.alloc o, h.bel.alloc h.bel.size o⟩
theorem DRow.fresh {w W W' W'' : World} {v : Value} {D : List DP} {G : Nat} (h : DRow w W v D) (hb : Below W.heap.size W W') (hg : W'.grownBy W'' (some G)) (hG : W.heap.size ≤ G) : DRow w W'' v D := by
  have h' := h.later hb
  have hs := h.bel.size
  have hs' := hb.size
  refine ⟨h'.own.kept hg ?_, h'.bel.grown hg (by omega) (fun k e => by cases e; omega)⟩
  by_cases hv : v.ownBlock = some G
  · have := (h.own.lt G hv).2
    omega
  · exact .inr hv
theorem cells_new (w : World) (cs : Array Value) (t : TypeId) : ∀ j u, cs.toList[j]? = some u → (w.alloc (.cells cs t)).cell? ((⟨w.heap.size, 0, none⟩ : Addr).add j) = some u := by
  intro j u hj
  rw [Addr.add_lit, Nat.zero_add, (Blk.new w t cs).cell j]
  simpa using hj
theorem Try.info48 : (Try.prog.info? 48).map (fun i => (i.zero, i.size, i.bytes)) = some (some (.agg (pC 0 0 false noneF)), 259, 259) := by kernel_rfl
theorem fill_one (z cs : Array Value) (h : z.size = cs.size) (h2 : cs.size = 259) : Instr.fill (fun i => some (i * 259, 259)) z [(0, .agg cs)] = some cs := by
  have hfold : ∀ (vs : List Value) (o : Nat) (z : Array Value), (vs.zipIdx o).foldl (fun cs (x : Value × Nat) => cs.setIfInBounds (0 * 259 + x.2) x.1) z = overArr z o vs := by
    intro vs
    induction vs with
    | nil => intro o z; rfl
    | cons v r ih =>
      intro o z
      rw [List.zipIdx_cons, List.foldl_cons, ih]
      show overArr (z.setIfInBounds (0 * 259 + o) v) (o + 1) r = overArr z o (v :: r)
      rw [overArr, Nat.zero_mul, Nat.zero_add]
  have hc : (decide (cs.size ≠ 259) || decide (0 * 259 + cs.size > z.size)) = false := by simp [h2, h]
  show (if (decide (cs.size ≠ 259) || decide (0 * 259 + cs.size > z.size)) = true then none else some (cs.zipIdx.foldl (fun cs (x : Value × Nat) => cs.setIfInBounds (0 * 259 + x.2) x.1) z)) = some cs
  rw [if_neg (by rw [hc]; decide)]
  have := hfold cs.toList 0 z
  rw [overArr_all _ _ h] at this
  have e : cs.zipIdx.foldl (fun cs (x : Value × Nat) => cs.setIfInBounds (0 * 259 + x.2) x.1) z = cs := by
    rw [← Array.foldl_toList, Array.toList_zipIdx]; exact this
  rw [e]
theorem builtS (k c : Nat) (n : Bool) (f : UInt8 → Bool) : Try.prog.builtSlice 48 1 [(0, .agg (pC k c n f))] = some (pC k c n f) := by
  obtain ⟨i0, hi, hz0, hz1, hz2⟩ := info_parts Try.info48
  unfold Program.builtSlice
  simp only [hi, hz0, hz1]
  have := fill_one ((Array.range (1 * 259)).map fun j => (Value.agg (pC 0 0 false noneF)).cells[j % (Value.agg (pC 0 0 false noneF)).cells.size]!) (pC k c n f) (by simp [pC_size]) (pC_size _ _ _ _)
  simpa using this
theorem wpList_buildOne {P : Program} {w : World} {ops : Array Oper} {rest : List Oper} {o : Oper} {a : Act} {Q : Exit → Act → World → Prop} (hg : o.guard = none) (t e : TypeId) (x : Operand) (ho : o.op = .buildSlice t 1 #[(0, x)])
    (hu : P.underlying t = some (.slice e)) (cs : Array Value) (hx : a.eval x = .agg cs) (hf : P.builtSlice e 1 [(0, .agg cs)] = some cs)
    (h : wpList P ops Q rest (a.put o.dst (.slice (some ⟨w.heap.size, 0, none⟩) 1 1)) (w.alloc (.cells cs e))) : wpList P ops Q (o :: rest) a w :=
  Go.Great.wpList_buildSliceTo hg t e 1 _ ho _ rfl _ rfl hu cs (by simpa [hx] using hf) h
/-- the token at a place, by its byte. -/
theorem partT_cons (t : Tok) (r : List Tok) : partT (t :: r) = if t = (42, false) then (star, 1) else if t = (63, false) then (anyP, 1) else if t = (91, false) then (match setT r with | some y => (⟨false, true, y.1⟩, y.2 + 1) | none => (lit t.1, 1)) else (lit t.1, 1) := rfl
theorem tok_lit {c : UInt8} {r : List Tok} (h1 : c ≠ 42) (h2 : c ≠ 63) (h3 : c ≠ 91) : partT ((c, false) :: r) = (lit c, 1) := by
  rw [partT_cons]
  rw [if_neg (by simpa using h1), if_neg (by simpa using h2), if_neg (by simpa using h3)]
theorem tok_quo {c : UInt8} {r : List Tok} : partT ((c, true) :: r) = (lit c, 1) := by
  rw [partT_cons]
  rw [if_neg (by simp), if_neg (by simp), if_neg (by simp)]
theorem tok_set {r : List Tok} : partT ((91, false) :: r) = match setT r with | some y => (⟨false, true, y.1⟩, y.2 + 1) | none => (lit 91, 1) := by
  rw [partT_cons]
  rw [if_neg (by decide), if_neg (by decide), if_pos rfl]
theorem body_drop (r b : List Tok) (t : Tok) (a : List Tok) (h : bodyT (negT r) r = t :: (a ++ (93, false) :: b)) : r.drop (a.length + 2 + (negT r).toNat) = b := by
  cases hn : negT r
  · rw [hn] at h
    have h' : r = t :: (a ++ (93, false) :: b) := h
    rw [h']
    show (t :: (a ++ (93, false) :: b)).drop (a.length + 2) = b
    rw [List.drop_succ_cons, show a.length + 1 = (a ++ [(93, false)]).length by simp, show a ++ (93, false) :: b = (a ++ [(93, false)]) ++ b by simp, List.drop_left]
  · rw [hn] at h
    have h' : r.tail = t :: (a ++ (93, false) :: b) := h
    show r.drop (a.length + 2 + 1) = b
    rw [← List.drop_tail, h', List.drop_succ_cons, show a.length + 1 = (a ++ [(93, false)]).length by simp, show a ++ (93, false) :: b = (a ++ [(93, false)]) ++ b by simp, List.drop_left]
theorem lit_dp (c : UInt8) : DP.prt ⟨99, c.toNat, false, noneF⟩ = lit c ∧ DP.ok ⟨99, c.toNat, false, noneF⟩ := by
  refine ⟨?_, .inr (.inr (.inr rfl)), c.toNat_lt⟩
  show lit (UInt8.ofNat c.toNat) = lit c
  rw [UInt8.ofNat_toNat]
theorem mark_dp (c : UInt8) (h : c = 63) : DP.prt ⟨c.toNat, 0, false, noneF⟩ = anyP ∧ DP.ok ⟨c.toNat, 0, false, noneF⟩ := by
  subst h
  exact ⟨rfl, .inr (.inl rfl), (show (0 : Nat) < 256 by decide)⟩
/-- the parts so far, and those to come. -/
structure Far (p : ByteArray) (k : Nat) (D : List DP) (ts : List Tok) : Prop where
  at_ : At p k ts
  eq : D.map DP.prt ++ parts ts = parts (toks p.data.toList)
  ok : ∀ d ∈ D, d.ok
  len : D.length ≤ k
theorem Far.next {p : ByteArray} {k e : Nat} {D : List DP} {t : Tok} {r b : List Tok} {x : Prt × Nat} (h : Far p k D (t :: r)) (d : DP) (hx : partT (t :: r) = x) (hd : d.prt = x.1) (hok : d.ok) (hb : (t :: r).drop x.2 = b) (he : At p e b) (hk : k < e) : Far p e (D ++ [d]) b := by
  have he0 := h.eq
  rw [parts_cons, hx, hb] at he0
  refine ⟨he, ?_, ?_, ?_⟩
  · rw [← he0, List.map_append, List.map_singleton, hd, List.append_assoc]; rfl
  · intro y hy
    rcases List.mem_append.1 hy with h1 | h1
    · exact h.ok y h1
    · rw [List.mem_singleton.1 h1]; exact hok
  · have := h.len
    rw [List.length_append, List.length_singleton]; omega
set_option maxHeartbeats 4000000 in
set_option maxRecDepth 100000 in
theorem rparts_any (p : ByteArray) (hp : p.size ≤ 4294967296) (w : World) :
    Calls Try.prog 23 #[.string p] w fun e w' => ∃ (v : Value) (D : List DP), e = .returned v ∧ DRow w w' v D ∧ D.map DP.prt = parts (toks p.data.toList) ∧ (∀ d ∈ D, d.ok) ∧ D.length ≤ p.size := by
  obtain ⟨i0, hi, hz0, hz1, hz2⟩ := info_parts Try.info48
  go_enter Try.func23, Try.ntmps23
  go_wp2
  go_loopw [3, 4, 5, 6, 7] (fun v iv a b c wr => ∃ (k : Nat) (D : List DP) (ts : List Tok), iv = .int .i64 k ∧ Far p k D ts ∧ DRow w wr v D) (fun _ iv _ _ _ _ => p.size - (intOf iv).toNat)
  case atStart => exact ⟨0, [], toks p.data.toList, rfl, ⟨⟨Nat.zero_le _, rfl⟩, rfl, fun d h => (by cases h), Nat.le_refl _⟩, ⟨⟨rfl, .inl ⟨rfl, rfl⟩⟩, Below.refl _ _⟩⟩
  case round =>
    obtain ⟨k, D, ts, rfl, hf, hd⟩ := hrel
    have HD := Lib.hid hd
    have HF := Lib.hid hf
    have hlen := hf.len
    have hbz := hd.bel.size
    have hat := hf.at_
    clear hd hf
    cases ts with
    | nil =>
      have he := hat.end
      subst he
      clear hat
      go_wp2
      go_ret
      exact ⟨_, D, rfl, HD.out, by have := HF.out.eq; rw [parts_nil, List.append_nil] at this; exact this, HF.out.ok, HF.out.len⟩
    | cons t r =>
      have hlt := hat.lt
      have hn := hat.next
      have hle := hn.1
      by_cases h91 : p[k] = 91
      · obtain rfl : t = (91, false) := (hat.byte hlt 91 (by decide)).1 h91
        have hn' : At p (k + 1) r := hn
        have g91 : (((p[k].toNat : Int) == 91) : Bool) = true := u8_true _ 91 h91
        rcases setT_cases r with ⟨hno, hsn⟩ | ⟨t0, a, b, hbd, hna, hsn⟩
        · have HC := Lib.hid (fun w => (show Calls Try.prog 29 #[.string p, .int .i64 ((k : Int) + 1)] w fun e w' => e = .returned (.tuple #[.agg (pC 0 0 false noneF), .int .i64 0]) ∧ Below w.heap.size w w' from by
            have := rset_any p (k + 1) r (bodyT (negT r) r) [] (by omega) hn' (by simp) (.inl rfl) (fun h => absurd rfl h) hno w
            refine Calls.mono this ?_
            rintro e w' ⟨⟨v, rfl, h | ⟨b, e, h, _⟩⟩, hb⟩
            · exact ⟨by rw [h.2], hb⟩
            · cases h))
          have HX := Lib.hid (HF.out.next (b := r) (e := k + 1) (x := (lit 91, 1)) ⟨99, 91, false, noneF⟩ (by rw [tok_set, hsn]) rfl ⟨.inr (.inr (.inr rfl)), (show (91 : Nat) < 256 by decide)⟩ rfl hn' (by omega))
          have hsz : k + 1 ≤ p.size := hn'.1
          clear hat hn hn' hno hsn
          have h91n : ((p[k].toNat : Int)) = 91 := congrArg (fun c : UInt8 => (c.toNat : Int)) h91
          clear h91 HF
          go_wp2_with (first | (at_builtin; refine wpList_append_own _ rfl _ _ 43 rfl w.heap.size 48 i0 (.agg (pC 0 0 false noneF)) 259 259 Try.underlying43 hi hz0 hz1 hz2 (pC_size _ _ _ _) (by decide) _ _ _ rfl (HO6.out.own.alloc _) ⟨_, 0, none⟩ 1 1 (pC 99 91 false noneF).toList rfl (by simp only [Array.length_toList, pC_size]) (cells_new _ _ _) (pC_ones _ _ _ _) (by unfold maxLen; omega) (by omega) (by simp; omega) ?_; intro v2 w8 hown8 hgrow8 _) | (refine wpList_buildOne rfl 43 48 _ rfl Try.underlying43 (pC 99 91 false noneF) rfl (builtS _ _ _ _) ?_) | (refine wpList_buildTo rfl 48 _ rfl _ rfl (pC 99 91 false noneF) (by kernel_rfl) ?_) | (refine wpList_storeAgg rfl 48 _ _ rfl rfl w5.heap.size 48 (pC 0 0 false noneF) (pC 0 0 false noneF) rfl rfl (Blk.new w5 _ _) (by simp only [pC_size]) (aggR _ _ _ _) (pC_ones _ _ _ _) ?_; intro w6 hY6 hg6 hz6; have HO6 := Lib.hid (HD.out.fresh (HB5.out.alloc (by omega) _) hg6 (by omega)); have HY6 := Lib.hid hY6; have hs6 := HO6.out.bel.size; clear hY6 hg6 hz6) | (refine wpList_allocAgg rfl 48 rfl _ zeroR ?_) | (go_at_call 29; (with_reducible refine (HC.out _).mono ?_); rintro e w5 ⟨rfl, hb5⟩; have HB5 := Lib.hid hb5; have hz5 := hb5.size; clear hb5))
          have R := Lib.hid (DRow.step (d := ⟨99, 91, false, noneF⟩) HO6.out hown8 hgrow8)
          clear hown8 hgrow8
          go_wp2
          go_roundw
          case rel => exact ⟨k + 1, _, r, by go_num, HX.out, R.out⟩
          case measure => simp [intOf]; omega
        · have HC := Lib.hid (fun w => (show Calls Try.prog 29 #[.string p, .int .i64 ((k : Int) + 1)] w fun e w' => (∃ e5 : Nat, e = .returned (.tuple #[.agg (pC 91 0 (negT r) (mem (t0 :: a))), .int .i64 e5]) ∧ k + 1 < e5 ∧ At p e5 b) ∧ Below w.heap.size w w' from by
            have := rset_any p (k + 1) r (t0 :: a) ((93, false) :: b) (by omega) hn' (by rw [hbd]; rfl) (.inr ⟨b, rfl⟩) (fun _ => by simp) hna w
            refine Calls.mono this ?_
            rintro e w' ⟨⟨v, rfl, ⟨h, _⟩ | ⟨b', e, h, he, hae, hv⟩⟩, hb⟩
            · cases h
            · cases h
              exact ⟨⟨e, by rw [hv], by omega, hae⟩, hb⟩))
          have HX := Lib.hid (fun (e : Nat) (he : At p e b) (hk : k + 1 < e) => HF.out.next (b := b) (e := e) ⟨91, 0, negT r, mem (t0 :: a)⟩ (by rw [tok_set, hsn]) rfl ⟨.inr (.inr (.inl rfl)), (show (0 : Nat) < 256 by decide)⟩ (body_drop r b t0 a hbd) he (by omega))
          have hsz : k + 1 ≤ p.size := hn'.1
          clear hat hn hn' hsn hbd hna h91 HF
          generalize mem (t0 :: a) = f at *
          generalize negT r = n at *
          go_wp2_with (first | (at_builtin; refine wpList_append_own _ rfl _ _ 43 rfl w.heap.size 48 i0 (.agg (pC 0 0 false noneF)) 259 259 Try.underlying43 hi hz0 hz1 hz2 (pC_size _ _ _ _) (by decide) _ _ _ rfl (HO6.out.own.alloc _) ⟨_, 0, none⟩ 1 1 (pC 91 0 n f).toList rfl (by simp only [Array.length_toList, pC_size]) (cells_new _ _ _) (pC_ones _ _ _ _) (by unfold maxLen; omega) (by omega) (by simp; omega) ?_; intro v2 w8 hown8 hgrow8 _) | (refine wpList_buildOne rfl 43 48 _ rfl Try.underlying43 (pC 91 0 n f) rfl (builtS _ _ _ _) ?_) | (refine wpList_loadAgg rfl 48 _ rfl w5.heap.size 0 (pC 91 0 n f) rfl (fun j hj => by rw [Nat.zero_add]; exact Blk.cell HY6.out j) (aggR _ _ _ _) ?_) | (refine wpList_storeAgg rfl 48 _ _ rfl rfl w5.heap.size 48 (pC 0 0 false noneF) (pC 91 0 n f) rfl rfl (Blk.new w5 _ _) (by simp only [pC_size]) (aggR _ _ _ _) (pC_ones _ _ _ _) ?_; intro w6 hY6 hg6 hz6; have HO6 := Lib.hid (HD.out.fresh (HB5.out.alloc (by omega) _) hg6 (by omega)); have HY6 := Lib.hid hY6; have hs6 := HO6.out.bel.size; clear hY6 hg6 hz6) | (refine wpList_allocAgg rfl 48 rfl _ zeroR ?_) | (go_at_call 29; (with_reducible refine (HC.out _).mono ?_); rintro e w5 ⟨⟨e5, rfl, he5, hae5⟩, hb5⟩; have HB5 := Lib.hid hb5; have hz5 := hb5.size; have HX5 := Lib.hid (HX.out e5 hae5 he5); have hae5s := hae5.1; clear hb5 hae5))
          have R := Lib.hid (DRow.step (d := ⟨91, 0, n, f⟩) HO6.out hown8 hgrow8)
          clear hown8 hgrow8
          go_wp2
          go_roundw
          case rel => exact ⟨e5, _, b, by go_num, HX5.out, R.out⟩
          case measure => simp [intOf]; omega
      · have g91 : (((p[k].toNat : Int) == 91) : Bool) = false := u8_false _ 91 h91
        by_cases h42 : p[k] = 42
        · obtain rfl : t = (42, false) := (hat.byte hlt 42 (by decide)).1 h42
          have hn' : At p (k + 1) r := hn
          have HX := Lib.hid (HF.out.next (b := r) (e := k + 1) ⟨42, 0, false, noneF⟩ (show partT ((42, false) :: r) = (star, 1) from rfl) rfl ⟨.inl rfl, by decide⟩ rfl hn' (by omega))
          have g42 : ((p[k].toNat : Int)) = 42 := congrArg (fun c : UInt8 => (c.toNat : Int)) h42
          have hsz : k + 1 ≤ p.size := hn'.1
          clear hat hn hn' h91 h42 HF g91
          go_wp2_with (first | (at_builtin; refine wpList_append_own _ rfl _ _ 43 rfl w.heap.size 48 i0 (.agg (pC 0 0 false noneF)) 259 259 Try.underlying43 hi hz0 hz1 hz2 (pC_size _ _ _ _) (by decide) _ _ _ rfl (HD.out.own.alloc _) ⟨_, 0, none⟩ 1 1 (pC 42 0 false noneF).toList rfl (by simp only [Array.length_toList, pC_size]) (cells_new _ _ _) (pC_ones _ _ _ _) (by unfold maxLen; omega) (by omega) (by simp; omega) ?_; intro v2 w8 hown8 hgrow8 _) | (refine wpList_buildOne rfl 43 48 _ rfl Try.underlying43 (pC 42 0 false noneF) rfl (builtS _ _ _ _) ?_) | (refine wpList_buildTo rfl 48 _ rfl _ rfl (pC 42 0 false noneF) (by kernel_rfl) ?_))
          have R := Lib.hid (DRow.step (d := ⟨42, 0, false, noneF⟩) HD.out hown8 hgrow8)
          clear hown8 hgrow8
          go_wp2
          go_roundw
          case rel => exact ⟨k + 1, _, r, by go_num, HX.out, R.out⟩
          case measure => simp [intOf]; omega
        · have b42 : (((p[k].toNat : Int) == 42) : Bool) = false := u8_false _ 42 h42
          by_cases h63 : p[k] = 63
          · obtain rfl : t = (63, false) := (hat.byte hlt 63 (by decide)).1 h63
            have hn' : At p (k + 1) r := hn
            have HX := Lib.hid (HF.out.next (b := r) (e := k + 1) ⟨p[k].toNat, 0, false, noneF⟩ (show partT ((63, false) :: r) = (anyP, 1) from rfl) (mark_dp _ h63).1 (mark_dp _ h63).2 rfl hn' (by omega))
            have g63 : (((p[k].toNat : Int) == 63) : Bool) = true := u8_true _ 63 h63
            have hsz : k + 1 ≤ p.size := hn'.1
            clear hat hn hn' h91 h42 h63 HF
            go_wp2_with (first | (at_builtin; refine wpList_append_own _ rfl _ _ 43 rfl w.heap.size 48 i0 (.agg (pC 0 0 false noneF)) 259 259 Try.underlying43 hi hz0 hz1 hz2 (pC_size _ _ _ _) (by decide) _ _ _ rfl (HD.out.own.alloc _) ⟨_, 0, none⟩ 1 1 (pC p[k].toNat 0 false noneF).toList rfl (by simp only [Array.length_toList, pC_size]) (cells_new _ _ _) (pC_ones _ _ _ _) (by unfold maxLen; omega) (by omega) (by simp; omega) ?_; intro v2 w8 hown8 hgrow8 _) | (refine wpList_buildOne rfl 43 48 _ rfl Try.underlying43 (pC p[k].toNat 0 false noneF) rfl (builtS _ _ _ _) ?_) | (refine wpList_buildTo rfl 48 _ rfl _ rfl (pC p[k].toNat 0 false noneF) (by kernel_rfl) ?_))
            have R := Lib.hid (DRow.step (d := ⟨p[k].toNat, 0, false, noneF⟩) HD.out hown8 hgrow8)
            clear hown8 hgrow8
            go_wp2
            go_roundw
            case rel => exact ⟨k + 1, _, r, by go_num, HX.out, R.out⟩
            case measure => simp [intOf]; omega
          · have b63 : (((p[k].toNat : Int) == 63) : Bool) = false := u8_false _ 63 h63
            rcases tok_at p k hlt with ⟨h2, h9, e⟩ | ⟨h9, e⟩ <;> rw [hat.2] at e <;> injection e with e1 e2 <;> subst e1
            · have hn' : At p (k + 2) r := hn
              have HX := Lib.hid (HF.out.next (b := r) (e := k + 2) ⟨99, p[k + 1].toNat, false, noneF⟩ tok_quo (lit_dp _).1 (lit_dp _).2 rfl hn' (by omega))
              have g92 : (((p[k].toNat : Int) == 92) : Bool) = true := u8_true _ 92 h9
              have hsz : k + 2 ≤ p.size := hn'.1
              have hc2 := p[k + 1].toNat_lt
              clear hat hn hn' h91 h42 h63 HF e2 h9
              go_wp2_with (first | (at_builtin; refine wpList_append_own _ rfl _ _ 43 rfl w.heap.size 48 i0 (.agg (pC 0 0 false noneF)) 259 259 Try.underlying43 hi hz0 hz1 hz2 (pC_size _ _ _ _) (by decide) _ _ _ rfl (HD.out.own.alloc _) ⟨_, 0, none⟩ 1 1 (pC 99 p[k + 1].toNat false noneF).toList rfl (by simp only [Array.length_toList, pC_size]) (cells_new _ _ _) (pC_ones _ _ _ _) (by unfold maxLen; omega) (by omega) (by simp; omega) ?_; intro v2 w8 hown8 hgrow8 _) | (refine wpList_buildOne rfl 43 48 _ rfl Try.underlying43 (pC 99 p[k + 1].toNat false noneF) rfl (builtS _ _ _ _) ?_) | (refine wpList_buildTo rfl 48 _ rfl _ rfl (pC 99 p[k + 1].toNat false noneF) (by kernel_rfl) ?_))
              have R := Lib.hid (DRow.step (d := ⟨99, p[k + 1].toNat, false, noneF⟩) HD.out hown8 hgrow8)
              clear hown8 hgrow8
              go_wp2
              go_roundw
              case rel => exact ⟨k + 2, _, r, by go_num, HX.out, R.out⟩
              case measure => simp [intOf]; omega
            · have hn' : At p (k + 1) r := hn
              have HX := Lib.hid (HF.out.next (b := r) (e := k + 1) ⟨99, p[k].toNat, false, noneF⟩ (tok_lit h42 h63 h91) (lit_dp _).1 (lit_dp _).2 rfl hn' (by omega))
              have hsz : k + 1 ≤ p.size := hn'.1
              by_cases h92 : p[k] = 92
              · have h3 := h9 h92
                have g92 : (((p[k].toNat : Int) == 92) : Bool) = true := u8_true _ 92 h92
                clear hat hn hn' h91 h42 h63 HF e2 h9 h92
                go_wp2_with (first | (at_builtin; refine wpList_append_own _ rfl _ _ 43 rfl w.heap.size 48 i0 (.agg (pC 0 0 false noneF)) 259 259 Try.underlying43 hi hz0 hz1 hz2 (pC_size _ _ _ _) (by decide) _ _ _ rfl (HD.out.own.alloc _) ⟨_, 0, none⟩ 1 1 (pC 99 p[k].toNat false noneF).toList rfl (by simp only [Array.length_toList, pC_size]) (cells_new _ _ _) (pC_ones _ _ _ _) (by unfold maxLen; omega) (by omega) (by simp; omega) ?_; intro v2 w8 hown8 hgrow8 _) | (refine wpList_buildOne rfl 43 48 _ rfl Try.underlying43 (pC 99 p[k].toNat false noneF) rfl (builtS _ _ _ _) ?_) | (refine wpList_buildTo rfl 48 _ rfl _ rfl (pC 99 p[k].toNat false noneF) (by kernel_rfl) ?_))
                have R := Lib.hid (DRow.step (d := ⟨99, p[k].toNat, false, noneF⟩) HD.out hown8 hgrow8)
                clear hown8 hgrow8
                go_wp2
                go_roundw
                case rel => exact ⟨k + 1, _, r, by go_num, HX.out, R.out⟩
                case measure => simp [intOf]; omega
              · have g92 : (((p[k].toNat : Int) == 92) : Bool) = false := u8_false _ 92 h92
                clear hat hn hn' h91 h42 h63 HF e2 h9 h92
                go_wp2_with (first | (at_builtin; refine wpList_append_own _ rfl _ _ 43 rfl w.heap.size 48 i0 (.agg (pC 0 0 false noneF)) 259 259 Try.underlying43 hi hz0 hz1 hz2 (pC_size _ _ _ _) (by decide) _ _ _ rfl (HD.out.own.alloc _) ⟨_, 0, none⟩ 1 1 (pC 99 p[k].toNat false noneF).toList rfl (by simp only [Array.length_toList, pC_size]) (cells_new _ _ _) (pC_ones _ _ _ _) (by unfold maxLen; omega) (by omega) (by simp; omega) ?_; intro v2 w8 hown8 hgrow8 _) | (refine wpList_buildOne rfl 43 48 _ rfl Try.underlying43 (pC 99 p[k].toNat false noneF) rfl (builtS _ _ _ _) ?_) | (refine wpList_buildTo rfl 48 _ rfl _ rfl (pC 99 p[k].toNat false noneF) (by kernel_rfl) ?_))
                have R := Lib.hid (DRow.step (d := ⟨99, p[k].toNat, false, noneF⟩) HD.out hown8 hgrow8)
                clear hown8 hgrow8
                go_wp2
                go_roundw
                case rel => exact ⟨k + 1, _, r, by go_num, HX.out, R.out⟩
                case measure => simp [intOf]; omega
end Go.Proofs.Ytacohhmhggljhaa
