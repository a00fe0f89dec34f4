import Derived.Maps.RangeWalk
import Derived.Laws.BitsLemmas
import Derived.Test.YtlpececggkdhmaaGreatM2
import Derived.Test.YtlpececggkdhmaaGreatM4
open Go.Lib (hid)
set_option linter.unusedVariables false
set_option linter.unusedSimpArgs false
namespace Go.Proofs.YtlpececggkdhmaaGreat
section
open Go.RowKit Ino
open Go.Maps
theorem undStr : Tryz.prog.underlying 9 = some .string := by kernel_rfl
theorem undInt : Tryz.prog.underlying 3 = some (.int .i64) := by kernel_rfl
theorem undMap : Tryz.prog.underlying 108 = some (.map 9 3) := by kernel_rfl
theorem zeroInt (w : World) : (zeroValue 3).run Tryz.prog w = .ok (.int .i64 0) w := by kernel_rfl
theorem strLaw : Go.Maps.Keyed Tryz.prog 9 := string_keyed undStr
structure Ag (D : DataW Unit) (l : List (Bs × Nat)) : Prop where
 has : ∀ n : Bs, Maps.has D (.string n) = (findE l n).isSome
 val : ∀ (n : Bs) (x : Nat), findE l n = some x → ∀ zd, D.atKey (.string n) zd = .lit (.int .i64 x)
 size : Maps.size D = l.length
def EMap (W : World) (b : Nat) (l : List (Bs × Nat)) : Prop := ∃ D : DataW Unit, W.ownsMap Tryz.prog 9 (plainElem Tryz.prog 3) b l.length D ∧ Ag D l
theorem EMap.lt {W : World} {b : Nat} {l : List (Bs × Nat)} (h : EMap W b l) : b < W.heap.size := by
 obtain ⟨D, h1, _⟩ := h
 exact h1.lt
theorem EMap.of_block {W W' : World} {b : Nat} {l : List (Bs × Nat)} (h : EMap W b l) (e : W'.heap[b]? = W.heap[b]?) : EMap W' b l := by
 obtain ⟨D, ⟨es, clock, hb, r⟩, h2⟩ := h
 exact ⟨D, ⟨es, clock, e.trans hb, r⟩, h2⟩
theorem Ag.nil : Ag (.map []) [] := ⟨fun _ => rfl, fun n x h => (by cases h), rfl⟩
theorem EMap.made (W : World) : EMap (W.alloc (.map #[] 0)) W.heap.size [] := ⟨_, World.ownsMap_made _ _ _ _, Ag.nil⟩
theorem keyLit (n : Bs) : WideAt.IsKeyLit (.string n) := by
 simp [WideAt.IsKeyLit]
theorem EMap.key {s : ByteArray} (hs : s.size ≤ maxLen) : keyOf Tryz.prog 9 (.string s) = some (.string s.data.toList) := Go.WideMaps.keyOf_string_mk undStr hs
theorem wfNat (x : Nat) (h : x ≤ 200) : (Lit.int .i64 (x : Int)).wf = true := WalkArith.wf_i64 (by omega)
theorem EMap.look {W : World} {b : Nat} {l : List (Bs × Nat)} (h : EMap W b l) {s : ByteArray} (hs : s.size ≤ maxLen) :
 (Instr.lookup 108 (.map (some b)) (.string s) false).run Tryz.prog W = .ok (.int .i64 (((findE l s.data.toList).getD 0 : Nat) : Int)) W := by
 obtain ⟨D, h1, h2⟩ := h
 obtain ⟨c, hr, hat, _⟩ := h1.lookup_int strLaw undMap undInt (zeroInt W) (EMap.key hs)
 rw [hr]
 cases hf : findE l s.data.toList with
 | none =>
  have h3 := h2.has s.data.toList
  rw [hf] at h3
  rw [Maps.atKey_of_not_has h3] at hat
  cases hat
  rfl
 | some x =>
  rw [h2.val _ _ hf] at hat
  cases hat
  rfl
theorem EMap.look_ok {W : World} {b : Nat} {l : List (Bs × Nat)} (h : EMap W b l) {s : ByteArray} (hs : s.size ≤ maxLen) :
 (Instr.lookup 108 (.map (some b)) (.string s) true).run Tryz.prog W = .ok (.tuple #[.int .i64 (((findE l s.data.toList).getD 0 : Nat) : Int), .bool (findE l s.data.toList).isSome]) W := by
 obtain ⟨D, h1, h2⟩ := h
 obtain ⟨v, ps, hr, hv⟩ := h1.look_ok strLaw undMap (zeroInt W) (plainElem_int undInt (by decide)) (EMap.key hs)
 obtain ⟨c, rfl, hat, _⟩ := plainElem_int_inv undInt hv
 have hat := congrArg Prod.fst hat
 rw [hr, h2.has]
 cases hf : findE l s.data.toList with
 | none =>
  have h3 := h2.has s.data.toList
  rw [hf] at h3
  rw [Maps.atKey_of_not_has h3] at hat
  cases hat
  rfl
 | some x =>
  rw [h2.val _ _ hf] at hat
  cases hat
  rfl
theorem EMap.len {W : World} {b : Nat} {l : List (Bs × Nat)} (h : EMap W b l) (ty : TypeId) : (Builtin.len_ #[108] ty #[.map (some b)]).run Tryz.prog W = .ok (.int .i64 l.length) W := by
 obtain ⟨D, h1, h2⟩ := h
 rw [h1.len undMap ty, h2.size]
theorem owns_exact {W : World} {b n : Nat} {D : DataW Unit} {R : Value → Option (DataW Unit × List MemPlace)} {k : TypeId} (h : W.ownsMap Tryz.prog k R b n D) : W.ownsMap Tryz.prog k R b (Maps.size D) D := by
 obtain ⟨es, clock, hb, F, hs, rfl⟩ := h
 exact ⟨es, clock, hb, F, by simp [Maps.size, length_sorted], rfl⟩
theorem findE_snoc : ∀ {l : List (Bs × Nat)} {n m : Bs} {x : Nat}, findE l n = none → findE (l ++ [(n, x)]) m = if m = n then some x else findE l m
 | [], n, m, x, _ => by
  show (if n = m then some x else none) = _
  by_cases e : m = n
  ·rw [if_pos e, if_pos e.symm]
  ·rw [if_neg e, if_neg (Ne.symm e)]; rfl
 | a :: l, n, m, x, h => by
  unfold findE at h
  split at h
  ·cases h
  ·rename_i h1
   show (if a.1 = m then some a.2 else findE (l ++ [(n, x)]) m) = _
   rw [findE_snoc h]
   show _ = if m = n then some x else if a.1 = m then some a.2 else findE l m
   by_cases e : m = n
   ·rw [if_pos e, if_pos e, if_neg (by rw [e]; exact h1)]
   ·rw [if_neg e, if_neg e]
theorem EMap.put {W : World} {b : Nat} {l : List (Bs × Nat)} (h : EMap W b l) (hl : l.length < maxLen) {s : ByteArray} (hs : s.size ≤ maxLen) (x : Nat) (hx : x ≤ 200) (hf : findE l s.data.toList = none) :
 ∃ W', (Instr.mapUpdate 108 (.map (some b)) (.string s) (.int .i64 x)).run Tryz.prog W = .ok () W' ∧ EMap W' b (l ++ [(s.data.toList, x)]) ∧ W.mapTurned W' b := by
 obtain ⟨D, h1, h2⟩ := h
 obtain ⟨W', hr, h3, h4⟩ := h1.store strLaw undMap hl (EMap.key hs) (plainElem_int undInt (wfNat x hx))
 refine ⟨W', hr, ⟨D.put (.string s.data.toList) (.lit (.int .i64 x)), ?_, ?_⟩, h4⟩
 ·rw [List.length_append]; exact h3
 ·have hD := h1.tidy strLaw
  have hk : Maps.has D (.string s.data.toList) = false := by rw [h2.has, hf]; rfl
  refine ⟨fun n => ?_, fun n y hn zd => ?_, ?_⟩
  ·rw [findE_snoc hf]
   by_cases e : n = s.data.toList
   ·rw [if_pos e, e, Maps.has_put_same hD.isMap (keyLit _)]; rfl
   ·rw [if_neg e, Maps.has_put_other (fun e2 => e (by cases e2; rfl)), h2.has]
  ·rw [findE_snoc hf] at hn
   by_cases e : n = s.data.toList
   ·rw [if_pos e] at hn
    cases hn
    rw [e, Maps.atKey_put_same hD.isMap (keyLit _)]
   ·rw [if_neg e] at hn
    rw [Maps.atKey_put_other (fun e2 => e (by cases e2; rfl)), h2.val _ _ hn]
  ·rw [Maps.size_put hD, hk, List.length_append, h2.size]; rfl
theorem EMap.del {W : World} {b : Nat} {l : List (Bs × Nat)} (h : EMap W b l) (hu : (l.map (·.1)).Nodup) {s : ByteArray} (hs : s.size ≤ maxLen) {x : Nat} (hf : findE l s.data.toList = some x) (ty : TypeId) :
 ∃ W', (Builtin.delete_ #[108, 9] ty #[.map (some b), .string s]).run Tryz.prog W = .ok (.tuple #[]) W' ∧ EMap W' b (erE l s.data.toList) ∧ W.mapTurned W' b := by
 obtain ⟨D, h1, h2⟩ := h
 obtain ⟨W', hr, h3, h4⟩ := h1.drop strLaw undMap (EMap.key hs) ty
 have hD := h1.tidy strLaw
 have hsz : Maps.size (D.del (.string s.data.toList)) = (erE l s.data.toList).length := by
  have h5 := Maps.size_del (k := .string s.data.toList) hD
  rw [h2.has, hf, h2.size] at h5
  have h6 := erE_length hf
  simp at h5
  omega
 refine ⟨W', hr, ⟨D.del (.string s.data.toList), ?_, ?_⟩, h4⟩
 ·rw [← hsz]; exact owns_exact h3
 ·refine ⟨fun n => ?_, fun n y hn zd => ?_, hsz⟩
  ·by_cases e : n = s.data.toList
   ·rw [e, Maps.has_del_same, erE_find hu]; rfl
   ·rw [Maps.has_del_other (fun e2 => e (by cases e2; rfl)), h2.has, erE_other e]
  ·by_cases e : n = s.data.toList
   ·rw [e, erE_find hu] at hn; cases hn
   ·rw [erE_other e] at hn
    rw [Maps.atKey_del_other (fun e2 => e (by cases e2; rfl)), h2.val _ _ hn]
end
section
open Go.RowKit Ino Go.Maps
def ptrV (n : Nod) (b : Nat) : Value := if n.is then .pointer (some ⟨b, 0, none⟩) else .pointer none
def mapV (n : Nod) (m : Nat) : Value := if n.kind = 1 then .map (some m) else .map none
def nodeF (n : Nod) (lk m : Nat) : Nat → Value
 | 0 => .int .i64 n.kind
 | 1 => .int .i64 n.mode
 | 2 => .int .i64 n.owner
 | 3 => .int .i64 n.group
 | 4 => .int .i64 lk
 | 5 => .int .i64 n.holds
 | 6 => .string ⟨n.data.toArray⟩
 | 7 => mapV n m
 | 8 => .int .i64 n.parent
 | _ => .int .i64 n.tty
structure PT (W : World) (A : Nat) (nb mb : Nat → Nat) (t : T) (lk : Nat → Nat) : Prop where
 row : W.rowIs A 74 201 (fun i => ptrV (t i) (nb i))
 node : ∀ i, (t i).is = true → W.rowIs (nb i) 110 10 (nodeF (t i) (lk i) (mb i))
 maps : ∀ i, (t i).kind = 1 → EMap W (mb i) (t i).ents
 inj : ∀ i j, (t i).is = true → (t j).is = true → nb i = nb j → i = j
 injM : ∀ i j, (t i).kind = 1 → (t j).kind = 1 → mb i = mb j → i = j
theorem row_ne_map {W : World} {b c : Nat} {ty : TypeId} {n : Nat} {f : Nat → Value} {l : List (Bs × Nat)} (h : W.rowIs b ty n f) (k : EMap W c l) : b ≠ c := by
 obtain ⟨cs, h1, _⟩ := h
 obtain ⟨D, ⟨es, clock, h2, _⟩, _⟩ := k
 intro e
 rw [e, h2] at h1
 cases h1
theorem row_ne_row {W : World} {b c : Nat} {f g : Nat → Value} (h : W.rowIs b 110 10 f) (k : W.rowIs c 74 201 g) : b ≠ c := by
 obtain ⟨cs, h1, _⟩ := h
 obtain ⟨ds, h2, _⟩ := k
 intro e
 rw [e, h2] at h1
 cases h1
variable {W W' : World} {A : Nat} {nb mb : Nat → Nat} {t : T} {lk : Nat → Nat}
theorem PT.nbA (h : PT W A nb mb t lk) {i : Nat} (hi : (t i).is = true) : nb i ≠ A := row_ne_row (h.node i hi) h.row
theorem PT.mbA (h : PT W A nb mb t lk) {i : Nat} (hi : (t i).kind = 1) : mb i ≠ A := (row_ne_map h.row (h.maps i hi)).symm
theorem PT.nbmb (h : PT W A nb mb t lk) {i j : Nat} (hi : (t i).is = true) (hj : (t j).kind = 1) : nb i ≠ mb j := row_ne_map (h.node i hi) (h.maps j hj)
theorem PT.ltA (h : PT W A nb mb t lk) : A < W.heap.size := h.row.lt
theorem PT.ltN (h : PT W A nb mb t lk) {i : Nat} (hi : (t i).is = true) : nb i < W.heap.size := (h.node i hi).lt
theorem PT.ltM (h : PT W A nb mb t lk) {i : Nat} (hi : (t i).kind = 1) : mb i < W.heap.size := (h.maps i hi).lt
def Tb (A : Nat) (nb mb : Nat → Nat) (t : T) (g : Nat) : Prop := g = A ∨ (∃ i, (t i).is = true ∧ g = nb i) ∨ ∃ i, (t i).kind = 1 ∧ g = mb i
def Nb (A : Nat) (nb : Nat → Nat) (t : T) (g : Nat) : Prop := g = A ∨ ∃ i, (t i).is = true ∧ g = nb i
theorem PT.blocks (h : PT W A nb mb t lk) (hb : ∀ g, Tb A nb mb t g → W'.heap[g]? = W.heap[g]?) : PT W' A nb mb t lk :=
 ⟨h.row.of_block (hb A (.inl rfl)), fun i hi => (h.node i hi).of_block (hb _ (.inr (.inl ⟨i, hi, rfl⟩))), fun i hi => (h.maps i hi).of_block (hb _ (.inr (.inr ⟨i, hi, rfl⟩))), h.inj, h.injM⟩
theorem PT.tlt (h : PT W A nb mb t lk) {g : Nat} (hg : Tb A nb mb t g) : g < W.heap.size := by
 rcases hg with rfl | ⟨i, hi, rfl⟩ | ⟨i, hi, rfl⟩
 ·exact h.ltA
 ·exact h.ltN hi
 ·exact h.ltM hi
theorem PT.fr {S : Nat → Prop} (h : PT W A nb mb t lk) (hf : Fr S W W') (hs : ∀ g, Tb A nb mb t g → ¬ S g) : PT W' A nb mb t lk :=
 h.blocks fun g hg => hf.block g (h.tlt hg) (hs g hg)
theorem PT.alloc (h : PT W A nb mb t lk) (o : Obj) : PT (W.alloc o) A nb mb t lk := h.blocks fun g hg => Below.heap_alloc _ _ _ (h.tlt hg)
theorem PT.drew (h : PT W A nb mb t lk) : PT W.drew A nb mb t lk := h.blocks fun _ _ => rfl
theorem PT.drewN (h : PT W A nb mb t lk) (n : Nat) : PT (W.drewN n) A nb mb t lk := h.blocks fun _ _ => rfl
theorem PT.get (h : PT W A nb mb t lk) {i : Nat} (hi : i ≤ 200) : W.cell? ⟨A, i, none⟩ = some (ptrV (t i) (nb i)) := h.row.cell (by omega)
theorem PT.cells (h : PT W A nb mb t lk) {i : Nat} (hi : (t i).is = true) :
 W.cell? ⟨nb i, 0, none⟩ = some (.int .i64 (t i).kind) ∧ W.cell? ⟨nb i, 1, none⟩ = some (.int .i64 (t i).mode) ∧ W.cell? ⟨nb i, 2, none⟩ = some (.int .i64 (t i).owner) ∧ W.cell? ⟨nb i, 3, none⟩ = some (.int .i64 (t i).group) ∧
  W.cell? ⟨nb i, 4, none⟩ = some (.int .i64 (lk i)) ∧ W.cell? ⟨nb i, 5, none⟩ = some (.int .i64 (t i).holds) ∧ W.cell? ⟨nb i, 6, none⟩ = some (.string ⟨(t i).data.toArray⟩) ∧ W.cell? ⟨nb i, 7, none⟩ = some (mapV (t i) (mb i)) ∧
  W.cell? ⟨nb i, 8, none⟩ = some (.int .i64 (t i).parent) ∧ W.cell? ⟨nb i, 9, none⟩ = some (.int .i64 (t i).tty) := by
 have hr := h.node i hi
 exact ⟨hr.cell (by omega), hr.cell (by omega), hr.cell (by omega), hr.cell (by omega), hr.cell (by omega), hr.cell (by omega), hr.cell (by omega), hr.cell (by omega), hr.cell (by omega), hr.cell (by omega)⟩
theorem PT.frozen (h : PT W A nb mb t lk) {i : Nat} (hi : (t i).is = true) (o : Nat) : W.frozen? ⟨nb i, o, none⟩ = false := (h.node i hi).frozen o
theorem PT.frozenA (h : PT W A nb mb t lk) (o : Nat) : W.frozen? ⟨A, o, none⟩ = false := h.row.frozen o
theorem upd_is (t : T) (i j : Nat) (n : Nod) (hn : n.is = (t i).is) : (upd t i n j).is = (t j).is := by
 by_cases e : j = i
 ·rw [e, upd_same, hn]
 ·rw [upd_other _ _ e]
theorem upd_kind (t : T) (i j : Nat) (n : Nod) (hn : n.kind = (t i).kind) : (upd t i n j).kind = (t j).kind := by
 by_cases e : j = i
 ·rw [e, upd_same, hn]
 ·rw [upd_other _ _ e]
theorem upd_ents (t : T) (i j : Nat) (n : Nod) (hn : n.ents = (t i).ents) : (upd t i n j).ents = (t j).ents := by
 by_cases e : j = i
 ·rw [e, upd_same, hn]
 ·rw [upd_other _ _ e]
theorem PT.set1 (h : PT W A nb mb t lk) {i : Nat} (hi : (t i).is = true) (j : Nat) (n : Nod) (lk' : Nat → Nat) (v : Value) (h1 : n.is = true) (h2 : n.kind = (t i).kind) (h3 : n.ents = (t i).ents) (hl : ∀ k, k ≠ i → lk' k = lk k)
 (hv : ∀ k, k < 10 → nodeF n (lk' i) (mb i) k = if k = j then v else nodeF (t i) (lk i) (mb i) k) : PT (W.setCell ⟨nb i, j, none⟩ v) A nb mb (upd t i n) lk' := by
 have e1 : n.is = (t i).is := by rw [h1, hi]
 refine ⟨?_, fun k hk => ?_, fun k hk => ?_, fun a b ha hb e => ?_, fun a b ha hb e => ?_⟩
 ·refine (h.row.setOther (a := ⟨nb i, j, none⟩) (h.nbA hi).symm v).congr fun k _ => ?_
  unfold ptrV
  rw [upd_is t i k n e1]
 ·rw [upd_is t i k n e1] at hk
  by_cases e : k = i
  ·subst e
   rw [upd_same]
   exact ((h.node k hi).set j v).congr fun m hm => (hv m hm).symm
  ·rw [upd_other _ _ e, hl k e]
   exact (h.node k hk).setOther (a := ⟨nb i, j, none⟩) (fun e2 => e (h.inj _ _ hk hi e2)) v
 ·rw [upd_kind t i k n h2] at hk
  rw [upd_ents t i k n h3]
  exact (h.maps k hk).of_block (Below.heap_setCell _ _ _ _ (h.nbmb hi hk).symm)
 ·rw [upd_is t i a n e1] at ha
  rw [upd_is t i b n e1] at hb
  exact h.inj a b ha hb e
 ·rw [upd_kind t i a n h2] at ha
  rw [upd_kind t i b n h2] at hb
  exact h.injM a b ha hb e
theorem PT.congr (h : PT W A nb mb t lk) {t' : T} {lk' : Nat → Nat} (e : t' = t) (e2 : ∀ i, (t i).is = true → lk' i = lk i) : PT W A nb mb t' lk' := by
 subst e
 exact ⟨h.row, fun i hi => by rw [e2 i hi]; exact h.node i hi, h.maps, h.inj, h.injM⟩
theorem PT.setLinks (h : PT W A nb mb t lk) {i : Nat} (hi : (t i).is = true) (k : Nat) : PT (W.setCell ⟨nb i, 4, none⟩ (.int .i64 k)) A nb mb t (fun j => if j = i then k else lk j) := by
 have := h.set1 hi 4 (t i) (fun j => if j = i then k else lk j) (.int .i64 k) hi rfl rfl (fun j hj => if_neg hj) (fun m hm => by
  rw [if_pos rfl]
  match m, hm with
  | 0, _ | 1, _ | 2, _ | 3, _ | 4, _ | 5, _ | 6, _ | 7, _ | 8, _ | 9, _ => rfl)
 refine this.congr ?_ fun _ _ => rfl
 funext j
 by_cases e : j = i
 ·rw [e, upd_same]
 ·rw [upd_other _ _ e]
theorem PT.setHolds (h : PT W A nb mb t lk) {i : Nat} (hi : (t i).is = true) (k : Nat) : PT (W.setCell ⟨nb i, 5, none⟩ (.int .i64 k)) A nb mb (upd t i { t i with holds := k }) lk :=
 h.set1 hi 5 _ lk _ hi rfl rfl (fun _ _ => rfl) fun m hm => by
  match m, hm with
  | 0, _ | 1, _ | 2, _ | 3, _ | 4, _ | 5, _ | 6, _ | 7, _ | 8, _ | 9, _ => rfl
theorem PT.setData (h : PT W A nb mb t lk) {i : Nat} (hi : (t i).is = true) (d : Bs) : PT (W.setCell ⟨nb i, 6, none⟩ (.string ⟨d.toArray⟩)) A nb mb (upd t i { t i with data := d }) lk :=
 h.set1 hi 6 _ lk _ hi rfl rfl (fun _ _ => rfl) fun m hm => by
  match m, hm with
  | 0, _ | 1, _ | 2, _ | 3, _ | 4, _ | 5, _ | 6, _ | 7, _ | 8, _ | 9, _ => rfl
theorem PT.setParent (h : PT W A nb mb t lk) {i : Nat} (hi : (t i).is = true) (k : Nat) : PT (W.setCell ⟨nb i, 8, none⟩ (.int .i64 k)) A nb mb (upd t i { t i with parent := k }) lk :=
 h.set1 hi 8 _ lk _ hi rfl rfl (fun _ _ => rfl) fun m hm => by
  match m, hm with
  | 0, _ | 1, _ | 2, _ | 3, _ | 4, _ | 5, _ | 6, _ | 7, _ | 8, _ | 9, _ => rfl
theorem PT.clear (h : PT W A nb mb t lk) (i : Nat) : PT (W.setCell ⟨A, i, none⟩ (.pointer none)) A nb mb (upd t i noN) lk := by
 have hi : ∀ k, (upd t i noN k).is = true → k ≠ i ∧ (t k).is = true := fun k hk => by
  by_cases e : k = i
  ·rw [e, upd_same] at hk; cases hk
  ·rw [upd_other _ _ e] at hk; exact ⟨e, hk⟩
 have hk1 : ∀ k, (upd t i noN k).kind = 1 → k ≠ i ∧ (t k).kind = 1 := fun k hk => by
  by_cases e : k = i
  ·rw [e, upd_same] at hk; cases hk
  ·rw [upd_other _ _ e] at hk; exact ⟨e, hk⟩
 refine ⟨?_, fun k hk => ?_, fun k hk => ?_, fun a b ha hb e => h.inj a b (hi a ha).2 (hi b hb).2 e, fun a b ha hb e => h.injM a b (hk1 a ha).2 (hk1 b hb).2 e⟩
 ·refine (h.row.set i (.pointer none)).congr fun k _ => ?_
  by_cases e : k = i
  ·rw [if_pos e, e, upd_same]; rfl
  ·rw [if_neg e, upd_other _ _ e]
 ·obtain ⟨e, hk⟩ := hi k hk
  rw [upd_other _ _ e]
  exact (h.node k hk).setOther (a := ⟨A, i, none⟩) (h.nbA hk) _
 ·obtain ⟨e, hk⟩ := hk1 k hk
  rw [upd_other _ _ e]
  exact (h.maps k hk).of_block (Below.heap_setCell _ _ _ _ (h.mbA hk))
theorem PT.turned (h : PT W A nb mb t lk) {i : Nat} (hi : (t i).kind = 1) (his : (t i).is = true) {l : List (Bs × Nat)} (hg : W.mapTurned W' (mb i)) (hm : EMap W' (mb i) l) : PT W' A nb mb (upd t i { t i with ents := l }) lk := by
 have hg := hg.grown
 have e1 : ∀ k, (upd t i { t i with ents := l } k).is = (t k).is := fun k => upd_is t i k _ rfl
 have e2 : ∀ k, (upd t i { t i with ents := l } k).kind = (t k).kind := fun k => upd_kind t i k _ rfl
 have hb : ∀ g, g < W.heap.size → g ≠ mb i → W'.heap[g]? = W.heap[g]? := fun g h1 h2 => hg.block g h1 (fun e => h2 (by cases e; rfl))
 refine ⟨?_, fun k hk => ?_, fun k hk => ?_, fun a b ha hb e => ?_, fun a b ha hb e => ?_⟩
 ·refine (h.row.of_block (hb A h.ltA (h.mbA hi).symm)).congr fun k _ => ?_
  unfold ptrV
  rw [e1 k]
 ·rw [e1] at hk
  refine ((h.node k hk).of_block (hb _ (h.ltN hk) (h.nbmb hk hi))).congr fun m hm => ?_
  by_cases e : k = i
  ·subst e
   rw [upd_same]
   match m, hm with
   | 0, _ | 1, _ | 2, _ | 3, _ | 4, _ | 5, _ | 6, _ | 7, _ | 8, _ | 9, _ => rfl
  ·rw [upd_other _ _ e]
 ·rw [e2] at hk
  by_cases e : k = i
  ·subst e
   rw [upd_same]; exact hm
  ·rw [upd_other _ _ e]
   exact (h.maps k hk).of_block (hb _ (h.ltM hk) (fun e3 => e (h.injM _ _ hk hi e3)))
 ·rw [e1] at ha hb
  exact h.inj a b ha hb e
 ·rw [e2] at ha hb
  exact h.injM a b ha hb e
end
section
open Go.RowKit Ino Go.Maps
variable {A : Nat} {nb mb : Nat → Nat} {t : T} {lk : Nat → Nat}
def getV (t : T) (nb : Nat → Nat) (i : Int) : Value := if isI t i then .pointer (some ⟨nb i.toNat, 0, none⟩) else .pointer none
theorem getV_nat {t : T} {nb : Nat → Nat} {k : Nat} (h : isI t (k : Int) = true) : getV t nb k = .pointer (some ⟨nb k, 0, none⟩) := by
 unfold getV
 rw [h, if_pos rfl, Int.toNat_natCast]
theorem getV_none {t : T} {nb : Nat → Nat} {i : Int} (h : isI t i = false) : getV t nb i = .pointer none := by
 unfold getV
 rw [h]; rfl
theorem ret_val {a b : Value} (h : a = b) : Ending.returned a = .returned b := by rw [h]
set_option maxHeartbeats 1000000 in
theorem get_any (i : Int) (w : World) (h : PT w A nb mb t lk) :
 Calls Tryz.prog 56 #[.pointer (some ⟨A, 0, none⟩), .int .i64 i] w fun e w' => e = .returned (getV t nb i) ∧ w = w' := by
 by_cases h1 : 1 ≤ i
 ·by_cases h2 : i ≤ 200
  ·obtain ⟨k, rfl⟩ : ∃ k : Nat, i = (k : Int) := ⟨i.toNat, by omega⟩
   have c0 := h.get (i := k) (by omega)
   have Hr := hid (show getV t nb k = ptrV (t k) (nb k) by
    unfold getV ptrV isI; rw [decide_eq_true ⟨h1, h2⟩, Int.toNat_natCast]; rfl)
   clear h
   generalize ptrV (t k) (nb k) = v at c0 Hr
   go_enter Tryz.func56, Tryz.ntmps56
   go_wp2
   go_ret
   exact ⟨ret_val Hr.out.symm, rfl⟩
  ·have Hr := hid (show getV t nb i = .pointer none from getV_none (by unfold isI; rw [decide_eq_false (by omega)]; rfl))
   clear h
   go_enter Tryz.func56, Tryz.ntmps56
   go_wp2
   go_ret
   exact ⟨ret_val Hr.out.symm, rfl⟩
 ·have Hr := hid (show getV t nb i = .pointer none from getV_none (by unfold isI; rw [decide_eq_false (by omega)]; rfl))
  clear h
  go_enter Tryz.func56, Tryz.ntmps56
  go_wp2
  go_ret
  exact ⟨ret_val Hr.out.symm, rfl⟩
theorem isDir_at (w : World) (g : Nat) (k : Int) (hc : w.cell? ⟨g, 0, none⟩ = some (.int .i64 k)) :
 Calls Tryz.prog 57 #[.pointer (some ⟨g, 0, none⟩)] w fun e w' => e = .returned (.bool (decide (k = 1))) ∧ w = w' := by
 go_enter Tryz.func57, Tryz.ntmps57
 go_wp2
 go_ret
 exact ⟨ret_bool (by try rfl), rfl⟩
theorem isDir_any {i : Nat} (w : World) (h : PT w A nb mb t lk) (hi : (t i).is = true) :
 Calls Tryz.prog 57 #[.pointer (some ⟨nb i, 0, none⟩)] w fun e w' => e = .returned (.bool (decide ((t i).kind = 1))) ∧ w = w' := isDir_at w _ _ (h.cells hi).1
theorem has_any {i : Nat} (s : ByteArray) (w : World) (h : PT w A nb mb t lk) (hi : (t i).is = true) (hk : (t i).kind = 1) (hs : s.size ≤ maxLen) :
 Calls Tryz.prog 113 #[.pointer (some ⟨nb i, 0, none⟩), .string s] w fun e w' => e = .returned (.bool (findE (t i).ents s.data.toList).isSome) ∧ w = w' := by
 obtain ⟨-, -, -, -, -, -, -, c7, -⟩ := h.cells hi
 have hl := (h.maps i hk).look_ok hs
 unfold mapV at c7
 rw [if_pos hk] at c7
 generalize (findE (t i).ents s.data.toList).isSome = b at hl ⊢
 generalize ((((findE (t i).ents s.data.toList).getD 0 : Nat) : Int)) = z at hl
 clear h
 go_enter Tryz.func113, Tryz.ntmps113
 go_wp2
 go_ret
 exact ⟨rfl, rfl⟩
theorem isFilled_any {i : Nat} (w : World) (h : PT w A nb mb t lk) (hs : Sd t) (hi : (t i).is = true) :
 Calls Tryz.prog 114 #[.pointer (some ⟨A, 0, none⟩), .int .i64 i] w fun e w' => e = .returned (.bool (decide ((t i).ents ≠ []))) ∧ w = w' := by
 have hr := hs.range i hi
 have c0 := h.get (i := i) (by omega)
 unfold ptrV at c0
 rw [hi, if_pos rfl] at c0
 obtain ⟨-, -, -, -, -, -, -, c7, -⟩ := h.cells hi
 unfold mapV at c7
 by_cases hk : (t i).kind = 1
 ·rw [if_pos hk] at c7
  have hl := (h.maps i hk).len 3
  have hlen := hs.len i
  have Hr := hid (show decide ((t i).ents ≠ []) = decide (0 < (t i).ents.length) by
   cases (t i).ents <;> simp)
  clear h hi hk hs
  generalize (t i).ents.length = n at hl hlen Hr
  go_enter Tryz.func114, Tryz.ntmps114
  go_wp2
  go_ret
  exact ⟨ret_bool (by rw [Hr.out]; try simp), rfl⟩
 ·rw [if_neg hk] at c7
  have hl := Maps.len_nil (P := Tryz.prog) (w := w) undMap 3
  have Hr := hid (show decide ((t i).ents ≠ []) = false by
   cases he : (t i).ents with
   | nil => rfl
   | cons a l => exact absurd (hs.dirs i (by rw [he]; simp)) hk)
  clear h hi hk hs
  go_enter Tryz.func114, Tryz.ntmps114
  go_wp2
  go_ret
  exact ⟨ret_bool (by rw [Hr.out]), rfl⟩
theorem isKind_any (k : Int) (w : World) : Calls Tryz.prog 135 #[.int .i64 k] w fun e w' => e = .returned (.bool (decide (k = 0 ∨ k = 1 ∨ k = 2))) ∧ w = w' := by
 by_cases h0 : k = 0
 ·subst h0
  go_enter Tryz.func135, Tryz.ntmps135
  go_wp2
  go_ret
  exact ⟨rfl, rfl⟩
 ·by_cases h1 : k = 1
  ·subst h1
   go_enter Tryz.func135, Tryz.ntmps135
   go_wp2
   go_ret
   exact ⟨rfl, rfl⟩
  ·by_cases h2 : k = 2
   ·subst h2
    go_enter Tryz.func135, Tryz.ntmps135
    go_wp2
    go_ret
    exact ⟨rfl, rfl⟩
   ·go_enter Tryz.func135, Tryz.ntmps135
    go_wp2
    go_ret
    exact ⟨ret_bool (by simp [h0, h1, h2]), rfl⟩
theorem isTty_any (k : Int) (w : World) : Calls Tryz.prog 136 #[.int .i64 k] w fun e w' => e = .returned (.bool (decide (0 ≤ k ∧ k < 4))) ∧ w = w' := by
 by_cases h0 : 0 ≤ k
 ·go_enter Tryz.func136, Tryz.ntmps136
  go_wp2
  go_ret
  exact ⟨ret_bool (by simp; try omega), rfl⟩
 ·go_enter Tryz.func136, Tryz.ntmps136
  go_wp2
  go_ret
  exact ⟨ret_bool (by simp; try omega), rfl⟩
theorem isID_any (k : Int) (w : World) : Calls Tryz.prog 80 #[.int .i64 k] w fun e w' => e = .returned (.bool (rId k)) ∧ w = w' := by
 by_cases h0 : 0 ≤ k
 ·go_enter Tryz.func80, Tryz.ntmps80
  go_wp2
  go_ret
  exact ⟨ret_bool (by simp [rId]; try omega), rfl⟩
 ·go_enter Tryz.func80, Tryz.ntmps80
  go_wp2
  go_ret
  exact ⟨ret_bool (by simp [rId]; try omega), rfl⟩
end
section
open Go.RowKit Ino Go.Maps
variable {A : Nat} {nb mb : Nat → Nat} {t : T} {lk : Nat → Nat}
def wfI (m : Int) : Prop := -9223372036854775808 ≤ m ∧ m ≤ 9223372036854775807
theorem wrap_zero (n : Nat) (h : n < 18446744073709551616) : IntKind.i64.wrap (n : Int) = 0 ↔ n = 0 := by
 rw [IntKind.wrap_i64]; omega
theorem toNat_ofInt (m : Int) : (BitVec.ofInt 64 m).toNat = (m % 18446744073709551616).toNat := by
 rw [BitVec.toNat_ofInt]; rfl
theorem compl_and (u : Nat) (h : u < 18446744073709551616) (hz : u &&& 18446744073709548544 = 0) : u &&& 3071 = u := by
 have e : u &&& 18446744073709551615 = u := by
  have := Nat.and_two_pow_sub_one_eq_mod u 64
  rw [Nat.mod_eq_of_lt h] at this
  exact this
 have e2 : (18446744073709551615 : Nat) = 18446744073709548544 ||| 3071 := by decide
 rw [e2, Nat.and_or_distrib_left, hz, Nat.zero_or] at e
 exact e
theorem andNot_pos (m : Int) (hm : wfI m) (h : (bits .andNot .i64 m 3071 == 0) = true) : 0 ≤ m := by
 have hu : (m % 18446744073709551616).toNat < 18446744073709551616 := by omega
 have hle : (m % 18446744073709551616).toNat &&& 18446744073709548544 ≤ (m % 18446744073709551616).toNat := Nat.and_le_left
 rw [beq_iff_eq] at h
 have h0 : (m % 18446744073709551616).toNat &&& 18446744073709548544 = 0 := by
  have h2 : IntKind.i64.wrap ((BitVec.ofInt 64 m &&& ~~~ BitVec.ofInt 64 3071).toNat : Int) = 0 := h
  rw [BitVec.toNat_and, toNat_ofInt] at h2
  exact (wrap_zero _ (by exact Nat.lt_of_le_of_lt hle hu)).1 h2
 have h1 := compl_and _ hu h0
 have h3 : (m % 18446744073709551616).toNat &&& 3071 ≤ 3071 := Nat.and_le_right
 rw [h1] at h3
 unfold wfI at hm
 omega
theorem rMode_eq (m : Int) (hm : wfI m) : (bits .andNot .i64 m 3071 == 0) = rMode m := by
 unfold rMode
 cases hb : (bits .andNot .i64 m 3071 == 0)
 ·rw [Bool.and_false]
 ·rw [decide_eq_true (andNot_pos m hm hb)]; rfl
theorem pright_any (m : Int) (hm : wfI m) (w : World) :
 Calls Tryz.prog 79 #[.int .i64 m] w fun e w' => e = .returned (.bool (rMode m)) ∧ w = w' := by
 have Hr := hid (rMode_eq m hm)
 go_enter Tryz.func79, Tryz.ntmps79
 go_wp2
 go_ret
 exact ⟨ret_bool Hr.out, rfl⟩
def rOk (m o g : Int) : Bool := rMode m && (rId o && rId g)
theorem valid_any (m o g : Int) (hm : wfI m) (w : World) :
 Calls Tryz.prog 32 #[.agg #[.int .i64 m, .int .i64 o, .int .i64 g]] w fun e w' => e = .returned (.bool (rOk m o g)) ∧ Below w.heap.size w w' := by
 have hR := fun w => pright_any m hm w
 have HR := hid hR
 have Hr := hid (show rOk m o g = (rMode m && (rId o && rId g)) from rfl)
 generalize rOk m o g = r at Hr ⊢
 clear hR
 cases h1 : rMode m <;> cases h2 : rId o <;> cases h3 : rId g <;>
 ·have hI := fun (k : Int) (w : World) => isID_any k w
  rw [h1] at HR Hr
  have h2' := isID_any o
  have h3' := isID_any g
  rw [h2] at h2' Hr
  rw [h3] at h3' Hr
  clear h1 h2 h3 hI
  have H2 := hid h2'
  have H3 := hid h3'
  clear h2' h3'
  go_enter Tryz.func32, Tryz.ntmps32
  go_wp2_with (first
   | (go_at_call 79; refine (HR.out _).mono ?_; rintro e w' ⟨rfl, rfl⟩)
   | (go_at_call 80; (with_reducible refine (H2.out _).mono ?_); rintro e w' ⟨rfl, rfl⟩)
   | (go_at_call 80; refine (H3.out _).mono ?_; rintro e w' ⟨rfl, rfl⟩))
  go_ret
  exact ⟨ret_bool (by rw [Hr.out]; rfl), (Below.refl _ _).alloc (Nat.le_refl _) _⟩
end
end Go.Proofs.YtlpececggkdhmaaGreat
