import Derived.Deep.RegionHeld3
import Derived.StillTail
import Derived.Test.YtlpececggkdhmaaGreatM5
open Go.Lib (hid)
open List renaming setIfInBounds_toArray → jA, set_cons_zero → jB, set_cons_succ → jC, getElem?_toArray → jD, getElem?_cons_succ → jE, getElem?_cons_zero → jF
set_option linter.unusedVariables false
set_option linter.unusedSimpArgs false
namespace Go.Proofs.YtlpececggkdhmaaGreat
section
open Go
section
variable {P : Program} {ops : Array Oper} {Q : Exit → Act → World → Prop} {md : Region.Mode} {S : World → Prop} {n : Nat}
def anyU (P : Program) (md : Region.Mode) (ops : Array Oper) (Q : Exit → Act → World → Prop) (S : World → Prop) (n : Nat) : Nat → Array Bool → Act → World → Prop
 | 0, listed, a, w => Region.ready md ops listed = [] ∧ Q .normal a w
 | fuel + 1, listed, a, w =>
  (Region.ready md ops listed = [] → Q .normal a w) ∧
  ∀ i ∈ Region.ready md ops listed, wpOp P ops Q i (fun a' w' => (i ≠ n → S w') ∧ anyU P md ops Q S n fuel (listed.setIfInBounds i true) a' w') a w
theorem any_of_U : ∀ (fuel : Nat) (listed : Array Bool) (a : Act) (w : World), anyU P md ops Q S n fuel listed a w → wpAny P md ops Q fuel listed a w
 | 0, _, _, _, h => h
 | fuel + 1, _, _, _, h => ⟨h.1, fun i hi => wpOp_mono (fun a' w' h' => any_of_U fuel _ a' w' h'.2) (h.2 i hi)⟩
theorem not_n {i j : Nat} {listed : Array Bool} (hw : Region.waitsFor md ops n i = true) (hr : i ∈ Region.ready md ops listed) (hj : j ∈ Region.ready md ops listed) : j ≠ n := by
 rintro rfl
 obtain ⟨_, oj, hoj, hall⟩ := mem_ready.1 hj
 obtain ⟨o', ho', e, he, hb, hon⟩ := Region.waitsFor_spec hw
 obtain rfl : o' = oj := Option.some.inj (ho'.symm.trans hoj)
 have h2 := hall e he hb
 rw [hon, getD_both (mem_ready.1 hr).1] at h2
 cases h2
theorem anyU_first {i : Nat} {oi : Oper} {v : Value} (hi : ops[i]? = some oi) (hsel : ∀ (j : Nat) (o : Oper) cs b, ops[j]? = some o → o.op ≠ .select cs b)
 (hn : Region.waitsFor md ops n i = true) (hin : i ≠ n) (hQ : ∀ c a w, Q (.panic c) (a.put oi.dst v) w → Q (.panic c) a w) :
 ∀ (fuel : Nat) (listed : Array Bool) (a : Act) (w : World),
  (∀ j oj, ops[j]? = some oj → j ≠ i → listed.getD j true = false → (∀ e ∈ oj.after, Region.binds md e = true → e.on ≠ i) → oi.apart ops oj = true) →
  i ∈ Region.ready md ops listed → YieldsIf P ops S oi v a → S w →
  anyU P md ops Q S n fuel (listed.setIfInBounds i true) (a.put oi.dst v) w → anyU P md ops Q S n (fuel + 1) listed a w := by
 intro fuel
 induction fuel with
 | zero =>
  intro listed a w _ hr hy hS H
  refine ⟨fun h => (by rw [h] at hr; cases hr), fun j hj => ?_⟩
  by_cases hji : j = i
  ·subst hji; exact hy.wpOp hi hS ⟨fun _ => hS, H⟩
  ·have := ready_mono hj hji
   rw [H.1] at this
   cases this
 | succ fuel ih =>
  intro listed a w hfree hr hy hS H
  refine ⟨fun h => (by rw [h] at hr; cases hr), fun j hj => ?_⟩
  by_cases hji : j = i
  ·subst hji; exact hy.wpOp hi hS ⟨fun _ => hS, H⟩
  have hjn := not_n hn hr hj
  have h1 := H.2 j (ready_mono hj hji)
  obtain ⟨hjun, oj, hoj, hall⟩ := mem_ready.1 hj
  have hun := (mem_ready.1 hr).1
  have hnot : ∀ e ∈ oj.after, Region.binds md e = true → e.on ≠ i := fun e he hb heq => by
   have h1 := hall e he hb
   rw [heq, getD_both hun] at h1
   cases h1
  have h2 := wpOp_putIf hoj (hfree j oj hoj hji hjun hnot) (fun cs b => hsel i oi cs b hi) (fun cs b => hsel j oj cs b hoj) hQ hy h1
  refine wpOp_mono (fun a' w' h3 => ⟨h3.2.1, ih (listed.setIfInBounds j true) a' w' ?_ (ready_mono hr (Ne.symm hji)) h3.1 (h3.2.1 hjn) ?_⟩) h2
  ·intro k ok hk hki hun' hno
   refine hfree k ok hk hki ?_ hno
   by_cases hjk : j = k
   ·subst hjk; exact hjun
   ·rw [getD_set_ne true hjk] at hun'; exact hun'
  ·rw [Array.setIfInBounds_comm _ _ hji]
   exact h3.2.2
theorem takeU (i : Nat) {oi : Oper} {v : Value} {fuel : Nat} {listed : Array Bool} {a : Act} {w : World} (hi : ops[i]? = some oi)
 (hB : (Region.noSelect ops && Region.free md ops listed i && (Region.ready md ops listed).contains i && Region.waitsFor md ops n i && i != n) = true)
 (hQ : ∀ c a w, Q (.panic c) (a.put oi.dst v) w → Q (.panic c) a w) (hy : YieldsIf P ops S oi v a) (hS : S w)
 (h : anyU P md ops Q S n fuel (listed.setIfInBounds i true) (a.put oi.dst v) w) : anyU P md ops Q S n (fuel + 1) listed a w := by
 simp only [Bool.and_eq_true, bne_iff_ne] at hB
 obtain ⟨⟨⟨⟨hs, hf⟩, hr⟩, hw⟩, hin⟩ := hB
 exact anyU_first hi (Region.noSelect_spec hs) hw hin hQ fuel listed a w (Region.free_spec hi hf) (by simpa using hr) hy hS h
def EachU (P : Program) (md : Region.Mode) (ops : Array Oper) (Q : Exit → Act → World → Prop) (S : World → Prop) (n fuel : Nat) (listed : Array Bool) (a : Act) (w : World) (rs : List Nat) : Prop :=
 ∀ i ∈ rs, wpOp P ops Q i (fun a' w' => (i ≠ n → S w') ∧ anyU P md ops Q S n fuel (listed.setIfInBounds i true) a' w') a w
theorem EachU.nil {fuel : Nat} {listed : Array Bool} {a : Act} {w : World} : EachU P md ops Q S n fuel listed a w [] := fun _ h => by cases h
theorem EachU.cons {fuel : Nat} {listed : Array Bool} {a : Act} {w : World} {i : Nat} {o : Oper} {rs : List Nat} (ho : ops[i]? = some o)
 (h : ∀ K' : Act → World → Prop, Shut (∀ a w, (i ≠ n → S w) → ((i ≠ n → S w) → anyU P md ops Q S n fuel (listed.setIfInBounds i true) a w) → K' a w) → if Region.wanted o (yielded ops a.tmps) = true then Oper.wp P o a w K' Q else K' (a.put o.dst undef) w)
 (hs : EachU P md ops Q S n fuel listed a w rs) : EachU P md ops Q S n fuel listed a w (i :: rs) := fun j hj => by
 rcases List.mem_cons.1 hj with rfl | hj
 ·exact wpOp_step ho (fun K' hK => h K' (fun a w hS hW => hK a w ⟨hS, hW hS⟩))
 ·exact hs j hj
theorem readyU (rs : List Nat) {fuel : Nat} {listed : Array Bool} {a : Act} {w : World} (hr : Region.ready md ops listed = rs) (hne : rs ≠ [])
 (h : EachU P md ops Q S n fuel listed a w rs) : anyU P md ops Q S n (fuel + 1) listed a w := ⟨fun h0 => absurd (hr ▸ h0) hne, hr ▸ h⟩
theorem doneU {listed : Array Bool} {a : Act} {w : World} (hr : Region.ready md ops listed = []) (h : Q .normal a w) :
 ∀ fuel, anyU P md ops Q S n fuel listed a w
 | 0 => ⟨hr, h⟩
 | _ + 1 => ⟨fun _ => h, by rw [hr]; simp⟩
theorem regionU (S : World → Prop) (n : Nat) {id : Nat} {a : Act} {w : World} (hm : P.follows .mixedOrders = true) (hS : S w.drew)
 (h : S w.drew → anyU P .any ops Q S n ops.size (Array.replicate ops.size false) a w.drew) : (Code.region id ops true).wp P Q a w :=
 wp_region_any hm (any_of_U _ _ _ _ (h hS))
end
end
section
open Go.RowKit Ino
attribute [local go_sem ↓] Go.wp_at_zero Go.wp_at_succ
theorem str_back (s : ByteArray) : (⟨s.data.toList.toArray⟩ : ByteArray) = s := by
 obtain ⟨⟨l⟩⟩ := s
 rfl
theorem News.drew {W : World} {p : Option Addr} {m : Nat} {news : List Value} (h : News W p m news) : News W.drew p m news := h
theorem news_one (W : World) (s : ByteArray) (x : Int) : News (W.alloc (.cells #[.string s, .int .i64 x] 143)) (some ⟨W.heap.size, 0, none⟩) 1 [.string s, .int .i64 x] := by
 refine ⟨rfl, fun u hu => ?_, fun _ => ⟨_, 0, rfl, fun j u hu => ?_⟩⟩
 ·simp at hu; rcases hu with rfl | rfl <;> rfl
 ·rw [Nat.zero_add, cell_of_row _ W.heap.size j _ _ (0, 0) (heap_alloc_new W _)]
  simpa using hu
theorem news_one2 (W : World) (o : Obj) (s : ByteArray) (x : Int) : News ((W.alloc o).alloc (.cells #[.string s, .int .i64 x] 143)) (some ⟨W.heap.size + 1, 0, none⟩) 1 [.string s, .int .i64 x] := by
 have := news_one (W.alloc o) s x
 rw [show (W.alloc o).heap.size = W.heap.size + 1 by simp] at this
 exact this
theorem made2 (W : World) (o : Obj) : ((W.alloc o).alloc (.cells #[] 143)).ownsRow W.heap.size 143 2 (.slice (some ⟨W.heap.size + 1, 0, none⟩) 0 0) 0 [] := by
 have := World.ownsRow_made (base := W.heap.size) (e := 143) (size := 2) (W.alloc o) #[] 0 (by simp) (by decide) rfl
 rw [World.size_alloc] at this
 exact this
theorem pushed {W w5 : World} {A B d g5 cap5 : Nat} {own : Nat → Prop} {t : T} {l : List (Bs × Nat)} {s : ByteArray} {x : Nat} (H : RT W A B own t) (hd : d ≤ 200) (hF5 : Fr (fun _ => False) W w5)
 (hown5 : w5.ownsRow W.heap.size 143 2 (.slice (some ⟨g5, 0, none⟩) (l.length + 1) cap5) (l.length + 1) (entC l ++ [.string s, .int .i64 x])) :
 Rt W A B own (setEnts t d (l ++ [(s.data.toList, x)])) (w5.setCell ⟨B, d * 10 + 9, none⟩ (.slice (some ⟨g5, 0, none⟩) (l.length + 1) cap5)) := by
 have hlt := H.lt
 have hb5 := (hown5.lt g5 rfl).1
 have hlen : (l ++ [(s.data.toList, x)]).length = l.length + 1 := by simp
 have hc : entC l ++ [.string s, .int .i64 x] = entC (l ++ [(s.data.toList, x)]) := by
  rw [entC_append]
  show _ = entC l ++ [Value.string ⟨s.data.toList.toArray⟩, _]
  rw [str_back]
 rw [hc, ← hlen] at hown5
 rw [← hlen]
 have hE : EntsAt w5 A B (fun x => own x ∨ x = g5) _ (l ++ [(s.data.toList, x)]) := EntsAt.of_own hown5 (by omega) (by omega) (.inr rfl)
 refine ⟨fun x => own x ∨ x = g5, ((H.fr hF5 fun _ _ _ => id).mono fun _ => .inl).setE d hd _ _ hE, fun _ => .inl, fun x hx => ?_, (hF5.mono fun _ _ h => h.elim).setB _ _⟩
 rcases hx with hx | hx
 ·exact .inl hx
 ·exact .inr (by omega)
open Classical in
theorem enterP_at {t : T} {d x : Nat} {n : Bs} (h1 : isI t (d : Int) = true) (h2 : isI t (x : Int) = true) : enterP t (d : Int) n (x : Int) =
 if (t d).kind = 1 then
  if nameOk n = true then
   if (findE (t d).ents n).isSome = true then (t, 5)
   else if (x : Int) = 1 ∨ ((t x).kind = 1 ∧ 0 < links t x) ∨ 8 ≤ links t x then (t, 12)
   else if 40 ≤ (t d).ents.length then (t, 9)
   else if (t x).kind = 1 ∧ Within t d x then (t, 8)
   else (add t d n x, 0)
  else (t, 1)
 else (t, 6) := by
 unfold enterP
 rw [if_pos ⟨h1, h2⟩]
 simp only [Int.toNat_natCast]
theorem no12_of {a b c : Prop} (h1 : ¬ a) (h2 : ¬ b) (h3 : ¬ c) : ¬ (a ∨ b ∨ c) := by
 rintro (h | h | h)
 ·exact h1 h
 ·exact h2 h
 ·exact h3 h
theorem add_comm' (t : T) (d : Nat) (n : Bs) (x : Nat) : setEnts (setPar t x d) d ((t d).ents ++ [(n, x)]) = add t d n x := by
 funext j
 unfold add setEnts
 by_cases hj : j = d
 ·subst hj
  rw [upd_same]
  unfold setPar
  by_cases e : j = x ∧ (t j).kind = 1
  ·rw [if_pos e, if_pos (by rw [upd_same]; exact e), upd_same]
  ·rw [if_neg e, if_neg (by rw [upd_same]; exact e), upd_same]
 ·rw [upd_other _ _ hj]
  unfold setPar
  rw [upd_other _ _ hj]
theorem Rt.refl {W : World} {A B : Nat} {own : Nat → Prop} {t : T} (h : RT W A B own t) : Rt W A B own t W := ⟨own, h, fun _ => id, fun _ => .inl, Fr.refl _ _⟩
set_option maxHeartbeats 4000000 in
set_option maxRecDepth 100000 in
theorem enter_any {A B : Nat} {own : Nat → Prop} {t : T} (dir ino : Int) (s : ByteArray) (w : World) (h : RT w A B own t) (hs : Sd t) (hsz : s.size ≤ maxLen) :
 Calls Tryz.prog 92 #[.pointer (some ⟨A, 0, none⟩), .int .i64 dir, .string s, .int .i64 ino] w fun e w' => e = .returned (.int .i64 (enterP t dir s.data.toList ino).2) ∧ Rt w A B own (enterP t dir s.data.toList ino).1 w' := by
 have htop := h.top
 have hi1 := fun W : World => fun hW : RT W A B own t => is_any dir W hW
 have hc1 := is_any dir w h
 have hc2 := is_any ino w h
 have H := hid h
 obtain ⟨b1, e1⟩ : ∃ b, isI t dir = b := ⟨_, rfl⟩
 obtain ⟨b2, e2⟩ : ∃ b, isI t ino = b := ⟨_, rfl⟩
 rw [e1] at hc1
 rw [e2] at hc2
 have Hi1 := hid (fun _ : Unit => hc1)
 have Hi2 := hid (fun _ : Unit => hc2)
 clear hi1 hc1 hc2
 cases b1
 ·have Hr := hid (show enterP t dir s.data.toList ino = (t, 3) by unfold enterP; rw [if_neg (by rw [e1]; rintro ⟨h, _⟩; cases h)])
  clear h e1 e2 hs
  cases b2
  all_goals
   go_enter Tryz.func92, Tryz.ntmps92
   go_wp2_with (first | (go_at_call 99; (with_reducible refine (Hi1.out ()).mono ?_); rintro e w' ⟨rfl, rfl⟩) | (go_at_call 99; (with_reducible refine (Hi2.out ()).mono ?_); rintro e w' ⟨rfl, rfl⟩))
   go_ret
   exact ⟨ret_int (by rw [Hr.out]; rfl), by rw [Hr.out]; exact Rt.refl H.out⟩
 cases b2
 ·have Hr := hid (show enterP t dir s.data.toList ino = (t, 3) by unfold enterP; rw [if_neg (by rw [e2]; rintro ⟨_, h⟩; cases h)])
  clear h e1 e2 hs
  go_enter Tryz.func92, Tryz.ntmps92
  go_wp2_with (first | (go_at_call 99; (with_reducible refine (Hi1.out ()).mono ?_); rintro e w' ⟨rfl, rfl⟩) | (go_at_call 99; (with_reducible refine (Hi2.out ()).mono ?_); rintro e w' ⟨rfl, rfl⟩))
  go_ret
  exact ⟨ret_int (by rw [Hr.out]; rfl), by rw [Hr.out]; exact Rt.refl H.out⟩
 obtain ⟨d, rfl, hd1, hd2, hdi⟩ := isI_nat e1
 obtain ⟨x, rfl, hx1, hx2, hxi⟩ := isI_nat e2
 have Hre := hid (enterP_at (n := s.data.toList) e1 e2)
 obtain ⟨p, cap, -, c1, -, -, -, -, -, -, -, c9, hl1, hl2, he⟩ := h.cells d hd2
 obtain ⟨px, capx, -, k1, -, -, -, -, -, k7, -⟩ := h.cells x hx2
 have hfz := h.frozen (d * 10 + 9)
 have hfx := h.frozen (x * 10 + 7)
 have Hnm := hid (name_any s hsz w)
 have Hat := hid (at_any d s w h hd2 (hs.len d))
 have Hlk := hid (links_any x w h hs)
 have hlen40 := hs.len d
 clear e1 e2
 cases kq : ((t d).kind == 1)
 ·have kq' : ((t d).kind != 1) = true := by rw [bne, kq]; rfl
  have Hr := hid (show enterP t (d : Int) s.data.toList (x : Int) = (t, 6) by rw [Hre.out, if_neg (ne_of_beq_false kq)])
  go_enter Tryz.func92, Tryz.ntmps92
  go_wp2_with (first | (go_at_call 99; (with_reducible refine (Hi1.out ()).mono ?_); rintro e w' ⟨rfl, rfl⟩) | (go_at_call 99; (with_reducible refine (Hi2.out ()).mono ?_); rintro e w' ⟨rfl, rfl⟩))
  go_ret
  exact ⟨ret_int (by rw [Hr.out]; rfl), by rw [Hr.out]; exact Rt.refl H.out⟩
 have kq' : ((t d).kind != 1) = false := by rw [bne, kq]; rfl
 have kd := eq_of_beq kq
 obtain ⟨bn, hbn⟩ : ∃ b, nameOk s.data.toList = b := ⟨_, rfl⟩
 have hnm := Hnm.out
 rw [hbn] at hnm
 replace Hnm := hid hnm
 have Hbn := hid hbn
 have Kd := hid kd
 clear hnm hbn kd
 cases bn
 ·have Hr := hid (show enterP t (d : Int) s.data.toList (x : Int) = (t, 1) by rw [Hre.out, if_pos Kd.out, Hbn.out, if_neg Bool.false_ne_true])
  go_enter Tryz.func92, Tryz.ntmps92
  go_wp2_with (first | (go_at_call 99; (with_reducible refine (Hi1.out ()).mono ?_); rintro e w' ⟨rfl, rfl⟩) | (go_at_call 99; (with_reducible refine (Hi2.out ()).mono ?_); rintro e w' ⟨rfl, rfl⟩) | (go_at_call 125; refine Hnm.out.mono ?_; rintro e w' ⟨rfl, rfl⟩))
  go_ret
  exact ⟨ret_int (by rw [Hr.out]; rfl), by rw [Hr.out]; exact Rt.refl H.out⟩
 obtain ⟨f1, f2⟩ := atE_find (t d).ents s.data.toList
 have hat := Hat.out
 cases ha : atE (t d).ents s.data.toList with
 | some k =>
  obtain ⟨y, fy, _, _, _⟩ := f2 k ha
  rw [show atI (t d).ents s.data.toList = (k : Int) by unfold atI; rw [ha]] at hat
  replace Hat := hid hat
  clear hat f1 f2 ha
  have Hr := hid (show enterP t (d : Int) s.data.toList (x : Int) = (t, 5) by rw [Hre.out, if_pos Kd.out, Hbn.out, if_pos rfl, fy, if_pos (show (some y).isSome = true from rfl)])
  go_enter Tryz.func92, Tryz.ntmps92
  go_wp2_with (first | (go_at_call 99; (with_reducible refine (Hi1.out ()).mono ?_); rintro e w' ⟨rfl, rfl⟩) | (go_at_call 99; (with_reducible refine (Hi2.out ()).mono ?_); rintro e w' ⟨rfl, rfl⟩) | (go_at_call 125; refine Hnm.out.mono ?_; rintro e w' ⟨rfl, rfl⟩) | (go_at_call 121; refine Hat.out.mono ?_; rintro e w' ⟨rfl, rfl⟩))
  go_ret
  exact ⟨ret_int (by rw [Hr.out]; rfl), by rw [Hr.out]; exact Rt.refl H.out⟩
 | none =>
 have fn := f1.1 ha
 rw [show atI (t d).ents s.data.toList = -1 by unfold atI; rw [ha]] at hat
 replace Hat := hid hat
 have Fn := hid (show ¬ (findE (t d).ents s.data.toList).isSome = true by rw [fn]; simp)
 clear hat ha
 obtain ⟨L, hL⟩ : ∃ L, links t x = L := ⟨_, rfl⟩
 have hlk := Hlk.out
 rw [hL] at hlk
 replace Hlk := hid hlk
 have HL := hid hL
 clear hlk hL
 cases q1 : ((x : Int) == 1)
 rotate_left
 ·have Hr := hid (show enterP t (d : Int) s.data.toList (x : Int) = (t, 12) by rw [Hre.out, if_pos Kd.out, Hbn.out, if_pos rfl, if_neg Fn.out, if_pos (.inl (eq_of_beq q1))])
  go_enter Tryz.func92, Tryz.ntmps92
  go_wp2_with (first | (go_at_call 99; (with_reducible refine (Hi1.out ()).mono ?_); rintro e w' ⟨rfl, rfl⟩) | (go_at_call 99; (with_reducible refine (Hi2.out ()).mono ?_); rintro e w' ⟨rfl, rfl⟩) | (go_at_call 125; refine Hnm.out.mono ?_; rintro e w' ⟨rfl, rfl⟩) | (go_at_call 121; refine Hat.out.mono ?_; rintro e w' ⟨rfl, rfl⟩) | (go_at_call 101; refine Hlk.out.mono ?_; rintro e w' ⟨rfl, rfl⟩))
  go_ret
  exact ⟨ret_int (by rw [Hr.out]; rfl), by rw [Hr.out]; exact Rt.refl H.out⟩
 have Q1 := hid (ne_of_beq_false q1)
 by_cases h8 : 8 ≤ L
 ·cases q2 : ((t x).kind == 1)
  ·have Hr := hid (show enterP t (d : Int) s.data.toList (x : Int) = (t, 12) by rw [Hre.out, if_pos Kd.out, Hbn.out, if_pos rfl, if_neg Fn.out, if_pos (.inr (.inr (by rw [HL.out]; exact h8)))])
   go_enter Tryz.func92, Tryz.ntmps92
   go_wp2_with (first | (go_at_call 99; (with_reducible refine (Hi1.out ()).mono ?_); rintro e w' ⟨rfl, rfl⟩) | (go_at_call 99; (with_reducible refine (Hi2.out ()).mono ?_); rintro e w' ⟨rfl, rfl⟩) | (go_at_call 125; refine Hnm.out.mono ?_; rintro e w' ⟨rfl, rfl⟩) | (go_at_call 121; refine Hat.out.mono ?_; rintro e w' ⟨rfl, rfl⟩) | (go_at_call 101; refine Hlk.out.mono ?_; rintro e w' ⟨rfl, rfl⟩))
   go_ret
   exact ⟨ret_int (by rw [Hr.out]; rfl), by rw [Hr.out]; exact Rt.refl H.out⟩
  ·have Hr := hid (show enterP t (d : Int) s.data.toList (x : Int) = (t, 12) by rw [Hre.out, if_pos Kd.out, Hbn.out, if_pos rfl, if_neg Fn.out, if_pos (.inr (.inr (by rw [HL.out]; exact h8)))])
   go_enter Tryz.func92, Tryz.ntmps92
   go_wp2_with (first | (go_at_call 99; (with_reducible refine (Hi1.out ()).mono ?_); rintro e w' ⟨rfl, rfl⟩) | (go_at_call 99; (with_reducible refine (Hi2.out ()).mono ?_); rintro e w' ⟨rfl, rfl⟩) | (go_at_call 125; refine Hnm.out.mono ?_; rintro e w' ⟨rfl, rfl⟩) | (go_at_call 121; refine Hat.out.mono ?_; rintro e w' ⟨rfl, rfl⟩) | (go_at_call 101; refine Hlk.out.mono ?_; rintro e w' ⟨rfl, rfl⟩))
   go_ret
   exact ⟨ret_int (by rw [Hr.out]; rfl), by rw [Hr.out]; exact Rt.refl H.out⟩
 cases q2 : ((t x).kind == 1)
 ·by_cases h40 : 40 ≤ (t d).ents.length
  ·have Hr := hid (show enterP t (d : Int) s.data.toList (x : Int) = (t, 9) by rw [Hre.out, if_pos Kd.out, Hbn.out, if_pos rfl, if_neg Fn.out, if_neg (no12_of Q1.out (fun h => ne_of_beq_false q2 h.1) (by rw [HL.out]; exact h8)), if_pos h40])
   go_enter Tryz.func92, Tryz.ntmps92
   go_wp2_with (first | (go_at_call 99; (with_reducible refine (Hi1.out ()).mono ?_); rintro e w' ⟨rfl, rfl⟩) | (go_at_call 99; (with_reducible refine (Hi2.out ()).mono ?_); rintro e w' ⟨rfl, rfl⟩) | (go_at_call 125; refine Hnm.out.mono ?_; rintro e w' ⟨rfl, rfl⟩) | (go_at_call 121; refine Hat.out.mono ?_; rintro e w' ⟨rfl, rfl⟩) | (go_at_call 101; refine Hlk.out.mono ?_; rintro e w' ⟨rfl, rfl⟩))
   go_ret
   exact ⟨ret_int (by rw [Hr.out]; rfl), by rw [Hr.out]; exact Rt.refl H.out⟩
  have Hr := hid (show enterP t (d : Int) s.data.toList (x : Int) = (add t d s.data.toList x, 0) by rw [Hre.out, if_pos Kd.out, Hbn.out, if_pos rfl, if_neg Fn.out, if_neg (no12_of Q1.out (fun h => ne_of_beq_false q2 h.1) (by rw [HL.out]; exact h8)), if_neg h40, if_neg (by rintro ⟨e, _⟩; exact ne_of_beq_false q2 e)])
  have Hadd := hid (show setEnts t d ((t d).ents ++ [(s.data.toList, x)]) = add t d s.data.toList x by unfold add; rw [setPar_not]; rw [setEnts_kind]; exact ne_of_beq_false q2)
  have hx2' := hx2
  obtain ⟨hlA, hlB⟩ := h.lt
  have i8 : (0 : Int) ≤ (d : Int) := by omega
  have i9 : (d : Int) < 201 := by omega
  have hne := h.ne
  have N1 := hid (EntsAt.news he)
  unfold maxLen at hl2
  clear he f1 f2
  generalize hll : (t d).ents = l at c9 hl1 N1 hlen40 h40 Hadd
  clear hll
  clear Hbn Kd Fn HL Q1 Hre
  go_enter Tryz.func92, Tryz.ntmps92
  go_wp2_with (first | (go_at_call 99; (with_reducible refine (Hi1.out ()).mono ?_); rintro e w' ⟨rfl, rfl⟩) | (go_at_call 99; (with_reducible refine (Hi2.out ()).mono ?_); rintro e w' ⟨rfl, rfl⟩) | (go_at_call 125; refine Hnm.out.mono ?_; rintro e w' ⟨rfl, rfl⟩) | (go_at_call 121; refine Hat.out.mono ?_; rintro e w' ⟨rfl, rfl⟩) | (go_at_call 101; refine Hlk.out.mono ?_; rintro e w' ⟨rfl, rfl⟩))
  clear Hi1 Hi2 Hnm Hat Hlk c1 k1 k7 hfx hx1 hx2 hxi hdi hd1 kq kq' q1 q2 h8 hs h hx2'
  refine regionU (fun w' => w'.cell? ⟨A, 0, none⟩ = some (.slice (some ⟨B, 0, none⟩) 201 201) ∧ w'.cell? ⟨B, d * 10 + 9, none⟩ = some (.slice p l.length cap)) 22 (by kernel_rfl) (by exact ⟨htop, c9⟩) (fun hHeld => ?_)
  refine takeU (oi := ?oi1) (v := ?v1) 0 ?hi1 (by kernel_rfl) ?hQ1 ?hy1 (by assumption) ?h1
  case hi1 => simp only [jD, jE, jF]; exact rfl
  case hQ1 => exact fun _ _ _ h => h
  case hy1 => (refine Or.inl ⟨by rfl, ?_⟩; intro w' hSw; (try dsimp only at hSw); obtain ⟨hS1, hS2⟩ := hSw; go_simp; (try with_reducible rfl))
  simp only [Act.put, jA, jB, jC]
  refine takeU (oi := ?oi2) (v := ?v2) 1 ?hi2 (by kernel_rfl) ?hQ2 ?hy2 (by assumption) ?h2
  case hi2 => simp only [jD, jE, jF]; exact rfl
  case hQ2 => exact fun _ _ _ h => h
  case hy2 => (refine Or.inl ⟨by rfl, ?_⟩; intro w' hSw; (try dsimp only at hSw); obtain ⟨hS1, hS2⟩ := hSw; go_simp; (try with_reducible rfl))
  simp only [Act.put, jA, jB, jC]
  refine takeU (oi := ?oi3) (v := ?v3) 2 ?hi3 (by kernel_rfl) ?hQ3 ?hy3 (by assumption) ?h3
  case hi3 => simp only [jD, jE, jF]; exact rfl
  case hQ3 => exact fun _ _ _ h => h
  case hy3 => (refine Or.inl ⟨by rfl, ?_⟩; intro w' hSw; (try dsimp only at hSw); obtain ⟨hS1, hS2⟩ := hSw; go_simp; (try with_reducible rfl))
  simp only [Act.put, jA, jB, jC]
  refine takeU (oi := ?oi4) (v := ?v4) 3 ?hi4 (by kernel_rfl) ?hQ4 ?hy4 (by assumption) ?h4
  case hi4 => simp only [jD, jE, jF]; exact rfl
  case hQ4 => exact fun _ _ _ h => h
  case hy4 => (refine Or.inl ⟨by rfl, ?_⟩; intro w' hSw; (try dsimp only at hSw); obtain ⟨hS1, hS2⟩ := hSw; go_simp; (try with_reducible rfl))
  simp only [Act.put, jA, jB, jC]
  refine takeU (oi := ?oi5) (v := ?v5) 4 ?hi5 (by kernel_rfl) ?hQ5 ?hy5 (by assumption) ?h5
  case hi5 => simp only [jD, jE, jF]; exact rfl
  case hQ5 => exact fun _ _ _ h => h
  case hy5 => (refine Or.inl ⟨by rfl, ?_⟩; intro w' hSw; (try dsimp only at hSw); obtain ⟨hS1, hS2⟩ := hSw; go_simp; (try with_reducible rfl))
  simp only [Act.put, jA, jB, jC]
  refine takeU (oi := ?oi6) (v := ?v6) 6 ?hi6 (by kernel_rfl) ?hQ6 ?hy6 (by assumption) ?h6
  case hi6 => simp only [jD, jE, jF]; exact rfl
  case hQ6 => exact fun _ _ _ h => h
  case hy6 => (refine Or.inl ⟨by rfl, ?_⟩; intro w' hSw; (try dsimp only at hSw); obtain ⟨hS1, hS2⟩ := hSw; go_simp; (try with_reducible rfl))
  simp only [Act.put, jA, jB, jC]
  refine takeU (oi := ?oi7) (v := ?v7) 7 ?hi7 (by kernel_rfl) ?hQ7 ?hy7 (by assumption) ?h7
  case hi7 => simp only [jD, jE, jF]; exact rfl
  case hQ7 => exact fun _ _ _ h => h
  case hy7 => (refine Or.inl ⟨by rfl, ?_⟩; intro w' hSw; (try dsimp only at hSw); obtain ⟨hS1, hS2⟩ := hSw; go_simp; (try with_reducible rfl))
  simp only [Act.put, jA, jB, jC]
  refine takeU (oi := ?oi8) (v := ?v8) 8 ?hi8 (by kernel_rfl) ?hQ8 ?hy8 (by assumption) ?h8
  case hi8 => simp only [jD, jE, jF]; exact rfl
  case hQ8 => exact fun _ _ _ h => h
  case hy8 => (refine Or.inl ⟨by rfl, ?_⟩; intro w' hSw; (try dsimp only at hSw); obtain ⟨hS1, hS2⟩ := hSw; go_simp; (try with_reducible rfl))
  simp only [Act.put, jA, jB, jC]
  refine takeU (oi := ?oi9) (v := ?v9) 9 ?hi9 (by kernel_rfl) ?hQ9 ?hy9 (by assumption) ?h9
  case hi9 => simp only [jD, jE, jF]; exact rfl
  case hQ9 => exact fun _ _ _ h => h
  case hy9 => (refine Or.inl ⟨by rfl, ?_⟩; intro w' hSw; (try dsimp only at hSw); obtain ⟨hS1, hS2⟩ := hSw; go_simp; (try with_reducible rfl))
  simp only [Act.put, jA, jB, jC]
  refine takeU (oi := ?oi10) (v := ?v10) 10 ?hi10 (by kernel_rfl) ?hQ10 ?hy10 (by assumption) ?h10
  case hi10 => simp only [jD, jE, jF]; exact rfl
  case hQ10 => exact fun _ _ _ h => h
  case hy10 => (refine Or.inl ⟨by rfl, ?_⟩; intro w' hSw; (try dsimp only at hSw); obtain ⟨hS1, hS2⟩ := hSw; go_simp; (try with_reducible rfl))
  simp only [Act.put, jA, jB, jC]
  refine takeU (oi := ?oi11) (v := ?v11) 11 ?hi11 (by kernel_rfl) ?hQ11 ?hy11 (by assumption) ?h11
  case hi11 => simp only [jD, jE, jF]; exact rfl
  case hQ11 => exact fun _ _ _ h => h
  case hy11 => (refine Or.inl ⟨by rfl, ?_⟩; intro w' hSw; (try dsimp only at hSw); obtain ⟨hS1, hS2⟩ := hSw; go_simp; (try with_reducible rfl))
  simp only [Act.put, jA, jB, jC]
  refine takeU (oi := ?oi12) (v := ?v12) 12 ?hi12 (by kernel_rfl) ?hQ12 ?hy12 (by assumption) ?h12
  case hi12 => simp only [jD, jE, jF]; exact rfl
  case hQ12 => exact fun _ _ _ h => h
  case hy12 => (refine Or.inl ⟨by rfl, ?_⟩; intro w' hSw; (try dsimp only at hSw); obtain ⟨hS1, hS2⟩ := hSw; go_simp; (try with_reducible rfl))
  simp only [Act.put, jA, jB, jC]
  refine takeU (oi := ?oi13) (v := ?v13) 13 ?hi13 (by kernel_rfl) ?hQ13 ?hy13 (by assumption) ?h13
  case hi13 => simp only [jD, jE, jF]; exact rfl
  case hQ13 => exact fun _ _ _ h => h
  case hy13 => (refine Or.inl ⟨by rfl, ?_⟩; intro w' hSw; (try dsimp only at hSw); obtain ⟨hS1, hS2⟩ := hSw; go_simp; (try with_reducible rfl))
  simp only [Act.put, jA, jB, jC]
  refine takeU (oi := ?oi14) (v := ?v14) 15 ?hi14 (by kernel_rfl) ?hQ14 ?hy14 (by assumption) ?h14
  case hi14 => simp only [jD, jE, jF]; exact rfl
  case hQ14 => exact fun _ _ _ h => h
  case hy14 => (refine Or.inl ⟨by rfl, ?_⟩; intro w' hSw; (try dsimp only at hSw); obtain ⟨hS1, hS2⟩ := hSw; go_simp; (try with_reducible rfl))
  simp only [Act.put, jA, jB, jC]
  refine takeU (oi := ?oi15) (v := ?v15) 16 ?hi15 (by kernel_rfl) ?hQ15 ?hy15 (by assumption) ?h15
  case hi15 => simp only [jD, jE, jF]; exact rfl
  case hQ15 => exact fun _ _ _ h => h
  case hy15 => (refine Or.inl ⟨by rfl, ?_⟩; intro w' hSw; (try dsimp only at hSw); obtain ⟨hS1, hS2⟩ := hSw; go_simp; (try with_reducible rfl))
  simp only [Act.put, jA, jB, jC]
  refine takeU (oi := ?oi16) (v := ?v16) 17 ?hi16 (by kernel_rfl) ?hQ16 ?hy16 (by assumption) ?h16
  case hi16 => simp only [jD, jE, jF]; exact rfl
  case hQ16 => exact fun _ _ _ h => h
  case hy16 => (refine Or.inl ⟨by rfl, ?_⟩; intro w' hSw; (try dsimp only at hSw); obtain ⟨hS1, hS2⟩ := hSw; go_simp; (try with_reducible rfl))
  simp only [Act.put, jA, jB, jC]
  refine readyU [5, 18] (by kernel_rfl) (by simp) ?_
  refine EachU.cons (o := ?o17) ?ho17 (fun K hK => ?_) ?_
  case ho17 => simp only [jD, jE, jF]; exact rfl
  ·skip
   go_simp
   refine hK.out _ _ (fun _ => ⟨((Fr.refl (fun _ => False) w).alloc _).cell htop id, ((Fr.refl (fun _ => False) w).alloc _).cell c9 id⟩) (fun hH => ?_)
   replace hHeld := hH (by decide)
   clear hH
   clear hK K
   (try simp only [Act.put, jA, jB, jC])
   refine readyU [14, 18] (by kernel_rfl) (by simp) ?_
   refine EachU.cons (o := ?o18) ?ho18 (fun K hK => ?_) ?_
   case ho18 => simp only [jD, jE, jF]; exact rfl
   ·skip
    refine step_append_any (by rfl) _ _ (by rfl) (by rfl) w.heap.size w.heap.size 0 0 [] (by simp [Act.eval, Act.put]) ((World.ownsRow_made w #[] 0 (Nat.le_refl _) (by decide) rfl).drew) p l.length cap (by simp [Act.eval, Act.put]) (entC l) (N1.out.fr ((Fr.refl (fun _ => False) w).alloc _).drew fun _ _ _ => id) (by decide) (by omega) (by simp; try omega) ?_
    intro g3 cap3 w3 hown3 hgrow3 hat3 hlt3
    simp only [Nat.zero_add, List.nil_append] at hown3 ⊢
    have hF3 : Fr (fun _ => False) w w3 := ((Fr.refl (fun _ => False) w).alloc _).drew.into hgrow3 (by omega)
    have hb3 := (hown3.lt g3 rfl).1
    have ht3 := hF3.cell htop id
    have c93 := hF3.cell c9 id
    have hlA3 := cell_lt ht3
    have hlB3 := cell_lt c93
    refine hK.out _ _ (fun _ => ⟨ht3, c93⟩) (fun hH => ?_)
    replace hHeld := hH (by decide)
    clear hH
    clear hK K
    (try simp only [Act.put, jA, jB, jC])
    refine readyU [18] (by kernel_rfl) (by simp) ?_
    refine EachU.cons (o := ?o19) ?ho19 (fun K hK => ?_) ?_
    case ho19 => simp only [jD, jE, jF]; exact rfl
    rotate_left
    ·exact EachU.nil
    go_simp
    refine hK.out _ _ (fun _ => ⟨(hF3.alloc _).cell htop id, (hF3.alloc _).cell c9 id⟩) (fun hH => ?_)
    replace hHeld := hH (by decide)
    clear hH
    clear hK K
    (try simp only [Act.put, jA, jB, jC])
    refine readyU [19] (by kernel_rfl) (by simp) ?_
    refine EachU.cons (o := ?o20) ?ho20 (fun K hK => ?_) ?_
    case ho20 => simp only [jD, jE, jF]; exact rfl
    rotate_left
    ·exact EachU.nil
    refine step_append_any (by rfl) _ _ (by rfl) (by rfl) w.heap.size g3 l.length cap3 (entC l) (by simp [Act.eval, Act.put]) (hown3.alloc _) (some ⟨w3.heap.size, 0, none⟩) 1 1 (by simp [Act.eval, Act.put]) [.string s, .int .i64 x] (news_one w3 s x) (by omega) (by decide) (by have := hF3.size; simp; omega) ?_
    intro g5 cap5 w5 hown5 hgrow5 hat5 hlt5
    have hF5 : Fr (fun _ => False) w w5 := (hF3.alloc _).into hgrow5 hb3
    have hz5 := hF5.frozen c9 hfz id
    have hc5 := hF5.cell c9 id
    have ht5 := hF5.cell htop id
    refine hK.out _ _ (fun _ => ⟨ht5, hc5⟩) (fun hH => ?_)
    replace hHeld := hH (by decide)
    clear hH
    clear hK K
    (try simp only [Act.put, jA, jB, jC])
    refine readyU [20] (by kernel_rfl) (by simp) ?_
    refine EachU.cons (o := ?o21) ?ho21 (fun K hK => ?_) ?_
    case ho21 => simp only [jD, jE, jF]; exact rfl
    rotate_left
    ·exact EachU.nil
    go_simp
    refine hK.out _ _ (fun _ => ⟨ht5, hc5⟩) (fun hH => ?_)
    replace hHeld := hH (by decide)
    clear hH
    clear hK K
    (try simp only [Act.put, jA, jB, jC])
    refine readyU [21] (by kernel_rfl) (by simp) ?_
    refine EachU.cons (o := ?o22) ?ho22 (fun K hK => ?_) ?_
    case ho22 => simp only [jD, jE, jF]; exact rfl
    rotate_left
    ·exact EachU.nil
    go_simp
    refine hK.out _ _ (fun _ => ⟨ht5, hc5⟩) (fun hH => ?_)
    replace hHeld := hH (by decide)
    clear hH
    clear hK K
    (try simp only [Act.put, jA, jB, jC])
    refine readyU [22] (by kernel_rfl) (by simp) ?_
    refine EachU.cons (o := ?o23) ?ho23 (fun K hK => ?_) ?_
    case ho23 => simp only [jD, jE, jF]; exact rfl
    rotate_left
    ·exact EachU.nil
    go_simp
    refine hK.out _ _ (fun h => absurd rfl h) (fun hHeld => ?_)
    clear hK K
    (try simp only [Act.put, jA, jB, jC])
    refine doneU (by kernel_rfl) ?_ _
    go_wp2
    go_ret
    refine ⟨ret_int (by rw [Hr.out]; rfl), ?_⟩
    rw [Hr.out]
    have hp := pushed (d := d) (x := x) H.out hd2 hF5 hown5
    rw [Hadd.out] at hp
    exact hp
   refine EachU.cons (o := ?o24) ?ho24 (fun K hK => ?_) ?_
   case ho24 => simp only [jD, jE, jF]; exact rfl
   rotate_left
   ·exact EachU.nil
   go_simp
   refine hK.out _ _ (fun _ => ⟨(((Fr.refl (fun _ => False) w).alloc _).alloc _).cell htop id, (((Fr.refl (fun _ => False) w).alloc _).alloc _).cell c9 id⟩) (fun hH => ?_)
   replace hHeld := hH (by decide)
   clear hH
   clear hK K
   (try simp only [Act.put, jA, jB, jC])
   refine readyU [14] (by kernel_rfl) (by simp) ?_
   refine EachU.cons (o := ?o25) ?ho25 (fun K hK => ?_) ?_
   case ho25 => simp only [jD, jE, jF]; exact rfl
   rotate_left
   ·exact EachU.nil
   refine step_append_any (by rfl) _ _ (by rfl) (by rfl) w.heap.size w.heap.size 0 0 [] (by simp [Act.eval, Act.put]) (((World.ownsRow_made w #[] 0 (Nat.le_refl _) (by decide) rfl).alloc _).drew) p l.length cap (by simp [Act.eval, Act.put]) (entC l) (N1.out.fr (((Fr.refl (fun _ => False) w).alloc _).alloc _).drew fun _ _ _ => id) (by decide) (by omega) (by simp; try omega) ?_
   intro g3 cap3 w3 hown3 hgrow3 hat3 hlt3
   simp only [Nat.zero_add, List.nil_append] at hown3 ⊢
   have hF3 : Fr (fun _ => False) w w3 := (((Fr.refl (fun _ => False) w).alloc _).alloc _).drew.into hgrow3 (by omega)
   have hb3 := (hown3.lt g3 rfl).1
   have hN3 : News w3 (some ⟨w.heap.size + 1, 0, none⟩) 1 [.string s, .int .i64 x] := (news_one2 w _ s x).drew.fr (Fr.of_grown hgrow3) (fun g off e => by cases e; simp)
   have ht3 := hF3.cell htop id
   have c93 := hF3.cell c9 id
   have hlA3 := cell_lt ht3
   have hlB3 := cell_lt c93
   refine hK.out _ _ (fun _ => ⟨ht3, c93⟩) (fun hH => ?_)
   replace hHeld := hH (by decide)
   clear hH
   clear hK K
   (try simp only [Act.put, jA, jB, jC])
   refine readyU [19] (by kernel_rfl) (by simp) ?_
   refine EachU.cons (o := ?o26) ?ho26 (fun K hK => ?_) ?_
   case ho26 => simp only [jD, jE, jF]; exact rfl
   rotate_left
   ·exact EachU.nil
   refine step_append_any (by rfl) _ _ (by rfl) (by rfl) w.heap.size g3 l.length cap3 (entC l) (by simp [Act.eval, Act.put]) hown3 _ 1 1 (by simp [Act.eval, Act.put]) [.string s, .int .i64 x] hN3 (by omega) (by decide) hF3.size ?_
   intro g5 cap5 w5 hown5 hgrow5 hat5 hlt5
   have hF5 : Fr (fun _ => False) w w5 := hF3.into hgrow5 hb3
   have hz5 := hF5.frozen c9 hfz id
   have hc5 := hF5.cell c9 id
   have ht5 := hF5.cell htop id
   refine hK.out _ _ (fun _ => ⟨ht5, hc5⟩) (fun hH => ?_)
   replace hHeld := hH (by decide)
   clear hH
   clear hK K
   (try simp only [Act.put, jA, jB, jC])
   refine readyU [20] (by kernel_rfl) (by simp) ?_
   refine EachU.cons (o := ?o27) ?ho27 (fun K hK => ?_) ?_
   case ho27 => simp only [jD, jE, jF]; exact rfl
   rotate_left
   ·exact EachU.nil
   go_simp
   refine hK.out _ _ (fun _ => ⟨ht5, hc5⟩) (fun hH => ?_)
   replace hHeld := hH (by decide)
   clear hH
   clear hK K
   (try simp only [Act.put, jA, jB, jC])
   refine readyU [21] (by kernel_rfl) (by simp) ?_
   refine EachU.cons (o := ?o28) ?ho28 (fun K hK => ?_) ?_
   case ho28 => simp only [jD, jE, jF]; exact rfl
   rotate_left
   ·exact EachU.nil
   go_simp
   refine hK.out _ _ (fun _ => ⟨ht5, hc5⟩) (fun hH => ?_)
   replace hHeld := hH (by decide)
   clear hH
   clear hK K
   (try simp only [Act.put, jA, jB, jC])
   refine readyU [22] (by kernel_rfl) (by simp) ?_
   refine EachU.cons (o := ?o29) ?ho29 (fun K hK => ?_) ?_
   case ho29 => simp only [jD, jE, jF]; exact rfl
   rotate_left
   ·exact EachU.nil
   go_simp
   refine hK.out _ _ (fun h => absurd rfl h) (fun hHeld => ?_)
   clear hK K
   (try simp only [Act.put, jA, jB, jC])
   refine doneU (by kernel_rfl) ?_ _
   go_wp2
   go_ret
   refine ⟨ret_int (by rw [Hr.out]; rfl), ?_⟩
   rw [Hr.out]
   have hp := pushed (d := d) (x := x) H.out hd2 hF5 hown5
   rw [Hadd.out] at hp
   exact hp
  refine EachU.cons (o := ?o30) ?ho30 (fun K hK => ?_) ?_
  case ho30 => simp only [jD, jE, jF]; exact rfl
  rotate_left
  ·exact EachU.nil
  go_simp
  refine hK.out _ _ (fun _ => ⟨((Fr.refl (fun _ => False) w).alloc _).cell htop id, ((Fr.refl (fun _ => False) w).alloc _).cell c9 id⟩) (fun hH => ?_)
  replace hHeld := hH (by decide)
  clear hH
  clear hK K
  (try simp only [Act.put, jA, jB, jC])
  refine readyU [5] (by kernel_rfl) (by simp) ?_
  refine EachU.cons (o := ?o31) ?ho31 (fun K hK => ?_) ?_
  case ho31 => simp only [jD, jE, jF]; exact rfl
  rotate_left
  ·exact EachU.nil
  go_simp
  refine hK.out _ _ (fun _ => ⟨(((Fr.refl (fun _ => False) w).alloc _).alloc _).cell htop id, (((Fr.refl (fun _ => False) w).alloc _).alloc _).cell c9 id⟩) (fun hH => ?_)
  replace hHeld := hH (by decide)
  clear hH
  clear hK K
  (try simp only [Act.put, jA, jB, jC])
  refine readyU [14] (by kernel_rfl) (by simp) ?_
  refine EachU.cons (o := ?o32) ?ho32 (fun K hK => ?_) ?_
  case ho32 => simp only [jD, jE, jF]; exact rfl
  rotate_left
  ·exact EachU.nil
  refine step_append_any (by rfl) _ _ (by rfl) (by rfl) w.heap.size (w.heap.size + 1) 0 0 [] (by simp [Act.eval, Act.put]) ((made2 w _).drew) p l.length cap (by simp [Act.eval, Act.put]) (entC l) (N1.out.fr (((Fr.refl (fun _ => False) w).alloc _).alloc _).drew fun _ _ _ => id) (by decide) (by omega) (by simp; try omega) ?_
  intro g3 cap3 w3 hown3 hgrow3 hat3 hlt3
  simp only [Nat.zero_add, List.nil_append] at hown3 ⊢
  have hF3 : Fr (fun _ => False) w w3 := (((Fr.refl (fun _ => False) w).alloc _).alloc _).drew.into hgrow3 (by omega)
  have hb3 := (hown3.lt g3 rfl).1
  have hN3 : News w3 (some ⟨w.heap.size, 0, none⟩) 1 [.string s, .int .i64 x] := ((news_one w s x).fr ((Fr.refl (fun _ => False) _).alloc _) (fun _ _ _ => id)).drew.fr (Fr.of_grown hgrow3) (fun g off e => by cases e; simp)
  have ht3 := hF3.cell htop id
  have c93 := hF3.cell c9 id
  have hlA3 := cell_lt ht3
  have hlB3 := cell_lt c93
  refine hK.out _ _ (fun _ => ⟨ht3, c93⟩) (fun hH => ?_)
  replace hHeld := hH (by decide)
  clear hH
  clear hK K
  (try simp only [Act.put, jA, jB, jC])
  refine readyU [19] (by kernel_rfl) (by simp) ?_
  refine EachU.cons (o := ?o33) ?ho33 (fun K hK => ?_) ?_
  case ho33 => simp only [jD, jE, jF]; exact rfl
  rotate_left
  ·exact EachU.nil
  refine step_append_any (by rfl) _ _ (by rfl) (by rfl) w.heap.size g3 l.length cap3 (entC l) (by simp [Act.eval, Act.put]) hown3 _ 1 1 (by simp [Act.eval, Act.put]) [.string s, .int .i64 x] hN3 (by omega) (by decide) hF3.size ?_
  intro g5 cap5 w5 hown5 hgrow5 hat5 hlt5
  have hF5 : Fr (fun _ => False) w w5 := hF3.into hgrow5 hb3
  have hz5 := hF5.frozen c9 hfz id
  have hc5 := hF5.cell c9 id
  have ht5 := hF5.cell htop id
  refine hK.out _ _ (fun _ => ⟨ht5, hc5⟩) (fun hH => ?_)
  replace hHeld := hH (by decide)
  clear hH
  clear hK K
  (try simp only [Act.put, jA, jB, jC])
  refine readyU [20] (by kernel_rfl) (by simp) ?_
  refine EachU.cons (o := ?o34) ?ho34 (fun K hK => ?_) ?_
  case ho34 => simp only [jD, jE, jF]; exact rfl
  rotate_left
  ·exact EachU.nil
  go_simp
  refine hK.out _ _ (fun _ => ⟨ht5, hc5⟩) (fun hH => ?_)
  replace hHeld := hH (by decide)
  clear hH
  clear hK K
  (try simp only [Act.put, jA, jB, jC])
  refine readyU [21] (by kernel_rfl) (by simp) ?_
  refine EachU.cons (o := ?o35) ?ho35 (fun K hK => ?_) ?_
  case ho35 => simp only [jD, jE, jF]; exact rfl
  rotate_left
  ·exact EachU.nil
  go_simp
  refine hK.out _ _ (fun _ => ⟨ht5, hc5⟩) (fun hH => ?_)
  replace hHeld := hH (by decide)
  clear hH
  clear hK K
  (try simp only [Act.put, jA, jB, jC])
  refine readyU [22] (by kernel_rfl) (by simp) ?_
  refine EachU.cons (o := ?o36) ?ho36 (fun K hK => ?_) ?_
  case ho36 => simp only [jD, jE, jF]; exact rfl
  rotate_left
  ·exact EachU.nil
  go_simp
  refine hK.out _ _ (fun h => absurd rfl h) (fun hHeld => ?_)
  clear hK K
  (try simp only [Act.put, jA, jB, jC])
  refine doneU (by kernel_rfl) ?_ _
  go_wp2
  go_ret
  refine ⟨ret_int (by rw [Hr.out]; rfl), ?_⟩
  rw [Hr.out]
  have hp := pushed (d := d) (x := x) H.out hd2 hF5 hown5
  rw [Hadd.out] at hp
  exact hp
 ·by_cases h0 : 0 < L
  ·have Hr := hid (show enterP t (d : Int) s.data.toList (x : Int) = (t, 12) by rw [Hre.out, if_pos Kd.out, Hbn.out, if_pos rfl, if_neg Fn.out, if_pos (.inr (.inl ⟨eq_of_beq q2, by rw [HL.out]; exact h0⟩))])
   go_enter Tryz.func92, Tryz.ntmps92
   go_wp2_with (first | (go_at_call 99; (with_reducible refine (Hi1.out ()).mono ?_); rintro e w' ⟨rfl, rfl⟩) | (go_at_call 99; (with_reducible refine (Hi2.out ()).mono ?_); rintro e w' ⟨rfl, rfl⟩) | (go_at_call 125; refine Hnm.out.mono ?_; rintro e w' ⟨rfl, rfl⟩) | (go_at_call 121; refine Hat.out.mono ?_; rintro e w' ⟨rfl, rfl⟩) | (go_at_call 101; refine Hlk.out.mono ?_; rintro e w' ⟨rfl, rfl⟩))
   go_ret
   exact ⟨ret_int (by rw [Hr.out]; rfl), by rw [Hr.out]; exact Rt.refl H.out⟩
  by_cases h40 : 40 ≤ (t d).ents.length
  ·have Hr := hid (show enterP t (d : Int) s.data.toList (x : Int) = (t, 9) by rw [Hre.out, if_pos Kd.out, Hbn.out, if_pos rfl, if_neg Fn.out, if_neg (no12_of Q1.out (fun h => by have := h.2; rw [HL.out] at this; omega) (by rw [HL.out]; exact h8)), if_pos h40])
   go_enter Tryz.func92, Tryz.ntmps92
   go_wp2_with (first | (go_at_call 99; (with_reducible refine (Hi1.out ()).mono ?_); rintro e w' ⟨rfl, rfl⟩) | (go_at_call 99; (with_reducible refine (Hi2.out ()).mono ?_); rintro e w' ⟨rfl, rfl⟩) | (go_at_call 125; refine Hnm.out.mono ?_; rintro e w' ⟨rfl, rfl⟩) | (go_at_call 121; refine Hat.out.mono ?_; rintro e w' ⟨rfl, rfl⟩) | (go_at_call 101; refine Hlk.out.mono ?_; rintro e w' ⟨rfl, rfl⟩))
   go_ret
   exact ⟨ret_int (by rw [Hr.out]; rfl), by rw [Hr.out]; exact Rt.refl H.out⟩
  obtain ⟨bw, hbw⟩ : ∃ b : Bool, b = true ↔ Within t d x := by
   classical exact ⟨decide (Within t d x), by simp⟩
  have Hwi := hid (within_any d x bw w h hs Kd.out hbw)
  have Hbw := hid hbw
  clear hbw
  cases bw
  rotate_left
  ·have Hr := hid (show enterP t (d : Int) s.data.toList (x : Int) = (t, 8) by rw [Hre.out, if_pos Kd.out, Hbn.out, if_pos rfl, if_neg Fn.out, if_neg (no12_of Q1.out (fun h => by have := h.2; rw [HL.out] at this; omega) (by rw [HL.out]; exact h8)), if_neg h40, if_pos ⟨eq_of_beq q2, Hbw.out.1 rfl⟩])
   go_enter Tryz.func92, Tryz.ntmps92
   go_wp2_with (first | (go_at_call 99; (with_reducible refine (Hi1.out ()).mono ?_); rintro e w' ⟨rfl, rfl⟩) | (go_at_call 99; (with_reducible refine (Hi2.out ()).mono ?_); rintro e w' ⟨rfl, rfl⟩) | (go_at_call 125; refine Hnm.out.mono ?_; rintro e w' ⟨rfl, rfl⟩) | (go_at_call 121; refine Hat.out.mono ?_; rintro e w' ⟨rfl, rfl⟩) | (go_at_call 101; refine Hlk.out.mono ?_; rintro e w' ⟨rfl, rfl⟩) | (go_at_call 126; refine Hwi.out.mono ?_; rintro e w' ⟨rfl, rfl⟩))
   go_ret
   exact ⟨ret_int (by rw [Hr.out]; rfl), by rw [Hr.out]; exact Rt.refl H.out⟩
  have Hr := hid (show enterP t (d : Int) s.data.toList (x : Int) = (add t d s.data.toList x, 0) by rw [Hre.out, if_pos Kd.out, Hbn.out, if_pos rfl, if_neg Fn.out, if_neg (no12_of Q1.out (fun h => by have := h.2; rw [HL.out] at this; omega) (by rw [HL.out]; exact h8)), if_neg h40, if_neg (by rintro ⟨_, e⟩; exact Bool.false_ne_true (Hbw.out.2 e))])
  have hsp := h.setPar x d hx2 (eq_of_beq q2)
  obtain ⟨W0, hW0⟩ : ∃ W0, w.setCell ⟨B, x * 10 + 7, none⟩ (.int .i64 d) = W0 := ⟨_, rfl⟩
  rw [hW0] at hsp
  have hFw : Fr (· = B) w W0 := by rw [← hW0]; exact (Fr.refl _ w).setB _ _
  have hzw : w.heap.size ≤ W0.heap.size := hFw.size
  have htop2 := hsp.top
  have hfz2 := hsp.frozen (d * 10 + 9)
  obtain ⟨p2, cap2, -, -, -, -, -, -, -, -, -, c92, hl12, hl22, he2⟩ := hsp.cells d hd2
  rw [setPar_ents] at c92 hl12 he2
  have N2 := hid (EntsAt.news he2)
  obtain ⟨hlA, hlB⟩ := hsp.lt
  have i8 : (0 : Int) ≤ (d : Int) := by omega
  have i9 : (d : Int) < 201 := by omega
  have hne := h.ne
  have Hsp := hid hsp
  unfold maxLen at hl22
  clear he f1 f2 hsp he2
  have Hadd := hid (show setEnts (setPar t x d) d ((t d).ents ++ [(s.data.toList, x)]) = add t d s.data.toList x from add_comm' t d s.data.toList x)
  generalize hll : (t d).ents = l at c92 hl12 N2 hlen40 h40 Hadd hl1 c9
  clear hll
  clear Hbn Kd Fn HL Q1 Hre Hbw
  go_enter Tryz.func92, Tryz.ntmps92
  go_wp2_with (first | (go_at_call 99; (with_reducible refine (Hi1.out ()).mono ?_); rintro e w' ⟨rfl, rfl⟩) | (go_at_call 99; (with_reducible refine (Hi2.out ()).mono ?_); rintro e w' ⟨rfl, rfl⟩) | (go_at_call 125; refine Hnm.out.mono ?_; rintro e w' ⟨rfl, rfl⟩) | (go_at_call 121; refine Hat.out.mono ?_; rintro e w' ⟨rfl, rfl⟩) | (go_at_call 101; refine Hlk.out.mono ?_; rintro e w' ⟨rfl, rfl⟩) | (go_at_call 126; refine Hwi.out.mono ?_; rintro e w' ⟨rfl, rfl⟩))
  (try rw [hW0])
  clear Hi1 Hi2 Hnm Hat Hlk Hwi c1 k1 k7 hfx hx1 hx2 hxi hdi hd1 kq kq' q1 q2 h8 hs h hW0 htop hfz c9 hl1 hl2 H
  refine regionU (fun w' => w'.cell? ⟨A, 0, none⟩ = some (.slice (some ⟨B, 0, none⟩) 201 201) ∧ w'.cell? ⟨B, d * 10 + 9, none⟩ = some (.slice p2 l.length cap2)) 22 (by kernel_rfl) (by exact ⟨htop2, c92⟩) (fun hHeld => ?_)
  refine takeU (oi := ?oi1b) (v := ?v1b) 0 ?hi1b (by kernel_rfl) ?hQ1b ?hy1b (by assumption) ?h1b
  case hi1b => simp only [jD, jE, jF]; exact rfl
  case hQ1b => exact fun _ _ _ h => h
  case hy1b => (refine Or.inl ⟨by rfl, ?_⟩; intro w' hSw; (try dsimp only at hSw); obtain ⟨hS1, hS2⟩ := hSw; go_simp; (try with_reducible rfl))
  simp only [Act.put, jA, jB, jC]
  refine takeU (oi := ?oi2b) (v := ?v2b) 1 ?hi2b (by kernel_rfl) ?hQ2b ?hy2b (by assumption) ?h2b
  case hi2b => simp only [jD, jE, jF]; exact rfl
  case hQ2b => exact fun _ _ _ h => h
  case hy2b => (refine Or.inl ⟨by rfl, ?_⟩; intro w' hSw; (try dsimp only at hSw); obtain ⟨hS1, hS2⟩ := hSw; go_simp; (try with_reducible rfl))
  simp only [Act.put, jA, jB, jC]
  refine takeU (oi := ?oi3b) (v := ?v3b) 2 ?hi3b (by kernel_rfl) ?hQ3b ?hy3b (by assumption) ?h3b
  case hi3b => simp only [jD, jE, jF]; exact rfl
  case hQ3b => exact fun _ _ _ h => h
  case hy3b => (refine Or.inl ⟨by rfl, ?_⟩; intro w' hSw; (try dsimp only at hSw); obtain ⟨hS1, hS2⟩ := hSw; go_simp; (try with_reducible rfl))
  simp only [Act.put, jA, jB, jC]
  refine takeU (oi := ?oi4b) (v := ?v4b) 3 ?hi4b (by kernel_rfl) ?hQ4b ?hy4b (by assumption) ?h4b
  case hi4b => simp only [jD, jE, jF]; exact rfl
  case hQ4b => exact fun _ _ _ h => h
  case hy4b => (refine Or.inl ⟨by rfl, ?_⟩; intro w' hSw; (try dsimp only at hSw); obtain ⟨hS1, hS2⟩ := hSw; go_simp; (try with_reducible rfl))
  simp only [Act.put, jA, jB, jC]
  refine takeU (oi := ?oi5b) (v := ?v5b) 4 ?hi5b (by kernel_rfl) ?hQ5b ?hy5b (by assumption) ?h5b
  case hi5b => simp only [jD, jE, jF]; exact rfl
  case hQ5b => exact fun _ _ _ h => h
  case hy5b => (refine Or.inl ⟨by rfl, ?_⟩; intro w' hSw; (try dsimp only at hSw); obtain ⟨hS1, hS2⟩ := hSw; go_simp; (try with_reducible rfl))
  simp only [Act.put, jA, jB, jC]
  refine takeU (oi := ?oi6b) (v := ?v6b) 6 ?hi6b (by kernel_rfl) ?hQ6b ?hy6b (by assumption) ?h6b
  case hi6b => simp only [jD, jE, jF]; exact rfl
  case hQ6b => exact fun _ _ _ h => h
  case hy6b => (refine Or.inl ⟨by rfl, ?_⟩; intro w' hSw; (try dsimp only at hSw); obtain ⟨hS1, hS2⟩ := hSw; go_simp; (try with_reducible rfl))
  simp only [Act.put, jA, jB, jC]
  refine takeU (oi := ?oi7b) (v := ?v7b) 7 ?hi7b (by kernel_rfl) ?hQ7b ?hy7b (by assumption) ?h7b
  case hi7b => simp only [jD, jE, jF]; exact rfl
  case hQ7b => exact fun _ _ _ h => h
  case hy7b => (refine Or.inl ⟨by rfl, ?_⟩; intro w' hSw; (try dsimp only at hSw); obtain ⟨hS1, hS2⟩ := hSw; go_simp; (try with_reducible rfl))
  simp only [Act.put, jA, jB, jC]
  refine takeU (oi := ?oi8b) (v := ?v8b) 8 ?hi8b (by kernel_rfl) ?hQ8b ?hy8b (by assumption) ?h8b
  case hi8b => simp only [jD, jE, jF]; exact rfl
  case hQ8b => exact fun _ _ _ h => h
  case hy8b => (refine Or.inl ⟨by rfl, ?_⟩; intro w' hSw; (try dsimp only at hSw); obtain ⟨hS1, hS2⟩ := hSw; go_simp; (try with_reducible rfl))
  simp only [Act.put, jA, jB, jC]
  refine takeU (oi := ?oi9b) (v := ?v9b) 9 ?hi9b (by kernel_rfl) ?hQ9b ?hy9b (by assumption) ?h9b
  case hi9b => simp only [jD, jE, jF]; exact rfl
  case hQ9b => exact fun _ _ _ h => h
  case hy9b => (refine Or.inl ⟨by rfl, ?_⟩; intro w' hSw; (try dsimp only at hSw); obtain ⟨hS1, hS2⟩ := hSw; go_simp; (try with_reducible rfl))
  simp only [Act.put, jA, jB, jC]
  refine takeU (oi := ?oi10b) (v := ?v10b) 10 ?hi10b (by kernel_rfl) ?hQ10b ?hy10b (by assumption) ?h10b
  case hi10b => simp only [jD, jE, jF]; exact rfl
  case hQ10b => exact fun _ _ _ h => h
  case hy10b => (refine Or.inl ⟨by rfl, ?_⟩; intro w' hSw; (try dsimp only at hSw); obtain ⟨hS1, hS2⟩ := hSw; go_simp; (try with_reducible rfl))
  simp only [Act.put, jA, jB, jC]
  refine takeU (oi := ?oi11b) (v := ?v11b) 11 ?hi11b (by kernel_rfl) ?hQ11b ?hy11b (by assumption) ?h11b
  case hi11b => simp only [jD, jE, jF]; exact rfl
  case hQ11b => exact fun _ _ _ h => h
  case hy11b => (refine Or.inl ⟨by rfl, ?_⟩; intro w' hSw; (try dsimp only at hSw); obtain ⟨hS1, hS2⟩ := hSw; go_simp; (try with_reducible rfl))
  simp only [Act.put, jA, jB, jC]
  refine takeU (oi := ?oi12b) (v := ?v12b) 12 ?hi12b (by kernel_rfl) ?hQ12b ?hy12b (by assumption) ?h12b
  case hi12b => simp only [jD, jE, jF]; exact rfl
  case hQ12b => exact fun _ _ _ h => h
  case hy12b => (refine Or.inl ⟨by rfl, ?_⟩; intro w' hSw; (try dsimp only at hSw); obtain ⟨hS1, hS2⟩ := hSw; go_simp; (try with_reducible rfl))
  simp only [Act.put, jA, jB, jC]
  refine takeU (oi := ?oi13b) (v := ?v13b) 13 ?hi13b (by kernel_rfl) ?hQ13b ?hy13b (by assumption) ?h13b
  case hi13b => simp only [jD, jE, jF]; exact rfl
  case hQ13b => exact fun _ _ _ h => h
  case hy13b => (refine Or.inl ⟨by rfl, ?_⟩; intro w' hSw; (try dsimp only at hSw); obtain ⟨hS1, hS2⟩ := hSw; go_simp; (try with_reducible rfl))
  simp only [Act.put, jA, jB, jC]
  refine takeU (oi := ?oi14b) (v := ?v14b) 15 ?hi14b (by kernel_rfl) ?hQ14b ?hy14b (by assumption) ?h14b
  case hi14b => simp only [jD, jE, jF]; exact rfl
  case hQ14b => exact fun _ _ _ h => h
  case hy14b => (refine Or.inl ⟨by rfl, ?_⟩; intro w' hSw; (try dsimp only at hSw); obtain ⟨hS1, hS2⟩ := hSw; go_simp; (try with_reducible rfl))
  simp only [Act.put, jA, jB, jC]
  refine takeU (oi := ?oi15b) (v := ?v15b) 16 ?hi15b (by kernel_rfl) ?hQ15b ?hy15b (by assumption) ?h15b
  case hi15b => simp only [jD, jE, jF]; exact rfl
  case hQ15b => exact fun _ _ _ h => h
  case hy15b => (refine Or.inl ⟨by rfl, ?_⟩; intro w' hSw; (try dsimp only at hSw); obtain ⟨hS1, hS2⟩ := hSw; go_simp; (try with_reducible rfl))
  simp only [Act.put, jA, jB, jC]
  refine takeU (oi := ?oi16b) (v := ?v16b) 17 ?hi16b (by kernel_rfl) ?hQ16b ?hy16b (by assumption) ?h16b
  case hi16b => simp only [jD, jE, jF]; exact rfl
  case hQ16b => exact fun _ _ _ h => h
  case hy16b => (refine Or.inl ⟨by rfl, ?_⟩; intro w' hSw; (try dsimp only at hSw); obtain ⟨hS1, hS2⟩ := hSw; go_simp; (try with_reducible rfl))
  simp only [Act.put, jA, jB, jC]
  refine readyU [5, 18] (by kernel_rfl) (by simp) ?_
  refine EachU.cons (o := ?o17b) ?ho17b (fun K hK => ?_) ?_
  case ho17b => simp only [jD, jE, jF]; exact rfl
  ·skip
   go_simp
   refine hK.out _ _ (fun _ => ⟨((Fr.refl (fun _ => False) W0).alloc _).cell htop2 id, ((Fr.refl (fun _ => False) W0).alloc _).cell c92 id⟩) (fun hH => ?_)
   replace hHeld := hH (by decide)
   clear hH
   clear hK K
   (try simp only [Act.put, jA, jB, jC])
   refine readyU [14, 18] (by kernel_rfl) (by simp) ?_
   refine EachU.cons (o := ?o18b) ?ho18b (fun K hK => ?_) ?_
   case ho18b => simp only [jD, jE, jF]; exact rfl
   ·skip
    refine step_append_any (by rfl) _ _ (by rfl) (by rfl) W0.heap.size W0.heap.size 0 0 [] (by simp [Act.eval, Act.put]) ((World.ownsRow_made W0 #[] 0 (Nat.le_refl _) (by decide) rfl).drew) p2 l.length cap2 (by simp [Act.eval, Act.put]) (entC l) (N2.out.fr ((Fr.refl (fun _ => False) W0).alloc _).drew fun _ _ _ => id) (by decide) (by omega) (by simp; try omega) ?_
    intro g3 cap3 w3 hown3 hgrow3 hat3 hlt3
    simp only [Nat.zero_add, List.nil_append] at hown3 ⊢
    have hF3 : Fr (fun _ => False) W0 w3 := ((Fr.refl (fun _ => False) W0).alloc _).drew.into hgrow3 (by omega)
    have hb3 := (hown3.lt g3 rfl).1
    have ht3 := hF3.cell htop2 id
    have c93 := hF3.cell c92 id
    have hlA3 := cell_lt ht3
    have hlB3 := cell_lt c93
    refine hK.out _ _ (fun _ => ⟨ht3, c93⟩) (fun hH => ?_)
    replace hHeld := hH (by decide)
    clear hH
    clear hK K
    (try simp only [Act.put, jA, jB, jC])
    refine readyU [18] (by kernel_rfl) (by simp) ?_
    refine EachU.cons (o := ?o19b) ?ho19b (fun K hK => ?_) ?_
    case ho19b => simp only [jD, jE, jF]; exact rfl
    rotate_left
    ·exact EachU.nil
    go_simp
    refine hK.out _ _ (fun _ => ⟨(hF3.alloc _).cell htop2 id, (hF3.alloc _).cell c92 id⟩) (fun hH => ?_)
    replace hHeld := hH (by decide)
    clear hH
    clear hK K
    (try simp only [Act.put, jA, jB, jC])
    refine readyU [19] (by kernel_rfl) (by simp) ?_
    refine EachU.cons (o := ?o20b) ?ho20b (fun K hK => ?_) ?_
    case ho20b => simp only [jD, jE, jF]; exact rfl
    rotate_left
    ·exact EachU.nil
    refine step_append_any (by rfl) _ _ (by rfl) (by rfl) W0.heap.size g3 l.length cap3 (entC l) (by simp [Act.eval, Act.put]) (hown3.alloc _) (some ⟨w3.heap.size, 0, none⟩) 1 1 (by simp [Act.eval, Act.put]) [.string s, .int .i64 x] (news_one w3 s x) (by omega) (by decide) (by have := hF3.size; simp; omega) ?_
    intro g5 cap5 w5 hown5 hgrow5 hat5 hlt5
    have hF5 : Fr (fun _ => False) W0 w5 := (hF3.alloc _).into hgrow5 hb3
    have hz5 := hF5.frozen c92 hfz2 id
    have hc5 := hF5.cell c92 id
    have ht5 := hF5.cell htop2 id
    refine hK.out _ _ (fun _ => ⟨ht5, hc5⟩) (fun hH => ?_)
    replace hHeld := hH (by decide)
    clear hH
    clear hK K
    (try simp only [Act.put, jA, jB, jC])
    refine readyU [20] (by kernel_rfl) (by simp) ?_
    refine EachU.cons (o := ?o21b) ?ho21b (fun K hK => ?_) ?_
    case ho21b => simp only [jD, jE, jF]; exact rfl
    rotate_left
    ·exact EachU.nil
    go_simp
    refine hK.out _ _ (fun _ => ⟨ht5, hc5⟩) (fun hH => ?_)
    replace hHeld := hH (by decide)
    clear hH
    clear hK K
    (try simp only [Act.put, jA, jB, jC])
    refine readyU [21] (by kernel_rfl) (by simp) ?_
    refine EachU.cons (o := ?o22b) ?ho22b (fun K hK => ?_) ?_
    case ho22b => simp only [jD, jE, jF]; exact rfl
    rotate_left
    ·exact EachU.nil
    go_simp
    refine hK.out _ _ (fun _ => ⟨ht5, hc5⟩) (fun hH => ?_)
    replace hHeld := hH (by decide)
    clear hH
    clear hK K
    (try simp only [Act.put, jA, jB, jC])
    refine readyU [22] (by kernel_rfl) (by simp) ?_
    refine EachU.cons (o := ?o23b) ?ho23b (fun K hK => ?_) ?_
    case ho23b => simp only [jD, jE, jF]; exact rfl
    rotate_left
    ·exact EachU.nil
    go_simp
    refine hK.out _ _ (fun h => absurd rfl h) (fun hHeld => ?_)
    clear hK K
    (try simp only [Act.put, jA, jB, jC])
    refine doneU (by kernel_rfl) ?_ _
    go_wp2
    go_ret
    refine ⟨ret_int (by rw [Hr.out]; rfl), ?_⟩
    rw [Hr.out]
    have hp := pushed (d := d) (x := x) Hsp.out hd2 hF5 hown5
    rw [Hadd.out] at hp
    obtain ⟨own', r1, r2, r3, r4⟩ := hp
    exact ⟨own', r1, r2, fun g hg => (r3 g hg).imp id (Nat.le_trans hzw), hFw.trans r4⟩
   refine EachU.cons (o := ?o24b) ?ho24b (fun K hK => ?_) ?_
   case ho24b => simp only [jD, jE, jF]; exact rfl
   rotate_left
   ·exact EachU.nil
   go_simp
   refine hK.out _ _ (fun _ => ⟨(((Fr.refl (fun _ => False) W0).alloc _).alloc _).cell htop2 id, (((Fr.refl (fun _ => False) W0).alloc _).alloc _).cell c92 id⟩) (fun hH => ?_)
   replace hHeld := hH (by decide)
   clear hH
   clear hK K
   (try simp only [Act.put, jA, jB, jC])
   refine readyU [14] (by kernel_rfl) (by simp) ?_
   refine EachU.cons (o := ?o25b) ?ho25b (fun K hK => ?_) ?_
   case ho25b => simp only [jD, jE, jF]; exact rfl
   rotate_left
   ·exact EachU.nil
   refine step_append_any (by rfl) _ _ (by rfl) (by rfl) W0.heap.size W0.heap.size 0 0 [] (by simp [Act.eval, Act.put]) (((World.ownsRow_made W0 #[] 0 (Nat.le_refl _) (by decide) rfl).alloc _).drew) p2 l.length cap2 (by simp [Act.eval, Act.put]) (entC l) (N2.out.fr (((Fr.refl (fun _ => False) W0).alloc _).alloc _).drew fun _ _ _ => id) (by decide) (by omega) (by simp; try omega) ?_
   intro g3 cap3 w3 hown3 hgrow3 hat3 hlt3
   simp only [Nat.zero_add, List.nil_append] at hown3 ⊢
   have hF3 : Fr (fun _ => False) W0 w3 := (((Fr.refl (fun _ => False) W0).alloc _).alloc _).drew.into hgrow3 (by omega)
   have hb3 := (hown3.lt g3 rfl).1
   have hN3 : News w3 (some ⟨W0.heap.size + 1, 0, none⟩) 1 [.string s, .int .i64 x] := (news_one2 W0 _ s x).drew.fr (Fr.of_grown hgrow3) (fun g off e => by cases e; simp)
   have ht3 := hF3.cell htop2 id
   have c93 := hF3.cell c92 id
   have hlA3 := cell_lt ht3
   have hlB3 := cell_lt c93
   refine hK.out _ _ (fun _ => ⟨ht3, c93⟩) (fun hH => ?_)
   replace hHeld := hH (by decide)
   clear hH
   clear hK K
   (try simp only [Act.put, jA, jB, jC])
   refine readyU [19] (by kernel_rfl) (by simp) ?_
   refine EachU.cons (o := ?o26b) ?ho26b (fun K hK => ?_) ?_
   case ho26b => simp only [jD, jE, jF]; exact rfl
   rotate_left
   ·exact EachU.nil
   refine step_append_any (by rfl) _ _ (by rfl) (by rfl) W0.heap.size g3 l.length cap3 (entC l) (by simp [Act.eval, Act.put]) hown3 _ 1 1 (by simp [Act.eval, Act.put]) [.string s, .int .i64 x] hN3 (by omega) (by decide) hF3.size ?_
   intro g5 cap5 w5 hown5 hgrow5 hat5 hlt5
   have hF5 : Fr (fun _ => False) W0 w5 := hF3.into hgrow5 hb3
   have hz5 := hF5.frozen c92 hfz2 id
   have hc5 := hF5.cell c92 id
   have ht5 := hF5.cell htop2 id
   refine hK.out _ _ (fun _ => ⟨ht5, hc5⟩) (fun hH => ?_)
   replace hHeld := hH (by decide)
   clear hH
   clear hK K
   (try simp only [Act.put, jA, jB, jC])
   refine readyU [20] (by kernel_rfl) (by simp) ?_
   refine EachU.cons (o := ?o27b) ?ho27b (fun K hK => ?_) ?_
   case ho27b => simp only [jD, jE, jF]; exact rfl
   rotate_left
   ·exact EachU.nil
   go_simp
   refine hK.out _ _ (fun _ => ⟨ht5, hc5⟩) (fun hH => ?_)
   replace hHeld := hH (by decide)
   clear hH
   clear hK K
   (try simp only [Act.put, jA, jB, jC])
   refine readyU [21] (by kernel_rfl) (by simp) ?_
   refine EachU.cons (o := ?o28b) ?ho28b (fun K hK => ?_) ?_
   case ho28b => simp only [jD, jE, jF]; exact rfl
   rotate_left
   ·exact EachU.nil
   go_simp
   refine hK.out _ _ (fun _ => ⟨ht5, hc5⟩) (fun hH => ?_)
   replace hHeld := hH (by decide)
   clear hH
   clear hK K
   (try simp only [Act.put, jA, jB, jC])
   refine readyU [22] (by kernel_rfl) (by simp) ?_
   refine EachU.cons (o := ?o29b) ?ho29b (fun K hK => ?_) ?_
   case ho29b => simp only [jD, jE, jF]; exact rfl
   rotate_left
   ·exact EachU.nil
   go_simp
   refine hK.out _ _ (fun h => absurd rfl h) (fun hHeld => ?_)
   clear hK K
   (try simp only [Act.put, jA, jB, jC])
   refine doneU (by kernel_rfl) ?_ _
   go_wp2
   go_ret
   refine ⟨ret_int (by rw [Hr.out]; rfl), ?_⟩
   rw [Hr.out]
   have hp := pushed (d := d) (x := x) Hsp.out hd2 hF5 hown5
   rw [Hadd.out] at hp
   obtain ⟨own', r1, r2, r3, r4⟩ := hp
   exact ⟨own', r1, r2, fun g hg => (r3 g hg).imp id (Nat.le_trans hzw), hFw.trans r4⟩
  refine EachU.cons (o := ?o30b) ?ho30b (fun K hK => ?_) ?_
  case ho30b => simp only [jD, jE, jF]; exact rfl
  rotate_left
  ·exact EachU.nil
  go_simp
  refine hK.out _ _ (fun _ => ⟨((Fr.refl (fun _ => False) W0).alloc _).cell htop2 id, ((Fr.refl (fun _ => False) W0).alloc _).cell c92 id⟩) (fun hH => ?_)
  replace hHeld := hH (by decide)
  clear hH
  clear hK K
  (try simp only [Act.put, jA, jB, jC])
  refine readyU [5] (by kernel_rfl) (by simp) ?_
  refine EachU.cons (o := ?o31b) ?ho31b (fun K hK => ?_) ?_
  case ho31b => simp only [jD, jE, jF]; exact rfl
  rotate_left
  ·exact EachU.nil
  go_simp
  refine hK.out _ _ (fun _ => ⟨(((Fr.refl (fun _ => False) W0).alloc _).alloc _).cell htop2 id, (((Fr.refl (fun _ => False) W0).alloc _).alloc _).cell c92 id⟩) (fun hH => ?_)
  replace hHeld := hH (by decide)
  clear hH
  clear hK K
  (try simp only [Act.put, jA, jB, jC])
  refine readyU [14] (by kernel_rfl) (by simp) ?_
  refine EachU.cons (o := ?o32b) ?ho32b (fun K hK => ?_) ?_
  case ho32b => simp only [jD, jE, jF]; exact rfl
  rotate_left
  ·exact EachU.nil
  refine step_append_any (by rfl) _ _ (by rfl) (by rfl) W0.heap.size (W0.heap.size + 1) 0 0 [] (by simp [Act.eval, Act.put]) ((made2 W0 _).drew) p2 l.length cap2 (by simp [Act.eval, Act.put]) (entC l) (N2.out.fr (((Fr.refl (fun _ => False) W0).alloc _).alloc _).drew fun _ _ _ => id) (by decide) (by omega) (by simp; try omega) ?_
  intro g3 cap3 w3 hown3 hgrow3 hat3 hlt3
  simp only [Nat.zero_add, List.nil_append] at hown3 ⊢
  have hF3 : Fr (fun _ => False) W0 w3 := (((Fr.refl (fun _ => False) W0).alloc _).alloc _).drew.into hgrow3 (by omega)
  have hb3 := (hown3.lt g3 rfl).1
  have hN3 : News w3 (some ⟨W0.heap.size, 0, none⟩) 1 [.string s, .int .i64 x] := ((news_one W0 s x).fr ((Fr.refl (fun _ => False) _).alloc _) (fun _ _ _ => id)).drew.fr (Fr.of_grown hgrow3) (fun g off e => by cases e; simp)
  have ht3 := hF3.cell htop2 id
  have c93 := hF3.cell c92 id
  have hlA3 := cell_lt ht3
  have hlB3 := cell_lt c93
  refine hK.out _ _ (fun _ => ⟨ht3, c93⟩) (fun hH => ?_)
  replace hHeld := hH (by decide)
  clear hH
  clear hK K
  (try simp only [Act.put, jA, jB, jC])
  refine readyU [19] (by kernel_rfl) (by simp) ?_
  refine EachU.cons (o := ?o33b) ?ho33b (fun K hK => ?_) ?_
  case ho33b => simp only [jD, jE, jF]; exact rfl
  rotate_left
  ·exact EachU.nil
  refine step_append_any (by rfl) _ _ (by rfl) (by rfl) W0.heap.size g3 l.length cap3 (entC l) (by simp [Act.eval, Act.put]) hown3 _ 1 1 (by simp [Act.eval, Act.put]) [.string s, .int .i64 x] hN3 (by omega) (by decide) hF3.size ?_
  intro g5 cap5 w5 hown5 hgrow5 hat5 hlt5
  have hF5 : Fr (fun _ => False) W0 w5 := hF3.into hgrow5 hb3
  have hz5 := hF5.frozen c92 hfz2 id
  have hc5 := hF5.cell c92 id
  have ht5 := hF5.cell htop2 id
  refine hK.out _ _ (fun _ => ⟨ht5, hc5⟩) (fun hH => ?_)
  replace hHeld := hH (by decide)
  clear hH
  clear hK K
  (try simp only [Act.put, jA, jB, jC])
  refine readyU [20] (by kernel_rfl) (by simp) ?_
  refine EachU.cons (o := ?o34b) ?ho34b (fun K hK => ?_) ?_
  case ho34b => simp only [jD, jE, jF]; exact rfl
  rotate_left
  ·exact EachU.nil
  go_simp
  refine hK.out _ _ (fun _ => ⟨ht5, hc5⟩) (fun hH => ?_)
  replace hHeld := hH (by decide)
  clear hH
  clear hK K
  (try simp only [Act.put, jA, jB, jC])
  refine readyU [21] (by kernel_rfl) (by simp) ?_
  refine EachU.cons (o := ?o35b) ?ho35b (fun K hK => ?_) ?_
  case ho35b => simp only [jD, jE, jF]; exact rfl
  rotate_left
  ·exact EachU.nil
  go_simp
  refine hK.out _ _ (fun _ => ⟨ht5, hc5⟩) (fun hH => ?_)
  replace hHeld := hH (by decide)
  clear hH
  clear hK K
  (try simp only [Act.put, jA, jB, jC])
  refine readyU [22] (by kernel_rfl) (by simp) ?_
  refine EachU.cons (o := ?o36b) ?ho36b (fun K hK => ?_) ?_
  case ho36b => simp only [jD, jE, jF]; exact rfl
  rotate_left
  ·exact EachU.nil
  go_simp
  refine hK.out _ _ (fun h => absurd rfl h) (fun hHeld => ?_)
  clear hK K
  (try simp only [Act.put, jA, jB, jC])
  refine doneU (by kernel_rfl) ?_ _
  go_wp2
  go_ret
  refine ⟨ret_int (by rw [Hr.out]; rfl), ?_⟩
  rw [Hr.out]
  have hp := pushed (d := d) (x := x) Hsp.out hd2 hF5 hown5
  rw [Hadd.out] at hp
  obtain ⟨own', r1, r2, r3, r4⟩ := hp
  exact ⟨own', r1, r2, fun g hg => (r3 g hg).imp id (Nat.le_trans hzw), hFw.trans r4⟩
end
end Go.Proofs.YtlpececggkdhmaaGreat
