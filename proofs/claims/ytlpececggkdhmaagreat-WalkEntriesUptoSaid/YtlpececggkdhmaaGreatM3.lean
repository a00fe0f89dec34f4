import Derived.Test.YtlpececggkdhmaaGreatM2
open Go.Lib (hid)
set_option linter.unusedVariables false
set_option linter.unusedSimpArgs false
namespace Go.Proofs.YtlpececggkdhmaaGreat
section
open Go.RowKit Ino
theorem Fr.setB {a b : World} {B : Nat} (h : Fr (· = B) a b) (o : Nat) (u : Value) : Fr (· = B) a (b.setCell ⟨B, o, none⟩ u) := h.setCell (p := ⟨B, o, none⟩) (.inl rfl) u
theorem RT.set1 {w : World} {A B : Nat} {own : Nat → Prop} {t : T} (h : RT w A B own t) (i j : Nat) (hi : i ≤ 200) (hj : j < 9) (n : Nod) (v : Value) (he : n.ents = (t i).ents) (hv : ∀ x k, k < 10 → cellV n x k = if k = j then v else cellV (t i) x k) :
 RT (w.setCell ⟨B, i * 10 + j, none⟩ v) A B own (upd t i n) := by
 obtain ⟨ev, h1, h2⟩ := h.row
 have hf : Fr (· = B) w (w.setCell ⟨B, i * 10 + j, none⟩ v) := (Fr.refl _ _).setB _ v
 refine ⟨hf.cell h.top h.ne, h.ne, h.ownA, h.ownB, ev, (h1.set (i * 10 + j) v).congr fun o ho => ?_, fun k hk => ?_⟩
 ·by_cases e : o / 10 = i
  ·obtain ⟨r, hr, rfl⟩ : ∃ r, r < 10 ∧ o = i * 10 + r := ⟨o % 10, by omega, by omega⟩
   rw [treeF_at _ _ _ _ hr, treeF_at _ _ _ _ hr, upd_same, hv _ _ hr]
   by_cases e2 : r = j
   ·rw [if_pos (by omega), if_pos e2]
   ·rw [if_neg (by omega), if_neg e2]
  ·rw [if_neg (by omega)]
   unfold treeF
   rw [upd_other _ _ e]
 ·have hk2 := (h2 k hk).fr hf (fun g _ _ hg _ => hg) fun _ hg => hg
  by_cases e : k = i
  ·subst e; rw [upd_same, he]; exact hk2
  ·rw [upd_other _ _ e]; exact hk2
theorem RT.setE {w : World} {A B : Nat} {own : Nat → Prop} {t : T} (h : RT w A B own t) (i : Nat) (hi : i ≤ 200) (l : List (Bs × Nat)) (v : Value) (hl : EntsAt w A B own v l) :
 RT (w.setCell ⟨B, i * 10 + 9, none⟩ v) A B own (setEnts t i l) := by
 obtain ⟨ev, h1, h2⟩ := h.row
 have hf : Fr (· = B) w (w.setCell ⟨B, i * 10 + 9, none⟩ v) := (Fr.refl _ _).setB _ v
 refine ⟨hf.cell h.top h.ne, h.ne, h.ownA, h.ownB, fun k => if k = i then v else ev k, (h1.set (i * 10 + 9) v).congr fun o ho => ?_, fun k hk => ?_⟩
 ·unfold setEnts
  by_cases e : o / 10 = i
  ·obtain ⟨r, hr, rfl⟩ : ∃ r, r < 10 ∧ o = i * 10 + r := ⟨o % 10, by omega, by omega⟩
   rw [treeF_at _ _ _ _ hr, treeF_at _ _ _ _ hr, upd_same, if_pos rfl]
   by_cases e2 : r = 9
   ·subst e2; rw [if_pos rfl]; rfl
   ·rw [if_neg (by omega)]
    match r, hr, e2 with
    | 0, _, _ => rfl
    | 1, _, _ => rfl
    | 2, _, _ => rfl
    | 3, _, _ => rfl
    | 4, _, _ => rfl
    | 5, _, _ => rfl
    | 6, _, _ => rfl
    | 7, _, _ => rfl
    | 8, _, _ => rfl
    | 9, _, e => exact absurd rfl e
  ·rw [if_neg (by omega)]
   unfold treeF
   dsimp only
   rw [upd_other _ _ e, if_neg e]
 ·show EntsAt _ A B own (if k = i then v else ev k) _
  unfold setEnts
  by_cases e : k = i
  ·subst e; rw [upd_same, if_pos rfl]; exact hl.fr hf (fun g _ _ hg _ => hg) fun _ hg => hg
  ·rw [upd_other _ _ e, if_neg e]; exact (h2 k hk).fr hf (fun g _ _ hg _ => hg) fun _ hg => hg
theorem RT.set10 {w : World} {A B : Nat} {own : Nat → Prop} {t : T} (h : RT w A B own t) (i : Nat) (hi : i ≤ 200) (n : Nod) (v : Value) (hl : EntsAt w A B own v n.ents) :
 RT ((((((((((w.setCell ⟨B, i * 10, none⟩ (.bool n.is)).setCell ⟨B, i * 10 + 1, none⟩ (.int .i64 n.kind)).setCell ⟨B, i * 10 + 2, none⟩ (.int .i64 n.mode)).setCell ⟨B, i * 10 + 3, none⟩ (.int .i64 n.owner)).setCell ⟨B, i * 10 + 4, none⟩ (.int .i64 n.group)).setCell ⟨B, i * 10 + 5, none⟩ (.int .i64 n.tty)).setCell ⟨B, i * 10 + 6, none⟩ (.int .i64 n.holds)).setCell ⟨B, i * 10 + 7, none⟩ (.int .i64 n.parent)).setCell ⟨B, i * 10 + 8, none⟩ (.string ⟨n.data.toArray⟩)).setCell ⟨B, i * 10 + 9, none⟩ v) A B own (upd t i n) := by
 obtain ⟨ev, h1, h2⟩ := h.row
 have hf : Fr (· = B) w ((((((((((w.setCell ⟨B, i * 10, none⟩ (.bool n.is)).setCell ⟨B, i * 10 + 1, none⟩ (.int .i64 n.kind)).setCell ⟨B, i * 10 + 2, none⟩ (.int .i64 n.mode)).setCell ⟨B, i * 10 + 3, none⟩ (.int .i64 n.owner)).setCell ⟨B, i * 10 + 4, none⟩ (.int .i64 n.group)).setCell ⟨B, i * 10 + 5, none⟩ (.int .i64 n.tty)).setCell ⟨B, i * 10 + 6, none⟩ (.int .i64 n.holds)).setCell ⟨B, i * 10 + 7, none⟩ (.int .i64 n.parent)).setCell ⟨B, i * 10 + 8, none⟩ (.string ⟨n.data.toArray⟩)).setCell ⟨B, i * 10 + 9, none⟩ v) :=
  ((((((((((Fr.refl _ _).setB _ _).setB _ _).setB _ _).setB _ _).setB _ _).setB _ _).setB _ _).setB _ _).setB _ _).setB _ _
 refine ⟨hf.cell h.top h.ne, h.ne, h.ownA, h.ownB, fun k => if k = i then v else ev k, ((((((((((h1.set (i * 10) _).set (i * 10 + 1) _).set (i * 10 + 2) _).set (i * 10 + 3) _).set (i * 10 + 4) _).set (i * 10 + 5) _).set (i * 10 + 6) _).set (i * 10 + 7) _).set (i * 10 + 8) _).set (i * 10 + 9) v).congr fun o ho => ?_, fun k hk => ?_⟩
 ·by_cases e : o / 10 = i
  ·obtain ⟨r, hr, rfl⟩ : ∃ r, r < 10 ∧ o = i * 10 + r := ⟨o % 10, by omega, by omega⟩
   rw [treeF_at _ _ _ _ hr, treeF_at _ _ _ _ hr, upd_same, if_pos rfl]
   match r, hr with
   | 0, _ => simp [cellV]
   | 1, _ => simp [cellV]
   | 2, _ => simp [cellV]
   | 3, _ => simp [cellV]
   | 4, _ => simp [cellV]
   | 5, _ => simp [cellV]
   | 6, _ => simp [cellV]
   | 7, _ => simp [cellV]
   | 8, _ => simp [cellV]
   | 9, _ => simp [cellV]
  ·rw [if_neg (by omega), if_neg (by omega), if_neg (by omega), if_neg (by omega), if_neg (by omega), if_neg (by omega), if_neg (by omega), if_neg (by omega), if_neg (by omega), if_neg (by omega)]
   unfold treeF
   dsimp only
   rw [upd_other _ _ e, if_neg e]
 ·show EntsAt _ A B own (if k = i then v else ev k) _
  by_cases e : k = i
  ·subst e; rw [upd_same, if_pos rfl]; exact hl.fr hf (fun g _ _ hg _ => hg) fun _ hg => hg
  ·rw [upd_other _ _ e, if_neg e]; exact (h2 k hk).fr hf (fun g _ _ hg _ => hg) fun _ hg => hg
theorem RT.setPar {w : World} {A B : Nat} {own : Nat → Prop} {t : T} (h : RT w A B own t) (x p : Nat) (hx : x ≤ 200) (hk : (t x).kind = 1) : RT (w.setCell ⟨B, x * 10 + 7, none⟩ (.int .i64 p)) A B own (setPar t x p) := by
 rw [setPar_self t x p hk]
 refine h.set1 x 7 hx (by omega) _ _ rfl fun v k hk => ?_
 match k, hk with
 | 0, _ => rfl
 | 1, _ => rfl
 | 2, _ => rfl
 | 3, _ => rfl
 | 4, _ => rfl
 | 5, _ => rfl
 | 6, _ => rfl
 | 7, _ => rfl
 | 8, _ => rfl
 | 9, _ => rfl
theorem RT.setHolds {w : World} {A B : Nat} {own : Nat → Prop} {t : T} (h : RT w A B own t) (x p : Nat) (hx : x ≤ 200) : RT (w.setCell ⟨B, x * 10 + 6, none⟩ (.int .i64 p)) A B own (upd t x { t x with holds := p }) := by
 refine h.set1 x 6 hx (by omega) _ _ rfl fun v k hk => ?_
 match k, hk with
 | 0, _ => rfl
 | 1, _ => rfl
 | 2, _ => rfl
 | 3, _ => rfl
 | 4, _ => rfl
 | 5, _ => rfl
 | 6, _ => rfl
 | 7, _ => rfl
 | 8, _ => rfl
 | 9, _ => rfl
theorem RT.setData {w : World} {A B : Nat} {own : Nat → Prop} {t : T} (h : RT w A B own t) (x : Nat) (d : Bs) (hx : x ≤ 200) : RT (w.setCell ⟨B, x * 10 + 8, none⟩ (.string ⟨d.toArray⟩)) A B own (upd t x { t x with data := d }) := by
 refine h.set1 x 8 hx (by omega) _ _ rfl fun v k hk => ?_
 match k, hk with
 | 0, _ => rfl
 | 1, _ => rfl
 | 2, _ => rfl
 | 3, _ => rfl
 | 4, _ => rfl
 | 5, _ => rfl
 | 6, _ => rfl
 | 7, _ => rfl
 | 8, _ => rfl
 | 9, _ => rfl
def parL (t : T) (l : List (Bs × Nat)) : T := l.foldl (fun t e => setPar t e.2 e.2) t
theorem parL_snoc (t : T) (l : List (Bs × Nat)) (e : Bs × Nat) : parL t (l ++ [e]) = setPar (parL t l) e.2 e.2 := by unfold parL; rw [List.foldl_append]; rfl
theorem parL_ents (t : T) (j : Nat) : ∀ l : List (Bs × Nat), (parL t l j).ents = (t j).ents := by
 intro l
 induction l generalizing t with
 | nil => rfl
 | cons e l ih => show (parL (setPar t e.2 e.2) l j).ents = _; rw [ih, setPar_ents]
theorem parL_at (j : Nat) : ∀ (l : List (Bs × Nat)) (t : T), parL t l j = if (t j).kind = 1 ∧ has l j = true then { t j with parent := j } else t j
 | [], t => by rw [if_neg (by rintro ⟨_, h⟩; cases h)]; rfl
 | e :: l, t => by
  show parL (setPar t e.2 e.2) l j = _
  rw [parL_at j l, setPar_kind]
  by_cases hk : (t j).kind = 1
  ·by_cases he : e.2 = j
   ·have hh : has (e :: l) j = true := by unfold has; simp [he]
    rw [if_pos (show (t j).kind = 1 ∧ has (e :: l) j = true from ⟨hk, hh⟩)]
    have hs : setPar t e.2 e.2 j = { t j with parent := j } := by unfold setPar; rw [if_pos ⟨he.symm, hk⟩, he]
    rw [hs]
    split <;> rfl
   ·have hs : setPar t e.2 e.2 j = t j := setPar_other _ _ _ (Ne.symm he)
    have hh : has (e :: l) j = has l j := by unfold has; simp [he]
    rw [hs, hh]
  ·rw [if_neg (by rintro ⟨h, _⟩; exact hk h), if_neg (by rintro ⟨h, _⟩; exact hk h)]
   unfold setPar
   rw [if_neg]
   rintro ⟨_, h⟩; exact hk h
theorem parL_del (t : T) (i : Nat) : upd (parL t (t i).ents) i noN = del t i := by
 funext j
 unfold upd del
 split
 ·rfl
 ·rw [parL_at]
open Classical in
noncomputable def cntW (w : World) (B : Nat) : Nat → Nat
 | 0 => 0
 | n + 1 => cntW w B n + if w.cell? ⟨B, n * 10, none⟩ = some (.bool true) then 1 else 0
theorem RT.cntW {w : World} {A B : Nat} {own : Nat → Prop} {t : T} (h : RT w A B own t) : ∀ n, n ≤ 201 → cntW w B n = count n t
 | 0, _ => rfl
 | n + 1, hn => by
  obtain ⟨_, _, c0, -⟩ := h.cells n (by omega)
  unfold Proofs.YtlpececggkdhmaaGreat.cntW count
  rw [RT.cntW h n (by omega), c0]
  cases (t n).is <;> simp
noncomputable def goM (B : Nat) (m : Value) (wr : World) : Nat := 2 * cntW wr B 201 + (match m with | .bool true => 1 | _ => 0)
def Steps (t u : T) : Prop := ∃ l, OkAll t l ∧ run t l = u
theorem Steps.snoc {t u : T} {i : Nat} (h : Steps t u) (hi : DelOk u i) : Steps t (del u i) := by
 obtain ⟨l, h1, rfl⟩ := h
 exact ⟨l ++ [i], okAll_append l [i] t h1 ⟨hi, trivial⟩, by rw [run_append]; rfl⟩
def goRel (t0 : T) (w : World) (A B : Nat) (own : Nat → Prop) (m : Value) (wr : World) : Prop :=
 ∃ t' b, m = .bool b ∧ RT wr A B own t' ∧ Sd t' ∧ Steps t0 t' ∧ Fr (· = B) w wr ∧ (b = false → Normal t')
def goRel2 (t0 t1 : T) (w : World) (A B : Nat) (own : Nat → Prop) (m iv : Value) (wr : World) : Prop :=
 ∃ t' b, ∃ i : Nat, 2 ≤ i ∧ i ≤ 201 ∧ iv = .int .i64 i ∧ m = .bool b ∧ RT wr A B own t' ∧ Sd t' ∧ Steps t0 t' ∧ Fr (· = B) w wr ∧ (b = false → t' = t1 ∧ ∀ j, 2 ≤ j → j < i → ¬ DelOk t1 j) ∧ (b = true → count 201 t' < count 201 t1)
def goRel3 (t' : T) (i : Nat) (w : World) (A B : Nat) (own : Nat → Prop) (kv : Value) (wr : World) : Prop :=
 ∃ k : Nat, k ≤ (t' i).ents.length ∧ kv = .int .i64 k ∧ RT wr A B own (parL t' ((t' i).ents.take k)) ∧ Fr (· = B) w wr
set_option maxHeartbeats 4000000 in
set_option maxRecDepth 100000 in
theorem gone_any {A B : Nat} {own : Nat → Prop} {t : T} (w : World) (h : RT w A B own t) (hs : Sd t) :
 Calls Tryz.prog 100 #[.pointer (some ⟨A, 0, none⟩)] w fun e w' => e = .returned (.tuple #[]) ∧ RT w' A B own (goneP t) ∧ Fr (· = B) w w' := by
 have H := hid h
 have Hs := hid hs
 clear h hs
 go_enter Tryz.func100, Tryz.ntmps100
 go_wp2
 go_loopw [2] (fun m wr => goRel t w A B own m wr) (fun m wr => goM B m wr)
 case atStart => exact ⟨t, true, rfl, H.out, Hs.out, ⟨[], trivial, rfl⟩, Fr.refl _ _, fun h => by cases h⟩
 case round =>
  obtain ⟨t1, b, rfl, h1, s1, st1, f1, n1⟩ := hrel
  have K1 := hid h1
  have S1 := hid s1
  have St1 := hid st1
  have N1 := hid n1
  have htop1 := h1.top
  clear h1 s1 st1 n1
  cases b
  ·have Hr := hid (show goneP t = t1 from by
    obtain ⟨l, a, b⟩ := St1.out
    exact goneP_eq ⟨l, a, b, N1.out rfl⟩)
   go_wp2
   go_end0
   exact ⟨rfl, by rw [Hr.out]; exact K1.out, f1⟩
  ·rename World => wa
   go_wp2
   go_loopw [2, 3] (fun m iv wr => goRel2 t t1 w A B own m iv wr) (fun _ iv _ => 201 - (intOf iv).toNat)
   case atStart => exact ⟨t1, false, 2, Nat.le_refl _, by decide, rfl, rfl, K1.out, S1.out, St1.out, f1, fun _ => ⟨rfl, fun j h1 h2 => by omega⟩, fun h => by cases h⟩
   case round =>
    rename World => wb
    obtain ⟨t2, b, i, hi1, hi2, rfl, rfl, h2, s2, st2, f2, n2, m2⟩ := hrel
    have htop2 := h2.top
    have K2 := hid h2
    have S2 := hid s2
    have St2 := hid st2
    have N2 := hid n2
    have M2 := hid m2
    clear s2 st2 n2 m2 htop1
    by_cases hlt : i < 201
    ·obtain ⟨p, cap, c0, -, -, -, -, -, c6, -, -, c9, hl1, hl2, -⟩ := h2.cells i (by omega)
     clear h2
     have hlinks := links_any i wb K2.out S2.out
     obtain ⟨L, hL⟩ : ∃ L, links t2 i = L := ⟨_, rfl⟩
     rw [hL] at hlinks
     have HL := hid hL
     clear hL
     have stay : ¬ DelOk t2 i → goRel2 t t1 w A B own (.bool b) (.int .i64 ((i + 1 : Nat) : Int)) wb := fun hno =>
      ⟨t2, b, i + 1, by omega, by omega, rfl, rfl, K2.out, S2.out, St2.out, f2, fun hb => ⟨(N2.out hb).1, fun j h1 h3 => by
       by_cases e : j = i
       ·rw [e]; rw [← (N2.out hb).1]; exact hno
       ·exact (N2.out hb).2 j h1 (by omega)⟩, M2.out⟩
     have Stay := hid stay
     clear stay
     cases hi : (t2 i).is
     ·have hst := Stay.out fun hd => by have := hd.2.2.1; rw [hi] at this; cases this
      have Hst := hid hst
      rw [hi] at c0
      clear hst hi
      go_wp2
      go_roundw
      case rel => exact Hst.out
      case measure => simp [intOf]; omega
     ·rw [hi] at c0
      have Hi := hid hi
      clear hi
      cases hh : (((t2 i).holds : Int) == 0)
      ·have hst := Stay.out fun hd => by have := hd.2.2.2.1; rw [this] at hh; cases hh
       have Hst := hid hst
       clear hst
       generalize (t2 i).holds = hd at c6 hh
       go_wp2
       go_roundw
       case rel => exact Hst.out
       case measure => simp [intOf]; omega
      ·have Hh := hid (show (t2 i).holds = 0 by have := eq_of_beq hh; omega)
       generalize (t2 i).holds = hd at c6 hh
       cases hl : ((L : Int) == 0)
       ·have hst := Stay.out fun hd => by have := hd.2.2.2.2; rw [HL.out] at this; rw [this] at hl; cases hl
        have Hst := hid hst
        clear hst
        go_wp2_with (go_at_call 101; refine hlinks.mono ?_; rintro e w' ⟨rfl, rfl⟩)
        go_roundw
        case rel => exact Hst.out
        case measure => simp [intOf]; omega
       ·have hdel : DelOk t2 i := ⟨hi1, by omega, Hi.out, Hh.out, by rw [HL.out]; have := eq_of_beq hl; omega⟩
        have Hdel := hid hdel
        clear hdel Hh
        go_wp2_with (go_at_call 101; refine hlinks.mono ?_; rintro e w' ⟨rfl, rfl⟩)
        clear hlinks
        go_loopw [4] (fun kv wr => goRel3 t2 i w A B own kv wr) (fun kv _ => (t2 i).ents.length - (intOf kv).toNat)
        case atStart => exact ⟨0, Nat.zero_le _, rfl, K2.out, f2⟩
        case round =>
         rename World => wc
         obtain ⟨k, hk, rfl, h3, f3⟩ := hrel
         have htop3 := h3.top
         obtain ⟨p3, cap3, -, -, -, -, -, -, -, -, -, d9, hm1, hm2, he⟩ := h3.cells i (by omega)
         rw [parL_ents] at d9 hm1 he
         have hlen := S2.out.len i
         have K3 := hid h3
         have He := hid he
         unfold maxLen at hm2
         clear h3 he htop2 c9 c6 c0
         by_cases hk2 : k < (t2 i).ents.length
         ·have hek : (t2 i).ents[k]? = some (t2 i).ents[k] := List.getElem?_eq_getElem hk2
          obtain ⟨g, off, hp, -, -, -, e0, e1⟩ := He.out k _ hek
          have hts : (t2 i).ents.take (k + 1) = (t2 i).ents.take k ++ [(t2 i).ents[k]] := by rw [List.take_add_one, hek]; rfl
          have hmem : (t2 i).ents[k] ∈ (t2 i).ents := List.getElem_mem hk2
          have hy := S2.out.range _ (S2.out.tgt i _ hmem)
          have hpl := parL_snoc t2 ((t2 i).ents.take k) (t2 i).ents[k]
          rw [← hts] at hpl
          generalize (t2 i).ents[k] = en at hek e0 e1 hy hpl
          obtain ⟨nm, y⟩ := en
          simp only at e0 e1 hy hpl
          subst hp
          obtain ⟨_, _, -, c1, -⟩ := K3.out.cells y hy.2
          have hfz := K3.out.frozen (y * 10 + 7)
          obtain ⟨cc7, hc7⟩ : ∃ v, wc.cell? ⟨B, y * 10 + 7, none⟩ = some v := by
           obtain ⟨_, _, -, -, -, -, -, -, -, c7, -⟩ := K3.out.cells y hy.2
           exact ⟨_, c7⟩
          have Hpl := hid hpl
          clear hpl hts hmem hek
          cases hkd : (((parL t2 ((t2 i).ents.take k) y).kind : Int) == 1)
          ·have hn := setPar_not (parL t2 ((t2 i).ents.take k)) y y (ne_of_beq_false hkd)
           have Hn := hid (show parL t2 ((t2 i).ents.take (k + 1)) = parL t2 ((t2 i).ents.take k) from Hpl.out.trans hn)
           clear hn
           generalize (parL t2 ((t2 i).ents.take k) y).kind = kd at c1 hkd
           go_wp2
           go_roundw
           case rel => exact ⟨k + 1, by omega, by go_num, by rw [Hn.out]; exact K3.out, f3⟩
           case measure => simp [intOf]; omega
          ·have hn := K3.out.setPar y y hy.2 (eq_of_beq hkd)
           rw [← Hpl.out] at hn
           have Hn := hid hn
           clear hn
           generalize (parL t2 ((t2 i).ents.take k) y).kind = kd at c1 hkd
           go_wp2
           go_roundw
           case rel => exact ⟨k + 1, by omega, by go_num, Hn.out, f3.setB _ _⟩
           case measure => simp [intOf]; omega
         ·have hfin := K3.out.set10 i (by omega) noN (.slice none 0 0) (EntsAt.nil _ _ _ _)
          rw [show (t2 i).ents.take k = (t2 i).ents from List.take_of_length_le (by omega), parL_del] at hfin
          have Hfin := hid hfin
          have hfz := fun o => K3.out.frozen o
          obtain ⟨p4, cap4, b0, b1, b2, b3, b4, b5, b6, b7, b8, -⟩ := K3.out.cells i (by omega)
          have z0 := hfz (i * 10)
          have z1 := hfz (i * 10 + 1)
          have z2 := hfz (i * 10 + 2)
          have z3 := hfz (i * 10 + 3)
          have z4 := hfz (i * 10 + 4)
          have z5 := hfz (i * 10 + 5)
          have z6 := hfz (i * 10 + 6)
          have z7 := hfz (i * 10 + 7)
          have z8 := hfz (i * 10 + 8)
          have z9 := hfz (i * 10 + 9)
          clear hfin hfz
          go_wp2
          go_roundw
          case rel =>
           refine ⟨del t2 i, true, i + 1, by omega, by omega, by go_num, rfl, Hfin.out, S2.out.del Hdel.out, St2.out.snoc Hdel.out, (((((((((f3.setB _ _).setB _ _).setB _ _).setB _ _).setB _ _).setB _ _).setB _ _).setB _ _).setB _ _).setB _ _, (fun h => by cases h), fun _ => ?_⟩
           have hc := count_del t2 i Hi.out 201 (by omega)
           cases b
           ·have := (N2.out rfl).1; rw [this] at hc ⊢; omega
           ·have := M2.out rfl; omega
          case measure => simp [intOf]; omega
    ·have e : i = 201 := by omega
     subst e
     have hca := K1.out.cntW 201 (Nat.le_refl _)
     have hcb := K2.out.cntW 201 (Nat.le_refl _)
     have Hca := hid hca
     have Hcb := hid hcb
     clear hca hcb h2
     go_wp2
     go_roundw
     case rel =>
      refine ⟨t2, b, rfl, K2.out, S2.out, St2.out, f2, fun hb j hj => ?_⟩
      have := (N2.out hb).2 j hj.1 (by have := hj.2.1; omega)
      rw [← (N2.out hb).1] at this
      exact this hj
     case measure =>
      unfold goM
      rw [Hca.out, Hcb.out]
      cases b
      ·have := (N2.out rfl).1; rw [this]; simp
      ·have := M2.out rfl; simp; omega
end
end Go.Proofs.YtlpececggkdhmaaGreat
