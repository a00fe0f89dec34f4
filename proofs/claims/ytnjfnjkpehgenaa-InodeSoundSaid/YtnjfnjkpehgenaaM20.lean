/- LO, LP: several texts in one. -/
import Derived.Deep.CutBlock
import Derived.Deep.DeepCutAuto
import Derived.Test.YtnjfnjkpehgenaaM1
import Derived.Test.YtnjfnjkpehgenaaM16
import Derived.Test.YtnjfnjkpehgenaaM18
import Derived.Test.YtnjfnjkpehgenaaM19

/- InodeSound: a tree with a row of numbers beside it; how many names lead where; parents. -/
namespace Go.Proofs.Ytnjfnjkpehgenaa
open Go.RowKit Ino Go.Maps
set_option linter.unusedVariables false
set_option linter.unusedSimpArgs false

/-- the tree t at A, and at L, apart from it, a row of numbers. -/
def PSL (w0 w : World) (A : Nat) (t : T) (L : Nat) (f : Nat → Int) : Prop :=
  ∃ own, PTo w A own t ∧ (∀ g, own g → w0.heap.size ≤ g) ∧ Below w0.heap.size w0 w ∧ ¬ own L ∧ w0.heap.size ≤ L ∧ w.rowIs L 33 201 (fun i => .int .i64 (f i))
variable {w0 w w' : World} {A L : Nat} {t : T} {f : Nat → Int}
theorem PSL.ps (h : PSL w0 w A t L f) : PS w0 w A t := by
  obtain ⟨own, h1, h2, h3, _⟩ := h
  exact ⟨own, h1, h2, h3⟩
theorem PSL.below (h : PSL w0 w A t L f) : Below w0.heap.size w0 w := h.ps.below
theorem PSL.lt (h : PSL w0 w A t L f) : L < w.heap.size := by
  obtain ⟨own, h1, h2, h3, h4, h5, h6⟩ := h
  exact h6.lt
theorem PSL.row (h : PSL w0 w A t L f) : w.rowIs L 33 201 (fun i => .int .i64 (f i)) := by
  obtain ⟨own, h1, h2, h3, h4, h5, h6⟩ := h
  exact h6
theorem PSL.cell (h : PSL w0 w A t L f) {i : Nat} (hi : i ≤ 200) : w.cell? ⟨L, i, none⟩ = some (.int .i64 (f i)) := h.row.cell (by omega)
theorem PSL.frozen (h : PSL w0 w A t L f) (i : Nat) : w.frozen? ⟨L, i, none⟩ = false := h.row.frozen i
theorem PSL.read (h : PSL w0 w A t L f) (hb : Below w.heap.size w w') : PSL w0 w' A t L f := by
  have hl := h.lt
  obtain ⟨own, h1, h2, h3, h4, h5, h6⟩ := h
  exact ⟨own, h1.below hb, h2, h3.trans (hb.mono h3.size), h4, h5, h6.of_block (hb.block L hl)⟩
theorem PSL.alloc (h : PSL w0 w A t L f) (o : Obj) : PSL w0 (w.alloc o) A t L f := h.read ((Below.refl _ w).alloc (Nat.le_refl _) o)
theorem PSL.drewN (h : PSL w0 w A t L f) (n : Nat) : PSL w0 (w.drewN n) A t L f := h.read ⟨rfl, rfl, rfl, Nat.le_refl _, fun _ _ => rfl⟩
theorem PSL.congr (h : PSL w0 w A t L f) {g : Nat → Int} (e : ∀ i, i ≤ 200 → g i = f i) : PSL w0 w A t L g := by
  obtain ⟨own, h1, h2, h3, h4, h5, h6⟩ := h
  refine ⟨own, h1, h2, h3, h4, h5, ?_⟩
  obtain ⟨c, k1, k2, k3⟩ := h6
  exact ⟨c, k1, k2, fun i hi => by rw [k3 i hi]; show some (Value.int .i64 (f i)) = some (Value.int .i64 (g i)); rw [e i (by omega)]⟩
theorem PSL.set (h : PSL w0 w A t L f) (i : Nat) (n : Int) : PSL w0 (w.setCell ⟨L, i, none⟩ (.int .i64 n)) A t L (fun j => if j = i then n else f j) := by
  obtain ⟨own, h1, h2, h3, h4, h5, h6⟩ := h
  have hf : Fr (fun g => g = L) w (w.setCell ⟨L, i, none⟩ (.int .i64 n)) := Fr.setCell (S := fun g => g = L) (Fr.refl _ w) (p := ⟨L, i, none⟩) (.inl rfl) _
  refine ⟨own, h1.fr hf fun g hg e => h4 (by rw [← e]; exact hg), h2, below_fr h3 hf fun g hg => by rw [hg]; exact h5, h4, h5, ?_⟩
  obtain ⟨c, k1, k2, k3⟩ := h6
  refine ⟨c.setIfInBounds i (.int .i64 n), heap_setCell_same w L i c _ _ k1, by simpa using k2, fun j hj => ?_⟩
  rw [Array.getElem?_setIfInBounds]
  by_cases e : j = i
  · subst e
    rw [if_pos rfl, if_pos (by omega)]
    show _ = some (Value.int .i64 (if j = j then n else f j))
    rw [if_pos rfl]
  · rw [if_neg (fun k => e k.symm), k3 j hj]
    show some (Value.int .i64 (f j)) = some (Value.int .i64 (if j = i then n else f j))
    rw [if_neg e]
theorem PSL.new (h : PS w0 w A t) (z : Array Value) (hz : z = Array.replicate 201 (.int .i64 0)) : PSL w0 (w.alloc (.cells z 33)) A t w.heap.size (fun _ => 0) := by
  obtain ⟨own, h1, h2, h3⟩ := h
  refine ⟨_, (h1.keep).below ((Below.refl _ w).alloc (Nat.le_refl _) _), fun g hg => h2 g hg.1, h3.alloc h3.size _, fun hg => ?_, h3.size, ⟨z, heap_alloc_new w _, by rw [hz]; simp, fun i hi => ?_⟩⟩
  · have := hg.2
    omega
  · rw [hz, Array.getElem?_replicate, if_pos hi]
theorem psl_names (h : PSL w0 w A t L f) (hs : Sd t) (i : Int) :
    Calls Try.prog 12 #[.pointer (some ⟨A, 0, none⟩), .int .i64 i] w fun e w' => ∃ v, e = .returned v ∧ w'.ownsRow w.heap.size 9 1 v (namesP t i).length ((namesP t i).map strC) ∧ PSL w0 w' A t L f :=
  (ps_names h.ps hs i).mono fun e w' ⟨v, he, hr, _, hb⟩ => ⟨v, he, hr, h.read hb⟩
theorem psl_stat (h : PSL w0 w A t L f) (hs : Sd t) (i : Int) :
    Calls Try.prog 15 #[.pointer (some ⟨A, 0, none⟩), .int .i64 i] w fun e w' => e = .returned (infV (statP t i)) ∧ PSL w0 w' A t L f :=
  (ps_stat h.ps hs i).mono fun e w' ⟨he, _, hb⟩ => ⟨he, h.read hb⟩
/-! ### how many of the first k names lead to x -/
namespace Ino
def cntN (t : T) (d k x : Nat) : Nat := ((namesE (t d).ents).take k).countP fun n => findE (t d).ents n == some x
theorem cntN_zero (t : T) (d x : Nat) : cntN t d 0 x = 0 := rfl
theorem cntN_succ (t : T) {d k x : Nat} {n : Bs} (h : (namesE (t d).ents)[k]? = some n) : cntN t d (k + 1) x = cntN t d k x + if findE (t d).ents n = some x then 1 else 0 := by
  unfold cntN
  rw [List.take_add_one, h, List.countP_append]
  simp [List.countP_cons, List.countP_nil]
theorem cntN_all {t : T} (hs : Sd t) (d x : Nat) : cntN t d (namesE (t d).ents).length x = cnt (t d).ents x := by
  unfold cntN
  rw [List.take_length]
  exact cnt_names (hs.uniq d) x
theorem linksTo_one {t : T} (hs : Sd t) (x : Nat) : linksTo 1 t x = 0 := by
  show linksTo 0 t x + cnt (t 0).ents x = 0
  rw [hs.zero]; rfl
theorem cntN_le (t : T) (hs : Sd t) (d k x : Nat) : cntN t d k x ≤ 40 := by
  unfold cntN
  refine Nat.le_trans List.countP_le_length ?_
  rw [List.length_take, namesE_length]
  have := hs.len d
  omega
theorem linksTo_bound {t : T} (hs : Sd t) (x : Nat) : ∀ n, linksTo n t x ≤ n * 40
  | 0 => Nat.zero_le _
  | n + 1 => by
    have h1 := linksTo_bound hs x n
    have h2 : cnt (t n).ents x ≤ 40 := Nat.le_trans List.countP_le_length (hs.len n)
    show linksTo n t x + cnt (t n).ents x ≤ (n + 1) * 40
    omega
theorem namesP_nat {t : T} (hs : Sd t) (d : Nat) : namesP t d = namesE (t d).ents := by
  unfold namesP
  cases hi : (t d).is
  · rw [isI_cast hs, hi, if_neg Bool.false_ne_true, hs.none_ d hi]; rfl
  · rw [isI_cast hs, hi, if_pos rfl, Int.toNat_natCast]
/-- what the k-th name of a directory leads to. -/
theorem name_k {t : T} (hs : Sd t) {d k : Nat} {n : Bs} (h : (namesE (t d).ents)[k]? = some n) : ∃ x, lookP t d n = (x, true) ∧ nameOk n = true ∧ n.length ≤ 14 ∧ 1 ≤ x ∧ x ≤ 200 ∧ ∀ i, cntN t d (k + 1) i = cntN t d k i + if i = x then 1 else 0 := by
  obtain ⟨x, hx⟩ := namesE_mem.1 (List.mem_of_getElem? h)
  obtain ⟨h1, h2, h3, h4⟩ := look_name hs hx
  refine ⟨x, h1, h2, ?_, h3, h4, fun i => ?_⟩
  · unfold nameOk at h2
    simp only [Bool.and_eq_true, decide_eq_true_eq] at h2
    exact h2.1.2
  · rw [cntN_succ t h, findE_of_mem (hs.uniq d) hx]
    by_cases e : i = x
    · rw [if_pos e, if_pos (by rw [e])]
    · rw [if_neg e, if_neg (fun k => e (Option.some.inj k).symm)]
theorem stat_none {t : T} (hs : Sd t) {d : Nat} (hi : (t d).is = false) : statP t d = (noInf, false) ∧ links t d = 0 := by
  refine ⟨by unfold statP; rw [isI_cast hs, hi, if_neg Bool.false_ne_true], ?_⟩
  by_cases h : 0 < links t d
  · obtain ⟨i, _, e, he, hx⟩ := links_pos.1 h
    have := hs.tgt i e he
    rw [hx, hi] at this
    cases this
  · omega
theorem stat_some {t : T} (hs : Sd t) {d : Nat} (hi : (t d).is = true) : ∃ sz, statP t d = (⟨d, (t d).kind, (t d).mode, (t d).owner, (t d).group, links t d, sz, (t d).tty⟩, true) :=
  ⟨_, by unfold statP; rw [isI_cast hs, hi, if_pos rfl, Int.toNat_natCast]⟩
theorem look_up {t : T} (hs : Sd t) {d : Nat} (hk : (t d).kind = 1) : lookP t d [46, 46] = (par t d, true) := by
  have hI : isD t (d : Int) = true := by
    unfold isD
    have hi : (t d).is = true := by
      cases hi : (t d).is
      · rw [hs.none_ d hi] at hk; cases hk
      · rfl
    rw [isI_cast hs, hi]
    simp [hk]
  unfold lookP
  rw [if_pos hI, if_neg (by decide), if_pos rfl, Int.toNat_natCast]; rfl
end Ino
end Go.Proofs.Ytnjfnjkpehgenaa
/- The walk of InodeSound. -/
namespace Go.Proofs.Ytnjfnjkpehgenaa
open Go.RowKit Ino Go.Maps
set_option linter.unusedVariables false
set_option linter.unusedSimpArgs false

/-- behind k steps. -/
def stepRel (w : World) (A C B : Nat) (iv : Value) (wr : World) : Prop := ∃ (k : Nat) (t : T), iv = .int .i64 k ∧ k ≤ 120 ∧ TW (KB w) w wr A C B t t ∧ Sound t ∧ HB k t
/-- behind the directories below d. -/
def cntRel (w : World) (A : Nat) (t : T) (L : Nat) (dv : Value) (wr : World) : Prop := ∃ d : Nat, dv = .int .i64 d ∧ 1 ≤ d ∧ d ≤ 201 ∧ PSL w wr A t L (fun i => (linksTo d t i : Int))
/-- the directories below d are looked at. -/
def chkRel (w : World) (A : Nat) (t : T) (L : Nat) (dv : Value) (wr : World) : Prop := ∃ d : Nat, dv = .int .i64 d ∧ 1 ≤ d ∧ d ≤ 201 ∧ PSL w wr A t L (fun i => (links t i : Int))
/-- j parents up from d. -/
def parRel (w : World) (A : Nat) (t : T) (L d N : Nat) (w5 : World) (av sv : Value) (wr : World) : Prop := ∃ j : Nat, av = .int .i64 (iter t j d) ∧ sv = .int .i64 j ∧ j ≤ N ∧ wr = w5 ∧ PSL w w5 A t L (fun i => (links t i : Int))
theorem topc (w : World) (cs : Array Value) (t : TypeId) {j : Nat} {v : Value} (h : cs[j]? = some v) : (w.alloc (.cells cs t)).cell? ⟨w.heap.size, j, none⟩ = some v := by
  rw [cell_of_row _ w.heap.size j _ _ (0, 0) (heap_alloc_new w _)]
  exact h
/-- behind the first k names of d. -/
def nmkRel (w : World) (A : Nat) (t : T) (L d base : Nat) (v : Value) (n : Nat) (kv : Value) (wr : World) : Prop :=
  ∃ k : Nat, kv = .int .i64 k ∧ k ≤ n ∧ wr.ownsRow base 9 1 v n ((namesE (t d).ents).map strC) ∧ PSL w wr A t L (fun i => ((linksTo d t i + cntN t d k i : Nat) : Int))
theorem row_at {w : World} {base : Nat} {p : Option Addr} {n cap : Nat} {xs : List Value} {e : TypeId} (h : w.ownsRow base e 1 (.slice p n cap) n xs) (hn : 0 < n) : ∃ g, p = some ⟨g, 0, none⟩ := by
  rcases h.2 with ⟨_, h0⟩ | ⟨g, cap, cur, hv, _⟩
  · omega
  · cases hv; exact ⟨g, rfl⟩
set_option maxHeartbeats 8000000 in
set_option maxRecDepth 100000 in
theorem sound_walk (p0 : Option Addr) (n0 c0 : Nat) (z0 : List Op6) (w : World) (h0 : InOps w p0 n0 z0) (l0 : n0 ≤ maxLen) :
    Calls Try.prog 4 #[.slice p0 n0 c0] w fun e w' => e = .returned (.bool true) ∧ Below w.heap.size w w' := by
  have H0 := Lib.hid h0
  unfold maxLen at l0
  clear h0
  go_enter Try.func4, Try.ntmps4
  go_upto_block 0 with (first
    | (go_at_call 7; refine (shown_any _).mono ?_; rintro e w1 ⟨rfl, b1⟩)
    | (go_at_call 8; refine (ps_new b1 493 0 0 (by unfold wfI; omega) (by decide)).mono ?_; rintro e w2 ⟨A, rfl, p2⟩)
    | (go_at_call 9; refine (td_new 493 0 0 p2 (by decide) (by decide) (by decide)).mono ?_; rintro e w3 ⟨C, B, rfl, p3⟩))
  clear b1 p2
  go_cut [6] (fun iv wr => stepRel w A C B iv wr)
  case first =>
    go_wp2_with fail
    go_loopw [6] (fun iv wr => stepRel w A C B iv wr) (fun iv _ => 120 - (intOf iv).toNat)
    case atStart => exact ⟨0, _, rfl, by decide, p3, s_sd0, HB.new _ _ _⟩
    case round =>
      obtain ⟨k, t, rfl, hk, hp, hso, hhb⟩ := hrel
      by_cases hlt : k < n0 ∧ k < 120
      · obtain ⟨k0, k2⟩ := hlt
        have hz0 : z0[k]? = some (z0[k]'(by rw [H0.out.1]; exact k0)) := List.getElem?_eq_getElem _
        obtain ⟨ok, g0, o0, rfl, hc⟩ := H0.out.2 k _ hz0
        generalize z0[k]'(by rw [H0.out.1]; exact k0) = z at hz0 ok hc
        have hg : g0 < w.heap.size := cell_lt (hc 0 _ rfl)
        have e0 : wr.cell? ⟨g0, o0 + k * 7, none⟩ = some (.int .i64 z.kind) := hp.cell hg (hc 0 _ rfl)
        have e1 : wr.cell? ⟨g0, o0 + k * 7 + 1, none⟩ = some (.int .i64 z.a) := hp.cell hg (hc 1 _ rfl)
        have e2 : wr.cell? ⟨g0, o0 + k * 7 + 2, none⟩ = some (.int .i64 z.b) := hp.cell hg (hc 2 _ rfl)
        have e3 : wr.cell? ⟨g0, o0 + k * 7 + 3, none⟩ = some (.int .i64 z.c) := hp.cell hg (hc 3 _ rfl)
        have e4 : wr.cell? ⟨g0, o0 + k * 7 + 4, none⟩ = some (.int .i64 z.d) := hp.cell hg (hc 4 _ rfl)
        have e5 : wr.cell? ⟨g0, o0 + k * 7 + 5, none⟩ = some (.string z.s) := hp.cell hg (hc 5 _ rfl)
        have e6 : wr.cell? ⟨g0, o0 + k * 7 + 6, none⟩ = some (.string z.t) := hp.cell hg (hc 6 _ rfl)
        have i1 : (0 : Int) ≤ (k : Int) := by omega
        have i2 : (k : Int) < n0 := by omega
        have hsok := ok.s
        unfold maxLen at hsok
        have HD := Lib.hid (fun (hz : z.s.size ≤ 5000) => does6_any z ok (by omega) hp hso (fun j => Nat.le_trans (hhb j) (by omega)))
        have HS := Lib.hid (z.sound hso)
        have HH := Lib.hid (z.hb hhb)
        have HSO := Lib.hid hso
        have HHB := Lib.hid hhb
        clear hc hz0 ok hso hhb
        by_cases hsz : z.s.size ≤ 5000
        · go_wp2_with (first
            | (go_at_call 10; refine (HD.out hsz).mono ?_; rintro e w4 ⟨rfl, p4⟩))
          go_roundw
          case rel => exact ⟨k + 1, _, by go_num, by omega, p4, HS.out, HH.out⟩
          case measure => simp [intOf]; omega
        · go_wp2_with fail
          go_roundw
          case rel => exact ⟨k + 1, t, by go_num, by omega, hp, HSO.out, HHB.out.mono (Nat.le_succ k)⟩
          case measure => simp [intOf]; omega
      · have HSO := Lib.hid hso
        have HHB := Lib.hid hhb
        clear hso hhb
        by_cases hk0 : k < n0
        · have hk1 : ¬ k < 120 := fun h => hlt ⟨hk0, h⟩
          go_wp2_with fail
          go_meet
          case rel => exact ⟨k, t, rfl, hk, hp, HSO.out, HHB.out⟩
        · go_wp2_with fail
          go_meet
          case rel => exact ⟨k, t, rfl, hk, hp, HSO.out, HHB.out⟩
  case rest =>
    obtain ⟨k, t, rfl, hk, hp, hso, hhb⟩ := hcut
    have hps := hp.ps
    clear hp hhb p3
    go_upto_block 2 with fail
    have hL := PSL.new hps Try.zeroCells33 (by kernel_rfl)
    have HSO := Lib.hid hso
    clear hps hso
    generalize wc.heap.size = L at *
    generalize wc.alloc (Obj.cells Try.zeroCells33 33) = wd at *
    go_cut [8] (fun dv wr => PSL w wr A t L (fun i => (links t i : Int)))
    case first =>
      go_wp2_with fail
      go_loopw [8] (fun dv wr => cntRel w A t L dv wr) (fun dv _ => 201 - (intOf dv).toNat)
      case atStart => exact ⟨1, rfl, by decide, by decide, hL.congr fun i _ => by show ((linksTo 1 t i : Nat) : Int) = 0; rw [linksTo_one HSO.out.sd]; rfl⟩
      case round =>
        obtain ⟨d, rfl, hd1, hd2, hq⟩ := hrel
        clear hL
        generalize wr = wo at *
        by_cases hd : d ≤ 200
        · have HN := psl_names hq HSO.out.sd d
          rw [namesP_nat HSO.out.sd] at HN
          have HK := Lib.hid fun k n (h : (namesE (t d).ents)[k]? = some n) => name_k HSO.out.sd h
          have HCL := Lib.hid fun i k => (show linksTo d t i + cntN t d k i ≤ 100000 by have := linksTo_bound HSO.out.sd i d; have := cntN_le t HSO.out.sd d k i; omega)
          have HEND := Lib.hid fun i => (show linksTo (d + 1) t i = linksTo d t i + cntN t d (namesE (t d).ents).length i by rw [cntN_all HSO.out.sd]; rfl)
          have hl40 : (namesE (t d).ents).length ≤ 40 := by rw [namesE_length]; exact HSO.out.sd.len d
          obtain ⟨n1, hn1⟩ : ∃ n1, (namesE (t d).ents).length = n1 := ⟨_, rfl⟩
          have HN1 := Lib.hid hn1
          have hLlt := hq.lt
          rw [hn1] at HN hl40 HEND
          have HNN := Lib.hid HN
          clear hn1 HN
          go_wp2_with (first
            | (go_at_call 12; refine HNN.out.mono ?_; rintro e w4 ⟨v4, rfl, r4, p4⟩; obtain ⟨pp4, cc4, rfl⟩ := own_form r4))
          go_loopw [10] (fun kv wx => nmkRel w A t L d wo.heap.size (.slice pp4 n1 cc4) n1 kv wx) (fun kv _ => n1 - (intOf kv).toNat)
          case atStart => exact ⟨0, rfl, Nat.zero_le _, r4, p4.congr fun i _ => by show ((linksTo d t i + cntN t d 0 i : Nat) : Int) = _; rw [cntN_zero]; rfl⟩
          case round =>
            obtain ⟨k, rfl, hk1, r5, p5⟩ := hrel
            clear r4 p4
            by_cases hkn : k < n1
            · obtain ⟨nm, hnm⟩ : ∃ nm, (namesE (t d).ents)[k]? = some nm := ⟨_, List.getElem?_eq_getElem (by rw [HN1.out]; exact hkn)⟩
              obtain ⟨x, hx1, hx2, hx3, hx4, hx5, hx6⟩ := HK.out k nm hnm
              obtain ⟨g5, rfl⟩ := row_at r5 (show 0 < n1 by omega)
              have c5 : wr.cell? ⟨g5, k, none⟩ = some (.string ⟨nm.toArray⟩) := by
                rw [r5.cellAt k (by omega), List.getElem?_map, hnm]; rfl
              have hsz : (⟨nm.toArray⟩ : ByteArray).size ≤ maxLen := by
                show nm.toArray.size ≤ maxLen
                unfold maxLen
                simp
                omega
              have hnl : (⟨nm.toArray⟩ : ByteArray).data.toList = nm := by simp
              have HLK := Lib.hid (ps_look_at p5.ps HSO.out.sd d ⟨nm.toArray⟩ hsz (by rw [hnl]; exact hx1) (z := (x : Int)) rfl)
              have HNM := name_any ⟨nm.toArray⟩ hsz wr
              rw [hnl, hx2] at HNM
              have HNMM := Lib.hid HNM
              have cL := p5.cell (i := x) hx5
              have fL := p5.frozen x
              have hcx := HCL.out x k
              have HX6 := Lib.hid hx6
              have P5 := Lib.hid p5
              have R5 := Lib.hid r5
              obtain ⟨cx, hcxe⟩ : ∃ cx, linksTo d t x + cntN t d k x = cx := ⟨_, rfl⟩
              rw [hcxe] at cL hcx
              have HCX := Lib.hid hcxe
              have HDD := Lib.hid (show 1 ≤ d ∧ d ≤ 200 from ⟨hd1, hd⟩)
              have i1 : (0 : Int) ≤ (k : Int) := by omega
              have i2 : (k : Int) < n1 := by omega
              have i3 : ((cx : Int) + 1) < 200000 := by omega
              have i9 : ((k : Int) + 1) < 100 := by omega
              have i6 : (x : Int) < 201 := by omega
              have HX := Lib.hid (show 1 ≤ x ∧ x ≤ 200 from ⟨hx4, hx5⟩)
              clear hnm hx1 hx2 hx3 hx6 HNM hcxe p5 r5 hsz hnl hcx hx4 hx5 hd1 hd2 hd hl40
              go_upto_region 20 with (go_at_call 13; refine HLK.out.mono ?_; rintro e w' ⟨rfl, rfl⟩)
              have i7 : ¬ ((x : Int) < 1) := by have := HX.out; omega
              have i8 : ¬ (200 < (x : Int)) := by have := HX.out; omega
              go_wp2_with (go_at_call 14; refine HNMM.out.mono ?_; rintro e w' ⟨rfl, rfl⟩)
              go_roundw
              case rel =>
                refine ⟨k + 1, by go_num, by omega, ownsRow_setCell_below R5.out (show L < wo.heap.size from hLlt) _, (P5.out.set x _).congr fun i _ => ?_⟩
                show ((linksTo d t i + cntN t d (k + 1) i : Nat) : Int) = if i = x then (cx : Int) + 1 else ((linksTo d t i + cntN t d k i : Nat) : Int)
                rw [HX6.out i]
                by_cases e : i = x
                · subst e
                  rw [if_pos rfl, if_pos rfl, ← HCX.out]; omega
                · rw [if_neg e, if_neg e]; rfl
              case measure => simp [intOf]; omega
            · have P5 := Lib.hid p5
              clear p5 r5
              go_wp2_with fail
              go_roundw
              case rel =>
                have e : k = n1 := by omega
                subst e
                exact ⟨d + 1, by go_num, by omega, by omega, P5.out.congr fun i _ => by show ((linksTo (d + 1) t i : Nat) : Int) = _; rw [HEND.out i]⟩
              case measure => simp [intOf]; omega
        · go_wp2_with fail
          go_meet
          case rel =>
            have : d = 201 := by omega
            subst this
            exact hq
    case rest =>
      have hq0 := hcut
      clear hL
      go_wp2_with fail
      go_loopw [13] (fun dv wr => chkRel w A t L dv wr) (fun dv _ => 201 - (intOf dv).toNat)
      case atStart => exact ⟨1, rfl, by decide, by decide, hq0⟩
      case round =>
        obtain ⟨d, rfl, hd1, hd2, hq⟩ := hrel
        clear hq0 hcut
        generalize wr = wo at *
        by_cases hd : d ≤ 200
        · cases hi : (t d).is
          · have HST := psl_stat hq HSO.out.sd d
            obtain ⟨hs1, hs2⟩ := stat_none HSO.out.sd hi
            rw [hs1] at HST
            unfold infV noInf at HST
            simp only at HST
            have HSTT := Lib.hid HST
            have HCL := Lib.hid fun wx (h : PSL w wx A t L fun i => (links t i : Int)) => (show wx.cell? ⟨L, d, none⟩ = some (.int .i64 0) by have := h.cell (i := d) hd; rw [hs2] at this; exact this)
            have HDD := Lib.hid (show 1 ≤ d ∧ d ≤ 200 from ⟨hd1, hd⟩)
            have i1 : ((d : Int) + 1) < 1000 := by omega
            have i2 : (0 : Int) ≤ (d : Int) := by omega
            have i3 : (d : Int) < 201 := by omega
            clear HST hs1 hs2 hi hd1 hd2 hq
            go_wp2_with (go_at_call 15; refine HSTT.out.mono ?_; rintro e w4 ⟨rfl, p4⟩; have hcl := HCL.out w4 p4; have hlt := p4.lt)
            go_roundw
            case rel => exact ⟨d + 1, by go_num, by omega, by have := HDD.out; omega, p4.alloc _⟩
            case measure => have := HDD.out; simp [intOf]; omega
          · have HST := psl_stat hq HSO.out.sd d
            obtain ⟨sz, hs1⟩ := stat_some HSO.out.sd hi
            have h8 := HSO.out.sd.eight d
            have h1 := HSO.out.sd.one d
            have h0 : d = 1 → links t d = 0 := fun e => by rw [e]; exact HSO.out.sd.root.2.2
            have HCL := fun wx (h : PSL w wx A t L fun i => (links t i : Int)) => h.cell (i := d) hd
            try simp only at HCL
            rw [hs1] at HST
            unfold infV at HST
            simp only at HST
            have HK := Lib.hid fun (hk : (t d).kind = 1) => HSO.out.sd.chain hk
            have HU := Lib.hid fun (hk : (t d).kind = 1) j => look_up HSO.out.sd (HSO.out.sd.ups hk j)
            generalize links t d = nl at *
            generalize (t d).kind = kd at *
            generalize (t d).mode = md at *
            generalize (t d).owner = ow at *
            generalize (t d).group = gr at *
            generalize (t d).tty = ty at *
            have HSTT := Lib.hid HST
            have HCLL := Lib.hid HCL
            have HDD := Lib.hid (show 1 ≤ d ∧ d ≤ 200 from ⟨hd1, hd⟩)
            have i1 : ((d : Int) + 1) < 1000 := by omega
            have i2 : (0 : Int) ≤ (d : Int) := by omega
            have i3 : (d : Int) < 201 := by omega
            have i4 : ¬ (8 < (nl : Int)) := by omega
            obtain ⟨b1, hb1, hb0⟩ : ∃ b, (((d : Int) == 1) : Bool) = b ∧ (b = true → (((nl : Int) != 0) : Bool) = false) := ⟨_, rfl, fun h => by have := h0 (by have := of_decide_eq_true h; omega); simp [this]⟩
            have h1' : kd = 1 → ¬ (1 < (nl : Int)) := fun h => by have := h1 h; omega
            clear HST hs1 hi hd1 hd2 hq HCL h8 h1 h0
            by_cases hkd : kd = 1
            · subst hkd
              have i5 := h1' rfl
              clear h1'
              cases b1
              · clear hb0
                go_upto_region 30 with (go_at_call 15; refine HSTT.out.mono ?_; rintro e w4 ⟨rfl, p4⟩)
                have hcl := HCLL.out w4 p4
                obtain ⟨w5, hw5⟩ : ∃ w5, w4.alloc (.cells #[.int .i64 d, .int .i64 1, .int .i64 md, .int .i64 ow, .int .i64 gr, .int .i64 nl, .int .i64 sz, .int .i64 ty] 40) = w5 := ⟨_, rfl⟩
                have p5 := p4.alloc (.cells #[.int .i64 d, .int .i64 1, .int .i64 md, .int .i64 ow, .int .i64 gr, .int .i64 nl, .int .i64 sz, .int .i64 ty] 40)
                have x0 : w5.cell? ⟨w4.heap.size, 0, none⟩ = some (.int .i64 d) := by rw [← hw5]; exact topc w4 _ _ rfl
                have x1 : w5.cell? ⟨w4.heap.size, 1, none⟩ = some (.int .i64 1) := by rw [← hw5]; exact topc w4 _ _ rfl
                have x5 : w5.cell? ⟨w4.heap.size, 5, none⟩ = some (.int .i64 nl) := by rw [← hw5]; exact topc w4 _ _ rfl
                have xl : w5.cell? ⟨L, d, none⟩ = some (.int .i64 nl) := by rw [← hw5]; exact (Below.cell (p := ⟨L, d, none⟩) ((Below.refl _ w4).alloc (Nat.le_refl _) _) p4.lt).trans hcl
                rw [hw5] at p5 ⊢
                generalize w4.heap.size = G at *
                clear hw5 p4 hcl
                go_quiet (fail)
                obtain ⟨N, hN1, hN2, hN3⟩ := HK.out trivial
                have HN := Lib.hid (show N ≤ 200 ∧ Fix t (iter t N d) ∧ ∀ m, m < N → ¬ Fix t (iter t m d) from ⟨hN1, hN2, hN3⟩)
                clear hN1 hN2 hN3
                go_wp2_with fail
                go_loopw [16, 17] (fun av sv wx => parRel w A t L d N (w5.drewN nq) av sv wx) (fun _ sv _ => 201 - (intOf sv).toNat)
                case atStart => exact ⟨0, rfl, rfl, Nat.zero_le _, rfl, p5.drewN _⟩
                case round =>
                  obtain ⟨j, rfl, rfl, hj, rfl, p6⟩ := hrel
                  have hj2 : (j : Int) ≤ 200 := by have := HN.out.1; omega
                  have HLK := Lib.hid (ps_look_at p6.ps HSO.out.sd (iter t j d) ⟨#[46, 46]⟩ (by decide) (HU.out trivial j) (z := (par t (iter t j d) : Int)) rfl)
                  have P6 := Lib.hid p6
                  have hnx : iter t (j + 1) d = par t (iter t j d) := iter_succ t j d
                  clear p6
                  by_cases hf : par t (iter t j d) = iter t j d
                  · rw [hf] at HLK
                    clear hnx hf
                    generalize iter t j d = a at *
                    go_wp2_with (go_at_call 13; refine HLK.out.mono ?_; rintro e w' ⟨rfl, rfl⟩)
                    go_roundw
                    case rel => exact ⟨d + 1, by go_num, by omega, by have := HDD.out; omega, P6.out⟩
                    case measure => have := HDD.out; simp [intOf]; omega
                  · have hjN : j < N := by
                      have h1 := HN.out.2.1
                      by_cases e : j = N
                      · rw [e] at hf; exact absurd h1 hf
                      · omega
                    have hj3 : ((j : Int) + 1) ≤ 200 := by have := HN.out.1; omega
                    have HNX := Lib.hid hnx
                    clear hnx
                    generalize iter t j d = a at *
                    generalize par t a = b at *
                    have hb : (((b : Int) == (a : Int)) : Bool) = false := by rw [beq_eq_false_iff_ne]; omega
                    clear hf
                    go_wp2_with (go_at_call 13; refine HLK.out.mono ?_; rintro e w' ⟨rfl, rfl⟩)
                    go_roundw
                    case rel => exact ⟨j + 1, by rw [HNX.out], by go_num, by omega, rfl, P6.out⟩
                    case measure => simp [intOf]; omega
              · have hb2 := hb0 rfl
                clear hb0
                go_upto_region 30 with (go_at_call 15; refine HSTT.out.mono ?_; rintro e w4 ⟨rfl, p4⟩)
                have hcl := HCLL.out w4 p4
                obtain ⟨w5, hw5⟩ : ∃ w5, w4.alloc (.cells #[.int .i64 d, .int .i64 1, .int .i64 md, .int .i64 ow, .int .i64 gr, .int .i64 nl, .int .i64 sz, .int .i64 ty] 40) = w5 := ⟨_, rfl⟩
                have p5 := p4.alloc (.cells #[.int .i64 d, .int .i64 1, .int .i64 md, .int .i64 ow, .int .i64 gr, .int .i64 nl, .int .i64 sz, .int .i64 ty] 40)
                have x0 : w5.cell? ⟨w4.heap.size, 0, none⟩ = some (.int .i64 d) := by rw [← hw5]; exact topc w4 _ _ rfl
                have x1 : w5.cell? ⟨w4.heap.size, 1, none⟩ = some (.int .i64 1) := by rw [← hw5]; exact topc w4 _ _ rfl
                have x5 : w5.cell? ⟨w4.heap.size, 5, none⟩ = some (.int .i64 nl) := by rw [← hw5]; exact topc w4 _ _ rfl
                have xl : w5.cell? ⟨L, d, none⟩ = some (.int .i64 nl) := by rw [← hw5]; exact (Below.cell (p := ⟨L, d, none⟩) ((Below.refl _ w4).alloc (Nat.le_refl _) _) p4.lt).trans hcl
                rw [hw5] at p5 ⊢
                generalize w4.heap.size = G at *
                clear hw5 p4 hcl
                go_quiet (fail)
                obtain ⟨N, hN1, hN2, hN3⟩ := HK.out trivial
                have HN := Lib.hid (show N ≤ 200 ∧ Fix t (iter t N d) ∧ ∀ m, m < N → ¬ Fix t (iter t m d) from ⟨hN1, hN2, hN3⟩)
                clear hN1 hN2 hN3
                go_wp2_with fail
                go_loopw [16, 17] (fun av sv wx => parRel w A t L d N (w5.drewN nq) av sv wx) (fun _ sv _ => 201 - (intOf sv).toNat)
                case atStart => exact ⟨0, rfl, rfl, Nat.zero_le _, rfl, p5.drewN _⟩
                case round =>
                  obtain ⟨j, rfl, rfl, hj, rfl, p6⟩ := hrel
                  have hj2 : (j : Int) ≤ 200 := by have := HN.out.1; omega
                  have HLK := Lib.hid (ps_look_at p6.ps HSO.out.sd (iter t j d) ⟨#[46, 46]⟩ (by decide) (HU.out trivial j) (z := (par t (iter t j d) : Int)) rfl)
                  have P6 := Lib.hid p6
                  have hnx : iter t (j + 1) d = par t (iter t j d) := iter_succ t j d
                  clear p6
                  by_cases hf : par t (iter t j d) = iter t j d
                  · rw [hf] at HLK
                    clear hnx hf
                    generalize iter t j d = a at *
                    go_wp2_with (go_at_call 13; refine HLK.out.mono ?_; rintro e w' ⟨rfl, rfl⟩)
                    go_roundw
                    case rel => exact ⟨d + 1, by go_num, by omega, by have := HDD.out; omega, P6.out⟩
                    case measure => have := HDD.out; simp [intOf]; omega
                  · have hjN : j < N := by
                      have h1 := HN.out.2.1
                      by_cases e : j = N
                      · rw [e] at hf; exact absurd h1 hf
                      · omega
                    have hj3 : ((j : Int) + 1) ≤ 200 := by have := HN.out.1; omega
                    have HNX := Lib.hid hnx
                    clear hnx
                    generalize iter t j d = a at *
                    generalize par t a = b at *
                    have hb : (((b : Int) == (a : Int)) : Bool) = false := by rw [beq_eq_false_iff_ne]; omega
                    clear hf
                    go_wp2_with (go_at_call 13; refine HLK.out.mono ?_; rintro e w' ⟨rfl, rfl⟩)
                    go_roundw
                    case rel => exact ⟨j + 1, by rw [HNX.out], by go_num, by omega, rfl, P6.out⟩
                    case measure => simp [intOf]; omega
            · have hk0 : ((kd == 1) : Bool) = false := beq_eq_false_iff_ne.2 hkd
              clear h1' HK HU hkd
              cases b1
              · clear hb0
                go_upto_region 30 with (go_at_call 15; refine HSTT.out.mono ?_; rintro e w4 ⟨rfl, p4⟩)
                have hcl := HCLL.out w4 p4
                obtain ⟨w5, hw5⟩ : ∃ w5, w4.alloc (.cells #[.int .i64 d, .int .i64 kd, .int .i64 md, .int .i64 ow, .int .i64 gr, .int .i64 nl, .int .i64 sz, .int .i64 ty] 40) = w5 := ⟨_, rfl⟩
                have p5 := p4.alloc (.cells #[.int .i64 d, .int .i64 kd, .int .i64 md, .int .i64 ow, .int .i64 gr, .int .i64 nl, .int .i64 sz, .int .i64 ty] 40)
                have x0 : w5.cell? ⟨w4.heap.size, 0, none⟩ = some (.int .i64 d) := by rw [← hw5]; exact topc w4 _ _ rfl
                have x1 : w5.cell? ⟨w4.heap.size, 1, none⟩ = some (.int .i64 kd) := by rw [← hw5]; exact topc w4 _ _ rfl
                have x5 : w5.cell? ⟨w4.heap.size, 5, none⟩ = some (.int .i64 nl) := by rw [← hw5]; exact topc w4 _ _ rfl
                have xl : w5.cell? ⟨L, d, none⟩ = some (.int .i64 nl) := by rw [← hw5]; exact (Below.cell (p := ⟨L, d, none⟩) ((Below.refl _ w4).alloc (Nat.le_refl _) _) p4.lt).trans hcl
                rw [hw5] at p5 ⊢
                generalize w4.heap.size = G at *
                clear hw5 p4 hcl
                go_quiet (fail)
                go_wp2_with fail
                go_loopw [16, 17] (fun av sv wx => av = .int .i64 d ∧ sv = .int .i64 0 ∧ wx = w5.drewN nq) (fun _ _ _ => 0)
                case atStart => exact ⟨rfl, rfl, rfl⟩
                case round =>
                  obtain ⟨rfl, rfl, rfl⟩ := hrel
                  go_wp2_with fail
                  go_roundw
                  case rel => exact ⟨d + 1, by go_num, by omega, by have := HDD.out; omega, p5.drewN _⟩
                  case measure => have := HDD.out; simp [intOf]; omega
              · have hb2 := hb0 rfl
                clear hb0
                go_upto_region 30 with (go_at_call 15; refine HSTT.out.mono ?_; rintro e w4 ⟨rfl, p4⟩)
                have hcl := HCLL.out w4 p4
                obtain ⟨w5, hw5⟩ : ∃ w5, w4.alloc (.cells #[.int .i64 d, .int .i64 kd, .int .i64 md, .int .i64 ow, .int .i64 gr, .int .i64 nl, .int .i64 sz, .int .i64 ty] 40) = w5 := ⟨_, rfl⟩
                have p5 := p4.alloc (.cells #[.int .i64 d, .int .i64 kd, .int .i64 md, .int .i64 ow, .int .i64 gr, .int .i64 nl, .int .i64 sz, .int .i64 ty] 40)
                have x0 : w5.cell? ⟨w4.heap.size, 0, none⟩ = some (.int .i64 d) := by rw [← hw5]; exact topc w4 _ _ rfl
                have x1 : w5.cell? ⟨w4.heap.size, 1, none⟩ = some (.int .i64 kd) := by rw [← hw5]; exact topc w4 _ _ rfl
                have x5 : w5.cell? ⟨w4.heap.size, 5, none⟩ = some (.int .i64 nl) := by rw [← hw5]; exact topc w4 _ _ rfl
                have xl : w5.cell? ⟨L, d, none⟩ = some (.int .i64 nl) := by rw [← hw5]; exact (Below.cell (p := ⟨L, d, none⟩) ((Below.refl _ w4).alloc (Nat.le_refl _) _) p4.lt).trans hcl
                rw [hw5] at p5 ⊢
                generalize w4.heap.size = G at *
                clear hw5 p4 hcl
                go_quiet (fail)
                go_wp2_with fail
                go_loopw [16, 17] (fun av sv wx => av = .int .i64 d ∧ sv = .int .i64 0 ∧ wx = w5.drewN nq) (fun _ _ _ => 0)
                case atStart => exact ⟨rfl, rfl, rfl⟩
                case round =>
                  obtain ⟨rfl, rfl, rfl⟩ := hrel
                  go_wp2_with fail
                  go_roundw
                  case rel => exact ⟨d + 1, by go_num, by omega, by have := HDD.out; omega, p5.drewN _⟩
                  case measure => have := HDD.out; simp [intOf]; omega
        · go_wp2_with fail
          go_ret
          exact ⟨rfl, hq.below⟩
end Go.Proofs.Ytnjfnjkpehgenaa
