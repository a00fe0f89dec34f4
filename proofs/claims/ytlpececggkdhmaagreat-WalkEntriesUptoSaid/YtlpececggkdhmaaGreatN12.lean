import Derived.BigRegion
import Derived.Deep.RegionLaw
import Derived.Test.YtlpececggkdhmaaGreatN11
open Go.Lib (hid)
open List renaming getElem?_toArray → jD, getElem?_cons_succ → jE, getElem?_cons_zero → jF
set_option linter.unusedVariables false
set_option linter.unusedSimpArgs false
namespace Go.Proofs.YtlpececggkdhmaaGreat.Pa
open Go.RowKit Go.Shelf
attribute [local go_sem ↓] Go.wp_at_zero Go.wp_at_succ
theorem ref_results (W : World) (B : Nat) (a b c : Value) (e : Value) (h : Blk W B 130 #[a, b, c]) (tmps : Array Value)
 (h2 : tmps.getD 2 undef = .pointer (some ⟨B, 0, none⟩)) (h3 : tmps.getD 3 undef = e) :
 (results Tryz.f81 tmps).run Tryz.prog W = .ok (.tuple #[.agg #[a, b, c], e]) W := by
 have c0 := h.cell 0
 have c1 := h.cell 1
 have c2 := h.cell 2
 simp only [jD, jF, jE] at c0 c1 c2
 simp only [Array.getD_eq_getD_getElem?] at h2 h3
 simp only [results, Tryz.f81]
 simp [go_sem, h2, h3, c0, c1, c2]
theorem Rd.cells {W : World} {p : Option Addr} {n cap : Nat} {ns : List (List UInt8)} (h : Rd W (.slice p n cap) ns) : ∀ j x, ns[j]? = some x → ∃ g, p = some ⟨g, 0, none⟩ ∧ W.cell? ⟨g, j, none⟩ = some (.string ⟨x.toArray⟩) := by
 obtain ⟨p', cap', hv, _, _, hc⟩ := h
 obtain ⟨e1, _, _⟩ := Value.slice.inj hv
 subst e1
 exact hc
def lgRel (ns : List (List UInt8)) (b0 : Bool) (lv iv : Value) : Prop := ∃ i : Nat, i ≤ ns.length ∧ iv = .int .i64 i ∧ lv = .bool (b0 || (ns.take i).any longN)
theorem any_take (ns : List (List UInt8)) (i : Nat) (x : List UInt8) (h : ns[i]? = some x) : (ns.take (i + 1)).any longN = ((ns.take i).any longN || longN x) := by
 rw [List.take_add_one, h]; simp
theorem own_weaken {W : World} {b b' : Nat} {e : TypeId} {size : Nat} {v : Value} {n : Nat} {xs : List Value} (h : W.ownsRow b e size v n xs) (hb : b' ≤ b) : W.ownsRow b' e size v n xs := by
 refine ⟨h.1, ?_⟩
 rcases h.2 with h2 | ⟨g, cap, cur, h1, h2, h3⟩
 ·exact Or.inl h2
 ·exact Or.inr ⟨g, cap, cur, h1, Nat.le_trans hb h2, h3⟩
structure RS (s : ByteArray) (w : World) (R P1 : Nat) (a d : Bool) (p : Option Addr) (W : World) : Prop where
 bP : Blk W P1 130 #[.bool a, .slice none 0 0, .bool d]
 bQ : Blk W R 130 #[.bool false, .slice none 0 0, .bool false]
 below : Below R w W
 cells : ∀ j x, (nonE s.data.toList)[j]? = some x → ∃ g, p = some ⟨g, 0, none⟩ ∧ g < P1 ∧ W.cell? ⟨g, j, none⟩ = some (.string ⟨x.toArray⟩)
theorem RS.set {s : ByteArray} {w : World} {R P1 : Nat} {a d : Bool} {p : Option Addr} {W : World} (h : RS s w R P1 a d p W) (hR : R < P1) (d' : Bool) : RS s w R P1 a d' p (W.setCell ⟨P1, 2, none⟩ (.bool d')) := by
 refine ⟨h.bP.set 2 _, h.bQ.other _ _ _ (by omega), h.below.setCell (p := ⟨P1, 2, none⟩) (by show R ≤ P1; omega) _, fun j x hx => ?_⟩
 obtain ⟨g, hp, hg, hc⟩ := h.cells j x hx
 exact ⟨g, hp, hg, (((Below.refl P1 W).setCell (p := ⟨P1, 2, none⟩) (Nat.le_refl _) _).cell (p := ⟨g, j, none⟩) hg).trans hc⟩
def rlRel (ns : List (List UInt8)) (R P1 : Nat) (a d : Bool) (w W : World) (iv : Value) (wr : World) : Prop :=
 ∃ (i : Nat) (q : Option Addr) (cap m : Nat), i ≤ ns.length ∧ iv = .int .i64 i ∧ ((ns.take i).filter notDot).length = m ∧ m ≤ i ∧ wr.ownsRow P1 9 1 (.slice q m cap) m (((ns.take i).filter notDot).map strV) ∧
  Blk wr P1 130 #[.bool a, .slice q m cap, .bool d] ∧ Blk wr R 130 #[.bool false, .slice none 0 0, .bool false] ∧ Below R w wr ∧ Below P1 W wr
theorem filt_take (ns : List (List UInt8)) (i : Nat) (x : List UInt8) (h : ns[i]? = some x) : (ns.take (i + 1)).filter notDot = (ns.take i).filter notDot ++ (if notDot x = true then [x] else []) := by
 rw [List.take_add_one, h, List.filter_append]
 congr 1
 show [x].filter notDot = _
 rw [List.filter_cons]; rfl
theorem rl_step {ns : List (List UInt8)} {R P1 i cap m g3 cap3 : Nat} {q : Option Addr} {a d : Bool} {w W wr w1 w3 : World} {x : List UInt8} (hR : R < P1) (hx : ns[i]? = some x) (hd : notDot x = true) (hm : ((ns.take i).filter notDot).length = m) (hmi : m ≤ i)
 (hown : wr.ownsRow P1 9 1 (.slice q m cap) m (((ns.take i).filter notDot).map strV)) (hP : Blk wr P1 130 #[.bool a, .slice q m cap, .bool d]) (hQ : Blk wr R 130 #[.bool false, .slice none 0 0, .bool false]) (hb : Below R w wr) (hbW : Below P1 W wr)
 (h1 : w1 = (wr.alloc (.cells #[.string ⟨x.toArray⟩] 9)).drew) (hs : P1 ≤ wr.heap.size)
 (hown3 : w3.ownsRow P1 9 1 (.slice (some ⟨g3, 0, none⟩) (m + 1) cap3) (m + 1) (((ns.take i).filter notDot).map strV ++ [.string ⟨x.toArray⟩])) (hg : w1.grownBy w3 (Value.slice q m cap).ownBlock) :
 Blk w3 P1 130 #[.bool a, .slice q m cap, .bool d] ∧ rlRel ns R P1 a d w W (.int .i64 ((i : Int) + 1)) (w3.setCell ⟨P1, 1, none⟩ (.slice (some ⟨g3, 0, none⟩) (m + 1) cap3)) := by
 subst h1
 have hP1 : Blk (wr.alloc (.cells #[.string ⟨x.toArray⟩] 9)).drew P1 130 #[.bool a, .slice q m cap, .bool d] := hP.alloc _
 have hQ1 : Blk (wr.alloc (.cells #[.string ⟨x.toArray⟩] 9)).drew R 130 #[.bool false, .slice none 0 0, .bool false] := hQ.alloc _
 have hP3 := hP1.kept hg (hP.not_row (by decide) hown)
 have hQ3 := hQ1.kept hg (hQ.not_row (by decide) hown)
 refine ⟨hP3, i + 1, _, _, m + 1, by have := (List.getElem?_eq_some_iff.1 hx).1; omega, by go_num, ?_, by omega, ?_, hP3.set 1 _, hQ3.other _ _ _ (by omega), ?_, ?_⟩
 ·rw [filt_take ns i x hx, if_pos hd, List.length_append, hm]; rfl
 ·rw [filt_take ns i x hx, if_pos hd, List.map_append]
  exact row_other hown3 hP3 (by decide) 1 _
 ·refine Below.setCell (p := ⟨P1, 1, none⟩) ?_ (by show R ≤ P1; omega) _
  exact ((hb.alloc (by omega) _).drew).grown hg (by simp; omega) (fun k e => by have := (hown.lt k e).1; omega)
 ·refine Below.setCell (p := ⟨P1, 1, none⟩) ?_ (Nat.le_refl _) _
  exact ((hbW.alloc (by omega) _).drew).grown hg (by simp; omega) (fun k e => (hown.lt k e).1)
set_option maxRecDepth 100000 in
set_option maxHeartbeats 3000000 in
theorem refSplit_any (s : ByteArray) (hs : s.size ≤ 1048576) (w : World) : Calls Tryz.prog 81 #[.string s] w (SplitPost s.data.toList w) := by
 by_cases h0 : s.data.toList = []
 ·have he := isEmpty_of h0
  have He := hid (splitV_err (show splE s.data.toList = 3 by unfold splE; rw [if_pos h0]) (by decide))
  clear h0
  go_enter Tryz.func81, Tryz.ntmps81
  go_wp2
  refine bodyPost_ret (ref_results _ _ _ _ _ _ (Blk.new w 130 #[.bool false, .slice none 0 0, .bool false]) _ rfl rfl) rfl ⟨.slice none 0 0, by rw [He.out.1]; rfl, ?_, (Below.refl _ _).alloc (Nat.le_refl _) _⟩
  rw [He.out.2]; exact World.ownsRow_nil _ _ _ _
 have he := isEmpty_no h0
 have hpos : 0 < s.size := by
  rcases Nat.eq_zero_or_pos s.size with h | h
  ·exact absurd (List.length_eq_zero_iff.1 (by rw [size_len]; exact h)) h0
  ·exact h
 have Hne := hid h0
 clear h0
 have HP := hid (fun w : World => parts_any s hs w)
 go_enter Tryz.func81, Tryz.ntmps81
 go_wp2_with fail
 refine (HP.out _).mono ?_
 rintro e w1 ⟨v, rfl, hr, hb⟩
 have bR := (Blk.new w 130 #[.bool false, .slice none 0 0, .bool false]).below hb (by simp)
 have hB1 : Below w.heap.size w w1 := ((Below.refl _ w).alloc (Nat.le_refl _) _).trans (hb.mono (by simp))
 have hrd := Rd.of_row (l := nonE s.data.toList) hr.out
 have hown0 := hr.out
 have hlen := len_nonE s.data.toList
 rw [size_len] at hlen
 obtain ⟨p, cap, rfl⟩ := row_slice hown0
 obtain ⟨n, hn⟩ : ∃ n, (nonE s.data.toList).length = n := ⟨_, rfl⟩
 rw [hn] at hlen hown0 hrd ⊢
 have Hn := hid hn
 have HC := hid hrd.cells
 clear hr hb hn
 go_wp2
 go_loop [5, 6] (fun lv iv => lgRel (nonE s.data.toList) (decide ((128 : Int) < (s.size : Int))) lv iv) (fun _ iv => n - (intOf iv).toNat)
 case atStart => exact ⟨0, Nat.zero_le _, rfl, by rw [List.take_zero, List.any_nil, Bool.or_false]⟩
 case round =>
  obtain ⟨i, hi, rfl, rfl⟩ := hrel
  rw [Hn.out] at hi
  obtain ⟨c, hc⟩ : ∃ c, (decide ((128 : Int) < (s.size : Int)) || ((nonE s.data.toList).take i).any longN) = c := ⟨_, rfl⟩
  rw [hc]
  have Hc := hid hc
  clear hc
  by_cases hlt : i < n
  ·obtain ⟨x, hx⟩ : ∃ x, (nonE s.data.toList)[i]? = some x := ⟨_, List.getElem?_eq_getElem (by rw [Hn.out]; exact hlt)⟩
   have hs2 := any_take _ _ _ hx
   obtain ⟨g, rfl, hc1⟩ := HC.out i x hx
   have Hs := hid (show (decide ((128 : Int) < (s.size : Int)) || ((nonE s.data.toList).take (i + 1)).any longN) = (c || longN x) by rw [hs2, ← Hc.out, Bool.or_assoc])
   clear hx hs2
   cases c
   ·by_cases h14 : 14 < x.length
    ·have hlx : longN x = true := decide_eq_true h14
     have Hs2 := hid (Hs.out.trans (show (false || longN x) = true by simp [hlx]))
     clear hlx
     go_wp2
     go_round
     case rel => exact ⟨i + 1, by rw [Hn.out]; omega, by go_num, by rw [Hs2.out]; exact congrArg Value.bool (decide_eq_true (by omega))⟩
     case measure => simp [intOf]; omega
    ·have hlx : longN x = false := decide_eq_false h14
     have Hs2 := hid (Hs.out.trans (show (false || longN x) = false by simp [hlx]))
     clear hlx
     go_wp2
     go_round
     case rel => exact ⟨i + 1, by rw [Hn.out]; omega, by go_num, by rw [Hs2.out]; exact congrArg Value.bool (decide_eq_false (by omega))⟩
     case measure => simp [intOf]; omega
   ·have Hs2 := hid (Hs.out.trans (Bool.true_or _))
    go_wp2
    go_round
    case rel => exact ⟨i + 1, by rw [Hn.out]; omega, by go_num, by rw [Hs2.out]⟩
    case measure => simp [intOf]; omega
  ·have hin : i = n := by omega
   subst hin
   have hall : (nonE s.data.toList).take i = nonE s.data.toList := List.take_of_length_le (by rw [Hn.out]; exact Nat.le_refl _)
   have hc2 := Hc.out
   rw [hall, long_nonE] at hc2
   cases c
   ·obtain ⟨h1, h2⟩ := Bool.or_eq_false_iff.1 hc2
    have h128 : ¬ 128 < s.size := by have := of_decide_eq_false h1; omega
    have H2 := hid h2
    clear h1 h2 hc2 hall
    have k0 := bR.cell 0
    have k1 := bR.cell 1
    have k2 := bR.cell 2
    have f0 := bR.frozen 0
    have f1 := bR.frozen 1
    have f2 := bR.frozen 2
    go_wp2
    go_loop [7] (fun iv => badRel s iv) (fun iv => s.size - (intOf iv).toNat)
    case atStart => exact ⟨0, Nat.zero_le _, rfl, rfl⟩
    case round =>
     obtain ⟨k, hk, rfl, hbn⟩ := hrel
     have Hbn := hid hbn; clear hbn
     by_cases hlt2 : k < s.size
     ·cases hb : badC s[k]
      ·have Hs := hid ((bad_step s k hlt2 hb).symm.trans Hbn.out)
       have h32 : ¬ (s[k].toNat : Int) < 32 := by unfold badC at hb; simp at hb; omega
       have h127 : (((s[k].toNat : Int) == 127) : Bool) = false := by
        unfold badC at hb; simp at hb
        rw [beq_eq_false_iff_ne]; omega
       clear hb
       go_wp2
       go_round
       case rel => exact ⟨k + 1, by omega, by go_num, Hs.out⟩
       case measure => simp [intOf]; omega
      ·have hE : splE s.data.toList = 1 := by
        unfold splE
        rw [if_neg Hne.out, if_neg (by rw [size_len]; exact h128), H2.out, (bad_stop s k hlt2 hb).symm.trans Hbn.out |>.symm]; rfl
       have He := hid (splitV_err hE (by decide))
       have FIN1 := bR
       clear hE
       by_cases h32 : (s[k].toNat : Int) < 32
       ·clear hb
        go_wp2
        have bR2 := ((bR.set 0 (.bool false)).set 1 (.slice none 0 0)).set 2 (.bool false)
        refine bodyPost_ret (ref_results _ _ _ _ _ _ bR2 _ rfl rfl) rfl ⟨.slice none 0 0, by rw [He.out.1]; rfl, ?_, ?_⟩
        ·rw [He.out.2]; exact World.ownsRow_nil _ _ _ _
        ·exact ((hB1.setCell (p := ⟨w.heap.size, 0, none⟩) (Nat.le_refl _) _).setCell (p := ⟨w.heap.size, 1, none⟩) (Nat.le_refl _) _).setCell (p := ⟨w.heap.size, 2, none⟩) (Nat.le_refl _) _
       ·have h127 : (((s[k].toNat : Int) == 127) : Bool) = true := by
         unfold badC at hb; simp at hb
         rw [beq_iff_eq]; omega
        clear hb
        go_wp2
        have bR2 := ((bR.set 0 (.bool false)).set 1 (.slice none 0 0)).set 2 (.bool false)
        refine bodyPost_ret (ref_results _ _ _ _ _ _ bR2 _ rfl rfl) rfl ⟨.slice none 0 0, by rw [He.out.1]; rfl, ?_, ?_⟩
        ·rw [He.out.2]; exact World.ownsRow_nil _ _ _ _
        ·exact ((hB1.setCell (p := ⟨w.heap.size, 0, none⟩) (Nat.le_refl _) _).setCell (p := ⟨w.heap.size, 1, none⟩) (Nat.le_refl _) _).setCell (p := ⟨w.heap.size, 2, none⟩) (Nat.le_refl _) _
     ·have hE : splE s.data.toList = 0 := E_zero Hne.out (by rw [size_len]; omega) H2.out ((bad_end s k (by omega)).symm.trans Hbn.out).symm
      have HE := hid hE
      obtain ⟨q, hq⟩ : ∃ q, s.size = q + 1 := ⟨s.size - 1, by omega⟩
      have hq1 : q < s.size := by omega
      have hla : s.data.toList.getLast? = some s[q] := by
       have := last_at s hpos
       rw [this]; simp [hq]
      have Hla := hid hla
      have Hq := hid hq
      have hw : IntKind.i64.wrap ((s.size : Int) - 1) = (q : Int) := by rw [IntKind.wrap_i64]; omega
      clear hla hq
      clear hE Hbn
      go_wp2
      go_region
      obtain ⟨a, ha⟩ : ∃ a, ((s[0].toNat : Int) == 47) = a := ⟨_, rfl⟩
      obtain ⟨d, hd⟩ : ∃ d, ((s[q].toNat : Int) == 47) = d := ⟨_, rfl⟩
      rw [ha, hd]
      have Ha := hid (ha.symm.trans (abs_at s hpos))
      have Hd := hid hd
      have hBW : Below w.heap.size w (w1.alloc (.cells #[.bool a, .slice none 0 0, .bool d] 130)).drew := (hB1.alloc hB1.size _).drew
      have bP : Blk (w1.alloc (.cells #[.bool a, .slice none 0 0, .bool d] 130)).drew w1.heap.size 130 #[.bool a, .slice none 0 0, .bool d] := Blk.new w1 130 _
      have bQ : Blk (w1.alloc (.cells #[.bool a, .slice none 0 0, .bool d] 130)).drew w.heap.size 130 #[.bool false, .slice none 0 0, .bool false] := bR.alloc _
      have hRP : w.heap.size < w1.heap.size := bR.lt
      have HW := hid (show ∀ j x, (nonE s.data.toList)[j]? = some x → ∃ g, p = some ⟨g, 0, none⟩ ∧ g < w1.heap.size ∧ (w1.alloc (.cells #[.bool a, .slice none 0 0, .bool d] 130)).drew.cell? ⟨g, j, none⟩ = some (.string ⟨x.toArray⟩) from fun j x hx => by
       obtain ⟨g, hg, hc⟩ := HC.out j x hx
       exact ⟨g, hg, cell_lt hc, (((Below.refl _ w1).alloc (Nat.le_refl _) _).cell (p := ⟨g, j, none⟩) (cell_lt hc)).trans hc⟩)
      obtain ⟨P1, hP1⟩ : ∃ P1, w1.heap.size = P1 := ⟨_, rfl⟩
      rw [hP1] at bP hRP HW ⊢
      have hPW := bP.lt
      clear hw hd ha k0 k1 k2 f0 f1 f2 bR hrd HC hB1 hP1 Hc hown0 HP
      generalize (w1.alloc (.cells #[.bool a, .slice none 0 0, .bool d] 130)).drew = W at *
      have hRS0 : RS s w w.heap.size P1 a d p W := ⟨bP, bQ, hBW, HW.out⟩
      obtain ⟨i0, hii, hz0, hz1, hz2⟩ := info_parts Tryz.infoString
      by_cases hi0 : 0 < i
      ·obtain ⟨x, hx⟩ : ∃ x, (nonE s.data.toList)[i - 1]? = some x := ⟨_, List.getElem?_eq_getElem (by rw [Hn.out]; omega)⟩
       obtain ⟨g, rfl, hg, hcx⟩ := HW.out (i - 1) x hx
       have hlast : (nonE s.data.toList).getLast? = some x := by rw [List.getLast?_eq_getElem?, Hn.out]; exact hx
       have hdir : dirP s.data.toList = (d || (x == [46] || x == [46, 46])) := by
        rw [dir_eq Hne.out]
        have e1 : (s.data.toList.getLast? == some 47) = d := by
         rw [Hla.out, ← Hd.out]
         by_cases h : s[q] = 47
         ·exact (beq_iff_eq.2 (by rw [h])).trans (u8_true _ 47 h).symm
         ·exact (beq_eq_false_iff_ne.2 (fun e => h (Option.some.inj e))).trans (u8_false _ 47 h).symm
        have e2 : lastDot s.data.toList = (x == [46] || x == [46, 46]) := by unfold lastDot; rw [hlast]
        rw [e1, e2]
       have Hdir := hid hdir
       have p0 := bP.cell 0
       have p1 := bP.cell 1
       have p2 := bP.cell 2
       have pf2 := bP.frozen 2
       simp only [jD, jF, jE] at p0 p1 p2
       clear hx hlast hdir bP bQ hBW HW
       cases d
       ·by_cases hx1 : x = [46]
        ·subst hx1
         have HDD := hid (show true = dirP s.data.toList by rw [Hdir.out]; rfl)
         go_wp2_with fail
         have hRS := hRS0.set hRP true
         clear hRS0 p0 p1 p2 pf2 hcx
         generalize W.setCell ⟨P1, 2, none⟩ (.bool true) = W2 at *
         have hRW := hRS.bP.lt
         go_wp2
         go_loopw [10] (fun iv wr => rlRel (nonE s.data.toList) w.heap.size P1 a true w W2 iv wr) (fun iv _ => i - (intOf iv).toNat)
         case atStart => exact ⟨0, none, 0, 0, Nat.zero_le _, rfl, rfl, Nat.le_refl _, World.ownsRow_nil _ _ _ _, hRS.bP, hRS.bQ, hRS.below, Below.refl _ _⟩
         case round =>
          obtain ⟨j, q', cap', m, hj, rfl, hm, hmj, hown, hP, hQ, hb, hbW⟩ := hrel
          rw [Hn.out] at hj
          have hPs := hP.lt
          have q0 := hP.cell 0
          have q1 := hP.cell 1
          have q2 := hP.cell 2
          have qf := hP.frozen 1
          have r0 := hQ.cell 0
          have r1 := hQ.cell 1
          have r2 := hQ.cell 2
          have rf0 := hQ.frozen 0
          have rf1 := hQ.frozen 1
          have rf2 := hQ.frozen 2
          simp only [jD, jF, jE] at q0 q1 q2 r0 r1 r2
          have Hm := hid hm
          clear hm
          by_cases hjl : j < i
          ·obtain ⟨y, hy⟩ : ∃ y, (nonE s.data.toList)[j]? = some y := ⟨_, List.getElem?_eq_getElem (by rw [Hn.out]; exact hjl)⟩
           obtain ⟨gy, hpg, hgy, hcy⟩ := hRS.cells j y hy
           have hgg : gy = g := by cases hpg; rfl
           rw [hgg] at hgy hcy
           clear hpg hgg
           have hcy2 : wr.cell? ⟨g, j, none⟩ = some (.string ⟨y.toArray⟩) := (hbW.cell (p := ⟨g, j, none⟩) hgy).trans hcy
           have hgw : g < wr.heap.size := cell_lt hcy2
           have Hy := hid hy
           clear hy hcy
           by_cases hyd : y = [46]
           ·subst hyd
            go_wp2
            go_roundw
            case rel =>
             have e := filt_take _ _ _ Hy.out
             rw [if_neg (by decide), List.append_nil] at e
             exact ⟨j + 1, q', cap', m, by rw [Hn.out]; omega, by go_num, by rw [e]; exact Hm.out, by omega, by rw [e]; exact hown, hP, hQ, hb, hbW⟩
            case measure => simp [intOf]; omega
           ·have hnd : notDot y = true := bne_iff_ne.2 hyd
            have Hnd := hid hnd
            have hyb : (y == [46]) = false := beq_eq_false_iff_ne.2 hyd
            clear hnd hyd
            go_wp2
            go_region_law (first
             | (refine step_append_lies _ (by rfl) _ _ _ (by rfl) P1 9 i0 (.string ByteArray.empty) 1 16 Tryz.underlying54 hii hz0 hz1 hz2 (by rfl) (by decide) _ m (((nonE s.data.toList).take j).filter notDot |>.map strV) (by rfl) ((hown.alloc _).drew)
                 ⟨wr.heap.size, 0, none⟩ 1 1 [.string ⟨y.toArray⟩] (by rfl) (by rfl) ((News.one wr _).drew) (by simp [Value.oneCell']) (by decide) (by unfold maxLen; omega) (by omega) (by simp; omega) (wr.heap.size + 1) (by simp) ?_
                intro g3 cap3 w3 hown3 hgrow3 hat3 hlt3
                obtain ⟨hb3, R⟩ := rl_step hRP Hy.out Hnd.out Hm.out hmj hown hP hQ hb hbW rfl (by omega) hown3 hgrow3
                have c3 := hb3.cell 1
                have f3 := hb3.frozen 1
                clear hgrow3 hown3))
            all_goals go_wp2
            all_goals go_roundw
            all_goals first | exact R | (simp [intOf]; omega)
          ·have hji : j = i := by omega
           subst hji
           have hall2 : (nonE s.data.toList).take j = nonE s.data.toList := List.take_of_length_le (by rw [Hn.out]; exact Nat.le_refl _)
           have hnm : ((nonE s.data.toList).take j).filter notDot = nam s.data.toList := by rw [hall2, nam_nonE]
           have Hnm := hid hnm
           clear hall2 hnm
           go_wp2
           have bR3 := ((hQ.set 0 (.bool a)).set 1 (.slice q' m cap')).set 2 (.bool true)
           have hfin := splitV_ok HE.out (.slice q' m cap')
           refine bodyPost_ret (ref_results _ _ _ _ _ _ bR3 _ rfl rfl) rfl ⟨.slice q' m cap', ?_, ?_, ?_⟩
           ·rw [hfin.1, ← Ha.out, ← HDD.out]; rfl
           ·have hmm := Hm.out
            rw [Hnm.out] at hown hmm
            rw [hfin.2, hmm]
            exact row_other (row_other (row_other (own_weaken hown (Nat.le_of_lt hRP)) hQ (by decide) 0 _) (hQ.set 0 _) (by decide) 1 _) ((hQ.set 0 _).set 1 _) (by decide) 2 _
           ·exact ((hb.setCell (p := ⟨w.heap.size, 0, none⟩) (Nat.le_refl _) _).setCell (p := ⟨w.heap.size, 1, none⟩) (Nat.le_refl _) _).setCell (p := ⟨w.heap.size, 2, none⟩) (Nat.le_refl _) _
        have hx1b : (x == [46]) = false := beq_eq_false_iff_ne.2 hx1
        by_cases hx2 : x = [46, 46]
        ·subst hx2
         clear hx1b hx1
         have HDD := hid (show true = dirP s.data.toList by rw [Hdir.out]; rfl)
         go_wp2_with fail
         have hRS := hRS0.set hRP true
         clear hRS0 p0 p1 p2 pf2 hcx
         generalize W.setCell ⟨P1, 2, none⟩ (.bool true) = W2 at *
         have hRW := hRS.bP.lt
         go_wp2
         go_loopw [10] (fun iv wr => rlRel (nonE s.data.toList) w.heap.size P1 a true w W2 iv wr) (fun iv _ => i - (intOf iv).toNat)
         case atStart => exact ⟨0, none, 0, 0, Nat.zero_le _, rfl, rfl, Nat.le_refl _, World.ownsRow_nil _ _ _ _, hRS.bP, hRS.bQ, hRS.below, Below.refl _ _⟩
         case round =>
          obtain ⟨j, q', cap', m, hj, rfl, hm, hmj, hown, hP, hQ, hb, hbW⟩ := hrel
          rw [Hn.out] at hj
          have hPs := hP.lt
          have q0 := hP.cell 0
          have q1 := hP.cell 1
          have q2 := hP.cell 2
          have qf := hP.frozen 1
          have r0 := hQ.cell 0
          have r1 := hQ.cell 1
          have r2 := hQ.cell 2
          have rf0 := hQ.frozen 0
          have rf1 := hQ.frozen 1
          have rf2 := hQ.frozen 2
          simp only [jD, jF, jE] at q0 q1 q2 r0 r1 r2
          have Hm := hid hm
          clear hm
          by_cases hjl : j < i
          ·obtain ⟨y, hy⟩ : ∃ y, (nonE s.data.toList)[j]? = some y := ⟨_, List.getElem?_eq_getElem (by rw [Hn.out]; exact hjl)⟩
           obtain ⟨gy, hpg, hgy, hcy⟩ := hRS.cells j y hy
           have hgg : gy = g := by cases hpg; rfl
           rw [hgg] at hgy hcy
           clear hpg hgg
           have hcy2 : wr.cell? ⟨g, j, none⟩ = some (.string ⟨y.toArray⟩) := (hbW.cell (p := ⟨g, j, none⟩) hgy).trans hcy
           have hgw : g < wr.heap.size := cell_lt hcy2
           have Hy := hid hy
           clear hy hcy
           by_cases hyd : y = [46]
           ·subst hyd
            go_wp2
            go_roundw
            case rel =>
             have e := filt_take _ _ _ Hy.out
             rw [if_neg (by decide), List.append_nil] at e
             exact ⟨j + 1, q', cap', m, by rw [Hn.out]; omega, by go_num, by rw [e]; exact Hm.out, by omega, by rw [e]; exact hown, hP, hQ, hb, hbW⟩
            case measure => simp [intOf]; omega
           ·have hnd : notDot y = true := bne_iff_ne.2 hyd
            have Hnd := hid hnd
            have hyb : (y == [46]) = false := beq_eq_false_iff_ne.2 hyd
            clear hnd hyd
            go_wp2
            go_region_law (first
             | (refine step_append_lies _ (by rfl) _ _ _ (by rfl) P1 9 i0 (.string ByteArray.empty) 1 16 Tryz.underlying54 hii hz0 hz1 hz2 (by rfl) (by decide) _ m (((nonE s.data.toList).take j).filter notDot |>.map strV) (by rfl) ((hown.alloc _).drew)
                 ⟨wr.heap.size, 0, none⟩ 1 1 [.string ⟨y.toArray⟩] (by rfl) (by rfl) ((News.one wr _).drew) (by simp [Value.oneCell']) (by decide) (by unfold maxLen; omega) (by omega) (by simp; omega) (wr.heap.size + 1) (by simp) ?_
                intro g3 cap3 w3 hown3 hgrow3 hat3 hlt3
                obtain ⟨hb3, R⟩ := rl_step hRP Hy.out Hnd.out Hm.out hmj hown hP hQ hb hbW rfl (by omega) hown3 hgrow3
                have c3 := hb3.cell 1
                have f3 := hb3.frozen 1
                clear hgrow3 hown3))
            all_goals go_wp2
            all_goals go_roundw
            all_goals first | exact R | (simp [intOf]; omega)
          ·have hji : j = i := by omega
           subst hji
           have hall2 : (nonE s.data.toList).take j = nonE s.data.toList := List.take_of_length_le (by rw [Hn.out]; exact Nat.le_refl _)
           have hnm : ((nonE s.data.toList).take j).filter notDot = nam s.data.toList := by rw [hall2, nam_nonE]
           have Hnm := hid hnm
           clear hall2 hnm
           go_wp2
           have bR3 := ((hQ.set 0 (.bool a)).set 1 (.slice q' m cap')).set 2 (.bool true)
           have hfin := splitV_ok HE.out (.slice q' m cap')
           refine bodyPost_ret (ref_results _ _ _ _ _ _ bR3 _ rfl rfl) rfl ⟨.slice q' m cap', ?_, ?_, ?_⟩
           ·rw [hfin.1, ← Ha.out, ← HDD.out]; rfl
           ·have hmm := Hm.out
            rw [Hnm.out] at hown hmm
            rw [hfin.2, hmm]
            exact row_other (row_other (row_other (own_weaken hown (Nat.le_of_lt hRP)) hQ (by decide) 0 _) (hQ.set 0 _) (by decide) 1 _) ((hQ.set 0 _).set 1 _) (by decide) 2 _
           ·exact ((hb.setCell (p := ⟨w.heap.size, 0, none⟩) (Nat.le_refl _) _).setCell (p := ⟨w.heap.size, 1, none⟩) (Nat.le_refl _) _).setCell (p := ⟨w.heap.size, 2, none⟩) (Nat.le_refl _) _
        have hx2b : (x == [46, 46]) = false := beq_eq_false_iff_ne.2 hx2
        have Hdir2 := hid (Hdir.out.trans (show (false || (x == [46] || x == [46, 46])) = false by rw [hx1b, hx2b]; rfl))
        clear hx1 hx2
        have HDD := hid (show false = dirP s.data.toList by rw [Hdir2.out])
        go_wp2_with fail
        have hRS := hRS0.set hRP false
        clear hRS0 p0 p1 p2 pf2 hcx
        generalize W.setCell ⟨P1, 2, none⟩ (.bool false) = W2 at *
        have hRW := hRS.bP.lt
        go_wp2
        go_loopw [10] (fun iv wr => rlRel (nonE s.data.toList) w.heap.size P1 a false w W2 iv wr) (fun iv _ => i - (intOf iv).toNat)
        case atStart => exact ⟨0, none, 0, 0, Nat.zero_le _, rfl, rfl, Nat.le_refl _, World.ownsRow_nil _ _ _ _, hRS.bP, hRS.bQ, hRS.below, Below.refl _ _⟩
        case round =>
         obtain ⟨j, q', cap', m, hj, rfl, hm, hmj, hown, hP, hQ, hb, hbW⟩ := hrel
         rw [Hn.out] at hj
         have hPs := hP.lt
         have q0 := hP.cell 0
         have q1 := hP.cell 1
         have q2 := hP.cell 2
         have qf := hP.frozen 1
         have r0 := hQ.cell 0
         have r1 := hQ.cell 1
         have r2 := hQ.cell 2
         have rf0 := hQ.frozen 0
         have rf1 := hQ.frozen 1
         have rf2 := hQ.frozen 2
         simp only [jD, jF, jE] at q0 q1 q2 r0 r1 r2
         have Hm := hid hm
         clear hm
         by_cases hjl : j < i
         ·obtain ⟨y, hy⟩ : ∃ y, (nonE s.data.toList)[j]? = some y := ⟨_, List.getElem?_eq_getElem (by rw [Hn.out]; exact hjl)⟩
          obtain ⟨gy, hpg, hgy, hcy⟩ := hRS.cells j y hy
          have hgg : gy = g := by cases hpg; rfl
          rw [hgg] at hgy hcy
          clear hpg hgg
          have hcy2 : wr.cell? ⟨g, j, none⟩ = some (.string ⟨y.toArray⟩) := (hbW.cell (p := ⟨g, j, none⟩) hgy).trans hcy
          have hgw : g < wr.heap.size := cell_lt hcy2
          have Hy := hid hy
          clear hy hcy
          by_cases hyd : y = [46]
          ·subst hyd
           go_wp2
           go_roundw
           case rel =>
            have e := filt_take _ _ _ Hy.out
            rw [if_neg (by decide), List.append_nil] at e
            exact ⟨j + 1, q', cap', m, by rw [Hn.out]; omega, by go_num, by rw [e]; exact Hm.out, by omega, by rw [e]; exact hown, hP, hQ, hb, hbW⟩
           case measure => simp [intOf]; omega
          ·have hnd : notDot y = true := bne_iff_ne.2 hyd
           have Hnd := hid hnd
           have hyb : (y == [46]) = false := beq_eq_false_iff_ne.2 hyd
           clear hnd hyd
           go_wp2
           go_region_law (first
            | (refine step_append_lies _ (by rfl) _ _ _ (by rfl) P1 9 i0 (.string ByteArray.empty) 1 16 Tryz.underlying54 hii hz0 hz1 hz2 (by rfl) (by decide) _ m (((nonE s.data.toList).take j).filter notDot |>.map strV) (by rfl) ((hown.alloc _).drew)
                ⟨wr.heap.size, 0, none⟩ 1 1 [.string ⟨y.toArray⟩] (by rfl) (by rfl) ((News.one wr _).drew) (by simp [Value.oneCell']) (by decide) (by unfold maxLen; omega) (by omega) (by simp; omega) (wr.heap.size + 1) (by simp) ?_
               intro g3 cap3 w3 hown3 hgrow3 hat3 hlt3
               obtain ⟨hb3, R⟩ := rl_step hRP Hy.out Hnd.out Hm.out hmj hown hP hQ hb hbW rfl (by omega) hown3 hgrow3
               have c3 := hb3.cell 1
               have f3 := hb3.frozen 1
               clear hgrow3 hown3))
           all_goals go_wp2
           all_goals go_roundw
           all_goals first | exact R | (simp [intOf]; omega)
         ·have hji : j = i := by omega
          subst hji
          have hall2 : (nonE s.data.toList).take j = nonE s.data.toList := List.take_of_length_le (by rw [Hn.out]; exact Nat.le_refl _)
          have hnm : ((nonE s.data.toList).take j).filter notDot = nam s.data.toList := by rw [hall2, nam_nonE]
          have Hnm := hid hnm
          clear hall2 hnm
          go_wp2
          have bR3 := ((hQ.set 0 (.bool a)).set 1 (.slice q' m cap')).set 2 (.bool false)
          have hfin := splitV_ok HE.out (.slice q' m cap')
          refine bodyPost_ret (ref_results _ _ _ _ _ _ bR3 _ rfl rfl) rfl ⟨.slice q' m cap', ?_, ?_, ?_⟩
          ·rw [hfin.1, ← Ha.out, ← HDD.out]; rfl
          ·have hmm := Hm.out
           rw [Hnm.out] at hown hmm
           rw [hfin.2, hmm]
           exact row_other (row_other (row_other (own_weaken hown (Nat.le_of_lt hRP)) hQ (by decide) 0 _) (hQ.set 0 _) (by decide) 1 _) ((hQ.set 0 _).set 1 _) (by decide) 2 _
          ·exact ((hb.setCell (p := ⟨w.heap.size, 0, none⟩) (Nat.le_refl _) _).setCell (p := ⟨w.heap.size, 1, none⟩) (Nat.le_refl _) _).setCell (p := ⟨w.heap.size, 2, none⟩) (Nat.le_refl _) _
       ·
        have HDD := hid (show true = dirP s.data.toList by rw [Hdir.out]; rfl)
        go_wp2_with fail
        have hRS := hRS0.set hRP true
        clear hRS0 p0 p1 p2 pf2 hcx
        generalize W.setCell ⟨P1, 2, none⟩ (.bool true) = W2 at *
        have hRW := hRS.bP.lt
        go_wp2
        go_loopw [10] (fun iv wr => rlRel (nonE s.data.toList) w.heap.size P1 a true w W2 iv wr) (fun iv _ => i - (intOf iv).toNat)
        case atStart => exact ⟨0, none, 0, 0, Nat.zero_le _, rfl, rfl, Nat.le_refl _, World.ownsRow_nil _ _ _ _, hRS.bP, hRS.bQ, hRS.below, Below.refl _ _⟩
        case round =>
         obtain ⟨j, q', cap', m, hj, rfl, hm, hmj, hown, hP, hQ, hb, hbW⟩ := hrel
         rw [Hn.out] at hj
         have hPs := hP.lt
         have q0 := hP.cell 0
         have q1 := hP.cell 1
         have q2 := hP.cell 2
         have qf := hP.frozen 1
         have r0 := hQ.cell 0
         have r1 := hQ.cell 1
         have r2 := hQ.cell 2
         have rf0 := hQ.frozen 0
         have rf1 := hQ.frozen 1
         have rf2 := hQ.frozen 2
         simp only [jD, jF, jE] at q0 q1 q2 r0 r1 r2
         have Hm := hid hm
         clear hm
         by_cases hjl : j < i
         ·obtain ⟨y, hy⟩ : ∃ y, (nonE s.data.toList)[j]? = some y := ⟨_, List.getElem?_eq_getElem (by rw [Hn.out]; exact hjl)⟩
          obtain ⟨gy, hpg, hgy, hcy⟩ := hRS.cells j y hy
          have hgg : gy = g := by cases hpg; rfl
          rw [hgg] at hgy hcy
          clear hpg hgg
          have hcy2 : wr.cell? ⟨g, j, none⟩ = some (.string ⟨y.toArray⟩) := (hbW.cell (p := ⟨g, j, none⟩) hgy).trans hcy
          have hgw : g < wr.heap.size := cell_lt hcy2
          have Hy := hid hy
          clear hy hcy
          by_cases hyd : y = [46]
          ·subst hyd
           go_wp2
           go_roundw
           case rel =>
            have e := filt_take _ _ _ Hy.out
            rw [if_neg (by decide), List.append_nil] at e
            exact ⟨j + 1, q', cap', m, by rw [Hn.out]; omega, by go_num, by rw [e]; exact Hm.out, by omega, by rw [e]; exact hown, hP, hQ, hb, hbW⟩
           case measure => simp [intOf]; omega
          ·have hnd : notDot y = true := bne_iff_ne.2 hyd
           have Hnd := hid hnd
           have hyb : (y == [46]) = false := beq_eq_false_iff_ne.2 hyd
           clear hnd hyd
           go_wp2
           go_region_law (first
            | (refine step_append_lies _ (by rfl) _ _ _ (by rfl) P1 9 i0 (.string ByteArray.empty) 1 16 Tryz.underlying54 hii hz0 hz1 hz2 (by rfl) (by decide) _ m (((nonE s.data.toList).take j).filter notDot |>.map strV) (by rfl) ((hown.alloc _).drew)
                ⟨wr.heap.size, 0, none⟩ 1 1 [.string ⟨y.toArray⟩] (by rfl) (by rfl) ((News.one wr _).drew) (by simp [Value.oneCell']) (by decide) (by unfold maxLen; omega) (by omega) (by simp; omega) (wr.heap.size + 1) (by simp) ?_
               intro g3 cap3 w3 hown3 hgrow3 hat3 hlt3
               obtain ⟨hb3, R⟩ := rl_step hRP Hy.out Hnd.out Hm.out hmj hown hP hQ hb hbW rfl (by omega) hown3 hgrow3
               have c3 := hb3.cell 1
               have f3 := hb3.frozen 1
               clear hgrow3 hown3))
           all_goals go_wp2
           all_goals go_roundw
           all_goals first | exact R | (simp [intOf]; omega)
         ·have hji : j = i := by omega
          subst hji
          have hall2 : (nonE s.data.toList).take j = nonE s.data.toList := List.take_of_length_le (by rw [Hn.out]; exact Nat.le_refl _)
          have hnm : ((nonE s.data.toList).take j).filter notDot = nam s.data.toList := by rw [hall2, nam_nonE]
          have Hnm := hid hnm
          clear hall2 hnm
          go_wp2
          have bR3 := ((hQ.set 0 (.bool a)).set 1 (.slice q' m cap')).set 2 (.bool true)
          have hfin := splitV_ok HE.out (.slice q' m cap')
          refine bodyPost_ret (ref_results _ _ _ _ _ _ bR3 _ rfl rfl) rfl ⟨.slice q' m cap', ?_, ?_, ?_⟩
          ·rw [hfin.1, ← Ha.out, ← HDD.out]; rfl
          ·have hmm := Hm.out
           rw [Hnm.out] at hown hmm
           rw [hfin.2, hmm]
           exact row_other (row_other (row_other (own_weaken hown (Nat.le_of_lt hRP)) hQ (by decide) 0 _) (hQ.set 0 _) (by decide) 1 _) ((hQ.set 0 _).set 1 _) (by decide) 2 _
          ·exact ((hb.setCell (p := ⟨w.heap.size, 0, none⟩) (Nat.le_refl _) _).setCell (p := ⟨w.heap.size, 1, none⟩) (Nat.le_refl _) _).setCell (p := ⟨w.heap.size, 2, none⟩) (Nat.le_refl _) _
      ·have hi00 : i = 0 := by omega
       subst hi00
       have hnil : nonE s.data.toList = [] := List.length_eq_zero_iff.1 Hn.out
       have hdir : dirP s.data.toList = d := by
        rw [dir_eq Hne.out]
        have e1 : (s.data.toList.getLast? == some 47) = d := by
         rw [Hla.out, ← Hd.out]
         by_cases h : s[q] = 47
         ·exact (beq_iff_eq.2 (by rw [h])).trans (u8_true _ 47 h).symm
         ·exact (beq_eq_false_iff_ne.2 (fun e => h (Option.some.inj e))).trans (u8_false _ 47 h).symm
        have e2 : lastDot s.data.toList = false := by unfold lastDot; rw [hnil]; rfl
        rw [e1, e2, Bool.or_false]
       have HDD := hid hdir.symm
       clear hdir hnil bP bQ hBW HW hi0
       have hRS := hRS0
       clear hRS0
       generalize W = W2 at *
       have hRW := hRS.bP.lt
       go_wp2_with fail
       go_loopw [10] (fun iv wr => rlRel (nonE s.data.toList) w.heap.size P1 a d w W2 iv wr) (fun iv _ => 0 - (intOf iv).toNat)
       case atStart => exact ⟨0, none, 0, 0, Nat.zero_le _, rfl, rfl, Nat.le_refl _, World.ownsRow_nil _ _ _ _, hRS.bP, hRS.bQ, hRS.below, Below.refl _ _⟩
       case round =>
        obtain ⟨j, q', cap', m, hj, rfl, hm, hmj, hown, hP, hQ, hb, hbW⟩ := hrel
        rw [Hn.out] at hj
        have hPs := hP.lt
        have q0 := hP.cell 0
        have q1 := hP.cell 1
        have q2 := hP.cell 2
        have qf := hP.frozen 1
        have r0 := hQ.cell 0
        have r1 := hQ.cell 1
        have r2 := hQ.cell 2
        have rf0 := hQ.frozen 0
        have rf1 := hQ.frozen 1
        have rf2 := hQ.frozen 2
        simp only [jD, jF, jE] at q0 q1 q2 r0 r1 r2
        have Hm := hid hm
        clear hm
        have hj0 : j = 0 := by omega
        subst hj0
        ·have hall2 : (nonE s.data.toList).take 0 = nonE s.data.toList := List.take_of_length_le (by rw [Hn.out]; exact Nat.le_refl _)
         have hnm : ((nonE s.data.toList).take 0).filter notDot = nam s.data.toList := by rw [hall2, nam_nonE]
         have Hnm := hid hnm
         clear hall2 hnm
         go_wp2
         have bR3 := ((hQ.set 0 (.bool a)).set 1 (.slice q' m cap')).set 2 (.bool d)
         have hfin := splitV_ok HE.out (.slice q' m cap')
         refine bodyPost_ret (ref_results _ _ _ _ _ _ bR3 _ rfl rfl) rfl ⟨.slice q' m cap', ?_, ?_, ?_⟩
         ·rw [hfin.1, ← Ha.out, ← HDD.out]; rfl
         ·have hmm := Hm.out
          rw [Hnm.out] at hown hmm
          rw [hfin.2, hmm]
          exact row_other (row_other (row_other (own_weaken hown (Nat.le_of_lt hRP)) hQ (by decide) 0 _) (hQ.set 0 _) (by decide) 1 _) ((hQ.set 0 _).set 1 _) (by decide) 2 _
         ·exact ((hb.setCell (p := ⟨w.heap.size, 0, none⟩) (Nat.le_refl _) _).setCell (p := ⟨w.heap.size, 1, none⟩) (Nat.le_refl _) _).setCell (p := ⟨w.heap.size, 2, none⟩) (Nat.le_refl _) _
   ·have hE : splE s.data.toList = 10 := by
     unfold splE
     rw [if_neg Hne.out]
     by_cases h128 : 128 < s.data.toList.length
     ·rw [if_pos h128]
     ·rw [if_neg h128, if_pos]
      rw [size_len] at h128
      rw [decide_eq_false (by omega), Bool.false_or] at hc2
      exact hc2
    have He := hid (splitV_err hE (by decide))
    have k0 := bR.cell 0
    have k1 := bR.cell 1
    have k2 := bR.cell 2
    have f0 := bR.frozen 0
    have f1 := bR.frozen 1
    have f2 := bR.frozen 2
    clear hE hc2 hall
    go_wp2
    have bR2 := ((bR.set 0 (.bool false)).set 1 (.slice none 0 0)).set 2 (.bool false)
    refine bodyPost_ret (ref_results _ _ _ _ _ _ bR2 _ rfl rfl) rfl ⟨.slice none 0 0, by rw [He.out.1]; rfl, ?_, ?_⟩
    ·rw [He.out.2]; exact World.ownsRow_nil _ _ _ _
    ·exact ((hB1.setCell (p := ⟨w.heap.size, 0, none⟩) (Nat.le_refl _) _).setCell (p := ⟨w.heap.size, 1, none⟩) (Nat.le_refl _) _).setCell (p := ⟨w.heap.size, 2, none⟩) (Nat.le_refl _) _
end Go.Proofs.YtlpececggkdhmaaGreat.Pa
