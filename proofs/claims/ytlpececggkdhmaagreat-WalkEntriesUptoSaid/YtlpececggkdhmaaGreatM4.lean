import Derived.BigRegion
import Derived.Test.YtlpececggkdhmaaGreatM3
open Go.Lib (hid)
set_option linter.unusedVariables false
set_option linter.unusedSimpArgs false
set_option maxHeartbeats 2000000
namespace Go.Proofs.YtlpececggkdhmaaGreat
section
open Go.RowKit Ino
def rMode (m : Int) : Bool := decide (0 ≤ m) && (bits .andNot .i64 m 3071 == 0)
def rId (n : Int) : Bool := decide (0 ≤ n ∧ n ≤ 65535)
theorem mright_any (m : Int) (w : World) :
 Calls Tryz.prog 34 #[.int .i64 m] w fun e w' => e = .returned (.bool (rMode m)) ∧ w = w' := by
 by_cases h : 0 ≤ m
 ·go_enter Tryz.func34, Tryz.ntmps34
  go_wp2
  go_ret
  exact ⟨ret_bool (by simp [rMode, h]), rfl⟩
 ·go_enter Tryz.func34, Tryz.ntmps34
  go_wp2
  go_ret
  exact ⟨ret_bool (by unfold rMode; rw [decide_eq_false (by omega)]; rfl), rfl⟩
theorem iid_any (n : Int) (w : World) :
 Calls Tryz.prog 35 #[.int .i64 n] w fun e w' => e = .returned (.bool (rId n)) ∧ w = w' := by
 by_cases h : 0 ≤ n
 ·go_enter Tryz.func35, Tryz.ntmps35
  go_wp2
  go_ret
  exact ⟨ret_bool (by simp [rId]; omega), rfl⟩
 ·go_enter Tryz.func35, Tryz.ntmps35
  go_wp2
  go_ret
  exact ⟨ret_bool (by simp [rId]; omega), rfl⟩
theorem isI_nat {t : T} {i : Int} (h : isI t i = true) : ∃ k : Nat, i = (k : Int) ∧ 1 ≤ k ∧ k ≤ 200 ∧ (t k).is = true := by
 obtain ⟨h1, h2⟩ := isI_iff.1 h
 exact ⟨i.toNat, by omega, by omega, by omega, h2⟩
theorem hold_any {A B : Nat} {own : Nat → Prop} {t : T} (i : Int) (w : World) (h : RT w A B own t) (hb : ∀ k, (t k).holds ≤ 1000000) :
 Calls Tryz.prog 87 #[.pointer (some ⟨A, 0, none⟩), .int .i64 i] w fun e w' => e = .returned (.bool (holdP t i).2) ∧ RT w' A B own (holdP t i).1 ∧ Fr (· = B) w w' := by
 have htop := h.top
 have hc := is_any i w h
 cases hi : isI t i
 ·rw [hi] at hc
  have Hr := hid (show holdP t i = (t, false) by unfold holdP; rw [hi, if_neg Bool.false_ne_true])
  have H := hid h
  clear h hi
  go_enter Tryz.func87, Tryz.ntmps87
  go_wp2_with (go_at_call 99; refine hc.mono ?_; rintro e w' ⟨rfl, rfl⟩)
  go_ret
  exact ⟨ret_bool (by rw [Hr.out]), by rw [Hr.out]; exact H.out, Fr.refl _ _⟩
 ·rw [hi] at hc
  obtain ⟨k, rfl, h1, h2, hs⟩ := isI_nat hi
  obtain ⟨p, cap, -, -, -, -, -, -, c6, -⟩ := h.cells k h2
  have hf := h.frozen (k * 10 + 6)
  have hbk := hb k
  have Hr := hid (show holdP t (k : Int) = (upd t k { t k with holds := (t k).holds + 1 }, true) by unfold holdP; rw [hi, if_pos rfl, Int.toNat_natCast])
  have Hn := hid (h.setHolds k ((t k).holds + 1) h2)
  clear h hi hb
  generalize (t k).holds = hd at c6 hbk Hr Hn
  go_enter Tryz.func87, Tryz.ntmps87
  go_wp2_with (go_at_call 99; refine hc.mono ?_; rintro e w' ⟨rfl, rfl⟩)
  go_ret
  exact ⟨ret_bool (by rw [Hr.out]), by rw [Hr.out]; exact Hn.out, (Fr.refl _ _).setB _ _⟩
theorem drop_any {A B : Nat} {own : Nat → Prop} {t : T} (i : Int) (w : World) (h : RT w A B own t) (hs : Sd t) (hb : ∀ k, (t k).holds ≤ 1000000) :
 Calls Tryz.prog 48 #[.pointer (some ⟨A, 0, none⟩), .int .i64 i] w fun e w' => e = .returned (.bool (dropP t i).2) ∧ RT w' A B own (dropP t i).1 ∧ Fr (· = B) w w' := by
 have htop := h.top
 have hc := is_any i w h
 cases hi : isI t i
 ·rw [hi] at hc
  have Hr := hid (show dropP t i = (t, false) by unfold dropP; rw [if_neg (by rw [hi]; rintro ⟨h, _⟩; cases h)])
  have H := hid h
  clear h hi
  go_enter Tryz.func48, Tryz.ntmps48
  go_wp2_with (go_at_call 99; refine hc.mono ?_; rintro e w' ⟨rfl, rfl⟩)
  go_ret
  exact ⟨ret_bool (by rw [Hr.out]), by rw [Hr.out]; exact H.out, Fr.refl _ _⟩
 ·rw [hi] at hc
  obtain ⟨k, rfl, h1, h2, hki⟩ := isI_nat hi
  obtain ⟨p, cap, -, -, -, -, -, -, c6, -⟩ := h.cells k h2
  have hf := h.frozen (k * 10 + 6)
  have hbk := hb k
  cases h0 : (((t k).holds : Int) == 0)
  ·have hne : (t k).holds ≠ 0 := fun e => by rw [e] at h0; cases h0
   have Hr := hid (show dropP t (k : Int) = (goneP (upd t k { t k with holds := (t k).holds - 1 }), true) by unfold dropP; rw [hi, Int.toNat_natCast, if_pos ⟨rfl, hne⟩])
   have hn := h.setHolds k ((t k).holds - 1) h2
   have hsd : Sd (upd t k { t k with holds := (t k).holds - 1 }) := hs.scalar hki hki rfl rfl rfl (fun k => hs.file _ k) (hs.size _)
   have hg := gone_any _ hn hsd
   have hcast : (((t k).holds - 1 : Nat) : Int) = (t k).holds - 1 := by omega
   rw [hcast] at hg
   have Hg := hid hg
   clear h hi hb hn hsd hg hcast hs
   generalize (t k).holds = hd at c6 hbk Hr Hg h0
   go_enter Tryz.func48, Tryz.ntmps48
   go_wp2_with (first | (go_at_call 99; refine hc.mono ?_; rintro e w' ⟨rfl, rfl⟩) | (go_at_call 100; refine Hg.out.mono ?_; rintro e w1 ⟨rfl, hR, hF⟩))
   go_ret
   exact ⟨ret_bool (by rw [Hr.out]), by rw [Hr.out]; exact hR, ((Fr.refl _ _).setB _ _).trans (hF.mono fun _ _ h => h)⟩
  ·have he : (t k).holds = 0 := by have := eq_of_beq h0; omega
   have Hr := hid (show dropP t (k : Int) = (t, false) by unfold dropP; rw [Int.toNat_natCast, if_neg (by rw [he]; rintro ⟨_, h⟩; exact h rfl)])
   have H := hid h
   clear h hi hb he
   generalize (t k).holds = hd at c6 hbk h0
   go_enter Tryz.func48, Tryz.ntmps48
   go_wp2_with (go_at_call 99; refine hc.mono ?_; rintro e w' ⟨rfl, rfl⟩)
   go_ret
   exact ⟨ret_bool (by rw [Hr.out]), by rw [Hr.out]; exact H.out, Fr.refl _ _⟩
end
section
open Go.RowKit Ino
theorem file_any {A B : Nat} {own : Nat → Prop} {t : T} (i : Int) (w : World) (h : RT w A B own t) :
 Calls Tryz.prog 123 #[.pointer (some ⟨A, 0, none⟩), .int .i64 i] w fun e w' => e = .returned (.int .i64 (fileE t i)) ∧ w = w' := by
 have htop := h.top
 have hc := is_any i w h
 cases hi : isI t i
 ·rw [hi] at hc
  have Hr := hid (show fileE t i = 3 by unfold fileE; rw [hi, if_neg Bool.false_ne_true])
  clear h hi
  go_enter Tryz.func123, Tryz.ntmps123
  go_wp2_with (go_at_call 99; refine hc.mono ?_; rintro e w' ⟨rfl, rfl⟩)
  go_ret
  exact ⟨ret_int (by rw [Hr.out]; rfl), rfl⟩
 ·rw [hi] at hc
  obtain ⟨k, rfl, h1, h2, hs⟩ := isI_nat hi
  obtain ⟨p, cap, -, c1, -⟩ := h.cells k h2
  have Hr := hid (show fileE t (k : Int) = if (t k).kind = 1 then 7 else if (t k).kind = 2 then 1 else 0 by unfold fileE; rw [hi, if_pos rfl, Int.toNat_natCast])
  clear h hi hs
  generalize (t k).kind = kd at c1 Hr
  cases k1 : (kd == 1)
  ·cases k2 : (kd == 2)
   ·have Hr2 := hid (show fileE t (k : Int) = 0 by rw [Hr.out, if_neg (ne_of_beq_false k1), if_neg (ne_of_beq_false k2)])
    go_enter Tryz.func123, Tryz.ntmps123
    go_wp2_with (go_at_call 99; refine hc.mono ?_; rintro e w' ⟨rfl, rfl⟩)
    go_ret
    exact ⟨ret_int (by rw [Hr2.out]; rfl), rfl⟩
   ·have Hr2 := hid (show fileE t (k : Int) = 1 by rw [Hr.out, if_neg (ne_of_beq_false k1), if_pos (eq_of_beq k2)])
    go_enter Tryz.func123, Tryz.ntmps123
    go_wp2_with (go_at_call 99; refine hc.mono ?_; rintro e w' ⟨rfl, rfl⟩)
    go_ret
    exact ⟨ret_int (by rw [Hr2.out]; rfl), rfl⟩
  ·have Hr2 := hid (show fileE t (k : Int) = 7 by rw [Hr.out, if_pos (eq_of_beq k1)])
   go_enter Tryz.func123, Tryz.ntmps123
   go_wp2_with (go_at_call 99; refine hc.mono ?_; rintro e w' ⟨rfl, rfl⟩)
   go_ret
   exact ⟨ret_int (by rw [Hr2.out]; rfl), rfl⟩
theorem RT.setThree {w : World} {A B : Nat} {own : Nat → Prop} {t : T} (h : RT w A B own t) (x : Nat) (hx : x ≤ 200) (m o g : Int) :
 RT (((w.setCell ⟨B, x * 10 + 2, none⟩ (.int .i64 m)).setCell ⟨B, x * 10 + 3, none⟩ (.int .i64 o)).setCell ⟨B, x * 10 + 4, none⟩ (.int .i64 g)) A B own (upd t x { t x with mode := m, owner := o, group := g }) := by
 have h1 : RT (w.setCell ⟨B, x * 10 + 2, none⟩ (.int .i64 m)) A B own (upd t x { t x with mode := m }) := h.set1 x 2 hx (by omega) _ _ rfl fun v k hk => by
  match k, hk with
  | 0, _ => rfl
  | 1, _ => rfl
  | 2, _ => rfl
  | 3, _ => rfl
  | 4, _ => rfl
  | 5, _ => rfl
  | 6, _ => rfl
  | 7, _ => rfl
  | 8, _ => rfl
  | 9, _ => rfl
 have h2 : RT ((w.setCell ⟨B, x * 10 + 2, none⟩ (.int .i64 m)).setCell ⟨B, x * 10 + 3, none⟩ (.int .i64 o)) A B own (upd (upd t x { t x with mode := m }) x { t x with mode := m, owner := o }) := h1.set1 x 3 hx (by omega) _ _ (by rw [upd_same]) fun v k hk => by
  rw [upd_same]
  match k, hk with
  | 0, _ => rfl
  | 1, _ => rfl
  | 2, _ => rfl
  | 3, _ => rfl
  | 4, _ => rfl
  | 5, _ => rfl
  | 6, _ => rfl
  | 7, _ => rfl
  | 8, _ => rfl
  | 9, _ => rfl
 have h3 := h2.set1 x 4 hx (by omega) { t x with mode := m, owner := o, group := g } (.int .i64 g) (by rw [upd_same]) fun v k hk => by
  rw [upd_same]
  match k, hk with
  | 0, _ => rfl
  | 1, _ => rfl
  | 2, _ => rfl
  | 3, _ => rfl
  | 4, _ => rfl
  | 5, _ => rfl
  | 6, _ => rfl
  | 7, _ => rfl
  | 8, _ => rfl
  | 9, _ => rfl
 have e : upd (upd (upd t x { t x with mode := m }) x { t x with mode := m, owner := o }) x { t x with mode := m, owner := o, group := g } = upd t x { t x with mode := m, owner := o, group := g } := by
  funext j; unfold upd; split <;> rfl
 rw [← e]
 exact h3
theorem set_any {A B : Nat} {own : Nat → Prop} {t : T} (i m o g : Int) (w : World) (h : RT w A B own t) :
 Calls Tryz.prog 94 #[.pointer (some ⟨A, 0, none⟩), .int .i64 i, .int .i64 m, .int .i64 o, .int .i64 g] w fun e w' => e = .returned (.int .i64 (setP t i (rMode m && (rId o && rId g)) m o g).2) ∧ RT w' A B own (setP t i (rMode m && (rId o && rId g)) m o g).1 ∧ Fr (· = B) w w' := by
 have htop := h.top
 have hc := is_any i w h
 cases hi : isI t i
 ·rw [hi] at hc
  have Hr := hid (show setP t i (rMode m && (rId o && rId g)) m o g = (t, 3) by unfold setP; rw [hi, if_neg Bool.false_ne_true])
  have H := hid h
  clear h hi
  go_enter Tryz.func94, Tryz.ntmps94
  go_wp2_with (go_at_call 99; refine hc.mono ?_; rintro e w' ⟨rfl, rfl⟩)
  go_ret
  exact ⟨ret_int (by rw [Hr.out]; rfl), by rw [Hr.out]; exact H.out, Fr.refl _ _⟩
 ·rw [hi] at hc
  obtain ⟨k, rfl, h1, h2, hs⟩ := isI_nat hi
  have hm := fun W => mright_any m W
  have ho := fun W => iid_any o W
  have hg := fun W => iid_any g W
  obtain ⟨bm, em⟩ : ∃ b, rMode m = b := ⟨_, rfl⟩
  obtain ⟨bo, eo⟩ : ∃ b, rId o = b := ⟨_, rfl⟩
  obtain ⟨bg, eg⟩ : ∃ b, rId g = b := ⟨_, rfl⟩
  rw [em] at hm
  rw [eo] at ho
  rw [eg] at hg
  have Hm := hid hm
  have Ho := hid ho
  have Hg := hid hg
  have hre : setP t (k : Int) (rMode m && (rId o && rId g)) m o g = if (bm && (bo && bg)) = true then (upd t k { t k with mode := m, owner := o, group := g }, 0) else (t, 1) := by
   unfold setP; rw [hi, if_pos rfl, em, eo, eg, Int.toNat_natCast]
  have Hre := hid hre
  have H := hid h
  have Hn := hid (h.setThree k h2 m o g)
  obtain ⟨p, cap, -, -, c2, c3, c4, -⟩ := h.cells k h2
  have f2 := h.frozen (k * 10 + 2)
  have f3 := h.frozen (k * 10 + 3)
  have f4 := h.frozen (k * 10 + 4)
  clear h hi hm ho hg em eo eg hre hs
  cases bm
  ·have Hr := hid (show setP t (k : Int) (rMode m && (rId o && rId g)) m o g = (t, 1) from Hre.out)
   go_enter Tryz.func94, Tryz.ntmps94
   go_wp2_with (first | (go_at_call 99; refine hc.mono ?_; rintro e w' ⟨rfl, rfl⟩) | (go_at_call 34; refine (Hm.out _).mono ?_; rintro e w' ⟨rfl, rfl⟩))
   go_ret
   exact ⟨ret_int (by rw [Hr.out]; rfl), by rw [Hr.out]; exact H.out, Fr.refl _ _⟩
  ·cases bo
   ·have Hr := hid (show setP t (k : Int) (rMode m && (rId o && rId g)) m o g = (t, 1) from Hre.out)
    go_enter Tryz.func94, Tryz.ntmps94
    go_wp2_with (first | (go_at_call 99; refine hc.mono ?_; rintro e w' ⟨rfl, rfl⟩) | (go_at_call 34; refine (Hm.out _).mono ?_; rintro e w' ⟨rfl, rfl⟩) | (go_at_call 35; (with_reducible refine (Ho.out _).mono ?_); rintro e w' ⟨rfl, rfl⟩))
    go_ret
    exact ⟨ret_int (by rw [Hr.out]; rfl), by rw [Hr.out]; exact H.out, Fr.refl _ _⟩
   ·cases bg
    ·have Hr := hid (show setP t (k : Int) (rMode m && (rId o && rId g)) m o g = (t, 1) from Hre.out)
     go_enter Tryz.func94, Tryz.ntmps94
     go_wp2_with (first | (go_at_call 99; refine hc.mono ?_; rintro e w' ⟨rfl, rfl⟩) | (go_at_call 34; refine (Hm.out _).mono ?_; rintro e w' ⟨rfl, rfl⟩) | (go_at_call 35; (with_reducible refine (Ho.out _).mono ?_); rintro e w' ⟨rfl, rfl⟩) | (go_at_call 35; (with_reducible refine (Hg.out _).mono ?_); rintro e w' ⟨rfl, rfl⟩))
     go_ret
     exact ⟨ret_int (by rw [Hr.out]; rfl), by rw [Hr.out]; exact H.out, Fr.refl _ _⟩
    ·have Hr := hid (show setP t (k : Int) (rMode m && (rId o && rId g)) m o g = (upd t k { t k with mode := m, owner := o, group := g }, 0) from Hre.out)
     go_enter Tryz.func94, Tryz.ntmps94
     go_wp2_with (first | (go_at_call 99; refine hc.mono ?_; rintro e w' ⟨rfl, rfl⟩) | (go_at_call 34; refine (Hm.out _).mono ?_; rintro e w' ⟨rfl, rfl⟩) | (go_at_call 35; (with_reducible refine (Ho.out _).mono ?_); rintro e w' ⟨rfl, rfl⟩) | (go_at_call 35; (with_reducible refine (Hg.out _).mono ?_); rintro e w' ⟨rfl, rfl⟩))
     go_ret
     exact ⟨ret_int (by rw [Hr.out]; rfl), by rw [Hr.out]; exact Hn.out, (((Fr.refl _ _).setB _ _).setB _ _).setB _ _⟩
theorem cut_any {A B : Nat} {own : Nat → Prop} {t : T} (i : Int) (w : World) (h : RT w A B own t) (hs : Sd t) :
 Calls Tryz.prog 88 #[.pointer (some ⟨A, 0, none⟩), .int .i64 i] w fun e w' => e = .returned (.int .i64 (cutP t i).2) ∧ RT w' A B own (cutP t i).1 ∧ Fr (· = B) w w' := by
 have htop := h.top
 have hc := file_any i w h
 by_cases hf : fileE t i ≠ 0
 ·have Hr := hid (show cutP t i = (t, fileE t i) by unfold cutP; rw [if_pos hf])
  have H := hid h
  generalize fileE t i = fe at hc hf Hr
  have hne : (((fe : Int) != 0) : Bool) = true := by rw [bne_iff_ne]; omega
  clear h hf
  go_enter Tryz.func88, Tryz.ntmps88
  go_wp2_with (go_at_call 123; refine hc.mono ?_; rintro e w' ⟨rfl, rfl⟩)
  go_ret
  exact ⟨ret_int (by rw [Hr.out]), by rw [Hr.out]; exact H.out, Fr.refl _ _⟩
 ·obtain ⟨hi, hk⟩ := fileE_ok hs hf
  have hf0 : fileE t i = 0 := by omega
  rw [hf0] at hc
  obtain ⟨k, rfl, h1, h2, hki⟩ := isI_nat hi
  have Hr := hid (show cutP t (k : Int) = (upd t k { t k with data := [] }, 0) by unfold cutP; rw [if_neg hf, Int.toNat_natCast])
  obtain ⟨p, cap, -, -, -, -, -, -, -, -, c8, -⟩ := h.cells k h2
  have f8 := h.frozen (k * 10 + 8)
  have Hn := hid (h.setData k [] h2)
  clear h hi hf hf0 hk hs hki
  go_enter Tryz.func88, Tryz.ntmps88
  go_wp2_with (go_at_call 123; refine hc.mono ?_; rintro e w' ⟨rfl, rfl⟩)
  go_ret
  exact ⟨ret_int (by rw [Hr.out]; rfl), by rw [Hr.out]; exact Hn.out, (Fr.refl _ _).setB _ _⟩
end
section
open Go.RowKit Ino
def lookV (a : Nat × Bool) : Value := .tuple #[.int .i64 a.1, .bool a.2]
theorem look_any {A B : Nat} {own : Nat → Prop} {t : T} (i : Int) (s : ByteArray) (w : World) (h : RT w A B own t) (hs : Sd t) :
 Calls Tryz.prog 85 #[.pointer (some ⟨A, 0, none⟩), .int .i64 i, .string s] w fun e w' => e = .returned (lookV (lookP t i s.data.toList)) ∧ w = w' := by
 have htop := h.top
 have hc := dir_any i w h
 have hst : s.toList = s.data.toList := ByteArray.toList_eq s
 cases hi : isD t i
 ·rw [hi] at hc
  have Hr := hid (show lookP t i s.data.toList = (0, false) by unfold lookP; rw [hi, if_neg Bool.false_ne_true])
  clear h hi hst
  go_enter Tryz.func85, Tryz.ntmps85
  go_wp2_with (go_at_call 83; refine hc.mono ?_; rintro e w' ⟨rfl, rfl⟩)
  go_ret2
  exact ⟨by rw [Hr.out]; rfl, rfl⟩
 ·rw [hi] at hc
  have hI : isI t i = true := by unfold isD at hi; cases hh : isI t i <;> simp_all
  obtain ⟨k, rfl, h1, h2, hki⟩ := isI_nat hI
  obtain ⟨p, cap, -, -, -, -, -, -, -, c7, -, c9, hl1, hl2, he⟩ := h.cells k h2
  have hat := at_any k s w h h2 (hs.len k)
  have hlen := hs.len k
  have hre : lookP t (k : Int) s.data.toList = if s.data.toList = [46] then (k, true) else if s.data.toList = [46, 46] then ((t k).parent, true) else match findE (t k).ents s.data.toList with | none => (0, false) | some x => (x, true) := by
   unfold lookP; rw [hi, if_pos rfl, Int.toNat_natCast]; rfl
  have Hre := hid hre
  clear hre
  cases q1 : (s.toList == [46])
  ·have n1 : ¬ s.data.toList = [46] := by rw [← hst]; exact ne_of_beq_false q1
   cases q2 : (s.toList == [46, 46])
   ·have n2 : ¬ s.data.toList = [46, 46] := by rw [← hst]; exact ne_of_beq_false q2
    obtain ⟨f1, f2⟩ := atE_find (t k).ents s.data.toList
    cases ha : atE (t k).ents s.data.toList with
    | none =>
     have hai : atI (t k).ents s.data.toList = -1 := by unfold atI; rw [ha]
     have Hr := hid (show lookP t (k : Int) s.data.toList = (0, false) by rw [Hre.out, if_neg n1, if_neg n2, f1.1 ha])
     rw [hai] at hat
     clear h hi hst hI hs hki n1 n2 f1 f2 ha hai
     go_enter Tryz.func85, Tryz.ntmps85
     go_wp2_with (first | (go_at_call 83; refine hc.mono ?_; rintro e w' ⟨rfl, rfl⟩) | (go_at_call 121; refine hat.mono ?_; rintro e w' ⟨rfl, rfl⟩))
     go_ret2
     exact ⟨by rw [Hr.out]; rfl, rfl⟩
    | some m =>
     obtain ⟨x, fx, lx, hm, _⟩ := f2 m ha
     have hai : atI (t k).ents s.data.toList = (m : Int) := by unfold atI; rw [ha]
     have Hr := hid (show lookP t (k : Int) s.data.toList = (x, true) by rw [Hre.out, if_neg n1, if_neg n2, fx])
     rw [hai] at hat
     obtain ⟨g, off, hp, -, -, -, e0, e1⟩ := he m _ lx
     simp only at e0 e1
     subst hp
     unfold maxLen at hl2
     clear h hi hst hI hs hki n1 n2 f1 f2 ha hai he fx lx
     go_enter Tryz.func85, Tryz.ntmps85
     go_wp2_with (first | (go_at_call 83; refine hc.mono ?_; rintro e w' ⟨rfl, rfl⟩) | (go_at_call 121; refine hat.mono ?_; rintro e w' ⟨rfl, rfl⟩))
     go_ret2
     exact ⟨by rw [Hr.out]; rfl, rfl⟩
   ·have Hr := hid (show lookP t (k : Int) s.data.toList = ((t k).parent, true) by rw [Hre.out, if_neg n1, if_pos (by rw [← hst]; exact eq_of_beq q2)])
    clear h hi hst hI hs hki n1 he
    generalize (t k).parent = pr at c7 Hr
    go_enter Tryz.func85, Tryz.ntmps85
    go_wp2_with (go_at_call 83; refine hc.mono ?_; rintro e w' ⟨rfl, rfl⟩)
    go_ret2
    exact ⟨by rw [Hr.out]; rfl, rfl⟩
  ·have Hr := hid (show lookP t (k : Int) s.data.toList = (k, true) by rw [Hre.out, if_pos (by rw [← hst]; exact eq_of_beq q1)])
   clear h hi hst hI hs hki he
   go_enter Tryz.func85, Tryz.ntmps85
   go_wp2_with (go_at_call 83; refine hc.mono ?_; rintro e w' ⟨rfl, rfl⟩)
   go_ret2
   exact ⟨by rw [Hr.out]; rfl, rfl⟩
end
section
open Go.RowKit Ino
theorem str_ext {a b : ByteArray} (h : a.data.toList = b.data.toList) : a = b := by
 obtain ⟨⟨a⟩⟩ := a
 obtain ⟨⟨b⟩⟩ := b
 simp only at h
 rw [h]
theorem RT.drew {W : World} {A B : Nat} {own : Nat → Prop} {t : T} (h : RT W A B own t) : RT W.drew A B own t := h.fr (S := fun _ => False) ((Fr.refl _ _).drew) fun _ _ _ => id
theorem put_str (d : Bs) (s : ByteArray) (b : Nat) : (ByteArray.extract ⟨d.toArray⟩ 0 b ++ s ++ ByteArray.extract ⟨d.toArray⟩ (b + s.size) d.length) = ⟨(d.take b ++ (s.data.toList ++ d.drop (b + s.size))).toArray⟩ := by
 apply str_ext
 simp [List.extract]
 rw [List.take_of_length_le (by simp)]
theorem put_str2 (d : Bs) (s e : ByteArray) (b : Nat) (he : e.data.toList = []) (h : d.length ≤ b + s.size) : (ByteArray.extract ⟨d.toArray⟩ 0 b ++ s ++ e) = ⟨(d.take b ++ (s.data.toList ++ d.drop (b + s.size))).toArray⟩ := by
 apply str_ext
 rw [List.drop_of_length_le h]
 simp [List.extract]
 exact Array.toList_eq_nil_iff.1 he
set_option maxRecDepth 100000 in
theorem put_any {A B : Nat} {own : Nat → Prop} {t : T} (i a : Int) (s : ByteArray) (w : World) (h : RT w A B own t) (hs : Sd t) (ha : -9223372036854775808 ≤ a ∧ a ≤ 9223372036854775807) (hsz : s.size ≤ maxLen) :
 Calls Tryz.prog 97 #[.pointer (some ⟨A, 0, none⟩), .int .i64 i, .int .i64 a, .string s] w fun e w' => e = .returned (.int .i64 (putP t i a s.data.toList).2) ∧ RT w' A B own (putP t i a s.data.toList).1 ∧ Fr (· = B) w w' := by
 have htop := h.top
 have hc := file_any i w h
 unfold maxLen at hsz
 by_cases hf : fileE t i ≠ 0
 ·have Hr := hid (show putP t i a s.data.toList = (t, fileE t i) by unfold putP; rw [if_pos hf])
  have H := hid h
  generalize fileE t i = fe at hc hf Hr
  have hne : (((fe : Int) != 0) : Bool) = true := by rw [bne_iff_ne]; omega
  clear h hf
  go_enter Tryz.func97, Tryz.ntmps97
  go_wp2_with (go_at_call 123; refine hc.mono ?_; rintro e w' ⟨rfl, rfl⟩)
  go_ret
  exact ⟨ret_int (by rw [Hr.out]), by rw [Hr.out]; exact H.out, Fr.refl _ _⟩
 ·obtain ⟨hi, hk⟩ := fileE_ok hs hf
  have hf0 : fileE t i = 0 := by omega
  rw [hf0] at hc
  obtain ⟨k, rfl, h1, h2, hki⟩ := isI_nat hi
  have hre : putP t (k : Int) a s.data.toList = if a < 0 ∨ ((t k).data.length : Int) < a then (t, 1) else if (4096 : Int) - a < s.data.toList.length then (t, 9)
   else (upd t k { t k with data := (t k).data.take a.toNat ++ (s.data.toList ++ (t k).data.drop (a.toNat + s.data.toList.length)) }, 0) := by
   unfold putP; rw [if_neg hf, Int.toNat_natCast]
  have Hre := hid hre
  obtain ⟨p, cap, -, -, -, -, -, -, -, -, c8, -⟩ := h.cells k h2
  have hd4 := hs.size k
  have f8 := h.frozen (k * 10 + 8)
  have H := hid h
  have hsl : s.data.toList.length = s.size := by simp
  have Hsl := hid hsl
  have hn := fun d => H.out.setData k d h2
  have Hn := hid hn
  clear h hi hf hf0 hk hs hki hre hsl hn
  generalize t k = tk at c8 hd4 Hre Hn
  obtain ⟨d, hd⟩ : ∃ d, tk.data = d := ⟨_, rfl⟩
  rw [hd] at c8 hd4
  have Hd := hid hd
  clear hd
  have hdl : (ByteArray.size ⟨d.toArray⟩) = d.length := by simp [ByteArray.size]
  by_cases a0 : a < 0
  ·have Hr := hid (show putP t (k : Int) a s.data.toList = (t, 1) by rw [Hre.out, if_pos (.inl a0)])
   go_enter Tryz.func97, Tryz.ntmps97
   go_wp2_with (go_at_call 123; refine hc.mono ?_; rintro e w' ⟨rfl, rfl⟩)
   go_ret
   exact ⟨ret_int (by rw [Hr.out]; rfl), by rw [Hr.out]; exact H.out, Fr.refl _ _⟩
  by_cases a1 : (d.length : Int) < a
  ·have Hr := hid (show putP t (k : Int) a s.data.toList = (t, 1) by rw [Hre.out, if_pos (.inr (by rw [Hd.out]; exact a1))])
   go_enter Tryz.func97, Tryz.ntmps97
   go_wp2_with (go_at_call 123; refine hc.mono ?_; rintro e w' ⟨rfl, rfl⟩)
   go_ret
   exact ⟨ret_int (by rw [Hr.out]; rfl), by rw [Hr.out]; exact H.out, Fr.refl _ _⟩
  obtain ⟨b, rfl⟩ : ∃ b : Nat, a = (b : Int) := ⟨a.toNat, by omega⟩
  have hbd : b ≤ d.length := by omega
  by_cases a2 : (4096 : Int) - b < s.size
  ·have Hr := hid (show putP t (k : Int) b s.data.toList = (t, 9) by rw [Hre.out, if_neg (by rw [Hd.out]; omega), if_pos (by rw [Hsl.out]; exact a2)])
   go_enter Tryz.func97, Tryz.ntmps97
   go_wp2_with (go_at_call 123; refine hc.mono ?_; rintro e w' ⟨rfl, rfl⟩)
   go_ret
   exact ⟨ret_int (by rw [Hr.out]; rfl), by rw [Hr.out]; exact H.out, Fr.refl _ _⟩
  have Hr := hid (show putP t (k : Int) b s.data.toList = (upd t k { tk with data := d.take b ++ (s.data.toList ++ d.drop (b + s.size)) }, 0) by
   rw [Hre.out, if_neg (by rw [Hd.out]; omega), if_neg (by rw [Hsl.out]; exact a2), Hd.out, Hsl.out, Int.toNat_natCast])
  clear Hre
  by_cases a3 : b + s.size < d.length
  ·go_enter Tryz.func97, Tryz.ntmps97
   go_wp2_with (go_at_call 123; refine hc.mono ?_; rintro e w' ⟨rfl, rfl⟩)
   go_region
   have hn := (Hn.out (d.take b ++ (s.data.toList ++ d.drop (b + s.size)))).drew
   rw [← put_str] at hn
   have Hn2 := hid hn
   clear hn
   go_wp2
   go_ret
   exact ⟨ret_int (by rw [Hr.out]; rfl), by rw [Hr.out]; exact Hn2.out, ((Fr.refl _ _).setB _ _).drew⟩
  ·go_enter Tryz.func97, Tryz.ntmps97
   go_wp2_with (go_at_call 123; refine hc.mono ?_; rintro e w' ⟨rfl, rfl⟩)
   go_region
   have hn := (Hn.out (d.take b ++ (s.data.toList ++ d.drop (b + s.size)))).drew
   rw [← put_str2 d s ⟨#[]⟩ b rfl (by omega)] at hn
   have Hn2 := hid hn
   clear hn
   go_wp2
   go_ret
   exact ⟨ret_int (by rw [Hr.out]; rfl), by rw [Hr.out]; exact Hn2.out, ((Fr.refl _ _).setB _ _).drew⟩
end
end Go.Proofs.YtlpececggkdhmaaGreat
