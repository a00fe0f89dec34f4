import Derived.BigRegion
import Derived.StillTailTactics
import Derived.Test.YtlpececggkdhmaaGreatShelf
import Derived.Lib.IndexLaws
import Derived.Test.YtlpececggkdhmaaGreatM5
import Derived.Test.YtlpececggkdhmaaGreatM7
import Derived.Test.YtlpececggkdhmaaGreatM9
open Go.Lib (hid)
set_option linter.unusedVariables false
set_option linter.unusedSimpArgs false
set_option maxHeartbeats 2000000
namespace Go.Proofs.YtlpececggkdhmaaGreat
section
open Go.RowKit Ino Go.Maps
variable {A : Nat} {own : Nat → Prop} {t : T}
theorem isD_of {t : T} {k : Nat} (h : isI t (k : Int) = true) : isD t (k : Int) = decide ((t k).kind = 1) := by
 unfold isD; rw [h, Int.toNat_natCast]; rfl
theorem plook_any (i : Int) (s : ByteArray) (w : World) (h : PTo w A own t) (hs : Sd t) (hsz : s.size ≤ maxLen) :
 Calls Tryz.prog 18 #[.pointer (some ⟨A, 0, none⟩), .int .i64 i, .string s] w fun e w' => e = .returned (lookV (lookP t i s.data.toList)) ∧ w = w' := by
 obtain ⟨nb, mb, hP, hO⟩ := h
 have hg := get_any i w hP
 have hst : s.toList = s.data.toList := ByteArray.toList_eq s
 cases hi : isI t i
 ·rw [getV_none hi] at hg
  have Hr := hid (show lookP t i s.data.toList = (0, false) by unfold lookP isD; rw [hi]; rfl)
  clear hP hO hi
  go_enter Tryz.func18, Tryz.ntmps18
  go_wp2_with (go_at_call 56; refine hg.mono ?_; rintro e w' ⟨rfl, rfl⟩)
  go_ret2
  exact ⟨by rw [Hr.out]; rfl, rfl⟩
 ·obtain ⟨k, rfl, h1, h2, hki⟩ := isI_nat hi
  rw [getV_nat hi] at hg
  have hd := isDir_any w hP hki
  obtain ⟨-, -, -, -, -, -, -, c7, c8, -⟩ := hP.cells hki
  by_cases hk : (t k).kind = 1
  ·rw [decide_eq_true hk] at hd
   have hre : lookP t (k : Int) s.data.toList = if s.data.toList = [46] then (k, true) else if s.data.toList = [46, 46] then ((t k).parent, true) else match findE (t k).ents s.data.toList with | none => (0, false) | some x => (x, true) := by
    unfold lookP; rw [isD_of hi, decide_eq_true hk, if_pos rfl, Int.toNat_natCast]; rfl
   have Hre := hid hre
   unfold mapV at c7
   rw [if_pos hk] at c7
   have hl := (hP.maps k hk).look_ok hsz
   clear hP hO hi hki hk hre
   cases q1 : (s.toList == [46])
   ·have n1 : ¬ s.data.toList = [46] := by rw [← hst]; exact ne_of_beq_false q1
    cases q2 : (s.toList == [46, 46])
    ·have n2 : ¬ s.data.toList = [46, 46] := by rw [← hst]; exact ne_of_beq_false q2
     have Hr := hid (show lookP t (k : Int) s.data.toList = ((findE (t k).ents s.data.toList).getD 0, (findE (t k).ents s.data.toList).isSome) by
      rw [Hre.out, if_neg n1, if_neg n2]
      cases findE (t k).ents s.data.toList <;> rfl)
     generalize (findE (t k).ents s.data.toList).getD 0 = z at hl Hr
     generalize (findE (t k).ents s.data.toList).isSome = b at hl Hr
     clear n1 n2 hst Hre
     go_enter Tryz.func18, Tryz.ntmps18
     go_wp2_with (first | (go_at_call 56; refine hg.mono ?_; rintro e w' ⟨rfl, rfl⟩) | (go_at_call 57; refine hd.mono ?_; rintro e w' ⟨rfl, rfl⟩))
     go_ret2
     exact ⟨by rw [Hr.out]; rfl, rfl⟩
    ·have Hr := hid (show lookP t (k : Int) s.data.toList = ((t k).parent, true) by rw [Hre.out, if_neg n1, if_pos (by rw [← hst]; exact eq_of_beq q2)])
     clear n1 hst Hre hl c7
     generalize (t k).parent = pr at c8 Hr
     go_enter Tryz.func18, Tryz.ntmps18
     go_wp2_with (first | (go_at_call 56; refine hg.mono ?_; rintro e w' ⟨rfl, rfl⟩) | (go_at_call 57; refine hd.mono ?_; rintro e w' ⟨rfl, rfl⟩))
     go_ret2
     exact ⟨by rw [Hr.out]; rfl, rfl⟩
   ·have Hr := hid (show lookP t (k : Int) s.data.toList = (k, true) by rw [Hre.out, if_pos (by rw [← hst]; exact eq_of_beq q1)])
    clear hst Hre hl c7 c8
    go_enter Tryz.func18, Tryz.ntmps18
    go_wp2_with (first | (go_at_call 56; refine hg.mono ?_; rintro e w' ⟨rfl, rfl⟩) | (go_at_call 57; refine hd.mono ?_; rintro e w' ⟨rfl, rfl⟩))
    go_ret2
    exact ⟨by rw [Hr.out]; rfl, rfl⟩
  ·rw [decide_eq_false hk] at hd
   have Hr := hid (show lookP t (k : Int) s.data.toList = (0, false) by unfold lookP; rw [isD_of hi, decide_eq_false hk]; rfl)
   clear hP hO hi hst c7 c8 hki hk
   go_enter Tryz.func18, Tryz.ntmps18
   go_wp2_with (first | (go_at_call 56; refine hg.mono ?_; rintro e w' ⟨rfl, rfl⟩) | (go_at_call 57; refine hd.mono ?_; rintro e w' ⟨rfl, rfl⟩))
   go_ret2
   exact ⟨by rw [Hr.out]; rfl, rfl⟩
theorem PT.lenV {w : World} {nb mb : Nat → Nat} {lk : Nat → Nat} (h : PT w A nb mb t lk) {k : Nat} (hd : (t k).kind = 1 ∨ (t k).ents = []) (ty : TypeId) :
 (Builtin.len_ #[108] ty #[mapV (t k) (mb k)]).run Tryz.prog w = .ok (.int .i64 (t k).ents.length) w := by
 unfold mapV
 by_cases hk : (t k).kind = 1
 ·rw [if_pos hk]; exact (h.maps k hk).len ty
 ·rw [if_neg hk]
  rcases hd with hd | hd
  ·exact absurd hd hk
  ·rw [hd]; exact Maps.len_nil undMap ty
theorem resPStat {W : World} {g : Nat} {a0 a1 a2 a3 a4 a5 a6 a7 : Value} (b : Bool) (c0 : W.cell? ⟨g, 0, none⟩ = some a0) (c1 : W.cell? ⟨g, 1, none⟩ = some a1) (c2 : W.cell? ⟨g, 2, none⟩ = some a2) (c3 : W.cell? ⟨g, 3, none⟩ = some a3)
 (c4 : W.cell? ⟨g, 4, none⟩ = some a4) (c5 : W.cell? ⟨g, 5, none⟩ = some a5) (c6 : W.cell? ⟨g, 6, none⟩ = some a6) (c7 : W.cell? ⟨g, 7, none⟩ = some a7) (tmps : Array Value)
 (h4 : tmps.getD 4 undef = .pointer (some ⟨g, 0, none⟩)) (h5 : tmps.getD 5 undef = .bool b) :
 (results Tryz.f21 tmps).run Tryz.prog W = .ok (.tuple #[.agg #[a0, a1, a2, a3, a4, a5, a6, a7], .bool b]) W := by
 simp only [Array.getD_eq_getD_getElem?] at h4 h5
 simp only [results, Tryz.f21]
 simp [go_sem, h4, h5, c0, c1, c2, c3, c4, c5, c6, c7]
theorem infoRow (w : World) : (w.alloc (.cells #[.int .i64 0, .int .i64 0, .int .i64 0, .int .i64 0, .int .i64 0, .int .i64 0, .int .i64 0, .int .i64 0] 50)).rowIs w.heap.size 50 8 (fun _ => .int .i64 0) :=
 World.rowIs_alloc w _ 50 (fun _ => .int .i64 0) (fun j hj => by
  match j, hj with
  | 0, _ | 1, _ | 2, _ | 3, _ | 4, _ | 5, _ | 6, _ | 7, _ => rfl)
set_option maxRecDepth 100000 in
theorem pstat_any (i : Int) (w : World) (h : PTo w A own t) (hs : Sd t) :
 Calls Tryz.prog 21 #[.pointer (some ⟨A, 0, none⟩), .int .i64 i] w fun e w' => e = .returned (infV (statP t i)) ∧ Below w.heap.size w w' := by
 obtain ⟨nb, mb, hP, hO⟩ := h
 have hP1 := hP.alloc (.cells #[.int .i64 0, .int .i64 0, .int .i64 0, .int .i64 0, .int .i64 0, .int .i64 0, .int .i64 0, .int .i64 0] 50)
 have hg := get_any i _ hP1
 have HB := hid ((Below.refl w.heap.size w).alloc (Nat.le_refl _) (.cells #[.int .i64 0, .int .i64 0, .int .i64 0, .int .i64 0, .int .i64 0, .int .i64 0, .int .i64 0, .int .i64 0] 50))
 cases hi : isI t i
 ·rw [getV_none hi] at hg
  have Hr := hid (show statP t i = (noInf, false) by unfold statP; rw [hi, if_neg Bool.false_ne_true])
  clear hP hP1 hO hi hs
  go_enter Tryz.func21, Tryz.ntmps21
  go_wp2_with (go_at_call 56; refine hg.mono ?_; rintro e w' ⟨rfl, rfl⟩)
  exact bodyPost_ret (v := infV (noInf, false)) (by simp [results, Tryz.results21, go_sem, infV, noInf]) rfl ⟨by rw [Hr.out], HB.out⟩
 ·obtain ⟨k, rfl, h1, h2, hki⟩ := isI_nat hi
  rw [getV_nat hi] at hg
  have hrow := infoRow w
  have Hr := hid (show statP t (k : Int) = (⟨k, (t k).kind, (t k).mode, (t k).owner, (t k).group, links t k, ((t k).data.length : Int) + ((t k).ents.length : Int), (t k).tty⟩, true) by unfold statP; rw [hi, if_pos rfl, Int.toNat_natCast])
  have hlen := hs.len k
  have hdl := hs.size k
  have hdk : (t k).kind = 1 ∨ (t k).ents = [] := by
   by_cases e : (t k).ents = []
   ·exact .inr e
   ·exact .inl (hs.dirs k e)
  have hlv := (hP1.drew).lenV hdk 3
  obtain ⟨c0, c1, c2, c3, c4, c5, c6, c7, c8, c9⟩ := hP1.drew.cells hki
  have hsz : (ByteArray.size ⟨(t k).data.toArray⟩) = (t k).data.length := by simp [ByteArray.size]
  have hne : nb k ≠ w.heap.size := by have := hP.ltN hki; omega
  clear hP hP1 hO hi hs hdk
  go_enter Tryz.func21, Tryz.ntmps21
  go_wp2_with (go_at_call 56; refine hg.mono ?_; rintro e w' ⟨rfl, rfl⟩)
  have HB2 := hid HB.out.drew
  have hres := hrow.drew
  generalize w.alloc (.cells #[.int .i64 0, .int .i64 0, .int .i64 0, .int .i64 0, .int .i64 0, .int .i64 0, .int .i64 0, .int .i64 0] 50) = W0 at *
  have r0 := hres.cell (i := 0) (by decide)
  have r1 := hres.cell (i := 1) (by decide)
  have r2 := hres.cell (i := 2) (by decide)
  have r3 := hres.cell (i := 3) (by decide)
  have r4 := hres.cell (i := 4) (by decide)
  have r5 := hres.cell (i := 5) (by decide)
  have r6 := hres.cell (i := 6) (by decide)
  have r7 := hres.cell (i := 7) (by decide)
  have z0 := hres.frozen 0
  have z1 := hres.frozen 1
  have z2 := hres.frozen 2
  have z3 := hres.frozen 3
  have z4 := hres.frozen 4
  have z5 := hres.frozen 5
  have z6 := hres.frozen 6
  have z7 := hres.frozen 7
  have Hres := hid hres
  clear hres hrow hg HB
  refine wp_region_still_tail 41 (by kernel_rfl) (by kernel_rfl) ?_
  change wpStill _ _ W0.drew (fun a' => wpList _ _ _ _ a' W0.drew) _ _
  generalize W0.drew = W2 at *
  simp only [List.take_succ_cons, List.take_zero, List.drop_succ_cons, List.drop_zero]
  repeat still_step
  refine wpStill_nil ?_
  go_wp2
  have hfin := (((((((Hres.out.set 0 (.int .i64 (k : Int))).set 1 (.int .i64 (t k).kind)).set 2 (.int .i64 (t k).mode)).set 3 (.int .i64 (t k).owner)).set 4 (.int .i64 (t k).group)).set 5 (.int .i64 (links t k : Int))).set 6 (.int .i64 (((t k).data.length : Int) + ((t k).ents.length : Int)))).set 7 (.int .i64 (t k).tty)
  refine bodyPost_ret (resPStat (g := w.heap.size) true (by rw [hfin.cell (by decide)]) (by rw [hfin.cell (by decide)]) (by rw [hfin.cell (by decide)]) (by rw [hfin.cell (by decide)]) (by rw [hfin.cell (by decide)]) (by rw [hfin.cell (by decide)]) (by rw [hfin.cell (by decide)]) (by rw [hfin.cell (by decide)]) _ rfl rfl) rfl ⟨by rw [Hr.out]; rfl, ?_⟩
  repeat refine Below.setCell ?_ (by simp) _
  exact HB2.out
end
section
open Go.RowKit Ino Go.Maps Go.Sort
variable {A : Nat} {own : Nat → Prop} {t : T}
def wrC (c : UInt8) : Bool := decide (c.toNat < 32) || decide (c.toNat = 127)
theorem drop_at (s : ByteArray) (k : Nat) (h : k < s.size) : s.data.toList.drop k = s[k] :: s.data.toList.drop (k + 1) := drop_byte s k h
def wrS (l : Bs) : Bool := l.any wrC
def wrRel (s : ByteArray) (i : Value) : Prop := ∃ k : Nat, k ≤ s.size ∧ i = .int .i64 k ∧ wrS (s.data.toList.drop k) = wrS s.data.toList
theorem wrong_any (s : ByteArray) (hs : s.size ≤ maxLen) (w : World) :
 Calls Tryz.prog 77 #[.string s] w fun e w' => e = .returned (.bool (wrS s.data.toList)) ∧ w = w' := by
 unfold maxLen at hs
 go_enter Tryz.func77, Tryz.ntmps77
 go_wp2
 go_loop [6] (fun i => wrRel s i) (fun i => s.size - (intOf i).toNat)
 case atStart => exact ⟨0, Nat.zero_le _, rfl, rfl⟩
 case round =>
  obtain ⟨k, hk, rfl, hn⟩ := hrel
  have Hn := hid hn; clear hn
  by_cases hlt : k < s.size
  ·cases hb : wrC s[k]
   ·have Hs := hid (show wrS (s.data.toList.drop (k + 1)) = wrS s.data.toList by
     rw [← Hn.out, drop_at s k hlt]; unfold wrS; rw [List.any_cons, hb, Bool.false_or])
    have h32 : ¬ (s[k].toNat : Int) < 32 := by unfold wrC at hb; simp at hb; omega
    have h127 : (((s[k].toNat : Int) == 127) : Bool) = false := by
     unfold wrC at hb; simp at hb
     rw [beq_eq_false_iff_ne]; omega
    clear hb
    go_wp2
    go_round
    case rel => exact ⟨k + 1, by omega, by go_num, Hs.out⟩
    case measure => simp [intOf]; omega
   ·have Hr := hid (show true = wrS s.data.toList by
     rw [← Hn.out, drop_at s k hlt]; unfold wrS; rw [List.any_cons, hb, Bool.true_or])
    by_cases h32 : (s[k].toNat : Int) < 32
    ·clear hb
     go_wp2
     go_ret
     exact ⟨ret_bool Hr.out, rfl⟩
    ·have h127 : (((s[k].toNat : Int) == 127) : Bool) = true := by
      unfold wrC at hb; simp at hb
      rw [beq_iff_eq]; omega
     clear hb
     go_wp2
     go_ret
     exact ⟨ret_bool Hr.out, rfl⟩
  ·have Hr := hid (show false = wrS s.data.toList by
    rw [← Hn.out, List.drop_of_length_le (by simp; omega)]; rfl)
   go_wp2
   go_ret
   exact ⟨ret_bool Hr.out, rfl⟩
theorem index47 : ∀ l : Bs, decide (Lib.indexByte l 47 < 0) = !l.any (fun c => decide (c.toNat = 47))
 | [] => rfl
 | a :: l => by
  have ih := index47 l
  unfold Lib.indexByte
  rw [List.any_cons]
  have e : (a == (47 : UInt8)) = decide (a.toNat = 47) := nat_byte a 47 (by decide)
  rw [e]
  by_cases h : a.toNat = 47
  ·rw [decide_eq_true h]; rfl
  ·rw [decide_eq_false h, Bool.false_or, ← ih]
   simp only [Bool.false_eq_true, if_false]
   by_cases h2 : Lib.indexByte l 47 = -1
   ·rw [if_pos (by rw [h2]; rfl), h2]
   ·rw [if_neg (by simpa using h2)]
    have := Lib.indexByte_ge l 47
    congr 1
    apply propext
    omega
theorem okB_parts : ∀ l : Bs, l.all okB = (!l.any wrC && !l.any (fun c => decide (c.toNat = 47)))
 | [] => rfl
 | a :: l => by
  rw [List.all_cons, List.any_cons, List.any_cons, okB_parts l, okB_iff]
  unfold wrC
  cases decide (a.toNat < 32) <;> cases decide (a.toNat = 127) <;> cases decide (a.toNat = 47) <;> simp
theorem okB_split (l : Bs) : l.all okB = (!l.any wrC && decide (Lib.indexByte l 47 < 0)) := by rw [okB_parts, index47]
theorem pname_any (s : ByteArray) (hs : s.size ≤ maxLen) (w : World) :
 Calls Tryz.prog 31 #[.string s] w fun e w' => e = .returned (.bool (nameOk s.data.toList)) ∧ w = w' := by
 have hst : s.toList = s.data.toList := ByteArray.toList_eq s
 have hsl : s.data.toList.length = s.size := by simp
 have hre := nameOk_eq s.data.toList
 rw [hsl, okB_split, show s.data.toList.any wrC = wrS s.data.toList from rfl] at hre
 have Hre := hid hre
 have Hw := hid fun w => wrong_any s hs w
 unfold maxLen at hs
 clear hre hsl
 by_cases h1 : s.size < 1
 ·have Hr := hid (show nameOk s.data.toList = false by rw [Hre.out, decide_eq_false (by omega)]; rfl)
  clear hst
  go_enter Tryz.func31, Tryz.ntmps31
  go_wp2
  go_ret
  exact ⟨ret_bool Hr.out.symm, rfl⟩
 by_cases h14 : 14 < s.size
 ·have Hr := hid (show nameOk s.data.toList = false by rw [Hre.out, decide_eq_false (by omega)]; rfl)
  clear hst
  go_enter Tryz.func31, Tryz.ntmps31
  go_wp2
  go_ret
  exact ⟨ret_bool Hr.out.symm, rfl⟩
 cases q1 : (s.toList == [46])
 ·cases q2 : (s.toList == [46, 46])
  ·have Hr := hid (show nameOk s.data.toList = (!wrS s.data.toList && decide (Lib.indexByte s.data.toList 47 < 0)) by
    rw [hst] at q1 q2
    rw [Hre.out, decide_eq_true (by omega), bne, bne, q1, q2]; rfl)
   clear hst Hre
   have hIx := fun w => Tryz.strings_IndexByte s 47 w
   have hw := Hw.out
   generalize nameOk s.data.toList = r at Hr ⊢
   rw [show (47 : Int).toNat.toUInt8 = 47 from rfl] at hIx
   have hge := Lib.indexByte_ge s.data.toList 47
   generalize Lib.indexByte s.data.toList 47 = ix at Hr hIx hge
   cases hb : wrS s.data.toList
   ·rw [hb] at hw Hr
    have HW := hid hw
    have HI := hid hIx
    clear hw hIx hb Hw
    go_enter Tryz.func31, Tryz.ntmps31
    go_wp2_with (first
     | (go_at_call 77; refine (HW.out _).mono ?_; rintro e w' ⟨rfl, rfl⟩)
     | (go_at_call 78; refine (HI.out _).mono ?_; rintro e w' ⟨rfl, rfl⟩))
    go_ret
    exact ⟨ret_bool (by rw [Hr.out]; try simp), rfl⟩
   ·rw [hb] at hw Hr
    have HW := hid hw
    have HI := hid hIx
    clear hw hIx hb Hw
    go_enter Tryz.func31, Tryz.ntmps31
    go_wp2_with (first
     | (go_at_call 77; refine (HW.out _).mono ?_; rintro e w' ⟨rfl, rfl⟩)
     | (go_at_call 78; refine (HI.out _).mono ?_; rintro e w' ⟨rfl, rfl⟩))
    go_ret
    exact ⟨ret_bool (by rw [Hr.out]; try simp), rfl⟩
  ·have Hr := hid (show nameOk s.data.toList = false by
    rw [hst] at q2
    rw [Hre.out, bne, bne, q2]; simp)
   clear hst Hre Hw
   go_enter Tryz.func31, Tryz.ntmps31
   go_wp2
   go_ret
   exact ⟨ret_bool Hr.out.symm, rfl⟩
 ·have Hr := hid (show nameOk s.data.toList = false by
   rw [hst] at q1
   rw [Hre.out, bne, q1]; simp)
  clear hst Hre Hw
  go_enter Tryz.func31, Tryz.ntmps31
  go_wp2
  go_ret
  exact ⟨ret_bool Hr.out.symm, rfl⟩
end
section
open Go.RowKit Ino Go.Maps
variable {A : Nat} {own : Nat → Prop} {t : T}
theorem PT.setThree {w : World} {nb mb : Nat → Nat} {lk : Nat → Nat} (h : PT w A nb mb t lk) {i : Nat} (hi : (t i).is = true) (m o g : Int) :
 PT (((w.setCell ⟨nb i, 1, none⟩ (.int .i64 m)).setCell ⟨nb i, 2, none⟩ (.int .i64 o)).setCell ⟨nb i, 3, none⟩ (.int .i64 g)) A nb mb (upd t i { t i with mode := m, owner := o, group := g }) lk := by
 have h1 : PT (w.setCell ⟨nb i, 1, none⟩ (.int .i64 m)) A nb mb (upd t i { t i with mode := m }) lk := h.set1 hi 1 _ lk _ hi rfl rfl (fun _ _ => rfl) fun k hk => by
  match k, hk with
  | 0, _ | 1, _ | 2, _ | 3, _ | 4, _ | 5, _ | 6, _ | 7, _ | 8, _ | 9, _ => rfl
 have e1 : upd t i { t i with mode := m } i = { t i with mode := m } := upd_same _ _ _
 have h2 := h1.set1 (i := i) (by rw [e1]; exact hi) 2 { t i with mode := m, owner := o } lk (.int .i64 o) hi (by rw [e1]) (by rw [e1]) (fun _ _ => rfl) (fun k hk => by
  rw [e1]
  match k, hk with
  | 0, _ | 1, _ | 2, _ | 3, _ | 4, _ | 5, _ | 6, _ | 7, _ | 8, _ | 9, _ => rfl)
 have e2 : upd (upd t i { t i with mode := m }) i { t i with mode := m, owner := o } i = { t i with mode := m, owner := o } := upd_same _ _ _
 have h3 := h2.set1 (i := i) (by rw [e2]; exact hi) 3 { t i with mode := m, owner := o, group := g } lk (.int .i64 g) hi (by rw [e2]) (by rw [e2]) (fun _ _ => rfl) (fun k hk => by
  rw [e2]
  match k, hk with
  | 0, _ | 1, _ | 2, _ | 3, _ | 4, _ | 5, _ | 6, _ | 7, _ | 8, _ | 9, _ => rfl)
 refine h3.congr ?_ fun _ _ => rfl
 funext j; unfold upd; split <;> rfl
theorem PT.below {w w' : World} {nb mb : Nat → Nat} {lk : Nat → Nat} (h : PT w A nb mb t lk) (hb : Below w.heap.size w w') : PT w' A nb mb t lk := h.blocks fun g hg => hb.block g (h.tlt hg)
theorem PTo.below {w w' : World} (h : PTo w A own t) (hb : Below w.heap.size w w') : PTo w' A own t := by
 obtain ⟨nb, mb, hP, hO⟩ := h
 exact ⟨nb, mb, hP.below hb, hO⟩
theorem Pt.below {w w' : World} (h : PTo w A own t) (hb : Below w.heap.size w w') : Pt w A own t w' := ⟨own, h.below hb, fun _ => id, fun _ => .inl, Fr.of_below hb⟩
def rRow (m o g : Int) : Obj := .cells #[.int .i64 m, .int .i64 o, .int .i64 g] 70
theorem rights_at (w : World) (m o g : Int) {w2 : World} (hb : Below (w.alloc (rRow m o g)).heap.size (w.alloc (rRow m o g)) w2) :
 w2.cell? ⟨w.heap.size, 0, none⟩ = some (.int .i64 m) ∧ w2.cell? ⟨w.heap.size, 1, none⟩ = some (.int .i64 o) ∧ w2.cell? ⟨w.heap.size, 2, none⟩ = some (.int .i64 g) ∧ Below w.heap.size w w2 := by
 have hr : (w.alloc (rRow m o g)).heap[w.heap.size]? = some (rRow m o g) := heap_alloc_new w _
 have hr2 := (hb.block w.heap.size (by simp)).trans hr
 exact ⟨cell_of_row w2 _ _ _ _ _ hr2, cell_of_row w2 _ _ _ _ _ hr2, cell_of_row w2 _ _ _ _ _ hr2, ((Below.refl _ w).alloc (Nat.le_refl _) _).trans (hb.mono (by simp))⟩
theorem setP_at {t : T} {k : Nat} (hi : isI t (k : Int) = true) (ok : Bool) (m o g : Int) : setP t (k : Int) ok m o g = if ok = true then (upd t k { t k with mode := m, owner := o, group := g }, 0) else (t, 1) := by
 unfold setP; rw [hi, if_pos rfl, Int.toNat_natCast]
theorem pset_any (i m o g : Int) (hm : wfI m) (w : World) (h : PTo w A own t) :
 Calls Tryz.prog 75 #[.pointer (some ⟨A, 0, none⟩), .int .i64 i, .int .i64 m, .int .i64 o, .int .i64 g] w fun e w' => e = .returned (.int .i64 (setP t i (rOk m o g) m o g).2) ∧ Pt w A own (setP t i (rOk m o g) m o g).1 w' := by
 have H := hid h
 obtain ⟨nb, mb, hP, hO⟩ := h
 have hg := get_any i w hP
 have hv := fun w => valid_any m o g hm w
 cases hi : isI t i
 ·rw [getV_none hi] at hg
  have Hr := hid (show setP t i (rOk m o g) m o g = (t, 3) by unfold setP; rw [hi, if_neg Bool.false_ne_true])
  clear hP hO hi hv
  go_enter Tryz.func75, Tryz.ntmps75
  go_wp2_with (go_at_call 56; refine hg.mono ?_; rintro e w' ⟨rfl, rfl⟩)
  go_ret
  exact ⟨ret_int (by rw [Hr.out]; rfl), by rw [Hr.out]; exact Pt.below H.out ((Below.refl _ w).alloc (Nat.le_refl _) _)⟩
 ·obtain ⟨k, rfl, h1, h2, hki⟩ := isI_nat hi
  rw [getV_nat hi] at hg
  have Hre := hid (setP_at hi (rOk m o g) m o g)
  generalize rOk m o g = ok at hv Hre ⊢
  have HV := hid hv
  clear hv
  have HP := hid hP
  have HO := hid hO
  have hne := (hP.ltN hki)
  clear hP hO hi
  cases ok
  ·go_enter Tryz.func75, Tryz.ntmps75
   go_wp2_with (first
    | (go_at_call 56; refine hg.mono ?_; rintro e w' ⟨rfl, rfl⟩)
    | (go_at_call 32; refine (HV.out _).mono ?_; rintro e w2 ⟨rfl, hb⟩))
   go_ret
   have hb2 := (rights_at w m o g hb).2.2.2
   exact ⟨ret_int (by rw [Hre.out]; rfl), by rw [Hre.out]; exact Pt.below H.out hb2⟩
  ·go_enter Tryz.func75, Tryz.ntmps75
   go_wp2_with (first
    | (go_at_call 56; refine hg.mono ?_; rintro e w' ⟨rfl, rfl⟩)
    | (go_at_call 32; refine (HV.out _).mono ?_; rintro e w2 ⟨rfl, hb⟩; obtain ⟨r0, r1, r2, hb2⟩ := rights_at w m o g hb; have hP2 := HP.out.below hb2; obtain ⟨-, c1, c2, c3, -⟩ := hP2.cells hki; have f1 := hP2.frozen hki 1; have f2 := hP2.frozen hki 2; have f3 := hP2.frozen hki 3; have HP2 := hid hP2; have HB2 := hid hb2; clear hP2 hb2 hb))
   go_ret
   refine ⟨ret_int (by rw [Hre.out]; rfl), ?_⟩
   rw [Hre.out]
   have hw : ∀ j v, Fr own w2 (w2.setCell ⟨nb k, j, none⟩ v) := fun j v => (Fr.refl own w2).setCell (p := ⟨nb k, j, none⟩) (.inl (HO.out _ (.inr (.inl ⟨k, hki, rfl⟩)))) v
   have hS : own (nb k) := HO.out _ (.inr (.inl ⟨k, hki, rfl⟩))
   refine Pt.same (t := t) ((HP2.out.setThree hki m o g).congr rfl fun j _ => links_upd_same t k { t k with mode := m, owner := o, group := g } j rfl) HO.out (upd_sub1 t k _ rfl rfl) ?_
   exact ((((Fr.of_below HB2.out).setCell (p := ⟨nb k, 1, none⟩) (.inl hS) _).setCell (p := ⟨nb k, 2, none⟩) (.inl hS) _).setCell (p := ⟨nb k, 3, none⟩) (.inl hS) _)
end
end Go.Proofs.YtlpececggkdhmaaGreat
