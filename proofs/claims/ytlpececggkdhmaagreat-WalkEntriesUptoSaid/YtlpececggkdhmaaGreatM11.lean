import Derived.Deep.DrawnRows
import Derived.Test.YtlpececggkdhmaaGreatM4
import Derived.Test.YtlpececggkdhmaaGreatM7
import Derived.Test.YtlpececggkdhmaaGreatM10
open Go.Lib (hid)
set_option linter.unusedVariables false
set_option linter.unusedSimpArgs false
set_option maxHeartbeats 2000000
set_option maxRecDepth 100000
namespace Go.Proofs.YtlpececggkdhmaaGreat
section
open Go.RowKit Ino Go.Maps
variable {A : Nat} {own : Nat → Prop} {t : T}
theorem put_min (d : Bs) (s : ByteArray) (b : Nat) : (ByteArray.extract ⟨d.toArray⟩ 0 b ++ s ++ ByteArray.extract ⟨d.toArray⟩ (min ((b : Int) + (s.size : Int)) (d.length : Int)).toNat d.length) = ⟨(d.take b ++ (s.data.toList ++ d.drop (b + s.size))).toArray⟩ := by
 by_cases h : b + s.size ≤ d.length
 ·rw [show (min ((b : Int) + (s.size : Int)) (d.length : Int)).toNat = b + s.size by omega]
  exact put_str d s b
 ·rw [show (min ((b : Int) + (s.size : Int)) (d.length : Int)).toNat = d.length by omega]
  exact put_str2 d s _ b (by simp) (by omega)
theorem Pt.drew {W W' : World} (h : Pt W A own t W') : Pt W A own t W'.drew := by
 obtain ⟨own', ⟨nb, mb, hP, hO⟩, h1, h2, h3⟩ := h
 exact ⟨own', ⟨nb, mb, hP.drew, hO⟩, h1, h2, h3.drew⟩
theorem pput_any (i a : Int) (s : ByteArray) (w : World) (h : PTo w A own t) (hs : Sd t) (ha : -9223372036854775808 ≤ a ∧ a ≤ 9223372036854775807) (hsz : s.size ≤ 1000000) :
 Calls Tryz.prog 95 #[.pointer (some ⟨A, 0, none⟩), .int .i64 i, .int .i64 a, .string s] w fun e w' => e = .returned (.int .i64 (putP t i a s.data.toList).2) ∧ Pt w A own (putP t i a s.data.toList).1 w' := by
 have H := hid h
 obtain ⟨nb, mb, hP, hO⟩ := h
 have hc := pfile_any i w hP
 by_cases hf : fileE t i ≠ 0
 ·have Hr := hid (show putP t i a s.data.toList = (t, fileE t i) by unfold putP; rw [if_pos hf])
  generalize fileV t nb i = fv at hc
  generalize fileE t i = fe at hc hf Hr
  have hne : (((fe : Int) == 0) : Bool) = false := by rw [beq_eq_false_iff_ne]; omega
  clear hP hO hf
  go_enter Tryz.func95, Tryz.ntmps95
  go_wp2_with (go_at_call 127; refine hc.mono ?_; rintro e w' ⟨rfl, rfl⟩)
  go_ret
  exact ⟨ret_int (by rw [Hr.out]), by rw [Hr.out]; exact Pt.refl H.out⟩
 ·obtain ⟨hi, hk⟩ := fileE_ok hs hf
  have hf0 : fileE t i = 0 := by omega
  obtain ⟨k, rfl, h1, h2, hki⟩ := isI_nat hi
  have hV : fileV t nb (k : Int) = .pointer (some ⟨nb k, 0, none⟩) := by unfold fileV; rw [if_pos hf0, Int.toNat_natCast]
  rw [hf0, hV] at hc
  have hre : putP t (k : Int) a s.data.toList = if a < 0 ∨ ((t k).data.length : Int) < a then (t, 1) else if (4096 : Int) - a < s.data.toList.length then (t, 9)
   else (upd t k { t k with data := (t k).data.take a.toNat ++ (s.data.toList ++ (t k).data.drop (a.toNat + s.data.toList.length)) }, 0) := by
   unfold putP; rw [if_neg hf, Int.toNat_natCast]
  have Hre := hid hre
  obtain ⟨-, -, -, -, -, -, c8, -⟩ := hP.cells hki
  have hd4 := hs.size k
  have f8 := hP.frozen hki 6
  have hsl : s.data.toList.length = s.size := by simp
  have Hsl := hid hsl
  have hn : ∀ d, Pt w A own (upd t k { t k with data := d }) (w.setCell ⟨nb k, 6, none⟩ (.string ⟨d.toArray⟩)) := fun d =>
   Pt.same (t := t) ((hP.setData hki d).congr rfl fun j _ => links_upd_same t k { t k with data := d } j rfl) hO (upd_sub1 t k _ rfl rfl) ((Fr.refl own w).setCell (p := ⟨nb k, 6, none⟩) (.inl (hO _ (.inr (.inl ⟨k, hki, rfl⟩)))) _)
  have Hn := hid hn
  clear hP hO hi hf hf0 hk hs hki hre hsl hn hV
  generalize t k = tk at c8 hd4 Hre Hn
  obtain ⟨d, hd⟩ : ∃ d, tk.data = d := ⟨_, rfl⟩
  rw [hd] at c8 hd4
  have Hd := hid hd
  clear hd
  have hdl : (ByteArray.size ⟨d.toArray⟩) = d.length := by simp [ByteArray.size]
  by_cases a0 : a < 0
  ·have Hr := hid (show putP t (k : Int) a s.data.toList = (t, 1) by rw [Hre.out, if_pos (.inl a0)])
   go_enter Tryz.func95, Tryz.ntmps95
   go_wp2_with (go_at_call 127; refine hc.mono ?_; rintro e w' ⟨rfl, rfl⟩)
   go_ret
   exact ⟨ret_int (by rw [Hr.out]; rfl), by rw [Hr.out]; exact Pt.refl H.out⟩
  by_cases a1 : (d.length : Int) < a
  ·have Hr := hid (show putP t (k : Int) a s.data.toList = (t, 1) by rw [Hre.out, if_pos (.inr (by rw [Hd.out]; exact a1))])
   go_enter Tryz.func95, Tryz.ntmps95
   go_wp2_with (go_at_call 127; refine hc.mono ?_; rintro e w' ⟨rfl, rfl⟩)
   go_ret
   exact ⟨ret_int (by rw [Hr.out]; rfl), by rw [Hr.out]; exact Pt.refl H.out⟩
  obtain ⟨b, rfl⟩ : ∃ b : Nat, a = (b : Int) := ⟨a.toNat, by omega⟩
  have hbd : b ≤ d.length := by omega
  by_cases a2 : (4096 : Int) - b < s.size
  ·have Hr := hid (show putP t (k : Int) b s.data.toList = (t, 9) by rw [Hre.out, if_neg (by rw [Hd.out]; omega), if_pos (by rw [Hsl.out]; exact a2)])
   go_enter Tryz.func95, Tryz.ntmps95
   go_wp2_with (go_at_call 127; refine hc.mono ?_; rintro e w' ⟨rfl, rfl⟩)
   go_ret
   exact ⟨ret_int (by rw [Hr.out]; rfl), by rw [Hr.out]; exact Pt.refl H.out⟩
  have Hr := hid (show putP t (k : Int) b s.data.toList = (upd t k { tk with data := d.take b ++ (s.data.toList ++ d.drop (b + s.size)) }, 0) by
   rw [Hre.out, if_neg (by rw [Hd.out]; omega), if_neg (by rw [Hsl.out]; exact a2), Hd.out, Hsl.out, Int.toNat_natCast])
  clear Hre
  go_enter Tryz.func95, Tryz.ntmps95
  go_wp2_with (go_at_call 127; refine hc.mono ?_; rintro e w' ⟨rfl, rfl⟩)
  go_region
  go_wp2
  go_ret
  exact ⟨ret_int (by rw [Hr.out]; rfl), by rw [Hr.out, put_min]; exact (Hn.out _).drew⟩
end
section
open Go.RowKit Ino Go.Maps
variable {A : Nat} {own : Nat → Prop} {t : T}
def freeV : Option Nat → Value
 | none => .tuple #[.int .i64 0, .bool false]
 | some i => .tuple #[.int .i64 i, .bool true]
theorem free_any {nb mb : Nat → Nat} {lk : Nat → Nat} (w : World) (h : PT w A nb mb t lk) :
 Calls Tryz.prog 137 #[.pointer (some ⟨A, 0, none⟩)] w fun e w' => e = .returned (freeV (freeP t)) ∧ w = w' := by
 have H := hid h
 clear h
 obtain ⟨fp, hfp⟩ : ∃ fp, freeP t = fp := ⟨_, rfl⟩
 rw [hfp]
 have Hfp := hid hfp
 clear hfp
 go_enter Tryz.func137, Tryz.ntmps137
 go_wp2
 go_loop [4] (fun i => mkRel t i) (fun i => 201 - (intOf i).toNat)
 case atStart => exact ⟨1, Nat.le_refl _, by decide, rfl, fun j h1 h2 => by omega⟩
 case round =>
  obtain ⟨k, hk1, hk2, rfl, hall⟩ := hrel
  by_cases hlt : k < 201
  ·have c0 := H.out.get (i := k) (by omega)
   have Hall := hid hall
   clear hall
   unfold ptrV at c0
   cases hi : (t k).is
   ·rw [hi] at c0
    have Hr := hid (show fp = some k from Hfp.out.symm.trans (freeUp_is hk1 (by omega) hi Hall.out))
    simp only [Bool.false_eq_true, if_false] at c0
    clear hi
    go_wp2
    go_ret2
    exact ⟨by rw [Hr.out]; rfl, rfl⟩
   ·rw [hi, if_pos rfl] at c0
    have Hi := hid hi
    clear hi
    go_wp2
    go_round
    case rel => exact ⟨k + 1, by omega, by omega, by go_num, fun j h1 h2 => by
     by_cases e : j = k
     ·rw [e]; exact Hi.out
     ·exact Hall.out j h1 (by omega)⟩
    case measure => simp [intOf]; omega
  ·have e : k = 201 := by omega
   subst e
   have Hr := hid (show fp = none from Hfp.out.symm.trans (freeUp_full fun j h1 h2 => hall j h1 (by omega)))
   clear hall
   go_wp2
   go_ret2
   exact ⟨by rw [Hr.out]; rfl, rfl⟩
def freshN (ino : Nat) (kind m o g : Int) : Nod := ⟨true, kind, m, o, g, 0, 0, if kind = 1 then ino else 0, [], []⟩
theorem fresh_row (w : World) (cs : Array Value) (f : Nat → Value) (hs : cs.size = 10) (hc : ∀ i, i < 10 → cs[i]? = some (f i)) : (w.alloc (.cells cs 110)).rowIs w.heap.size 110 10 f := by
 have := World.rowIs_alloc w cs 110 f (fun i hi => hc i (by omega))
 rw [hs] at this
 exact this
theorem newInode_any (ino : Nat) (kind m o g : Int) (w : World) :
 Calls Tryz.prog 33 #[.int .i64 ino, .int .i64 kind, .agg #[.int .i64 m, .int .i64 o, .int .i64 g]] w fun e w' => ∃ b mk, e = .returned (.pointer (some ⟨b, 0, none⟩)) ∧ w.heap.size ≤ b ∧ w.heap.size ≤ mk ∧
  w'.rowIs b 110 10 (nodeF (freshN ino kind m o g) 0 mk) ∧ (kind = 1 → EMap w' mk []) ∧ Below w.heap.size w w' := by
 have hmm := @run_makeMap Tryz.prog
 by_cases hk : kind = 1
 ·subst hk
  go_enter Tryz.func33, Tryz.ntmps33
  go_wp2_with (go_at_call 57; refine (isDir_at _ _ 1 (by simp)).mono ?_; rintro e w' ⟨rfl, rfl⟩)
  go_ret
  refine ⟨w.heap.size + 1, w.heap.size + 1 + 1, rfl, by omega, by omega, ?_, fun _ => ?_, (((Below.refl _ w).alloc (Nat.le_refl _) _).alloc (by simp) _).alloc (by simp; omega) _⟩
  ·have hr := fresh_row (w.alloc (rRow m o g)) #[.int .i64 1, .int .i64 m, .int .i64 o, .int .i64 g, .int .i64 0, .int .i64 0, .string { data := #[] }, .map (some (w.heap.size + 1 + 1)), .int .i64 ino, .int .i64 0] (nodeF (freshN ino 1 m o g) 0 (w.heap.size + 1 + 1)) rfl (fun i hi => by
    match i, hi with
    | 0, _ | 1, _ | 2, _ | 3, _ | 4, _ | 5, _ | 6, _ | 7, _ | 8, _ | 9, _ => rfl)
   rw [show (w.alloc (rRow m o g)).heap.size = w.heap.size + 1 by simp] at hr
   exact hr.alloc _
  ·have hm := EMap.made ((w.alloc (rRow m o g)).alloc (.cells #[.int .i64 1, .int .i64 m, .int .i64 o, .int .i64 g, .int .i64 0, .int .i64 0, .string { data := #[] }, .map (some (w.heap.size + 1 + 1)), .int .i64 ino, .int .i64 0] 110))
   rw [show ((w.alloc (rRow m o g)).alloc (.cells #[.int .i64 1, .int .i64 m, .int .i64 o, .int .i64 g, .int .i64 0, .int .i64 0, .string { data := #[] }, .map (some (w.heap.size + 1 + 1)), .int .i64 ino, .int .i64 0] 110)).heap.size = w.heap.size + 1 + 1 by simp] at hm
   exact hm
 ·go_enter Tryz.func33, Tryz.ntmps33
  go_wp2_with (go_at_call 57; refine (isDir_at _ _ kind (by simp)).mono ?_; rintro e w' ⟨rfl, rfl⟩)
  go_ret
  refine ⟨w.heap.size + 1, w.heap.size, rfl, by omega, Nat.le_refl _, ?_, fun e => absurd e hk, ((Below.refl _ w).alloc (Nat.le_refl _) _).alloc (by simp) _⟩
  have hr := fresh_row (w.alloc (rRow m o g)) #[.int .i64 kind, .int .i64 m, .int .i64 o, .int .i64 g, .int .i64 0, .int .i64 0, .string { data := #[] }, .map none, .int .i64 0, .int .i64 0] (nodeF (freshN ino kind m o g) 0 w.heap.size) rfl (fun i hi => by
   have hm : mapV (freshN ino kind m o g) w.heap.size = .map none := if_neg hk
   have hp : (freshN ino kind m o g).parent = 0 := if_neg hk
   match i, hi with
   | 0, _ | 1, _ | 2, _ | 3, _ | 4, _ | 5, _ | 6, _ | 9, _ => rfl
   | 7, _ => exact congrArg some hm.symm
   | 8, _ => exact congrArg some (by show _ = Value.int .i64 ((freshN ino kind m o g).parent : Int); rw [hp]; rfl))
  rw [show (w.alloc (rRow m o g)).heap.size = w.heap.size + 1 by simp] at hr
  exact hr
end
section
open Go.RowKit Ino Go.Maps
variable {A : Nat} {own : Nat → Prop} {t : T}
theorem zeroTree (w : World) : (w.alloc (.cells Tryz.zeroCells74 74)).rowIs w.heap.size 74 201 (fun _ => .pointer none) := by
 have h := World.rowIs_alloc w Tryz.zeroCells74 74 (fun _ => .pointer none) (fun i hi => by
  have hs : Tryz.zeroCells74 = Array.replicate 201 (.pointer none) := by kernel_rfl
  rw [hs] at hi ⊢
  rw [Array.getElem?_replicate, if_pos (by simpa using hi)])
 rw [show Tryz.zeroCells74.size = 201 by kernel_rfl] at h
 exact h
theorem root_tree {w4 : World} {A b mk : Nat} {m o g : Int} (hA : w4.rowIs A 74 201 (fun _ => .pointer none)) (hrow : w4.rowIs b 110 10 (nodeF (freshN 1 1 m o g) 0 mk)) (hm : EMap w4 mk []) :
 PT (w4.setCell ⟨A, 1, none⟩ (.pointer (some ⟨b, 0, none⟩))) A (fun _ => b) (fun _ => mk) (newP m o g) (links (newP m o g)) := by
 have h1 : newP m o g 1 = rootN m o g := upd_same _ _ _
 have ho : ∀ i, i ≠ 1 → newP m o g i = noN := fun i hi => upd_other _ _ hi
 have hi : ∀ i, (newP m o g i).is = true → i = 1 := fun i hi => by
  by_cases e : i = 1
  ·exact e
  ·rw [ho i e] at hi; cases hi
 have hk : ∀ i, (newP m o g i).kind = 1 → i = 1 := fun i hi => by
  by_cases e : i = 1
  ·exact e
  ·rw [ho i e] at hi; cases hi
 have hbA : b ≠ A := row_ne_row hrow hA
 refine ⟨?_, fun i h => ?_, fun i h => ?_, fun i j h k _ => (hi i h).trans (hi j k).symm, fun i j h k _ => (hk i h).trans (hk j k).symm⟩
 ·refine (hA.set 1 _).congr fun i _ => ?_
  by_cases e : i = 1
  ·rw [if_pos e, e, h1]; rfl
  ·rw [if_neg e, ho i e]; rfl
 ·rw [hi i h, h1, links_new]
  exact hrow.setOther (a := ⟨A, 1, none⟩) hbA _
 ·rw [hk i h, h1]
  exact hm.of_block (Below.heap_setCell _ _ _ _ (row_ne_map hA hm).symm)
theorem pnew_any (m o g : Int) (hm : wfI m) (hk : rOk m o g = true) (w : World) :
 Calls Tryz.prog 9 #[.int .i64 m, .int .i64 o, .int .i64 g] w fun e w' => ∃ A, e = .returned (.pointer (some ⟨A, 0, none⟩)) ∧ PTo w' A (fun g => w.heap.size ≤ g) (newP m o g) ∧ Below w.heap.size w w' := by
 have hv := fun w => valid_any m o g hm w
 rw [hk] at hv
 have HV := hid hv
 clear hv hk
 go_enter Tryz.func9, Tryz.ntmps9
 go_wp2_with (go_at_call 32; refine (HV.out _).mono ?_; rintro e w2 ⟨rfl, hb⟩)
 obtain ⟨r0, r1, r2, hb2⟩ := rights_at w m o g hb
 have hA := (zeroTree w2).drew
 have hlt := cell_lt r0
 have q0 : (w2.alloc (.cells Tryz.zeroCells74 74)).drew.cell? ⟨w.heap.size, 0, none⟩ = some (.int .i64 m) := (World.cell?_of_block (Below.heap_alloc _ _ _ hlt)).trans r0
 have q1 : (w2.alloc (.cells Tryz.zeroCells74 74)).drew.cell? ⟨w.heap.size, 1, none⟩ = some (.int .i64 o) := (World.cell?_of_block (Below.heap_alloc _ _ _ hlt)).trans r1
 have q2 : (w2.alloc (.cells Tryz.zeroCells74 74)).drew.cell? ⟨w.heap.size, 2, none⟩ = some (.int .i64 g) := (World.cell?_of_block (Below.heap_alloc _ _ _ hlt)).trans r2
 have hbel : Below w.heap.size w (w2.alloc (.cells Tryz.zeroCells74 74)).drew := (hb2.alloc hb2.size _).drew
 have hsz : (w2.alloc (.cells Tryz.zeroCells74 74)).drew.heap.size = w2.heap.size + 1 := by simp [World.drew]
 have HA := hid hA
 have Hbel := hid hbel
 have Hb2 := hid hb2
 clear hA hbel hb hb2 r0 r1 r2 HV
 generalize w2.alloc (.cells Tryz.zeroCells74 74) = W3 at *
 go_region_with (go_at_call 33; refine (newInode_any 1 1 m o g _).mono ?_; rintro e w4 ⟨b, mk, rfl, hb1, hb2, hrow, hm, hbel⟩; have hA4 := HA.out.of_block (hbel.block _ HA.out.lt); have ca := hA4.cell (i := 1) (by decide); have fa := hA4.frozen 1)
 go_wp2
 go_ret
 have hle := Hb2.out.size
 have hsz4 := hbel.size
 refine ⟨_, rfl, ⟨_, _, root_tree hA4 hrow (hm trivial), fun x hx => ?_⟩, (Hbel.out.trans (hbel.mono (by omega))).setCell (p := ⟨w2.heap.size, 1, none⟩) hle _⟩
 rcases hx with rfl | ⟨i, _, rfl⟩ | ⟨i, _, rfl⟩ <;> omega
end
end Go.Proofs.YtlpececggkdhmaaGreat
