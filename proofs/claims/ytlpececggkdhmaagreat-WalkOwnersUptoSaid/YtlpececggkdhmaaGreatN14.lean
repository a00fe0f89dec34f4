import Derived.Test.YtlpececggkdhmaaGreatN1
import Derived.Test.YtlpececggkdhmaaGreatN2
import Derived.Test.YtlpececggkdhmaaGreatN12
import Derived.Test.YtlpececggkdhmaaGreatN13
open Go.Lib (hid)
set_option linter.unusedVariables false
set_option linter.unusedSimpArgs false
set_option maxHeartbeats 4000000
namespace Go.Proofs.YtlpececggkdhmaaGreat
section
open Go.RowKit Ino
open Pa (Blk strV splE nam dirP absP splN splAbs splDir)
variable {A B : Nat} {own : Nat → Prop} {t : T}
theorem Blk.k3 {W : World} {B : Nat} {y : TypeId} {a b c : Value} (h : Blk W B y #[a, b, c]) : W.cell? ⟨B, 0, none⟩ = some a ∧ W.cell? ⟨B, 1, none⟩ = some b ∧ W.cell? ⟨B, 2, none⟩ = some c := ⟨h.cell 0, h.cell 1, h.cell 2⟩
theorem findP_eq (cwd u g : Int) (s : Bs) : findP t cwd u g s = if splE s = 0 then (if (downP t cwd u g (splAbs s) (splN s)).2 = 0 then (if splDir s = true ∧ (t (downP t cwd u g (splAbs s) (splN s)).1).kind ≠ 1 then (0, 6) else ((downP t cwd u g (splAbs s) (splN s)).1, 0)) else (0, (downP t cwd u g (splAbs s) (splN s)).2)) else (0, splE s) := by
 unfold findP splAbs splN splDir
 by_cases h : splE s = 0
 ·rw [if_pos h, if_pos h, if_pos h, if_pos h, if_pos h]
 ·rw [if_neg h, if_neg h]
theorem dFind_any (cwd r0 u s0 k0 g : Int) (s : ByteArray) (hz : s.size ≤ 1048576) (w : World) (h : RT w A B own t) (hs : Sd t) (hm : Mw t) :
 Calls Tryz.prog 36 #[.pointer (some ⟨A, 0, none⟩), .int .i64 cwd, .agg #[.int .i64 r0, .int .i64 u, .int .i64 s0, .int .i64 k0, .int .i64 g], .string s] w fun e w' => e = .returned (ino2V (findP t cwd u g s.data.toList)) ∧ Below w.heap.size w w' := by
 have hR := findP_eq (t := t) cwd u g s.data.toList
 generalize findP t cwd u g s.data.toList = r at hR ⊢
 have HPT := hid (fun W (hb : Below w.heap.size w W) => h.fr (S := fun _ => False) (Fr.of_below hb) fun _ _ _ => id)
 have C1 := hid (fun W => Pa.refSplit_any s hz W)
 have hsm : splE s.data.toList = 0 → (splN s.data.toList).length ≤ 1000 ∧ ∀ n, n ∈ splN s.data.toList → n.length ≤ 1000 := fun h => by
  rw [show splN s.data.toList = nam s.data.toList from if_pos h]
  exact nam_small h
 unfold Pa.SplitPost Pa.splitV at C1
 generalize splE s.data.toList = er at *
 generalize splAbs s.data.toList = ab at *
 generalize splDir s.data.toList = dr at *
 generalize splN s.data.toList = nl at *
 have C2 := hid (fun W v hW hv => dDown_any (A := A) (B := B) (own := own) (t := t) cwd r0 u s0 k0 g ab v nl W hW hs hm hv)
 have HIS := hid (downP_is hs cwd u g ab nl)
 have HSM := hid hsm
 have HR := hid hR
 clear hR hsm h hs hm
 generalize downP t cwd u g ab nl = q at *
 obtain ⟨x, ex⟩ := q
 simp only [ino2V] at C2 ⊢
 go_enter Tryz.func36, Tryz.ntmps36
 go_wp2_with fail
 refine calls_world (fun W => Blk W w.heap.size 42 #[.int .i64 r0, .int .i64 u, .int .i64 s0, .int .i64 k0, .int .i64 g] ∧ Below w.heap.size w W) ⟨Blk.new w _ _, bel1 _ _⟩ ?_
 rintro W ⟨k1, b1⟩
 refine (C1.out W).mono ?_
 rintro e W2 ⟨v, rfl, hrow, b2⟩
 obtain ⟨pa, pc, rfl⟩ := Pa.row_slice hrow
 have k1 := k1.up b2
 have b1 := bnext b1 b2
 obtain ⟨c0, c1, c2, c3, c4⟩ := Blk.k5 k1
 have hz0 : w.heap.size < W2.heap.size := k1.lt
 have K1 := hid k1
 have B1 := hid b1
 have HRow := hid hrow
 clear b2 C1 k1 b1 hrow
 by_cases he : er = 0
 ·subst he
  rw [if_pos rfl] at HR
  have HN := hid (InNames.ofRow HRow.out (HSM.out rfl).1 (HSM.out rfl).2)
  go_wp2_with fail
  obtain ⟨G2, hG2⟩ : ∃ G2, G2 = W2.heap.size := ⟨_, rfl⟩
  rw [← hG2]
  refine calls_world (fun W => Blk W G2 130 #[.bool ab, .slice pa nl.length pc, .bool dr] ∧ InNames W (.slice pa nl.length pc) nl ∧ Below w.heap.size w W) ⟨by rw [hG2]; exact Blk.new _ _ _, HN.out.up (bel1 _ _), bal B1.out _⟩ ?_
  rintro W3 ⟨k3, hn, b1⟩
  refine (C2.out W3 _ (HPT.out W3 b1) hn).mono ?_
  rintro e W4 ⟨rfl, b2⟩
  have k3 := k3.up b2
  have b1 := bnext b1 b2
  clear K1 B1 HN HRow b2 hn hz0 c0 c1 c2 c3 c4 hG2
  obtain ⟨p0, p1, p2⟩ := Blk.k3 k3
  have B1 := hid b1
  clear k3 b1
  by_cases hex : ex = 0
  ·subst hex
   have hx : isI t (x : Int) = true := HIS.out rfl
   rw [if_pos rfl] at HR
   have C3 := hid (fun W hW => dir_any (A := A) (B := B) (own := own) (t := t) (x : Int) W hW)
   rw [isD_isI hx] at C3
   clear hx HIS
   go_wp2_with fail
   refine (C3.out _ (HPT.out _ B1.out)).mono ?_
   rintro e w5 ⟨rfl, rfl⟩
   by_cases hk : (t x).kind = 1
   ·rw [decide_eq_true hk]
    have hr : r = (x, 0) := by rw [HR.out, if_neg (fun y => y.2 hk)]
    clear HR
    subst hr
    cases dr <;> (go_wp2; go_ret2; exact ⟨rfl, B1.out⟩)
   ·rw [decide_eq_false hk]
    cases dr
    ·have hr : r = (x, 0) := by rw [HR.out, if_neg (fun y => Bool.false_ne_true y.1)]
     clear HR
     subst hr
     go_wp2
     go_ret2
     exact ⟨rfl, B1.out⟩
    ·have hr : r = (0, 6) := by rw [HR.out, if_pos ⟨rfl, hk⟩]
     clear HR
     subst hr
     go_wp2
     go_ret2
     exact ⟨rfl, B1.out⟩
  ·have hr : r = (0, ex) := by rw [HR.out, if_neg hex]
   have her2 : ((ex : Int) == 0) = false := by simp; omega
   have her3 : ((ex : Int) != 0) = true := by simp; omega
   clear HR HIS
   subst hr
   go_wp2
   go_ret2
   exact ⟨rfl, B1.out⟩
 ·have hr : r = (0, er) := by rw [HR.out, if_neg he]
  have her2 : ((er : Int) == 0) = false := by simp; omega
  have her3 : ((er : Int) != 0) = true := by simp; omega
  clear HR HIS
  subst hr
  go_wp2
  go_ret2
  exact ⟨rfl, bal B1.out _⟩
end
section
open Go.RowKit Ino
open Pa (Blk strV splE nam dirP absP splN splAbs splDir)
variable {A B : Nat} {own : Nat → Prop} {t : T}
def plc4V (p : Plc) : Value := .tuple #[.int .i64 p.dir, .string ⟨p.name.toArray⟩, .bool p.must, .int .i64 p.err]
theorem placeP_eq (cwd u g : Int) (s : Bs) : placeP t cwd u g s = if splE s = 0 then
 (if splN s = [] ∨ lastN (splN s) = [46, 46] then ⟨0, [], false, 1⟩
 else if (downP t cwd u g (splAbs s) (splN s).dropLast).2 = 0 then
  (if lookE t (downP t cwd u g (splAbs s) (splN s).dropLast).1 u g = 0 then ⟨(downP t cwd u g (splAbs s) (splN s).dropLast).1, lastN (splN s), splDir s, 0⟩
  else ⟨0, [], false, lookE t (downP t cwd u g (splAbs s) (splN s).dropLast).1 u g⟩)
 else ⟨0, [], false, (downP t cwd u g (splAbs s) (splN s).dropLast).2⟩)
 else ⟨0, [], false, splE s⟩ := by
 unfold placeP splAbs splN splDir
 by_cases h : splE s = 0
 ·simp only [if_pos h]
 ·simp only [if_neg h]
theorem res_tmp4 {fn : Func} {a b c d : Tmp} (h : fn.results = #[.tmp a, .tmp b, .tmp c, .tmp d]) (tmps : Array Value) (P : Program) (w : World) :
 (results fn tmps).run P w = .ok (.tuple #[tmps.getD a undef, tmps.getD b undef, tmps.getD c undef, tmps.getD d undef]) w := by
 simp [results, h]
theorem up7 {W W' : World} {a b : Nat} {x0 x1 x2 x3 x4 y0 y1 : Value} (h : W.cell? ⟨a, 0, none⟩ = some x0 ∧ W.cell? ⟨a, 1, none⟩ = some x1 ∧ W.cell? ⟨a, 2, none⟩ = some x2 ∧ W.cell? ⟨a, 3, none⟩ = some x3 ∧ W.cell? ⟨a, 4, none⟩ = some x4 ∧ W.cell? ⟨b, 0, none⟩ = some y0 ∧ W.cell? ⟨b, 1, none⟩ = some y1) (k : Below W.heap.size W W') :
 W'.cell? ⟨a, 0, none⟩ = some x0 ∧ W'.cell? ⟨a, 1, none⟩ = some x1 ∧ W'.cell? ⟨a, 2, none⟩ = some x2 ∧ W'.cell? ⟨a, 3, none⟩ = some x3 ∧ W'.cell? ⟨a, 4, none⟩ = some x4 ∧ W'.cell? ⟨b, 0, none⟩ = some y0 ∧ W'.cell? ⟨b, 1, none⟩ = some y1 :=
 ⟨up1 h.1 k, up1 h.2.1 k, up1 h.2.2.1 k, up1 h.2.2.2.1 k, up1 h.2.2.2.2.1 k, up1 h.2.2.2.2.2.1 k, up1 h.2.2.2.2.2.2 k⟩
set_option maxRecDepth 100000 in
theorem dParent_any (cwd r0 u s0 k0 g : Int) (s : ByteArray) (hz : s.size ≤ 1048576) (w : World) (h : RT w A B own t) (hs : Sd t) (hm : Mw t) :
 Calls Tryz.prog 37 #[.pointer (some ⟨A, 0, none⟩), .int .i64 cwd, .agg #[.int .i64 r0, .int .i64 u, .int .i64 s0, .int .i64 k0, .int .i64 g], .string s] w fun e w' => e = .returned (plc4V (placeP t cwd u g s.data.toList)) ∧ Below w.heap.size w w' := by
 have hR := placeP_eq (t := t) cwd u g s.data.toList
 generalize placeP t cwd u g s.data.toList = r at hR ⊢
 have HPT := hid (fun W (hb : Below w.heap.size w W) => h.fr (S := fun _ => False) (Fr.of_below hb) fun _ _ _ => id)
 have C1 := hid (fun W => Pa.refSplit_any s hz W)
 have hsm : splE s.data.toList = 0 → (splN s.data.toList).length ≤ 1000 ∧ ∀ n, n ∈ splN s.data.toList → n.length ≤ 1000 := fun h => by
  rw [show splN s.data.toList = nam s.data.toList from if_pos h]
  exact nam_small h
 unfold Pa.SplitPost Pa.splitV at C1
 generalize splE s.data.toList = er at *
 generalize splAbs s.data.toList = ab at *
 generalize splDir s.data.toList = dr at *
 generalize splN s.data.toList = nl at *
 have C2 := hid (fun W v hW hv => dDown_any (A := A) (B := B) (own := own) (t := t) cwd r0 u s0 k0 g ab v nl.dropLast W hW hs hm hv)
 have HIS := hid (downP_is hs cwd u g ab nl.dropLast)
 have HMY := hid (fun x hx W hW => dMay_any (A := A) (B := B) (own := own) (t := t) r0 u s0 k0 g 1 x hx (hm x) W hW)
 have HSM := hid hsm
 have HR := hid hR
 clear hR hsm h hs hm
 generalize downP t cwd u g ab nl.dropLast = q at *
 obtain ⟨x, ex⟩ := q
 simp only [ino2V] at C2 ⊢
 go_enter Tryz.func37, Tryz.ntmps37
 go_wp2_with fail
 refine calls_world (fun W => Blk W w.heap.size 42 #[.int .i64 r0, .int .i64 u, .int .i64 s0, .int .i64 k0, .int .i64 g] ∧ Below w.heap.size w W) ⟨Blk.new w _ _, bel1 _ _⟩ ?_
 rintro W ⟨k1, b1⟩
 refine (C1.out W).mono ?_
 rintro e W2 ⟨v, rfl, hrow, b2⟩
 obtain ⟨pa, pc, rfl⟩ := Pa.row_slice hrow
 have hcap : nl.length ≤ pc := by
  rcases hrow.2 with ⟨h1, h2⟩ | ⟨g1, c1, cur, h1, _, _, h4, _⟩
  ·omega
  ·cases h1; exact h4
 have k1 := k1.up b2
 have b1 := bnext b1 b2
 obtain ⟨c0, c1, c2, c3, c4⟩ := Blk.k5 k1
 have hz0 : w.heap.size < W2.heap.size := k1.lt
 have K1 := hid k1
 have B1 := hid b1
 by_cases he : er = 0
 ·subst he
  rw [if_pos rfl] at HR
  by_cases hne : nl = []
  ·subst hne
   have hr : r = ⟨0, [], false, 1⟩ := by rw [HR.out, if_pos (.inl rfl)]
   clear HR b2 C1 k1 b1 hrow
   subst hr
   go_wp2
   ((try simp only [Exit.inBlock, Exit.then]); refine bodyPost_ret (res_tmp4 rfl _ _ _) rfl ?_)
   exact ⟨rfl, bal B1.out _⟩
  ·have hpos : 0 < nl.length := List.length_pos_iff.2 hne
   obtain ⟨m, hlen⟩ : ∃ m, nl.length = m + 1 := ⟨nl.length - 1, by omega⟩
   have HN := InNames.ofRow hrow (HSM.out rfl).1 (HSM.out rfl).2
   have HN0 := hid HN
   obtain ⟨p', c', h1, h2, h3⟩ := HN
   cases h1
   obtain ⟨hns, g0, o0, rfl, hc⟩ := h3 _ _ (last_get hne)
   have hg0 : g0 < W2.heap.size := cell_lt hc
   unfold strV at hc
   rw [hlen] at hcap h2
   rw [show nl.length - 1 = m by omega] at hc
   rw [hlen]
   have hm0 : (0 : Int) ≤ (m : Int) := by omega
   have HLEN := hid hlen
   clear b2 C1 k1 b1 hrow h3 hlen hpos
   have HNE := hid hne
   clear hne
   by_cases hdd : lastN nl = [46, 46]
   ·have hr : r = ⟨0, [], false, 1⟩ := by rw [HR.out, if_pos (.inr hdd)]
    have hdd2 : (lastN nl == [46, 46]) = true := by rw [hdd]; rfl
    clear hdd HR
    generalize lastN nl = ln at *
    subst hr
    go_wp2
    ((try simp only [Exit.inBlock, Exit.then]); refine bodyPost_ret (res_tmp4 rfl _ _ _) rfl ?_)
    exact ⟨rfl, bal B1.out _⟩
   ·have hR1 := HR.out
    rw [if_neg (fun x => x.elim (fun y => HNE.out y) hdd)] at hR1
    have HR1 := hid hR1
    have hdd2 : (lastN nl == [46, 46]) = false := by simpa using hdd
    clear hR1 hdd HR
    generalize lastN nl = ln at *
    go_wp2_with fail
    have hcut : ∀ w, (Instr.sliceAt 54 (.slice (some ⟨g0, o0, none⟩) (m + 1) pc) none (some (.int .i64 (m : Int))) none).run Tryz.prog w = .ok (.slice (some ⟨g0, o0, none⟩) m pc) w := fun w => cut_to g0 o0 hcap w
    obtain ⟨G2, hG2⟩ : ∃ G2, G2 = W2.heap.size := ⟨_, rfl⟩
    rw [← hG2]
    refine code_world (fun W => Blk W w.heap.size 42 #[.int .i64 r0, .int .i64 u, .int .i64 s0, .int .i64 k0, .int .i64 g] ∧ Blk W G2 130 #[.bool ab, .slice (some ⟨g0, o0, none⟩) (m + 1) pc, .bool dr] ∧ InNames W (.slice (some ⟨g0, o0, none⟩) nl.length pc) nl ∧ W.cell? ⟨g0, o0 + m, none⟩ = some (.string ⟨ln.toArray⟩) ∧ Below w.heap.size w W)
     ⟨K1.out.alloc _, by rw [hG2]; exact Blk.new _ _ _, HN0.out.up (bel1 _ _), al_cell hc, bal B1.out _⟩ ?_
    rintro W3 ⟨k1, k3, hn, hce, b1⟩
    clear K1 B1 HN0 hc hz0 c0 c1 c2 c3 c4 hG2 hg0
    have sc : W3.cell? ⟨w.heap.size, 0, none⟩ = some (.int .i64 r0) ∧ W3.cell? ⟨w.heap.size, 1, none⟩ = some (.int .i64 u) ∧ W3.cell? ⟨w.heap.size, 2, none⟩ = some (.int .i64 s0) ∧ W3.cell? ⟨w.heap.size, 3, none⟩ = some (.int .i64 k0) ∧ W3.cell? ⟨w.heap.size, 4, none⟩ = some (.int .i64 g) ∧ W3.cell? ⟨G2, 0, none⟩ = some (.bool ab) ∧ W3.cell? ⟨G2, 1, none⟩ = some (.slice (some ⟨g0, o0, none⟩) (m + 1) pc) := ⟨k1.cell 0, k1.cell 1, k1.cell 2, k1.cell 3, k1.cell 4, k3.cell 0, k3.cell 1⟩
    have HPT2 := hid (HPT.out W3.drew (b1.trans ((Below.refl _ _).drew.mono b1.size)))
    have HN2 := hid (show InNames W3.drew (.slice (some ⟨g0, o0, none⟩) m pc) nl.dropLast from by
     have := (hn.up (Below.refl _ W3).drew).begins (cap' := pc)
     rwa [HLEN.out, Nat.add_sub_cancel] at this)
    have CR := hid (C2.out W3.drew _ HPT2.out HN2.out)
    have K1 := hid k1
    have K3 := hid k3
    have B1 := hid b1
    have HCE := hid hce
    clear k1 k3 hn hce b1
    have scd := up7 sc (Below.refl _ W3).drew
    have SC := hid sc
    have SCD := hid scd
    clear sc scd
    have hw1 : IntKind.i64.wrap ((m : Int) + 1 - 1) = (m : Int) := by rw [IntKind.wrap_i64]; omega
    have hw2 : IntKind.i64.wrap (((m + 1 : Nat) : Int) - 1) = (m : Int) := by rw [IntKind.wrap_i64]; omega
    have hw3 : IntKind.i64.wrap (m : Int) = (m : Int) := by rw [IntKind.wrap_i64]; omega
    go_region_held3 (fun w' => w'.cell? ⟨w.heap.size, 0, none⟩ = some (.int .i64 r0) ∧ w'.cell? ⟨w.heap.size, 1, none⟩ = some (.int .i64 u) ∧ w'.cell? ⟨w.heap.size, 2, none⟩ = some (.int .i64 s0) ∧ w'.cell? ⟨w.heap.size, 3, none⟩ = some (.int .i64 k0) ∧ w'.cell? ⟨w.heap.size, 4, none⟩ = some (.int .i64 g) ∧ w'.cell? ⟨G2, 0, none⟩ = some (.bool ab) ∧ w'.cell? ⟨G2, 1, none⟩ = some (.slice (some ⟨g0, o0, none⟩) (m + 1) pc))
     (first | with_reducible exact S5.out | with_reducible exact SC.out | with_reducible exact SCD.out)
     (first | (go_at_call 82; refine CR.out.mono ?_; rintro e W5 ⟨rfl, b2⟩; have B5 := hid b2; have S5 := hid (up7 SCD.out b2); clear b2))
    ·have b35 : Below W3.heap.size W3 W5 := ((Below.refl _ W3).drew).trans B5.out
     refine then_world (fun W => Blk W w.heap.size 42 #[.int .i64 r0, .int .i64 u, .int .i64 s0, .int .i64 k0, .int .i64 g] ∧ Blk W G2 130 #[.bool ab, .slice (some ⟨g0, o0, none⟩) (m + 1) pc, .bool dr] ∧ W.cell? ⟨g0, o0 + m, none⟩ = some (.string ⟨ln.toArray⟩) ∧ Below w.heap.size w W) ⟨K1.out.up b35, K3.out.up b35, up1 HCE.out b35, bnext B1.out b35⟩ ?_
     clear b35 B5 S5 SC SCD K1 K3 B1 HCE HPT2 HN2 CR
     rintro W6 ⟨k1, k3, hce, b1⟩
     have K1 := hid k1
     have K3 := hid k3
     have B1 := hid b1
     have HCE := hid hce
     clear hce b1 k3
     by_cases hex : ex = 0
     ·subst hex
      rw [if_pos rfl] at HR1
      have hx : isI t (x : Int) = true := HIS.out rfl
      have hx2 : x ≤ 200 := by obtain ⟨k2, e2, -, h2, -⟩ := isI_nat hx; omega
      have hle : lookE t x u g = if (t x).kind = 1 then (if mayT t x u g 1 = true then 0 else 4) else 6 := rfl
      have C3 := hid (fun W hW => dir_any (A := A) (B := B) (own := own) (t := t) (x : Int) W hW)
      rw [isD_isI hx] at C3
      have C4 := hid (fun W hW => HMY.out x hx2 W hW)
      have HLE := hid hle
      clear hle hx HIS HMY
      generalize lookE t x u g = le at *
      generalize mayT t x u g 1 = my at *
      generalize (t x).kind = kd at *
      obtain ⟨c0, c1, c2, c3, c4⟩ := Blk.k5 k1
      clear k1
      go_wp2_with fail
      refine (C3.out _ (HPT.out _ B1.out)).mono ?_
      rintro e w5 ⟨rfl, rfl⟩
      by_cases hk : kd = 1
      ·rw [decide_eq_true hk]
       go_wp2_with fail
       refine (C4.out _ (HPT.out _ B1.out)).mono ?_
       rintro e W7 ⟨rfl, b2⟩
       have k3 := K3.out.up b2
       have hce := up1 HCE.out b2
       have b1 := bnext B1.out b2
       obtain ⟨p0, p1, p2⟩ := Blk.k3 k3
       have B7 := hid b1
       clear c0 c1 c2 c3 c4 k3 b2 b1 K1 K3 HCE B1
       cases my
       ·have hr : r = ⟨0, [], false, 4⟩ := by rw [HR1.out, HLE.out, if_pos hk, if_neg Bool.false_ne_true, if_neg (by decide)]
        clear HR1
        subst hr
        go_wp2
        ((try simp only [Exit.inBlock, Exit.then]); refine bodyPost_ret (res_tmp4 rfl _ _ _) rfl ?_)
        exact ⟨rfl, B7.out⟩
       ·have hr : r = ⟨x, ln, dr, 0⟩ := by rw [HR1.out, HLE.out, if_pos hk, if_pos rfl, if_pos rfl]
        clear HR1
        subst hr
        go_wp2
        go_quiet (fail)
        go_wp2
        ((try simp only [Exit.inBlock, Exit.then]); refine bodyPost_ret (res_tmp4 rfl _ _ _) rfl ?_)
        exact ⟨rfl, B7.out.trans ⟨rfl, rfl, rfl, Nat.le_refl _, fun _ _ => rfl⟩⟩
      ·have hr : r = ⟨0, [], false, 6⟩ := by rw [HR1.out, HLE.out, if_neg hk, if_neg (by decide)]
       rw [decide_eq_false hk]
       clear HR1
       subst hr
       go_wp2
       ((try simp only [Exit.inBlock, Exit.then]); refine bodyPost_ret (res_tmp4 rfl _ _ _) rfl ?_)
       exact ⟨rfl, B1.out⟩
     ·have hr : r = ⟨0, [], false, ex⟩ := by rw [HR1.out, if_neg hex]
      have her2 : ((ex : Int) == 0) = false := by simp; omega
      have her3 : ((ex : Int) != 0) = true := by simp; omega
      clear HR1 HIS k1
      subst hr
      go_wp2
      ((try simp only [Exit.inBlock, Exit.then]); refine bodyPost_ret (res_tmp4 rfl _ _ _) rfl ?_)
      exact ⟨rfl, B1.out⟩
 ·have hr : r = ⟨0, [], false, er⟩ := by rw [HR.out, if_neg he]
  have her2 : ((er : Int) == 0) = false := by simp; omega
  have her3 : ((er : Int) != 0) = true := by simp; omega
  clear HR HIS b2 C1 k1 b1 hrow
  subst hr
  go_wp2
  ((try simp only [Exit.inBlock, Exit.then]); refine bodyPost_ret (res_tmp4 rfl _ _ _) rfl ?_)
  exact ⟨rfl, bal B1.out _⟩
end
section
open Go.RowKit Ino
open Pa (Blk strV)
variable {A B : Nat} {own : Nat → Prop} {t : T}
theorem Rt.next {w w1 w2 : World} {A B : Nat} {own : Nat → Prop} {t1 t2 : T} (h : Rt w A B own t1 w1) (k : ∀ o, RT w1 A B o t1 → Rt w1 A B o t2 w2) : Rt w A B own t2 w2 := by
 obtain ⟨o1, h1, s1, b1, f1⟩ := h
 obtain ⟨o2, h2, s2, b2, f2⟩ := k o1 h1
 exact ⟨o2, h2, fun g hg => s2 g (s1 g hg), fun g hg => (b2 g hg).elim (b1 g) (fun z => .inr (Nat.le_trans f1.size z)), f1.trans f2⟩
theorem Rt.start {w W : World} (h : RT w A B own t) (b : Below w.heap.size w W) : Rt w A B own t W :=
 ⟨own, h.fr (S := fun _ => False) (Fr.of_below b) fun _ _ _ => id, fun _ => id, fun _ => .inl, (Fr.of_below (S := fun _ => False) b).mono fun _ _ z => z.elim⟩
theorem Rt.call {P : Program} {f : Nat} {args : Array Value} {w W : World} {t1 t2 : T} {v : Value} (h : Rt w A B own t1 W) (H : ∀ o, RT W A B o t1 → Calls P f args W fun e w' => e = .returned v ∧ Rt W A B o t2 w') : Calls P f args W fun e w' => e = .returned v ∧ Rt w A B own t2 w' := by
 obtain ⟨o1, h1, s1, b1, f1⟩ := h
 refine (H o1 h1).mono ?_
 rintro e w2 ⟨e1, o2, h2, s2, b2, f2⟩
 exact ⟨e1, o2, h2, fun g hg => s2 g (s1 g hg), fun g hg => (b2 g hg).elim (b1 g) (fun z => .inr (Nat.le_trans f1.size z)), f1.trans f2⟩
theorem Rt.below {w W W' : World} (h : Rt w A B own t W) (b : Below W.heap.size W W') : Rt w A B own t W' := h.next fun o ho => Rt.start ho b
theorem dMakes_any (r0 u s0 k0 g : Int) (d : Nat) (hd : d ≤ 200) (s : ByteArray) (hz : s.size ≤ maxLen) (kind mode : Int) (w : World) (h : RT w A B own t) (hs : Sound t) (hm : Mw t) (hb : HB 999999 t) :
 Calls Tryz.prog 86 #[.pointer (some ⟨A, 0, none⟩), .agg #[.int .i64 r0, .int .i64 u, .int .i64 s0, .int .i64 k0, .int .i64 g], .int .i64 d, .string s, .int .i64 kind, .int .i64 mode] w fun e w' => e = .returned (makeV (makesP t u g d s.data.toList kind mode).2) ∧ Rt w A B own (makesP t u g d s.data.toList kind mode).1 w' := by
 have C1 := hid (fun W hW => dMay_any (A := A) (B := B) (own := own) (t := t) r0 u s0 k0 g 2 d hd (hm d) W hW)
 have C2 := hid (fun W (o : Nat → Prop) hW => make_any (A := A) (B := B) (own := o) (t := t) kind mode u g 0 W hW)
 have hs1 := sound_make hs (rMake kind mode u g 0) kind mode u g 0 (rMake_kinds _ _ _ _ _)
 have hb1 := hb.make (rMake kind mode u g 0) kind mode u g 0
 have hR : makesP t u g d s.data.toList kind mode = if mayT t d u g 2 = true then createP t u g d s.data.toList kind mode else (t, 0, 4) := rfl
 unfold createP at hR
 generalize makesP t u g d s.data.toList kind mode = r at *
 generalize makeP t (rMake kind mode u g 0) kind mode u g 0 = q at *
 obtain ⟨t1, x, e1⟩ := q
 simp only at hR hs1 hb1 C2
 have C3 := hid (fun W (o : Nat → Prop) hW => enter_any (A := A) (B := B) (own := o) (t := t1) (d : Int) (x : Int) s W hW hs1.sd hz)
 have hs2 := sound_enter hs1 (d : Int) s.data.toList (x : Int)
 have hb2 := hb1.enter (d : Int) s.data.toList (x : Int)
 generalize enterP t1 (d : Int) s.data.toList (x : Int) = q2 at *
 obtain ⟨t2, e2⟩ := q2
 simp only at hR hs2 hb2 C3
 have C4 := hid (fun W (o : Nat → Prop) hW => drop_any (A := A) (B := B) (own := o) (t := t2) (x : Int) W hW hs2.sd hb2)
 generalize dropP t2 (x : Int) = q3 at *
 obtain ⟨t3, d3⟩ := q3
 simp only [makeV] at hR C4 C2 ⊢
 have HPT := hid (fun W (b : Below w.heap.size w W) => Rt.start h b)
 have HP2 := hid (fun W (hb : Below w.heap.size w W) => h.fr (S := fun _ => False) (Fr.of_below hb) fun _ _ _ => id)
 have HR := hid hR
 generalize mayT t d u g 2 = my at *
 clear hR hs1 hs2 hb1 hb2 hs hb hm h
 obtain ⟨r1, r2, r3⟩ := r
 simp only
 go_enter Tryz.func86, Tryz.ntmps86
 go_wp2_with fail
 refine calls_world (fun W => Blk W w.heap.size 42 #[.int .i64 r0, .int .i64 u, .int .i64 s0, .int .i64 k0, .int .i64 g] ∧ Below w.heap.size w W) ⟨Blk.new w _ _, bel1 _ _⟩ ?_
 rintro W ⟨k1, b1⟩
 refine (C1.out W (HP2.out W b1)).mono ?_
 rintro e W2 ⟨rfl, b2⟩
 have k1 := k1.up b2
 have b1 := bnext b1 b2
 obtain ⟨c0, c1, c2, c3, c4⟩ := Blk.k5 k1
 have P1 := hid (HPT.out _ b1)
 clear k1 b1 b2
 cases my
 ·have hr : (r1, r2, r3) = (t, 0, 4) := HR.out
  cases hr
  go_wp2
  go_ret2
  exact ⟨rfl, P1.out⟩
 ·go_wp2_with fail
  refine (P1.out.call (fun o ho => (C2.out _ o ho).mono (by rintro e w' ⟨rfl, h1, h2⟩; exact ⟨rfl, Rt.of h1 h2⟩))).mono ?_
  rintro e W3 ⟨rfl, p3⟩
  have P3 := hid p3
  clear P1 p3 c0 c1 c2 c3 c4
  by_cases h1 : e1 = 0
  ·subst h1
   go_wp2_with fail
   refine (P3.out.call (fun o ho => C3.out _ o ho)).mono ?_
   rintro e W4 ⟨rfl, p4⟩
   have P4 := hid p4
   clear P3 p4
   by_cases h2 : e2 = 0
   ·subst h2
    have hr : (r1, r2, r3) = (t2, x, 0) := by rw [HR.out]; rfl
    cases hr
    go_wp2
    go_ret2
    exact ⟨rfl, P4.out⟩
   ·have hr : (r1, r2, r3) = (t3, 0, e2) := by rw [HR.out]; simp [h2]
    have her2 : ((e2 : Int) == 0) = false := by simp; omega
    have her3 : ((e2 : Int) != 0) = true := by simp; omega
    cases hr
    go_wp2_with fail
    refine (P4.out.call (fun o ho => (C4.out _ o ho).mono (by rintro e w' ⟨rfl, h1, h2⟩; exact ⟨rfl, Rt.of h1 h2⟩))).mono ?_
    rintro e W5 ⟨rfl, p5⟩
    have P5 := hid p5
    clear P4 p5
    go_wp2
    go_ret2
    exact ⟨rfl, P5.out⟩
  ·have hr : (r1, r2, r3) = (t1, 0, e1) := by rw [HR.out]; simp [h1]
   have her2 : ((e1 : Int) == 0) = false := by simp; omega
   have her3 : ((e1 : Int) != 0) = true := by simp; omega
   cases hr
   go_wp2
   go_ret2
   exact ⟨rfl, P3.out⟩
end
end Go.Proofs.YtlpececggkdhmaaGreat
