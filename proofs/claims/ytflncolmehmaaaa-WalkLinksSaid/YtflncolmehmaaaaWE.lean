/- Contract of package walk's locate. -/
import Derived.Test.YtflncolmehmaaaaWE1
import Derived.Test.YtflncolmehmaaaaWS
import Derived.Test.YtflncolmehmaaaaM6
import Derived.Deep.RegionHeld3
import Derived.BigRegion
import Derived.Lib.Hide
namespace Go.Proofs.Ytflncolmehmaaaa
open Go.RowKit Ino Go.Maps
open Pa (Blk strV split_any splE nam dirP absP splN splAbs splDir)
set_option linter.unusedVariables false
set_option linter.unusedSimpArgs false
theorem plc_over (a : Inf) (n : Bs) (m k : Bool) (b : Inf) : overArr (plcC a n m k noInf) 11 (infC b).toList = plcC a n m k b := by
  obtain ⟨b0, b1, b2, b3, b4, b5, b6, b7⟩ := b
  simp only [plcC, infC, overArr, List.setIfInBounds_toArray, List.set_cons_zero, List.set_cons_succ]
theorem plc_taken (a : Inf) (n : Bs) (m k c : Bool) (b : Inf) : (plcC a n m k b).setIfInBounds 10 (.bool c) = plcC a n m c b := by
  simp only [plcC, List.setIfInBounds_toArray, List.set_cons_zero, List.set_cons_succ]
theorem plc_set {W : World} {G : Nat} {T : TypeId} {a : Inf} {n : Bs} {m k c : Bool} {b : Inf} (h : Blk W G T (plcC a n m k b)) : Blk (W.setCell ⟨G, 10, none⟩ (.bool c)) G T (plcC a n m c b) := plc_taken a n m k c b ▸ h.set 10 (.bool c)
theorem strsU : Try.prog.underlying 32 = some (.slice (Try.prog.elem 32)) := by kernel_rfl
theorem strsE (w : World) : (sizeOf (Try.prog.elem 32)).run Try.prog w = .ok 1 w := by kernel_rfl
theorem cut_to (g0 o0 : Nat) {m pc : Nat} (h : m + 1 ≤ pc) (w : World) : (Instr.sliceAt 32 (.slice (some ⟨g0, o0, none⟩) (m + 1) pc) none (some (.int .i64 (m : Int))) none).run Try.prog w = .ok (.slice (some ⟨g0, o0, none⟩) m pc) w := by
  rw [run_sliceAt_slice w 32 _ _ _ _ strsU, run_slice_h w 32 _ (m + 1) pc strsU .i64 (m : Int) (by omega) (by omega), strsE]
  simp only [Result.andThen_ok, Int.toNat_natCast]
  unfold sliced
  rw [if_neg (by omega), Nat.sub_zero, Nat.sub_zero]
  rfl
section
variable {W W' : World} {Gc Gp : Nat} {x0 x1 x2 x3 y0 y1 y2 : Value}
theorem cal6 {T T' : TypeId} (k : Blk W Gc T #[x0, x1, x2, x3]) (k' : Blk W Gp T' #[y0, y1, y2]) : W.cell? ⟨Gc, 0, none⟩ = some x0 ∧ W.cell? ⟨Gc, 1, none⟩ = some x1 ∧ W.cell? ⟨Gc, 2, none⟩ = some x2 ∧ W.cell? ⟨Gc, 3, none⟩ = some x3 ∧ W.cell? ⟨Gp, 0, none⟩ = some y0 ∧ W.cell? ⟨Gp, 1, none⟩ = some y1 :=
  ⟨k.cell 0, k.cell 1, k.cell 2, k.cell 3, k'.cell 0, k'.cell 1⟩
theorem up1 {g o : Nat} {v : Value} (h : W.cell? ⟨g, o, none⟩ = some v) (b : Below W.heap.size W W') : W'.cell? ⟨g, o, none⟩ = some v := (b.cell (p := ⟨g, o, none⟩) (cell_lt h)).trans h
theorem up6 (h : W.cell? ⟨Gc, 0, none⟩ = some x0 ∧ W.cell? ⟨Gc, 1, none⟩ = some x1 ∧ W.cell? ⟨Gc, 2, none⟩ = some x2 ∧ W.cell? ⟨Gc, 3, none⟩ = some x3 ∧ W.cell? ⟨Gp, 0, none⟩ = some y0 ∧ W.cell? ⟨Gp, 1, none⟩ = some y1) (b : Below W.heap.size W W') :
    W'.cell? ⟨Gc, 0, none⟩ = some x0 ∧ W'.cell? ⟨Gc, 1, none⟩ = some x1 ∧ W'.cell? ⟨Gc, 2, none⟩ = some x2 ∧ W'.cell? ⟨Gc, 3, none⟩ = some x3 ∧ W'.cell? ⟨Gp, 0, none⟩ = some y0 ∧ W'.cell? ⟨Gp, 1, none⟩ = some y1 :=
  ⟨up1 h.1 b, up1 h.2.1 b, up1 h.2.2.1 b, up1 h.2.2.2.1 b, up1 h.2.2.2.2.1 b, up1 h.2.2.2.2.2 b⟩
theorem far1 {G g o : Nat} {v : Value} (h : W.cell? ⟨g, o, none⟩ = some v) (hne : g ≠ G) (b0 b1 b2 b3 b4 b5 b6 b7 : Value) : ((((((((W.setCell ⟨G, 0, none⟩ b0).setCell ⟨G, 1, none⟩ b1).setCell ⟨G, 2, none⟩ b2).setCell ⟨G, 3, none⟩ b3).setCell ⟨G, 4, none⟩ b4).setCell ⟨G, 5, none⟩ b5).setCell ⟨G, 6, none⟩ b6).setCell ⟨G, 7, none⟩ b7).cell? ⟨g, o, none⟩ = some v := by
  have hn : ∀ i, (⟨G, i, none⟩ : Addr) ≠ ⟨g, o, none⟩ := fun i e => hne (by injection e with e1; exact e1.symm)
  rw [World.cell?_setCell_other _ _ _ _ (hn 7), World.cell?_setCell_other _ _ _ _ (hn 6), World.cell?_setCell_other _ _ _ _ (hn 5), World.cell?_setCell_other _ _ _ _ (hn 4), World.cell?_setCell_other _ _ _ _ (hn 3), World.cell?_setCell_other _ _ _ _ (hn 2), World.cell?_setCell_other _ _ _ _ (hn 1), World.cell?_setCell_other _ _ _ _ (hn 0), h]
theorem up6c {G : Nat} (h : W.cell? ⟨Gc, 0, none⟩ = some x0 ∧ W.cell? ⟨Gc, 1, none⟩ = some x1 ∧ W.cell? ⟨Gc, 2, none⟩ = some x2 ∧ W.cell? ⟨Gc, 3, none⟩ = some x3 ∧ W.cell? ⟨Gp, 0, none⟩ = some y0 ∧ W.cell? ⟨Gp, 1, none⟩ = some y1) (h1 : Gc ≠ G) (h2 : Gp ≠ G) (b0 b1 b2 b3 b4 b5 b6 b7 : Value) :
    ((((((((W.setCell ⟨G, 0, none⟩ b0).setCell ⟨G, 1, none⟩ b1).setCell ⟨G, 2, none⟩ b2).setCell ⟨G, 3, none⟩ b3).setCell ⟨G, 4, none⟩ b4).setCell ⟨G, 5, none⟩ b5).setCell ⟨G, 6, none⟩ b6).setCell ⟨G, 7, none⟩ b7).cell? ⟨Gc, 0, none⟩ = some x0 ∧ ((((((((W.setCell ⟨G, 0, none⟩ b0).setCell ⟨G, 1, none⟩ b1).setCell ⟨G, 2, none⟩ b2).setCell ⟨G, 3, none⟩ b3).setCell ⟨G, 4, none⟩ b4).setCell ⟨G, 5, none⟩ b5).setCell ⟨G, 6, none⟩ b6).setCell ⟨G, 7, none⟩ b7).cell? ⟨Gc, 1, none⟩ = some x1 ∧ ((((((((W.setCell ⟨G, 0, none⟩ b0).setCell ⟨G, 1, none⟩ b1).setCell ⟨G, 2, none⟩ b2).setCell ⟨G, 3, none⟩ b3).setCell ⟨G, 4, none⟩ b4).setCell ⟨G, 5, none⟩ b5).setCell ⟨G, 6, none⟩ b6).setCell ⟨G, 7, none⟩ b7).cell? ⟨Gc, 2, none⟩ = some x2 ∧ ((((((((W.setCell ⟨G, 0, none⟩ b0).setCell ⟨G, 1, none⟩ b1).setCell ⟨G, 2, none⟩ b2).setCell ⟨G, 3, none⟩ b3).setCell ⟨G, 4, none⟩ b4).setCell ⟨G, 5, none⟩ b5).setCell ⟨G, 6, none⟩ b6).setCell ⟨G, 7, none⟩ b7).cell? ⟨Gc, 3, none⟩ = some x3 ∧ ((((((((W.setCell ⟨G, 0, none⟩ b0).setCell ⟨G, 1, none⟩ b1).setCell ⟨G, 2, none⟩ b2).setCell ⟨G, 3, none⟩ b3).setCell ⟨G, 4, none⟩ b4).setCell ⟨G, 5, none⟩ b5).setCell ⟨G, 6, none⟩ b6).setCell ⟨G, 7, none⟩ b7).cell? ⟨Gp, 0, none⟩ = some y0 ∧ ((((((((W.setCell ⟨G, 0, none⟩ b0).setCell ⟨G, 1, none⟩ b1).setCell ⟨G, 2, none⟩ b2).setCell ⟨G, 3, none⟩ b3).setCell ⟨G, 4, none⟩ b4).setCell ⟨G, 5, none⟩ b5).setCell ⟨G, 6, none⟩ b6).setCell ⟨G, 7, none⟩ b7).cell? ⟨Gp, 1, none⟩ = some y1 :=
  ⟨far1 h.1 h1 _ _ _ _ _ _ _ _, far1 h.2.1 h1 _ _ _ _ _ _ _ _, far1 h.2.2.1 h1 _ _ _ _ _ _ _ _, far1 h.2.2.2.1 h1 _ _ _ _ _ _ _ _, far1 h.2.2.2.2.1 h2 _ _ _ _ _ _ _ _, far1 h.2.2.2.2.2 h2 _ _ _ _ _ _ _ _⟩
end
theorem blkNewUp {W W5 : World} {T : TypeId} {cs : Array Value} (b : Below (W.alloc (.cells cs T)).drew.heap.size (W.alloc (.cells cs T)).drew W5) : Blk W5 W.heap.size T cs :=
  (show Blk (W.alloc (.cells cs T)).drew W.heap.size T cs from Blk.new W T cs).up b
theorem then_world {K : Act → World → Prop} {Q : Exit → Act → World → Prop} {e : Exit} {a : Act} {W : World} (J : World → Prop) (hJ : J W) (h : ∀ W', J W' → Exit.then K Q e a W') : Exit.then K Q e a W := h W hJ
theorem below_one {w W W' : World} {G : Nat} (b : Below w.heap.size w W) (hG : w.heap.size ≤ G) (f : Fr (· = G) W W') : Below w.heap.size w W' :=
  b.trans ⟨f.os, f.tape, f.output, f.size, fun k hk => f.block k (by have := b.size; omega) (by omega)⟩
theorem Pa.Blk.off {W W' : World} {G G' : Nat} {T : TypeId} {cs : Array Value} (h : Blk W G T cs) (f : Fr (· = G') W W') (hne : G ≠ G') : Blk W' G T cs := h.fr f hne
set_option maxHeartbeats 8000000 in
set_option maxRecDepth 100000 in
theorem wlocate_any {own : Nat → Prop} {t : T} (A : Nat) (cwd u g : Int) (s : ByteArray) (hs : s.size ≤ maxLen) (w : World) (h : PTo w A own t) (hsd : Sd t) :
    Calls Try.prog 55 #[(.agg #[.pointer (some ⟨A, 0, none⟩), .int .i64 cwd, .int .i64 u, .int .i64 g]), .string s] w fun e w' => e = .returned (plaV (plaP t (placeP t cwd u g s.data.toList))) ∧ Below w.heap.size w w' := by
  have hR := told_place hsd cwd u g s.data.toList
  generalize plaP t (placeP t cwd u g s.data.toList) = r at hR ⊢
  have HPT := Lib.hid (fun W (hb : Below w.heap.size w W) => h.below hb)
  have C1 := Lib.hid (fun W => split_any s hs W)
  have hsm : splE s.data.toList = 0 → (splN s.data.toList).length ≤ 1000 ∧ ∀ n, n ∈ splN s.data.toList → n.length ≤ 1000 := fun h => by
    rw [show splN s.data.toList = nam s.data.toList from if_pos h]
    exact nam_small h
  unfold Pa.SplitPost Pa.splitV at C1
  generalize splE s.data.toList = er at *
  generalize splAbs s.data.toList = ab at *
  generalize splDir s.data.toList = dr at *
  generalize splN s.data.toList = nl at *
  have HSM := Lib.hid hsm
  have HR := Lib.hid hR
  clear hR hsm h
  go_enter Try.func55, Try.ntmps55
  go_wp2_with fail
  refine calls_world (fun W => Blk W w.heap.size 92 (calC A cwd u g) ∧ Blk W (w.heap.size + 1) 95 (plcC noInf [] false false noInf) ∧ Below w.heap.size w W) ⟨(Blk.new w _ _).alloc _, blk1 w _ _ _, bel2 _ _ _⟩ ?_
  rintro W ⟨k1, k2, b1⟩
  refine (C1.out W).mono ?_
  rintro e W2 ⟨v, rfl, hrow, b2⟩
  obtain ⟨pa, pc, rfl⟩ := Pa.row_slice hrow
  have hcap : nl.length ≤ pc := by
    rcases hrow.2 with ⟨h1, h2⟩ | ⟨g1, c1, cur, h1, _, _, h4, _⟩
    · omega
    · cases h1; exact h4
  have k1 := k1.up b2
  have k2 := k2.up b2
  have b1 := bnext b1 b2
  have hz : w.heap.size + 1 < W2.heap.size := k2.lt
  have hz0 : w.heap.size < W2.heap.size := k1.lt
  obtain ⟨c0, c1, c2, c3⟩ := k1.c4
  have K1 := Lib.hid k1
  have K2 := Lib.hid k2
  have B1 := Lib.hid b1
  have HRow := Lib.hid hrow
  by_cases he : er = 0
  · subst he
    rw [if_pos rfl] at HR
    by_cases hne : nl = []
    · subst hne
      rw [if_pos (.inl rfl)] at HR
      clear b2 C1 k1 k2 b1 hrow
      go_wp2_with (refine wpList_storeAgg rfl 95 _ _ rfl rfl (w.heap.size + 1) 95 _ (plcC noInf [] false false noInf) rfl rfl (K2.out.alloc _) rfl aggPlace (one_all rfl) ?_; intro W5 hB5 hF5)
      rw [HR.out]
      exact bodyPost_ret (resAgg Try.f55 4 5 95 rfl hB5 aggPlace _ rfl rfl) rfl ⟨rfl, below_one (bal B1.out _) (by omega) hF5⟩
    · have hpos : 0 < nl.length := List.length_pos_iff.2 hne
      obtain ⟨m, hlen⟩ : ∃ m, nl.length = m + 1 := ⟨nl.length - 1, by omega⟩
      have HN := InNames.ofRow hrow (HSM.out rfl).1 (HSM.out rfl).2
      have HN0 := Lib.hid HN
      obtain ⟨p', c', h1, h2, h3⟩ := HN
      cases h1
      obtain ⟨hns, g0, o0, rfl, hc⟩ := h3 _ _ (last_get hne)
      have hg0 : g0 < W2.heap.size := cell_lt hc
      unfold strV at hc
      rw [hlen] at hcap h2
      rw [show nl.length - 1 = m by omega] at hc
      rw [hlen]
      have hm0 : (0 : Int) ≤ (m : Int) := by omega
      have HLEN := Lib.hid hlen
      clear b2 C1 k1 k2 b1 hrow h3 hlen hpos
      have HNE := Lib.hid hne
      clear hne
      by_cases hdd : lastN nl = [46, 46]
      · rw [if_pos (.inr hdd)] at HR
        have hdd2 : (lastN nl == [46, 46]) = true := by rw [hdd]; rfl
        clear hdd
        generalize lastN nl = ln at *
        go_wp2_with (refine wpList_storeAgg rfl 95 _ _ rfl rfl (w.heap.size + 1) 95 _ (plcC noInf [] false false noInf) rfl rfl (K2.out.alloc _) rfl aggPlace (one_all rfl) ?_; intro W5 hB5 hF5)
        rw [HR.out]
        exact bodyPost_ret (resAgg Try.f55 4 5 95 rfl hB5 aggPlace _ rfl rfl) rfl ⟨rfl, below_one (bal B1.out _) (by omega) hF5⟩
      · have hR1 := HR.out
        rw [if_neg (fun x => x.elim (fun y => HNE.out y) hdd)] at hR1
        have HR1 := Lib.hid hR1
        have hdd2 : (lastN nl == [46, 46]) = false := by simpa using hdd
        clear hR1 hdd HR
        have HLG := Lib.hid (last_get HNE.out)
        generalize lastN nl = ln at *
        go_wp2_with fail
        have hcut : ∀ w, (Instr.sliceAt 32 (.slice (some ⟨g0, o0, none⟩) (m + 1) pc) none (some (.int .i64 (m : Int))) none).run Try.prog w = .ok (.slice (some ⟨g0, o0, none⟩) m pc) w := fun w => cut_to g0 o0 hcap w
        obtain ⟨G2, hG2⟩ : ∃ G2, G2 = W2.heap.size := ⟨_, rfl⟩
        rw [← hG2]
        refine code_world (fun W => Blk W w.heap.size 92 (calC A cwd u g) ∧ Blk W (w.heap.size + 1) 95 (plcC noInf [] false false noInf) ∧ Blk W G2 122 #[.bool ab, .slice (some ⟨g0, o0, none⟩) (m + 1) pc, .bool dr] ∧ InNames W (.slice (some ⟨g0, o0, none⟩) nl.length pc) nl ∧ W.cell? ⟨g0, o0 + m, none⟩ = some (.string ⟨ln.toArray⟩) ∧ Below w.heap.size w W)
          ⟨K1.out.alloc _, K2.out.alloc _, by rw [hG2]; exact Blk.new _ _ _, HN0.out.up (bel1 _ _), al_cell hc, bal B1.out _⟩ ?_
        rintro W3 ⟨k1, k2, k3, hn, hce, b1⟩
        have hz2 : w.heap.size + 1 < G2 := by omega
        clear K1 K2 B1 HN0 hc hz hz0 c0 c1 c2 c3 HRow hG2 hg0
        have CR := Lib.hid (fun W hp hn => wresolve_any A cwd u g ab (.slice (some ⟨g0, o0, none⟩) m pc) nl.dropLast W hp hsd hn (own := own) (t := t))
        generalize resP t cwd u g ab nl.dropLast = q at *
        obtain ⟨⟨q0, q1, q2, q3, q4, q5, q6, q7⟩, er⟩ := q
        simp only [ansV, infAg, infC] at CR HR1
        have sc := cal6 k1 k3
        have hzG : G2 < W3.heap.size := k3.lt
        have HPT2 := Lib.hid (fun W (b : Below W3.heap.size W3 W) => HPT.out W (bnext b1 b))
        have HN2 := Lib.hid (fun W (b : Below W3.heap.size W3 W) => show InNames W (.slice (some ⟨g0, o0, none⟩) m pc) nl.dropLast from by
          have := (hn.up b).begins (cap' := pc)
          rwa [HLEN.out, Nat.add_sub_cancel] at this)
        have bd : Below W3.heap.size W3 W3.drew := (Below.refl _ _).drew
        have K1 := Lib.hid k1
        have K2 := Lib.hid k2
        have K3 := Lib.hid k3
        have B1 := Lib.hid b1
        have HCE := Lib.hid hce
        clear k1 k2 k3 hn hce b1
        have scd := up6 sc bd
        have bda : ∀ o, Below W3.heap.size W3 (W3.alloc o).drew := fun o => (bel1 W3 o).drew
        have SC := Lib.hid sc
        have SCD := Lib.hid scd
        have bda := Lib.hid bda
        have bd := Lib.hid bd
        clear sc scd
        go_region_held3 (fun w' => w'.cell? ⟨w.heap.size, 0, none⟩ = some (.pointer (some ⟨A, 0, none⟩)) ∧ w'.cell? ⟨w.heap.size, 1, none⟩ = some (.int .i64 cwd) ∧ w'.cell? ⟨w.heap.size, 2, none⟩ = some (.int .i64 u) ∧ w'.cell? ⟨w.heap.size, 3, none⟩ = some (.int .i64 g) ∧ w'.cell? ⟨G2, 0, none⟩ = some (.bool ab) ∧ w'.cell? ⟨G2, 1, none⟩ = some (.slice (some ⟨g0, o0, none⟩) (m + 1) pc))
          (first | with_reducible exact S5.out | ((with_reducible refine up6c S5.out ?_ ?_ _ _ _ _ _ _ _ _) <;> omega) | with_reducible exact up6 S5.out (bel1 _ _) | with_reducible exact SCD.out | with_reducible exact up6 SC.out (bda.out _))
          (first
            | (go_at_call 91; refine (CR.out _ (HPT2.out _ (by first | with_reducible exact bd.out | with_reducible exact bda.out _)) (HN2.out _ (by first | with_reducible exact bd.out | with_reducible exact bda.out _))).mono ?_; rintro e W5 ⟨rfl, b2⟩; (try ((with_reducible have kz := blkNewUp b2); obtain ⟨z0, z1, z2, z3, z4, z5, z6, z7⟩ := kz.c8; obtain ⟨y0, y1, y2, y3, y4, y5, y6, y7⟩ := kz.f8; have KZ := Lib.hid kz; clear kz)); (first | (with_reducible have B5 := Lib.hid (bnext bd.out b2)) | (with_reducible have B5 := Lib.hid (bnext (bda.out _) b2))); (first | (with_reducible have S5 := Lib.hid (up6 SCD.out b2)) | (with_reducible have S5 := Lib.hid (up6 (up6 SC.out (bda.out _)) b2))); have B2 := Lib.hid b2; clear b2))
        · have hlt5 := B5.out.size
          have hg5 : g0 < W3.heap.size := cell_lt HCE.out
          obtain ⟨G3, hG3⟩ : ∃ G3, G3 = W5.heap.size := ⟨_, rfl⟩
          rw [← hG3]
          have hz5 : G2 < G3 := by omega
          refine then_world (fun W => Blk W w.heap.size 92 (calC A cwd u g) ∧ Blk W (w.heap.size + 1) 95 (plcC noInf [] false false noInf) ∧ Blk W G2 122 #[.bool ab, .slice (some ⟨g0, o0, none⟩) (m + 1) pc, .bool dr] ∧ Blk W G3 38 (infC ⟨q0, q1, q2, q3, q4, q5, q6, q7⟩) ∧ W.cell? ⟨g0, o0 + m, none⟩ = some (.string ⟨ln.toArray⟩) ∧ Below w.heap.size w W) ⟨(K1.out.up B5.out).alloc _, (K2.out.up B5.out).alloc _, (K3.out.up B5.out).alloc _, by rw [hG3]; exact Blk.new _ _ _, al_cell (up1 HCE.out B5.out), bal (bnext B1.out B5.out) _⟩ ?_
          clear hlt5 hg5 hG3 B5 B2 S5 SC SCD bd bda K1 K2 K3 B1 HCE HPT2 HN2 CR
          rintro W6 ⟨k1, k2, k3, k4, hce, b1⟩
          have hz2 : w.heap.size + 1 < G2 := by omega
          obtain ⟨c0, c1, c2, c3⟩ := k1.c4
          obtain ⟨d0, d1, d2, d3, d4, d5, d6, d7⟩ := k4.c8
          have K1 := Lib.hid k1
          have K2 := Lib.hid k2
          have K3 := Lib.hid k3
          have K4 := Lib.hid k4
          have B1 := Lib.hid b1
          have HCE := Lib.hid hce
          clear k1 k2 k3 k4 hce b1
          by_cases her : er = 0
          · subst her
            rw [if_pos rfl] at HR1
            go_wp2_with fail
            refine (wmayLook_any A cwd u g ⟨q0, q1, q2, q3, q4, q5, q6, q7⟩ W6).mono ?_
            rintro e W7 ⟨rfl, b2⟩
            have k1 := K1.out.up b2
            have k2 := K2.out.up b2
            have k3 := K3.out.up b2
            have k4 := K4.out.up b2
            have hce : W7.cell? ⟨g0, o0 + m, none⟩ = some (.string ⟨ln.toArray⟩) := (b2.cell (p := ⟨g0, o0 + m, none⟩) (cell_lt HCE.out)).trans HCE.out
            have b1 := bnext B1.out b2
            clear K1 K2 K3 K4 B1 HCE b2 c0 c1 c2 c3 d0 d1 d2 d3 d4 d5 d6 d7
            have K1 := Lib.hid k1
            have K2 := Lib.hid k2
            have K3 := Lib.hid k3
            have K4 := Lib.hid k4
            have B1 := Lib.hid b1
            have HCE := Lib.hid hce
            clear k1 k2 k3 k4 hce b1
            generalize lookX ⟨q0, q1, q2, q3, q4, q5, q6, q7⟩ u g = lx at *
            by_cases hlx : lx = 0
            · subst hlx
              rw [if_pos rfl] at HR1
              obtain ⟨d0, d1, d2, d3, d4, d5, d6, d7⟩ := K4.out.c8
              obtain ⟨p0, p1, p2⟩ := K3.out.c3
              have hce := HCE.out
              have l2 : G2 < W7.heap.size := K3.out.lt
              have l3 : G3 < W7.heap.size := K4.out.lt
              have l4 : g0 < W7.heap.size := cell_lt hce
              go_wp2_with fail
              refine regionU (fun w' => w'.cell? ⟨G3, 0, none⟩ = some (.int .i64 q0) ∧ w'.cell? ⟨G3, 1, none⟩ = some (.int .i64 q1) ∧ w'.cell? ⟨G3, 2, none⟩ = some (.int .i64 q2) ∧ w'.cell? ⟨G3, 3, none⟩ = some (.int .i64 q3) ∧ w'.cell? ⟨G3, 4, none⟩ = some (.int .i64 q4) ∧ w'.cell? ⟨G3, 5, none⟩ = some (.int .i64 q5) ∧ w'.cell? ⟨G3, 6, none⟩ = some (.int .i64 q6) ∧ w'.cell? ⟨G3, 7, none⟩ = some (.int .i64 q7) ∧ w'.cell? ⟨G2, 1, none⟩ = some (.slice (some ⟨g0, o0, none⟩) (m + 1) pc) ∧ w'.cell? ⟨G2, 2, none⟩ = some (.bool dr) ∧ w'.cell? ⟨g0, o0 + m, none⟩ = some (.string ⟨ln.toArray⟩)) 10 (by kernel_rfl) (by exact ⟨d0, d1, d2, d3, d4, d5, d6, d7, p1, p2, hce⟩) (fun hHeld => ?_)
              refine takeU (oi := ?oi0) (v := ?v0) 0 ?hi0 (by kernel_rfl) ?hQ0 ?hy0 (by assumption) ?h0
              case hi0 => simp only [List.getElem?_toArray, List.getElem?_cons_succ, List.getElem?_cons_zero]; exact rfl
              case hQ0 => exact fun _ _ _ h => h
              case hy0 => (refine Or.inl ⟨by rfl, ?_⟩; intro w' hSw; (try dsimp only at hSw); obtain ⟨hS0, hS1, hS2, hS3, hS4, hS5, hS6, hS7, hS8, hS9, hS10⟩ := hSw; go_simp; (try with_reducible rfl))
              simp only [Act.put, List.setIfInBounds_toArray, List.set_cons_zero, List.set_cons_succ]
              refine takeU (oi := ?oi1) (v := ?v1) 1 ?hi1 (by kernel_rfl) ?hQ1 ?hy1 (by assumption) ?h1
              case hi1 => simp only [List.getElem?_toArray, List.getElem?_cons_succ, List.getElem?_cons_zero]; exact rfl
              case hQ1 => exact fun _ _ _ h => h
              case hy1 => (refine Or.inl ⟨by rfl, ?_⟩; intro w' hSw; (try dsimp only at hSw); obtain ⟨hS0, hS1, hS2, hS3, hS4, hS5, hS6, hS7, hS8, hS9, hS10⟩ := hSw; go_simp; (try with_reducible rfl))
              simp only [Act.put, List.setIfInBounds_toArray, List.set_cons_zero, List.set_cons_succ]
              refine takeU (oi := ?oi2) (v := ?v2) 2 ?hi2 (by kernel_rfl) ?hQ2 ?hy2 (by assumption) ?h2
              case hi2 => simp only [List.getElem?_toArray, List.getElem?_cons_succ, List.getElem?_cons_zero]; exact rfl
              case hQ2 => exact fun _ _ _ h => h
              case hy2 => (refine Or.inl ⟨by rfl, ?_⟩; intro w' hSw; (try dsimp only at hSw); obtain ⟨hS0, hS1, hS2, hS3, hS4, hS5, hS6, hS7, hS8, hS9, hS10⟩ := hSw; go_simp; (try with_reducible rfl))
              simp only [Act.put, List.setIfInBounds_toArray, List.set_cons_zero, List.set_cons_succ]
              refine takeU (oi := ?oi3) (v := ?v3) 3 ?hi3 (by kernel_rfl) ?hQ3 ?hy3 (by assumption) ?h3
              case hi3 => simp only [List.getElem?_toArray, List.getElem?_cons_succ, List.getElem?_cons_zero]; exact rfl
              case hQ3 => exact fun _ _ _ h => h
              case hy3 => (refine Or.inl ⟨by rfl, ?_⟩; intro w' hSw; (try dsimp only at hSw); obtain ⟨hS0, hS1, hS2, hS3, hS4, hS5, hS6, hS7, hS8, hS9, hS10⟩ := hSw; go_simp; (try with_reducible rfl))
              simp only [Act.put, List.setIfInBounds_toArray, List.set_cons_zero, List.set_cons_succ]
              refine takeU (oi := ?oi4) (v := ?v4) 4 ?hi4 (by kernel_rfl) ?hQ4 ?hy4 (by assumption) ?h4
              case hi4 => simp only [List.getElem?_toArray, List.getElem?_cons_succ, List.getElem?_cons_zero]; exact rfl
              case hQ4 => exact fun _ _ _ h => h
              case hy4 => (refine Or.inl ⟨by rfl, ?_⟩; intro w' hSw; (try dsimp only at hSw); obtain ⟨hS0, hS1, hS2, hS3, hS4, hS5, hS6, hS7, hS8, hS9, hS10⟩ := hSw; go_simp; (try with_reducible rfl))
              simp only [Act.put, List.setIfInBounds_toArray, List.set_cons_zero, List.set_cons_succ]
              refine takeU (oi := ?oi5) (v := ?v5) 5 ?hi5 (by kernel_rfl) ?hQ5 ?hy5 (by assumption) ?h5
              case hi5 => simp only [List.getElem?_toArray, List.getElem?_cons_succ, List.getElem?_cons_zero]; exact rfl
              case hQ5 => exact fun _ _ _ h => h
              case hy5 => (refine Or.inl ⟨by rfl, ?_⟩; intro w' hSw; (try dsimp only at hSw); obtain ⟨hS0, hS1, hS2, hS3, hS4, hS5, hS6, hS7, hS8, hS9, hS10⟩ := hSw; go_simp; (try with_reducible rfl))
              simp only [Act.put, List.setIfInBounds_toArray, List.set_cons_zero, List.set_cons_succ]
              refine takeU (oi := ?oi6) (v := ?v6) 6 ?hi6 (by kernel_rfl) ?hQ6 ?hy6 (by assumption) ?h6
              case hi6 => simp only [List.getElem?_toArray, List.getElem?_cons_succ, List.getElem?_cons_zero]; exact rfl
              case hQ6 => exact fun _ _ _ h => h
              case hy6 => (refine Or.inl ⟨by rfl, ?_⟩; intro w' hSw; (try dsimp only at hSw); obtain ⟨hS0, hS1, hS2, hS3, hS4, hS5, hS6, hS7, hS8, hS9, hS10⟩ := hSw; go_simp; (try with_reducible rfl))
              simp only [Act.put, List.setIfInBounds_toArray, List.set_cons_zero, List.set_cons_succ]
              refine takeU (oi := ?oi7) (v := ?v7) 7 ?hi7 (by kernel_rfl) ?hQ7 ?hy7 (by assumption) ?h7
              case hi7 => simp only [List.getElem?_toArray, List.getElem?_cons_succ, List.getElem?_cons_zero]; exact rfl
              case hQ7 => exact fun _ _ _ h => h
              case hy7 => (refine Or.inl ⟨by rfl, ?_⟩; intro w' hSw; (try dsimp only at hSw); obtain ⟨hS0, hS1, hS2, hS3, hS4, hS5, hS6, hS7, hS8, hS9, hS10⟩ := hSw; go_simp; (try with_reducible rfl))
              simp only [Act.put, List.setIfInBounds_toArray, List.set_cons_zero, List.set_cons_succ]
              refine takeU (oi := ?oi8) (v := ?v8) 8 ?hi8 (by kernel_rfl) ?hQ8 ?hy8 (by assumption) ?h8
              case hi8 => simp only [List.getElem?_toArray, List.getElem?_cons_succ, List.getElem?_cons_zero]; exact rfl
              case hQ8 => exact fun _ _ _ h => h
              case hy8 => (refine Or.inl ⟨by rfl, ?_⟩; intro w' hSw; (try dsimp only at hSw); obtain ⟨hS0, hS1, hS2, hS3, hS4, hS5, hS6, hS7, hS8, hS9, hS10⟩ := hSw; go_simp; (try with_reducible rfl))
              simp only [Act.put, List.setIfInBounds_toArray, List.set_cons_zero, List.set_cons_succ]
              refine readyU [9] (by kernel_rfl) (by simp) ?_
              refine EachU.cons (o := ?ox) ?hox (fun K hK => ?_) EachU.nil
              case hox => simp only [List.getElem?_toArray, List.getElem?_cons_succ, List.getElem?_cons_zero]; exact rfl
              go_simp
              refine hK.out _ _ (fun _ => ⟨up1 d0 (bel1 W7 _).drew, up1 d1 (bel1 W7 _).drew, up1 d2 (bel1 W7 _).drew, up1 d3 (bel1 W7 _).drew, up1 d4 (bel1 W7 _).drew, up1 d5 (bel1 W7 _).drew, up1 d6 (bel1 W7 _).drew, up1 d7 (bel1 W7 _).drew, up1 p1 (bel1 W7 _).drew, up1 p2 (bel1 W7 _).drew, up1 hce (bel1 W7 _).drew⟩) (fun hH => ?_)
              replace hHeld := hH (by decide)
              clear hH
              clear hK K
              (try simp only [Act.put, List.setIfInBounds_toArray, List.set_cons_zero, List.set_cons_succ])
              refine readyU [10] (by kernel_rfl) (by simp) ?_
              refine EachU.cons (o := ?oy) ?hoy (fun K hK => ?_) EachU.nil
              case hoy => simp only [List.getElem?_toArray, List.getElem?_cons_succ, List.getElem?_cons_zero]; exact rfl
              refine step_storeAgg rfl 95 _ _ rfl rfl W7.heap.size 95 (plcC noInf [] false false noInf) (plcC ⟨q0, q1, q2, q3, q4, q5, q6, q7⟩ ln dr false noInf) rfl rfl (show Blk (W7.alloc (.cells (plcC noInf [] false false noInf) 95)).drew W7.heap.size 95 (plcC noInf [] false false noInf) from Blk.new W7 _ _) rfl aggPlace (one_all rfl) ?_
              intro W8 hB8 hF8
              refine hK.out _ _ (fun h => absurd rfl h) (fun hH => ?_)
              clear hH hK K hHeld
              (try simp only [Act.put, List.setIfInBounds_toArray, List.set_cons_zero, List.set_cons_succ])
              refine doneU (by kernel_rfl) ?_ _
              obtain ⟨G4, hG4⟩ : ∃ G4, G4 = W7.heap.size := ⟨_, rfl⟩
              rw [← hG4] at hB8 hF8 ⊢
              have l1 : w.heap.size + 1 < G4 := by rw [hG4]; exact K2.out.lt
              have bx := (bel1 W7 (.cells (plcC noInf [] false false noInf) 95)).drew
              have k1 := (K1.out.up bx).off hF8 (by omega)
              have k2 := (K2.out.up bx).off hF8 (by omega)
              have k4 := (K4.out.up bx).off hF8 (by omega)
              have b8 := below_one (bnext B1.out bx) (by omega) hF8
              clear K1 K2 K3 K4 B1 HCE bx hF8 d0 d1 d2 d3 d4 d5 d6 d7 p0 p1 p2 hce l2 l3 l4
              obtain ⟨c0, c1, c2, c3⟩ := k1.c4
              obtain ⟨d0, d1, d2, d3, d4, d5, d6, d7⟩ := k4.c8
              have e8 : W8.cell? ⟨G4, 8, none⟩ = some (.string ⟨ln.toArray⟩) := hB8.cell 8
              have hsz : (⟨ln.toArray⟩ : ByteArray).size ≤ maxLen := by show ln.length ≤ maxLen; unfold maxLen; omega
              have CL := Lib.hid (wlook_any A cwd u g ⟨q0, q1, q2, q3, q4, q5, q6, q7⟩ ⟨ln.toArray⟩ hsz W8 (HPT.out W8 b8) hsd)
              have K2 := Lib.hid k2
              have KB := Lib.hid hB8
              have B8 := Lib.hid b8
              clear k1 k2 k4 hB8 b8 hG4
              have HR2 := Lib.hid HR1.out
              have e9 : (⟨ln.toArray⟩ : ByteArray).data.toList = ln := rfl
              rw [e9] at CL
              generalize lookI t q0 ln = lk at *
              obtain ⟨⟨m0, m1, m2, m3, m4, m5, m6, m7⟩, ok⟩ := lk
              simp only [infV] at CL HR2
              clear HR1 e9
              go_wp2_with fail
              refine CL.out.mono ?_
              rintro e W9 ⟨rfl, b9⟩
              have hB9 := KB.out.up b9
              have hk2 := K2.out.up b9
              have B9 := Lib.hid (bnext B8.out b9)
              have HB9 := Lib.hid hB9
              have HK2 := Lib.hid hk2
              clear b9 hB9 hk2 K2 KB B8 CL c0 c1 c2 c3 d0 d1 d2 d3 d4 d5 d6 d7 e8
              go_wp2_with (first | (refine wpList_storePart rfl 38 _ _ rfl rfl G4 11 95 (plcC ⟨q0, q1, q2, q3, q4, q5, q6, q7⟩ ln dr false noInf) (infC ⟨m0, m1, m2, m3, m4, m5, m6, m7⟩) (plcC ⟨q0, q1, q2, q3, q4, q5, q6, q7⟩ ln dr false ⟨m0, m1, m2, m3, m4, m5, m6, m7⟩) rfl rfl HB9.out (show 11 + 8 ≤ 19 by omega) aggInfo (one_all rfl) (plc_over _ _ _ _ _) ?_; intro W10 hB10 hF10; have e10 : W10.cell? ⟨G4, 10, none⟩ = some (.bool false) := hB10.cell 10; have f10 := hB10.frozen 10; have HB10 := Lib.hid hB10; have HF10 := Lib.hid hF10; clear hB10 hF10) | (refine wpList_loadAgg rfl 95 _ rfl G4 95 (plcC ⟨q0, q1, q2, q3, q4, q5, q6, q7⟩ ln dr ok ⟨m0, m1, m2, m3, m4, m5, m6, m7⟩) rfl (plc_set HB10.out) aggPlace ?_) | (refine wpList_storeAgg rfl 95 _ _ rfl rfl (w.heap.size + 1) 95 (plcC noInf [] false false noInf) (plcC ⟨q0, q1, q2, q3, q4, q5, q6, q7⟩ ln dr ok ⟨m0, m1, m2, m3, m4, m5, m6, m7⟩) rfl rfl (HK2.out.off (HF10.out.setCell (.inl rfl) _) (by omega)) rfl aggPlace (one_all rfl) ?_; intro W11 hB11 hF11))
              rw [HR2.out]
              exact bodyPost_ret (resAgg Try.f55 4 5 95 rfl hB11 aggPlace _ rfl rfl) rfl ⟨rfl, below_one (below_one B9.out (by omega) (HF10.out.setCell (.inl rfl) _)) (by omega) hF11⟩
            · have he2 : ((lx : Int) == 0) = false := by simp; omega
              have he3 : ((lx : Int) != 0) = true := by simp; omega
              rw [if_neg hlx] at HR1
              go_wp2_with (refine wpList_storeAgg rfl 95 _ _ rfl rfl (w.heap.size + 1) 95 _ (plcC noInf [] false false noInf) rfl rfl K2.out rfl aggPlace (one_all rfl) ?_; intro W8 hB8 hF8)
              rw [HR1.out]
              exact bodyPost_ret (resAgg Try.f55 4 5 95 rfl hB8 aggPlace _ rfl rfl) rfl ⟨rfl, below_one B1.out (by omega) hF8⟩
          · have he2 : ((er : Int) == 0) = false := by simp; omega
            have he3 : ((er : Int) != 0) = true := by simp; omega
            rw [if_neg her] at HR1
            go_wp2_with (refine wpList_storeAgg rfl 95 _ _ rfl rfl (w.heap.size + 1) 95 _ (plcC noInf [] false false noInf) rfl rfl K2.out rfl aggPlace (one_all rfl) ?_; intro W8 hB8 hF8)
            rw [HR1.out]
            exact bodyPost_ret (resAgg Try.f55 4 5 95 rfl hB8 aggPlace _ rfl rfl) rfl ⟨rfl, below_one B1.out (by omega) hF8⟩
        · have hlt5 := B5.out.size
          have hg5 : g0 < W3.heap.size := cell_lt HCE.out
          obtain ⟨G3, hG3⟩ : ∃ G3, G3 = W3.heap.size := ⟨_, rfl⟩
          have KZ3 : Hid (Blk W5 G3 38 (infC noInf)) := Lib.hid (by rw [hG3]; exact KZ.out)
          rw [← hG3]
          have hz5 : G2 < G3 := by omega
          refine then_world (fun W => Blk W w.heap.size 92 (calC A cwd u g) ∧ Blk W (w.heap.size + 1) 95 (plcC noInf [] false false noInf) ∧ Blk W G2 122 #[.bool ab, .slice (some ⟨g0, o0, none⟩) (m + 1) pc, .bool dr] ∧ Blk W G3 38 (infC ⟨q0, q1, q2, q3, q4, q5, q6, q7⟩) ∧ W.cell? ⟨g0, o0 + m, none⟩ = some (.string ⟨ln.toArray⟩) ∧ Below w.heap.size w W) ⟨far8 (K1.out.up B5.out) (by omega) _ _ _ _ _ _ _ _, far8 (K2.out.up B5.out) (by omega) _ _ _ _ _ _ _ _, far8 (K3.out.up B5.out) (by omega) _ _ _ _ _ _ _ _, set8 KZ3.out _ _ _ _ _ _ _ _, far1 (up1 HCE.out B5.out) (by omega) _ _ _ _ _ _ _ _, bel8 (bnext B1.out B5.out) (by omega) _ _ _ _ _ _ _ _⟩ ?_
          clear hlt5 hg5 hG3 KZ KZ3 B5 B2 S5 SC SCD bd bda K1 K2 K3 B1 HCE HPT2 HN2 CR
          rintro W6 ⟨k1, k2, k3, k4, hce, b1⟩
          have hz2 : w.heap.size + 1 < G2 := by omega
          obtain ⟨c0, c1, c2, c3⟩ := k1.c4
          obtain ⟨d0, d1, d2, d3, d4, d5, d6, d7⟩ := k4.c8
          have K1 := Lib.hid k1
          have K2 := Lib.hid k2
          have K3 := Lib.hid k3
          have K4 := Lib.hid k4
          have B1 := Lib.hid b1
          have HCE := Lib.hid hce
          clear k1 k2 k3 k4 hce b1
          by_cases her : er = 0
          · subst her
            rw [if_pos rfl] at HR1
            go_wp2_with fail
            refine (wmayLook_any A cwd u g ⟨q0, q1, q2, q3, q4, q5, q6, q7⟩ W6).mono ?_
            rintro e W7 ⟨rfl, b2⟩
            have k1 := K1.out.up b2
            have k2 := K2.out.up b2
            have k3 := K3.out.up b2
            have k4 := K4.out.up b2
            have hce : W7.cell? ⟨g0, o0 + m, none⟩ = some (.string ⟨ln.toArray⟩) := (b2.cell (p := ⟨g0, o0 + m, none⟩) (cell_lt HCE.out)).trans HCE.out
            have b1 := bnext B1.out b2
            clear K1 K2 K3 K4 B1 HCE b2 c0 c1 c2 c3 d0 d1 d2 d3 d4 d5 d6 d7
            have K1 := Lib.hid k1
            have K2 := Lib.hid k2
            have K3 := Lib.hid k3
            have K4 := Lib.hid k4
            have B1 := Lib.hid b1
            have HCE := Lib.hid hce
            clear k1 k2 k3 k4 hce b1
            generalize lookX ⟨q0, q1, q2, q3, q4, q5, q6, q7⟩ u g = lx at *
            by_cases hlx : lx = 0
            · subst hlx
              rw [if_pos rfl] at HR1
              obtain ⟨d0, d1, d2, d3, d4, d5, d6, d7⟩ := K4.out.c8
              obtain ⟨p0, p1, p2⟩ := K3.out.c3
              have hce := HCE.out
              have l2 : G2 < W7.heap.size := K3.out.lt
              have l3 : G3 < W7.heap.size := K4.out.lt
              have l4 : g0 < W7.heap.size := cell_lt hce
              go_wp2_with fail
              refine regionU (fun w' => w'.cell? ⟨G3, 0, none⟩ = some (.int .i64 q0) ∧ w'.cell? ⟨G3, 1, none⟩ = some (.int .i64 q1) ∧ w'.cell? ⟨G3, 2, none⟩ = some (.int .i64 q2) ∧ w'.cell? ⟨G3, 3, none⟩ = some (.int .i64 q3) ∧ w'.cell? ⟨G3, 4, none⟩ = some (.int .i64 q4) ∧ w'.cell? ⟨G3, 5, none⟩ = some (.int .i64 q5) ∧ w'.cell? ⟨G3, 6, none⟩ = some (.int .i64 q6) ∧ w'.cell? ⟨G3, 7, none⟩ = some (.int .i64 q7) ∧ w'.cell? ⟨G2, 1, none⟩ = some (.slice (some ⟨g0, o0, none⟩) (m + 1) pc) ∧ w'.cell? ⟨G2, 2, none⟩ = some (.bool dr) ∧ w'.cell? ⟨g0, o0 + m, none⟩ = some (.string ⟨ln.toArray⟩)) 10 (by kernel_rfl) (by exact ⟨d0, d1, d2, d3, d4, d5, d6, d7, p1, p2, hce⟩) (fun hHeld => ?_)
              refine takeU (oi := ?oi0b) (v := ?v0b) 0 ?hi0b (by kernel_rfl) ?hQ0b ?hy0b (by assumption) ?h0b
              case hi0b => simp only [List.getElem?_toArray, List.getElem?_cons_succ, List.getElem?_cons_zero]; exact rfl
              case hQ0b => exact fun _ _ _ h => h
              case hy0b => (refine Or.inl ⟨by rfl, ?_⟩; intro w' hSw; (try dsimp only at hSw); obtain ⟨hS0, hS1, hS2, hS3, hS4, hS5, hS6, hS7, hS8, hS9, hS10⟩ := hSw; go_simp; (try with_reducible rfl))
              simp only [Act.put, List.setIfInBounds_toArray, List.set_cons_zero, List.set_cons_succ]
              refine takeU (oi := ?oi1b) (v := ?v1b) 1 ?hi1b (by kernel_rfl) ?hQ1b ?hy1b (by assumption) ?h1b
              case hi1b => simp only [List.getElem?_toArray, List.getElem?_cons_succ, List.getElem?_cons_zero]; exact rfl
              case hQ1b => exact fun _ _ _ h => h
              case hy1b => (refine Or.inl ⟨by rfl, ?_⟩; intro w' hSw; (try dsimp only at hSw); obtain ⟨hS0, hS1, hS2, hS3, hS4, hS5, hS6, hS7, hS8, hS9, hS10⟩ := hSw; go_simp; (try with_reducible rfl))
              simp only [Act.put, List.setIfInBounds_toArray, List.set_cons_zero, List.set_cons_succ]
              refine takeU (oi := ?oi2b) (v := ?v2b) 2 ?hi2b (by kernel_rfl) ?hQ2b ?hy2b (by assumption) ?h2b
              case hi2b => simp only [List.getElem?_toArray, List.getElem?_cons_succ, List.getElem?_cons_zero]; exact rfl
              case hQ2b => exact fun _ _ _ h => h
              case hy2b => (refine Or.inl ⟨by rfl, ?_⟩; intro w' hSw; (try dsimp only at hSw); obtain ⟨hS0, hS1, hS2, hS3, hS4, hS5, hS6, hS7, hS8, hS9, hS10⟩ := hSw; go_simp; (try with_reducible rfl))
              simp only [Act.put, List.setIfInBounds_toArray, List.set_cons_zero, List.set_cons_succ]
              refine takeU (oi := ?oi3b) (v := ?v3b) 3 ?hi3b (by kernel_rfl) ?hQ3b ?hy3b (by assumption) ?h3b
              case hi3b => simp only [List.getElem?_toArray, List.getElem?_cons_succ, List.getElem?_cons_zero]; exact rfl
              case hQ3b => exact fun _ _ _ h => h
              case hy3b => (refine Or.inl ⟨by rfl, ?_⟩; intro w' hSw; (try dsimp only at hSw); obtain ⟨hS0, hS1, hS2, hS3, hS4, hS5, hS6, hS7, hS8, hS9, hS10⟩ := hSw; go_simp; (try with_reducible rfl))
              simp only [Act.put, List.setIfInBounds_toArray, List.set_cons_zero, List.set_cons_succ]
              refine takeU (oi := ?oi4b) (v := ?v4b) 4 ?hi4b (by kernel_rfl) ?hQ4b ?hy4b (by assumption) ?h4b
              case hi4b => simp only [List.getElem?_toArray, List.getElem?_cons_succ, List.getElem?_cons_zero]; exact rfl
              case hQ4b => exact fun _ _ _ h => h
              case hy4b => (refine Or.inl ⟨by rfl, ?_⟩; intro w' hSw; (try dsimp only at hSw); obtain ⟨hS0, hS1, hS2, hS3, hS4, hS5, hS6, hS7, hS8, hS9, hS10⟩ := hSw; go_simp; (try with_reducible rfl))
              simp only [Act.put, List.setIfInBounds_toArray, List.set_cons_zero, List.set_cons_succ]
              refine takeU (oi := ?oi5b) (v := ?v5b) 5 ?hi5b (by kernel_rfl) ?hQ5b ?hy5b (by assumption) ?h5b
              case hi5b => simp only [List.getElem?_toArray, List.getElem?_cons_succ, List.getElem?_cons_zero]; exact rfl
              case hQ5b => exact fun _ _ _ h => h
              case hy5b => (refine Or.inl ⟨by rfl, ?_⟩; intro w' hSw; (try dsimp only at hSw); obtain ⟨hS0, hS1, hS2, hS3, hS4, hS5, hS6, hS7, hS8, hS9, hS10⟩ := hSw; go_simp; (try with_reducible rfl))
              simp only [Act.put, List.setIfInBounds_toArray, List.set_cons_zero, List.set_cons_succ]
              refine takeU (oi := ?oi6b) (v := ?v6b) 6 ?hi6b (by kernel_rfl) ?hQ6b ?hy6b (by assumption) ?h6b
              case hi6b => simp only [List.getElem?_toArray, List.getElem?_cons_succ, List.getElem?_cons_zero]; exact rfl
              case hQ6b => exact fun _ _ _ h => h
              case hy6b => (refine Or.inl ⟨by rfl, ?_⟩; intro w' hSw; (try dsimp only at hSw); obtain ⟨hS0, hS1, hS2, hS3, hS4, hS5, hS6, hS7, hS8, hS9, hS10⟩ := hSw; go_simp; (try with_reducible rfl))
              simp only [Act.put, List.setIfInBounds_toArray, List.set_cons_zero, List.set_cons_succ]
              refine takeU (oi := ?oi7b) (v := ?v7b) 7 ?hi7b (by kernel_rfl) ?hQ7b ?hy7b (by assumption) ?h7b
              case hi7b => simp only [List.getElem?_toArray, List.getElem?_cons_succ, List.getElem?_cons_zero]; exact rfl
              case hQ7b => exact fun _ _ _ h => h
              case hy7b => (refine Or.inl ⟨by rfl, ?_⟩; intro w' hSw; (try dsimp only at hSw); obtain ⟨hS0, hS1, hS2, hS3, hS4, hS5, hS6, hS7, hS8, hS9, hS10⟩ := hSw; go_simp; (try with_reducible rfl))
              simp only [Act.put, List.setIfInBounds_toArray, List.set_cons_zero, List.set_cons_succ]
              refine takeU (oi := ?oi8b) (v := ?v8b) 8 ?hi8b (by kernel_rfl) ?hQ8b ?hy8b (by assumption) ?h8b
              case hi8b => simp only [List.getElem?_toArray, List.getElem?_cons_succ, List.getElem?_cons_zero]; exact rfl
              case hQ8b => exact fun _ _ _ h => h
              case hy8b => (refine Or.inl ⟨by rfl, ?_⟩; intro w' hSw; (try dsimp only at hSw); obtain ⟨hS0, hS1, hS2, hS3, hS4, hS5, hS6, hS7, hS8, hS9, hS10⟩ := hSw; go_simp; (try with_reducible rfl))
              simp only [Act.put, List.setIfInBounds_toArray, List.set_cons_zero, List.set_cons_succ]
              refine readyU [9] (by kernel_rfl) (by simp) ?_
              refine EachU.cons (o := ?oxb) ?hoxb (fun K hK => ?_) EachU.nil
              case hoxb => simp only [List.getElem?_toArray, List.getElem?_cons_succ, List.getElem?_cons_zero]; exact rfl
              go_simp
              refine hK.out _ _ (fun _ => ⟨up1 d0 (bel1 W7 _).drew, up1 d1 (bel1 W7 _).drew, up1 d2 (bel1 W7 _).drew, up1 d3 (bel1 W7 _).drew, up1 d4 (bel1 W7 _).drew, up1 d5 (bel1 W7 _).drew, up1 d6 (bel1 W7 _).drew, up1 d7 (bel1 W7 _).drew, up1 p1 (bel1 W7 _).drew, up1 p2 (bel1 W7 _).drew, up1 hce (bel1 W7 _).drew⟩) (fun hH => ?_)
              replace hHeld := hH (by decide)
              clear hH
              clear hK K
              (try simp only [Act.put, List.setIfInBounds_toArray, List.set_cons_zero, List.set_cons_succ])
              refine readyU [10] (by kernel_rfl) (by simp) ?_
              refine EachU.cons (o := ?oyb) ?hoyb (fun K hK => ?_) EachU.nil
              case hoyb => simp only [List.getElem?_toArray, List.getElem?_cons_succ, List.getElem?_cons_zero]; exact rfl
              refine step_storeAgg rfl 95 _ _ rfl rfl W7.heap.size 95 (plcC noInf [] false false noInf) (plcC ⟨q0, q1, q2, q3, q4, q5, q6, q7⟩ ln dr false noInf) rfl rfl (show Blk (W7.alloc (.cells (plcC noInf [] false false noInf) 95)).drew W7.heap.size 95 (plcC noInf [] false false noInf) from Blk.new W7 _ _) rfl aggPlace (one_all rfl) ?_
              intro W8 hB8 hF8
              refine hK.out _ _ (fun h => absurd rfl h) (fun hH => ?_)
              clear hH hK K hHeld
              (try simp only [Act.put, List.setIfInBounds_toArray, List.set_cons_zero, List.set_cons_succ])
              refine doneU (by kernel_rfl) ?_ _
              obtain ⟨G4, hG4⟩ : ∃ G4, G4 = W7.heap.size := ⟨_, rfl⟩
              rw [← hG4] at hB8 hF8 ⊢
              have l1 : w.heap.size + 1 < G4 := by rw [hG4]; exact K2.out.lt
              have bx := (bel1 W7 (.cells (plcC noInf [] false false noInf) 95)).drew
              have k1 := (K1.out.up bx).off hF8 (by omega)
              have k2 := (K2.out.up bx).off hF8 (by omega)
              have k4 := (K4.out.up bx).off hF8 (by omega)
              have b8 := below_one (bnext B1.out bx) (by omega) hF8
              clear K1 K2 K3 K4 B1 HCE bx hF8 d0 d1 d2 d3 d4 d5 d6 d7 p0 p1 p2 hce l2 l3 l4
              obtain ⟨c0, c1, c2, c3⟩ := k1.c4
              obtain ⟨d0, d1, d2, d3, d4, d5, d6, d7⟩ := k4.c8
              have e8 : W8.cell? ⟨G4, 8, none⟩ = some (.string ⟨ln.toArray⟩) := hB8.cell 8
              have hsz : (⟨ln.toArray⟩ : ByteArray).size ≤ maxLen := by show ln.length ≤ maxLen; unfold maxLen; omega
              have CL := Lib.hid (wlook_any A cwd u g ⟨q0, q1, q2, q3, q4, q5, q6, q7⟩ ⟨ln.toArray⟩ hsz W8 (HPT.out W8 b8) hsd)
              have K2 := Lib.hid k2
              have KB := Lib.hid hB8
              have B8 := Lib.hid b8
              clear k1 k2 k4 hB8 b8 hG4
              have HR2 := Lib.hid HR1.out
              have e9 : (⟨ln.toArray⟩ : ByteArray).data.toList = ln := rfl
              rw [e9] at CL
              generalize lookI t q0 ln = lk at *
              obtain ⟨⟨m0, m1, m2, m3, m4, m5, m6, m7⟩, ok⟩ := lk
              simp only [infV] at CL HR2
              clear HR1 e9
              go_wp2_with fail
              refine CL.out.mono ?_
              rintro e W9 ⟨rfl, b9⟩
              have hB9 := KB.out.up b9
              have hk2 := K2.out.up b9
              have B9 := Lib.hid (bnext B8.out b9)
              have HB9 := Lib.hid hB9
              have HK2 := Lib.hid hk2
              clear b9 hB9 hk2 K2 KB B8 CL c0 c1 c2 c3 d0 d1 d2 d3 d4 d5 d6 d7 e8
              go_wp2_with (first | (refine wpList_storePart rfl 38 _ _ rfl rfl G4 11 95 (plcC ⟨q0, q1, q2, q3, q4, q5, q6, q7⟩ ln dr false noInf) (infC ⟨m0, m1, m2, m3, m4, m5, m6, m7⟩) (plcC ⟨q0, q1, q2, q3, q4, q5, q6, q7⟩ ln dr false ⟨m0, m1, m2, m3, m4, m5, m6, m7⟩) rfl rfl HB9.out (show 11 + 8 ≤ 19 by omega) aggInfo (one_all rfl) (plc_over _ _ _ _ _) ?_; intro W10 hB10 hF10; have e10 : W10.cell? ⟨G4, 10, none⟩ = some (.bool false) := hB10.cell 10; have f10 := hB10.frozen 10; have HB10 := Lib.hid hB10; have HF10 := Lib.hid hF10; clear hB10 hF10) | (refine wpList_loadAgg rfl 95 _ rfl G4 95 (plcC ⟨q0, q1, q2, q3, q4, q5, q6, q7⟩ ln dr ok ⟨m0, m1, m2, m3, m4, m5, m6, m7⟩) rfl (plc_set HB10.out) aggPlace ?_) | (refine wpList_storeAgg rfl 95 _ _ rfl rfl (w.heap.size + 1) 95 (plcC noInf [] false false noInf) (plcC ⟨q0, q1, q2, q3, q4, q5, q6, q7⟩ ln dr ok ⟨m0, m1, m2, m3, m4, m5, m6, m7⟩) rfl rfl (HK2.out.off (HF10.out.setCell (.inl rfl) _) (by omega)) rfl aggPlace (one_all rfl) ?_; intro W11 hB11 hF11))
              rw [HR2.out]
              exact bodyPost_ret (resAgg Try.f55 4 5 95 rfl hB11 aggPlace _ rfl rfl) rfl ⟨rfl, below_one (below_one B9.out (by omega) (HF10.out.setCell (.inl rfl) _)) (by omega) hF11⟩
            · have he2 : ((lx : Int) == 0) = false := by simp; omega
              have he3 : ((lx : Int) != 0) = true := by simp; omega
              rw [if_neg hlx] at HR1
              go_wp2_with (refine wpList_storeAgg rfl 95 _ _ rfl rfl (w.heap.size + 1) 95 _ (plcC noInf [] false false noInf) rfl rfl K2.out rfl aggPlace (one_all rfl) ?_; intro W8 hB8 hF8)
              rw [HR1.out]
              exact bodyPost_ret (resAgg Try.f55 4 5 95 rfl hB8 aggPlace _ rfl rfl) rfl ⟨rfl, below_one B1.out (by omega) hF8⟩
          · have he2 : ((er : Int) == 0) = false := by simp; omega
            have he3 : ((er : Int) != 0) = true := by simp; omega
            rw [if_neg her] at HR1
            go_wp2_with (refine wpList_storeAgg rfl 95 _ _ rfl rfl (w.heap.size + 1) 95 _ (plcC noInf [] false false noInf) rfl rfl K2.out rfl aggPlace (one_all rfl) ?_; intro W8 hB8 hF8)
            rw [HR1.out]
            exact bodyPost_ret (resAgg Try.f55 4 5 95 rfl hB8 aggPlace _ rfl rfl) rfl ⟨rfl, below_one B1.out (by omega) hF8⟩
  · have he2 : ((er : Int) == 0) = false := by simp; omega
    have he3 : ((er : Int) != 0) = true := by simp; omega
    rw [if_neg he] at HR
    clear b2 C1 k1 k2 b1 hrow
    go_wp2_with (refine wpList_storeAgg rfl 95 _ _ rfl rfl (w.heap.size + 1) 95 _ (plcC noInf [] false false noInf) rfl rfl (K2.out.alloc _) rfl aggPlace (one_all rfl) ?_; intro W5 hB5 hF5)
    rw [HR.out]
    exact bodyPost_ret (resAgg Try.f55 4 5 95 rfl hB5 aggPlace _ rfl rfl) rfl ⟨rfl, below_one (bal B1.out _) (by omega) hF5⟩
end Go.Proofs.Ytflncolmehmaaaa
