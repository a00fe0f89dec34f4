/- LG, LI: several texts in one. -/
import Derived.Deep.Slices
import Derived.DataReads
import Derived.Test.YtakceopobgommaaM15
import Derived.Test.YtakceopobgommaaM16

/- A root, two directories and a file that is moved: plain facts. -/
namespace Go.Proofs.Ytakceopobgommaa.Ino
open Go.Proofs.Ytakceopobgommaa (moveP_at moved_none barE movedT_eq)
set_option linter.unusedVariables false
set_option linter.unusedSimpArgs false

def moT (e1 : List (Bs × Nat)) (p2 p3 : Nat) (e2 e3 : List (Bs × Nat)) (dd : Bs) : T := fun j =>
  if j = 1 then { rootN 493 0 0 with ents := e1 } else if j = 2 then { madeN 1 493 0 0 0 2 with parent := p2, ents := e2 } else if j = 3 then { madeN 1 493 0 0 0 3 with parent := p3, ents := e3 }
  else if j = 4 then { madeN 0 420 0 0 0 4 with data := dd } else noN
variable {e1 e2 e3 : List (Bs × Nat)} {p2 p3 : Nat} {dd : Bs}
theorem mo_1 : moT e1 p2 p3 e2 e3 dd 1 = { rootN 493 0 0 with ents := e1 } := rfl
theorem mo_2 : moT e1 p2 p3 e2 e3 dd 2 = { madeN 1 493 0 0 0 2 with parent := p2, ents := e2 } := rfl
theorem mo_3 : moT e1 p2 p3 e2 e3 dd 3 = { madeN 1 493 0 0 0 3 with parent := p3, ents := e3 } := rfl
theorem mo_4 : moT e1 p2 p3 e2 e3 dd 4 = { madeN 0 420 0 0 0 4 with data := dd } := rfl
theorem mo_o {j : Nat} (h1 : j ≠ 1) (h2 : j ≠ 2) (h3 : j ≠ 3) (h4 : j ≠ 4) : moT e1 p2 p3 e2 e3 dd j = noN := by unfold moT; rw [if_neg h1, if_neg h2, if_neg h3, if_neg h4]
theorem mo_ext {t : T} (h1 : t 1 = { rootN 493 0 0 with ents := e1 }) (h2 : t 2 = { madeN 1 493 0 0 0 2 with parent := p2, ents := e2 }) (h3 : t 3 = { madeN 1 493 0 0 0 3 with parent := p3, ents := e3 }) (h4 : t 4 = { madeN 0 420 0 0 0 4 with data := dd })
    (ho : ∀ j, j ≠ 1 → j ≠ 2 → j ≠ 3 → j ≠ 4 → t j = noN) : t = moT e1 p2 p3 e2 e3 dd := by
  funext j
  by_cases k1 : j = 1
  · rw [k1, h1, mo_1]
  by_cases k2 : j = 2
  · rw [k2, h2, mo_2]
  by_cases k3 : j = 3
  · rw [k3, h3, mo_3]
  by_cases k4 : j = 4
  · rw [k4, h4, mo_4]
  rw [ho j k1 k2 k3 k4, mo_o k1 k2 k3 k4]
theorem mo_is {j : Nat} (h1 : 1 ≤ j) (h2 : j ≤ 4) : isI (moT e1 p2 p3 e2 e3 dd) (j : Int) = true := by
  unfold isI
  rw [Int.toNat_natCast, decide_eq_true (show 1 ≤ (j : Int) ∧ (j : Int) ≤ 200 by omega)]
  match j, h1, h2 with
  | 1, _, _ | 2, _, _ | 3, _, _ | 4, _, _ => rfl
theorem mo_links (x : Nat) : links (moT e1 p2 p3 e2 e3 dd) x = cnt e1 x + cnt e2 x + cnt e3 x := by
  have a := links_upd (moT e1 p2 p3 e2 e3 dd) 1 { rootN 493 0 0 with ents := [] } x (by decide)
  have ea : upd (moT e1 p2 p3 e2 e3 dd) 1 { rootN 493 0 0 with ents := [] } = moT [] p2 p3 e2 e3 dd := mo_ext (upd_same _ _ _) (by rw [upd_other _ _ (by decide), mo_2]) (by rw [upd_other _ _ (by decide), mo_3]) (by rw [upd_other _ _ (by decide), mo_4]) fun j h1 h2 h3 h4 => by rw [upd_other _ _ h1, mo_o h1 h2 h3 h4]
  have b := links_upd (moT [] p2 p3 e2 e3 dd) 2 { madeN 1 493 0 0 0 2 with parent := p2, ents := [] } x (by decide)
  have eb : upd (moT [] p2 p3 e2 e3 dd) 2 { madeN 1 493 0 0 0 2 with parent := p2, ents := [] } = moT [] p2 p3 [] e3 dd := mo_ext (by rw [upd_other _ _ (by decide), mo_1]) (upd_same _ _ _) (by rw [upd_other _ _ (by decide), mo_3]) (by rw [upd_other _ _ (by decide), mo_4]) fun j h1 h2 h3 h4 => by rw [upd_other _ _ h2, mo_o h1 h2 h3 h4]
  have c := links_upd (moT [] p2 p3 [] e3 dd) 3 { madeN 1 493 0 0 0 3 with parent := p3, ents := [] } x (by decide)
  have ec : upd (moT [] p2 p3 [] e3 dd) 3 { madeN 1 493 0 0 0 3 with parent := p3, ents := [] } = moT [] p2 p3 [] [] dd := mo_ext (by rw [upd_other _ _ (by decide), mo_1]) (by rw [upd_other _ _ (by decide), mo_2]) (upd_same _ _ _) (by rw [upd_other _ _ (by decide), mo_4]) fun j h1 h2 h3 h4 => by rw [upd_other _ _ h3, mo_o h1 h2 h3 h4]
  have d : links (moT [] p2 p3 [] [] dd) x = 0 := links_bare (fun j => by
    by_cases k1 : j = 1
    · rw [k1, mo_1]
    by_cases k2 : j = 2
    · rw [k2, mo_2]
    by_cases k3 : j = 3
    · rw [k3, mo_3]
    by_cases k4 : j = 4
    · rw [k4, mo_4]; rfl
    rw [mo_o k1 k2 k3 k4]; rfl) x
  rw [ea, mo_1] at a
  rw [eb, mo_2] at b
  rw [ec, mo_3] at c
  have z : cnt [] x = 0 := rfl
  have a' : links (moT [] p2 p3 e2 e3 dd) x + cnt e1 x = links (moT e1 p2 p3 e2 e3 dd) x + cnt [] x := a
  have b' : links (moT [] p2 p3 [] e3 dd) x + cnt e2 x = links (moT [] p2 p3 e2 e3 dd) x + cnt [] x := b
  have c' : links (moT [] p2 p3 [] [] dd) x + cnt e3 x = links (moT [] p2 p3 [] e3 dd) x + cnt [] x := c
  omega
theorem mo_bound (k : Nat) : (moT e1 p2 p3 e2 e3 dd k).holds ≤ 1000000 := by
  by_cases k1 : k = 1
  · rw [k1]; exact (by decide : (0 : Nat) ≤ 1000000)
  by_cases k2 : k = 2
  · rw [k2]; exact (by decide : (1 : Nat) ≤ 1000000)
  by_cases k3 : k = 3
  · rw [k3]; exact (by decide : (1 : Nat) ≤ 1000000)
  by_cases k4 : k = 4
  · rw [k4]; exact (by decide : (1 : Nat) ≤ 1000000)
  rw [mo_o k1 k2 k3 k4]; exact (by decide : (0 : Nat) ≤ 1000000)
def mk2 : T := twoT 493 0 0 (madeN 1 493 0 0 0 2)
def mk3 : T := upd mk2 3 (madeN 1 493 0 0 0 3)
theorem mo_make2 : makeP mk2 true 1 493 0 0 0 = (mk3, 3, 0) := by
  have hf : freeP mk2 = some 3 := freeUp_is (by decide) (by decide) (by unfold mk2; rw [two_o _ _ _ _ (by decide) (by decide)]; rfl) fun j h1 h2 => by
    rcases (show j = 1 ∨ j = 2 by omega) with e | e
    · rw [e]; unfold mk2; rw [two_1]; rfl
    · rw [e]; unfold mk2; rw [two_2]; rfl
  unfold makeP
  rw [if_pos rfl, hf]; rfl
theorem mo_make3 : makeP mk3 true 0 420 0 0 0 = (moT [] 2 3 [] [] [], 4, 0) := by
  have hf : freeP mk3 = some 4 := freeUp_is (by decide) (by decide) (by unfold mk3 mk2; rw [upd_other _ _ (by decide), two_o _ _ _ _ (by decide) (by decide)]; rfl) fun j h1 h2 => by
    rcases (show j = 1 ∨ j = 2 ∨ j = 3 by omega) with e | e | e
    · rw [e]; unfold mk3 mk2; rw [upd_other _ _ (by decide), two_1]; rfl
    · rw [e]; unfold mk3 mk2; rw [upd_other _ _ (by decide), two_2]; rfl
    · rw [e]; unfold mk3; rw [upd_same]; rfl
  unfold makeP
  rw [if_pos rfl, hf]
  refine congrArg (·, 4, 0) (mo_ext ?_ ?_ ?_ ?_ fun j h1 h2 h3 h4 => ?_)
  · rw [upd_other _ _ (by decide)]; unfold mk3 mk2; rw [upd_other _ _ (by decide), two_1]; rfl
  · rw [upd_other _ _ (by decide)]; unfold mk3 mk2; rw [upd_other _ _ (by decide), two_2]; rfl
  · rw [upd_other _ _ (by decide)]; unfold mk3; rw [upd_same]; rfl
  · rw [upd_same]; rfl
  · rw [upd_other _ _ h4]; unfold mk3 mk2; rw [upd_other _ _ h3, two_o _ _ _ _ h1 h2]
theorem root_in {t : T} {x : Nat} (hp : (t 1).parent = 1) (hx : x ≠ 1) : ¬ Within t 1 x := by
  rintro ⟨n, hn⟩
  rw [iter_fix (show Fix t 1 from hp) n] at hn
  exact hx hn.symm
/-- the first three entries. -/
theorem mo_enter1 : enterP (moT [] 2 3 [] [] []) 1 [97] 2 = (moT [([97], 2)] 1 3 [] [] [], 0) := by
  unfold enterP
  rw [if_pos ⟨mo_is (j := 1) (by decide) (by decide), mo_is (j := 2) (by decide) (by decide)⟩, show (1 : Int).toNat = 1 from rfl, show (2 : Int).toNat = 2 from rfl, mo_links, if_pos (show (moT [] 2 3 [] [] [] 1).kind = 1 from rfl), if_pos (by decide),
    if_neg (show ¬ (findE (moT [] 2 3 [] [] [] 1).ents [97]).isSome = true from Bool.false_ne_true), if_neg (by show ¬ ((2 : Int) = 1 ∨ (_ ∧ 0 < 0 + 0 + 0) ∨ 8 ≤ 0 + 0 + 0); omega), if_neg (show ¬ 40 ≤ (moT [] 2 3 [] [] [] 1).ents.length from by decide), if_neg (fun h => root_in rfl (by decide) h.2)]
  refine congrArg (·, 0) (mo_ext ?_ ?_ ?_ ?_ fun j h1 h2 h3 h4 => ?_)
  · rfl
  · rfl
  · rfl
  · rfl
  · unfold add setEnts
    rw [setPar_other _ _ _ h2, upd_other _ _ h1, mo_o h1 h2 h3 h4]
theorem mo_enter2 : enterP (moT [([97], 2)] 1 3 [] [] []) 1 [98] 3 = (moT [([97], 2), ([98], 3)] 1 1 [] [] [], 0) := by
  unfold enterP
  rw [if_pos ⟨mo_is (j := 1) (by decide) (by decide), mo_is (j := 3) (by decide) (by decide)⟩, show (1 : Int).toNat = 1 from rfl, show (3 : Int).toNat = 3 from rfl, mo_links, if_pos (show (moT [([97], 2)] 1 3 [] [] [] 1).kind = 1 from rfl), if_pos (by decide),
    if_neg (show ¬ (findE (moT [([97], 2)] 1 3 [] [] [] 1).ents [98]).isSome = true from Bool.false_ne_true), if_neg (by show ¬ ((3 : Int) = 1 ∨ (_ ∧ 0 < 0 + 0 + 0) ∨ 8 ≤ 0 + 0 + 0); omega), if_neg (show ¬ 40 ≤ (moT [([97], 2)] 1 3 [] [] [] 1).ents.length from by decide), if_neg (fun h => root_in rfl (by decide) h.2)]
  refine congrArg (·, 0) (mo_ext ?_ ?_ ?_ ?_ fun j h1 h2 h3 h4 => ?_)
  · rfl
  · rfl
  · rfl
  · rfl
  · unfold add setEnts
    rw [setPar_other _ _ _ h3, upd_other _ _ h1, mo_o h1 h2 h3 h4]
abbrev ab : List (Bs × Nat) := [([97], 2), ([98], 3)]
theorem mo_enter3 : enterP (moT ab 1 1 [] [] []) 2 [102] 4 = (moT ab 1 1 [([102], 4)] [] [], 0) := by
  unfold enterP
  rw [if_pos ⟨mo_is (j := 2) (by decide) (by decide), mo_is (j := 4) (by decide) (by decide)⟩, show (2 : Int).toNat = 2 from rfl, show (4 : Int).toNat = 4 from rfl, mo_links, if_pos (show (moT ab 1 1 [] [] [] 2).kind = 1 from rfl), if_pos (by decide),
    if_neg (show ¬ (findE (moT ab 1 1 [] [] [] 2).ents [102]).isSome = true from Bool.false_ne_true), if_neg (by show ¬ ((4 : Int) = 1 ∨ (_ ∧ 0 < 0 + 0 + 0) ∨ 8 ≤ 0 + 0 + 0); omega), if_neg (show ¬ 40 ≤ (moT ab 1 1 [] [] [] 2).ents.length from by decide), if_neg (fun h => absurd (show (0 : Int) = 1 from h.1) (by decide))]
  refine congrArg (·, 0) (mo_ext ?_ ?_ ?_ ?_ fun j h1 h2 h3 h4 => ?_)
  · rfl
  · rfl
  · rfl
  · rfl
  · unfold add setEnts
    rw [setPar_other _ _ _ h4, upd_other _ _ h2, mo_o h1 h2 h3 h4]
abbrev byt : Bs := [98, 121, 116, 101, 115]
theorem mo_put : putP (moT ab 1 1 e2 e3 []) 4 0 byt = (moT ab 1 1 e2 e3 byt, 0) := by
  have hf : fileE (moT ab 1 1 e2 e3 []) 4 = 0 := by
    unfold fileE
    rw [if_pos (show isI (moT ab 1 1 e2 e3 []) 4 = true from mo_is (j := 4) (by decide) (by decide))]; rfl
  unfold putP
  rw [if_neg (fun e => e hf), if_neg (by show ¬ ((0 : Int) < 0 ∨ ((0 : Nat) : Int) < 0); omega), if_neg (by decide)]
  refine congrArg (·, 0) (mo_ext ?_ ?_ ?_ ?_ fun j h1 h2 h3 h4 => ?_)
  · rfl
  · rfl
  · rfl
  · rfl
  · show upd _ 4 _ j = _
    rw [upd_other _ _ h4, mo_o h1 h2 h3 h4]
/-- the file is in the second directory (q) or in the first one, under a name. -/
def mo (q : Bool) (nm : Bs) : T := if q then moT ab 1 1 [] [(nm, 4)] byt else moT ab 1 1 [(nm, 4)] [] byt
def dirOf (q : Bool) : Nat := if q then 3 else 2
theorem mo_not {t : T} (h : (t 4).kind = 0) (x : Nat) : ¬ (Within t x 4 ∧ (t 4).kind = 1) := by
  rintro ⟨_, k⟩
  rw [h] at k
  exact absurd k (by decide)
theorem cut_mv {q q' : Bool} {nm nm' : Bs} (h : ¬ (q = q' ∧ nm = nm')) : mv (mo q nm) (dirOf q) nm (dirOf q') nm' 4 = mo q' nm' := by
  have e1 : erE [(nm, 4)] nm = [] := by unfold erE; rw [if_pos rfl]
  cases q <;> cases q'
  · refine mo_ext rfl ?_ rfl rfl fun j h1 h2 h3 h4 => ?_
    · show ({ madeN 1 493 0 0 0 2 with parent := 1, ents := erE [(nm, 4)] nm ++ [(nm', 4)] } : Nod) = _
      rw [e1]; rfl
    · exact (mv_other (d := 2) (to := 2) _ _ _ h2 h2 h4).trans (mo_o h1 h2 h3 h4)
  · refine mo_ext rfl ?_ rfl rfl fun j h1 h2 h3 h4 => ?_
    · show ({ madeN 1 493 0 0 0 2 with parent := 1, ents := erE [(nm, 4)] nm } : Nod) = _
      rw [e1]
    · exact (mv_other (d := 2) (to := 3) _ _ _ h2 h3 h4).trans (mo_o h1 h2 h3 h4)
  · refine mo_ext rfl rfl ?_ rfl fun j h1 h2 h3 h4 => ?_
    · show ({ madeN 1 493 0 0 0 3 with parent := 1, ents := erE [(nm, 4)] nm } : Nod) = _
      rw [e1]
    · exact (mv_other (d := 3) (to := 2) _ _ _ h3 h2 h4).trans (mo_o h1 h2 h3 h4)
  · refine mo_ext rfl rfl ?_ rfl fun j h1 h2 h3 h4 => ?_
    · show ({ madeN 1 493 0 0 0 3 with parent := 1, ents := erE [(nm, 4)] nm ++ [(nm', 4)] } : Nod) = _
      rw [e1]; rfl
    · exact (mv_other (d := 3) (to := 3) _ _ _ h3 h3 h4).trans (mo_o h1 h2 h3 h4)
theorem mo_dirs (q : Bool) (nm : Bs) (q' : Bool) : isI (mo q nm) (dirOf q' : Int) = true ∧ (mo q nm (dirOf q')).kind = 1 ∧ dirOf q' ≤ 200 := by
  cases q <;> cases q'
  · exact ⟨mo_is (j := 2) (by decide) (by decide), rfl, by decide⟩
  · exact ⟨mo_is (j := 3) (by decide) (by decide), rfl, by decide⟩
  · exact ⟨mo_is (j := 2) (by decide) (by decide), rfl, by decide⟩
  · exact ⟨mo_is (j := 3) (by decide) (by decide), rfl, by decide⟩
theorem mo_find (q : Bool) (nm : Bs) : findE (mo q nm (dirOf q)).ents nm = some 4 := by
  cases q
  · show findE [(nm, 4)] nm = some 4
    unfold findE; rw [if_pos rfl]
  · show findE [(nm, 4)] nm = some 4
    unfold findE; rw [if_pos rfl]
theorem mo_find2 (q q' : Bool) (nm nm' : Bs) : findE (mo q nm (dirOf q')).ents nm' = if q = q' ∧ nm = nm' then some 4 else none := by
  have h1 : findE [(nm, 4)] nm' = if nm = nm' then some 4 else none := rfl
  have h0 : findE [] nm' = none := rfl
  cases q <;> cases q'
  · show findE [(nm, 4)] nm' = _
    rw [h1]; simp
  · show findE [] nm' = _
    rw [h0]; simp
  · show findE [] nm' = _
    rw [h0]; simp
  · show findE [(nm, 4)] nm' = _
    rw [h1]; simp
theorem mo_k4 (q : Bool) (nm : Bs) : (mo q nm 4).kind = 0 := by cases q <;> rfl
theorem mo_len (q q' : Bool) (nm : Bs) : (mo q nm (dirOf q')).ents.length < 40 := by
  cases q <;> cases q'
  · exact (by decide : 1 < 40)
  · exact (by decide : 0 < 40)
  · exact (by decide : 0 < 40)
  · exact (by decide : 1 < 40)
theorem mo_move (q q' : Bool) (nm nm' : Bs) (hs : Sound (mo q nm)) : moveP (mo q nm) (dirOf q) nm (dirOf q') nm' = if nameOk nm' = true then (mo q' nm', 0) else (mo q nm, 1) := by
  obtain ⟨i1, k1, l1⟩ := mo_dirs q nm q
  obtain ⟨i2, k2, l2⟩ := mo_dirs q nm q'
  rw [moveP_at i1 i2, if_pos ⟨k1, k2⟩, mo_find]
  dsimp only
  by_cases hn : nameOk nm' = true
  · rw [if_pos hn, if_pos hn, if_neg (mo_not (mo_k4 q nm) _)]
    by_cases hsame : q = q' ∧ nm = nm'
    · rw [if_pos (by rw [mo_find2, if_pos hsame])]
      rw [hsame.1, hsame.2]
    · rw [if_neg (by rw [mo_find2, if_neg hsame]; intro h; cases h)]
      have hb : barE (mo q nm) (dirOf q) (dirOf q') nm' 4 = 0 := by
        unfold barE
        rw [mo_find2, if_neg hsame]
        have := mo_len q q' nm
        exact if_neg (by omega)
      rw [if_neg (fun h => h hb), moved_none hs l1 l2 (mo_find q nm) (by rw [mo_find2, if_neg hsame]), cut_mv hsame]
  · rw [if_neg hn, if_neg hn]
theorem mo_start : mo false [102] = moT ab 1 1 [([102], 4)] [] byt := rfl
theorem mo_look (q : Bool) {nm : Bs} (hn : nameOk nm = true) : lookP (mo q nm) (dirOf q) nm = (4, true) := by
  obtain ⟨i1, k1, l1⟩ := mo_dirs q nm q
  obtain ⟨h1, h2⟩ := nameOk_dots hn
  have hD : isD (mo q nm) (dirOf q : Int) = true := by unfold isD; rw [i1, Int.toNat_natCast, k1]; rfl
  unfold lookP
  rw [if_pos hD, if_neg h1, if_neg h2, Int.toNat_natCast, mo_find]
theorem mo_names (q : Bool) (nm : Bs) : (namesP (mo q nm) 2).length + (namesP (mo q nm) 3).length = 1 ∧ (namesP (mo q nm) 2).length ≤ 1 ∧ (namesP (mo q nm) 3).length ≤ 1 := by
  have e2 : namesP (mo q nm) 2 = namesE (mo q nm 2).ents := by unfold namesP; rw [if_pos (show isI (mo q nm) 2 = true from (mo_dirs q nm false).1)]; rfl
  have e3 : namesP (mo q nm) 3 = namesE (mo q nm 3).ents := by unfold namesP; rw [if_pos (show isI (mo q nm) 3 = true from (mo_dirs q nm true).1)]; rfl
  rw [e2, e3, namesE_length, namesE_length]
  cases q
  · exact ⟨rfl, (by decide : 1 ≤ 1), (by decide : 0 ≤ 1)⟩
  · exact ⟨rfl, (by decide : 0 ≤ 1), (by decide : 1 ≤ 1)⟩
theorem mo_is4 (q : Bool) (nm : Bs) : isI (mo q nm) 4 = true := by cases q <;> exact mo_is (j := 4) (by decide) (by decide)
theorem mo_data (q : Bool) (nm : Bs) : dataP (mo q nm) 4 = byt := by
  unfold dataP
  rw [if_pos (mo_is4 q nm)]
  cases q <;> rfl
theorem mo_stat (q : Bool) (nm : Bs) : ∃ a, statP (mo q nm) 4 = (a, true) ∧ a.links = 1 := by
  have hl : links (mo q nm) 4 = 1 := by
    have h1 : cnt [(nm, 4)] 4 = 1 := by rw [cnt_one, if_pos rfl]
    cases q
    · show links (moT ab 1 1 [(nm, 4)] [] byt) 4 = 1
      rw [mo_links, h1]; rfl
    · show links (moT ab 1 1 [] [(nm, 4)] byt) 4 = 1
      rw [mo_links, h1]; rfl
  refine ⟨_, by unfold statP; rw [if_pos (mo_is4 q nm)], ?_⟩
  show ((links (mo q nm) 4 : Nat) : Int) = 1
  rw [hl]; rfl
theorem mo_i1 (q : Bool) (nm : Bs) : isI (mo q nm) ((1 : Nat) : Int) = true := by cases q <;> exact mo_is (j := 1) (by decide) (by decide)
theorem mo_root (q : Bool) (nm : Bs) : (mo q nm 1).kind = 1 ∧ (mo q nm 1).ents = ab ∧ (mo q nm 1).parent = 1 ∧ (mo q nm 3).parent = 1 ∧ (mo q nm 2).kind = 1 ∧ (mo q nm 3).kind = 1 := by cases q <;> exact ⟨rfl, rfl, rfl, rfl, rfl, rfl⟩
/-- a directory does not come into itself. -/
theorem mo_self (q : Bool) (nm : Bs) {other : Bs} (hn : nameOk other = true) : moveP (mo q nm) 1 [97] 2 other = (mo q nm, 8) := by
  have i2 : isI (mo q nm) ((2 : Nat) : Int) = true := (mo_dirs q nm false).1
  obtain ⟨k1, en, _, _, k2, _⟩ := mo_root q nm
  have := moveP_at (n := [97]) (nm := other) (mo_i1 q nm) i2
  rw [if_pos ⟨k1, k2⟩, en] at this
  exact this.trans (by
    show (if nameOk other = true then _ else _) = _
    rw [if_pos hn, if_pos ⟨⟨0, rfl⟩, k2⟩])
/-- the one comes into the other. -/
noncomputable def moF (q : Bool) (nm other : Bs) : T := mv (mo q nm) 1 [97] 3 other 2
theorem mo_into (q : Bool) (nm : Bs) (hs : Sound (mo q nm)) {other : Bs} (hn : nameOk other = true) (hne : nm ≠ other) : moveP (mo q nm) 1 [97] 3 other = (moF q nm other, 0) := by
  have i3 : isI (mo q nm) ((3 : Nat) : Int) = true := (mo_dirs q nm true).1
  obtain ⟨k1, en, p1, p3, k2, k3⟩ := mo_root q nm
  have hfo : findE (mo q nm 3).ents other = none := by
    have := mo_find2 q true nm other
    rw [if_neg (fun h => hne h.2)] at this
    exact this
  have hw : ¬ (Within (mo q nm) 3 2 ∧ (mo q nm 2).kind = 1) := by
    rintro ⟨h, _⟩
    rcases within_step.1 h with h | h
    · cases h
    · have e : par (mo q nm) 3 = 1 := p3
      rw [e] at h
      exact root_in p1 (by decide) h
  have hb : barE (mo q nm) 1 3 other 2 = 0 := by
    unfold barE
    rw [hfo]
    have := mo_len q true nm
    exact if_neg (fun h => by have h1 := h.1; have h2 : (mo q nm 3).ents.length < 40 := this; omega)
  have hfa : findE (mo q nm 1).ents [97] = some 2 := by rw [en]; rfl
  have := moveP_at (n := [97]) (nm := other) (mo_i1 q nm) i3
  rw [if_pos ⟨k1, k3⟩, hfa] at this
  exact this.trans (by
    show (if nameOk other = true then _ else _) = _
    rw [if_pos hn, if_neg hw, if_neg (by rw [hfo]; intro h; cases h), if_neg (fun h => h hb), moved_none hs (by decide) (by decide) hfa hfo]; rfl)
/-- and then that not into it. -/
theorem mo_back (q : Bool) (nm other : Bs) : moveP (moF q nm other) 1 [98] 2 [121] = (moF q nm other, 8) := by
  obtain ⟨k1, en, p1, p3, k2, k3⟩ := mo_root q nm
  have i1 : isI (moF q nm other) ((1 : Nat) : Int) = true := by
    have := mo_i1 q nm
    unfold isI at this ⊢
    unfold moF
    rw [mv_is]; exact this
  have i2 : isI (moF q nm other) ((2 : Nat) : Int) = true := by
    have : isI (mo q nm) ((2 : Nat) : Int) = true := (mo_dirs q nm false).1
    unfold isI at this ⊢
    unfold moF
    rw [mv_is]; exact this
  have h1 : (moF q nm other 1).kind = 1 := by unfold moF; rw [mv_kind]; exact k1
  have h2 : (moF q nm other 2).kind = 1 := by unfold moF; rw [mv_kind]; exact k2
  have h3 : (moF q nm other 3).kind = 1 := by unfold moF; rw [mv_kind]; exact k3
  have hp : (moF q nm other 2).parent = 3 := by
    unfold moF mv
    rw [add_par, if_pos ⟨rfl, by rw [rem_kind]; exact k2⟩]
  have he : findE (moF q nm other 1).ents [98] = some 3 := by
    unfold moF mv
    rw [add_ents, if_neg (by decide), rem_ents, if_pos rfl, en]; rfl
  have := moveP_at (n := [98]) (nm := [121]) i1 i2
  rw [if_pos ⟨h1, h2⟩, he] at this
  exact this.trans (by
    show (if nameOk [121] = true then _ else _) = _
    rw [if_pos (by decide), if_pos ⟨⟨1, hp⟩, h3⟩])
end Go.Proofs.Ytakceopobgommaa.Ino
/- Arguments that are slices of strings, numbers, bools. -/
namespace Go.Proofs.Ytakceopobgommaa
open Go.RowKit Go.ChangeShapes Go.WideShapes Go.Deep
set_option linter.unusedVariables false

/-- a slice that reads as these. -/
def InRow {α : Type} (mk : α → Value) (ok : α → Prop) (W : World) (p : Option Addr) (n : Nat) (zs : List α) : Prop :=
  zs.length = n ∧ ∀ (j : Nat) (z : α), zs[j]? = some z → ∃ g off, p = some ⟨g, off, none⟩ ∧ W.cell? ⟨g, off + j, none⟩ = some (mk z) ∧ ok z
abbrev InStrs := InRow Value.string (fun s : ByteArray => s.size ≤ maxLen)
abbrev InInts := InRow (Value.int .i64) (fun z : Int => (Lit.int .i64 z).wf = true)
abbrev InBools := InRow Value.bool (fun _ : Bool => True)
theorem addr_plain {W : World} {a : Addr} {v0 : Value} (h0 : W.cell? a = some v0) : ∃ b off, a = ⟨b, off, none⟩ := by
  obtain ⟨b, off, spot⟩ := a
  have hs2 : spot = none := World.cell?_spot h0
  subst hs2
  exact ⟨b, off, rfl⟩
section
variable {H : Type} {enc : TypeId × Value → H} {w : World} {base : Nat} {held : Bool}
theorem open_row {α : Type} [Inhabited α] (mk : α → Value) (ok : α → Prop) {t e : TypeId} (ht : Try.prog.underlying t = some (.slice e)) (hc : Try.prog.cellsOf e = 1)
    (inv : ∀ (n : Nat) (cs : List Value) (y : DataW H × List MemPlace), DataW.trod enc Try.prog w base (fun _ => true) held n e cs = some y → ∃ z, cs = [mk z] ∧ ok z)
    {n : Nat} {p : Option Addr} {len cap : Nat} {x : DataW H × List MemPlace} (h : DataW.trod enc Try.prog w base (fun _ => true) held n t [.slice p len cap] = some x) :
    ∃ zs, InRow mk ok w p len zs ∧ len ≤ maxLen := by
  rcases open_slice ht h with ⟨hcs, _⟩ | ⟨a, len', cap', m, n', D, Pl, hcs, _, hl, hm, hmm, _, hi⟩
  · cases hcs
    exact ⟨[], ⟨rfl, fun j u hj => by cases hj⟩, Nat.zero_le _⟩
  · cases hcs
    have hmm' : m = cap := hmm
    subst hmm'
    rw [hc] at hi
    have hu : ∀ i, i < m → ∃ u : α, w.cell? (a.add (i * 1)) = some (mk u) ∧ ok u := by
      intro i him
      obtain ⟨cs', hc', ht'⟩ := hi i him
      obtain ⟨u, hu, hok⟩ := inv _ _ _ ht'
      obtain ⟨_, hcl, hat⟩ := World.cells?_some hc'
      refine ⟨u, ?_, hok⟩
      have := hat 0 (by decide)
      rw [hu] at this
      have hz : ∀ x : Addr, x.add 0 = x := fun x => if_pos rfl
      rw [hz] at this
      exact this
    have hex : ∃ f : Nat → α, ∀ i, i < m → w.cell? (a.add (i * 1)) = some (mk (f i)) ∧ ok (f i) :=
      ⟨fun i => if h : i < m then Classical.choose (hu i h) else default, fun i h => by
        simp only [dif_pos h]; exact Classical.choose_spec (hu i h)⟩
    obtain ⟨f, hf⟩ := hex
    refine ⟨(List.range len).map f, ⟨by simp, fun j u hj => ?_⟩, by omega⟩
    have hjl : j < len := by have := (List.getElem?_eq_some_iff.1 hj).1; simpa using this
    rw [List.getElem?_map, List.getElem?_range hjl] at hj
    cases hj
    have h0 := (hf 0 (by omega)).1
    rw [Nat.zero_mul] at h0
    have hz : ∀ x : Addr, x.add 0 = x := fun x => if_pos rfl
    rw [hz] at h0
    obtain ⟨b, off, rfl⟩ := addr_plain h0
    have hj2 := hf j (by omega)
    rw [Nat.mul_one, Addr.add_lit] at hj2
    exact ⟨b, off, rfl, hj2⟩
theorem open_strs {n : Nat} {p : Option Addr} {len cap : Nat} {x : DataW H × List MemPlace} (h : DataW.trod enc Try.prog w base (fun _ => true) held n 34 [.slice p len cap] = some x) : ∃ zs, InStrs w p len zs ∧ len ≤ maxLen :=
  open_row Value.string _ Try.underlying34 (by kernel_rfl) (fun n cs y h => by obtain ⟨s, h1, _, h2⟩ := DataW.trod_string Try.underlying9 h; exact ⟨s, h1, h2⟩) h
theorem open_intz {n : Nat} {p : Option Addr} {len cap : Nat} {x : DataW H × List MemPlace} (h : DataW.trod enc Try.prog w base (fun _ => true) held n 44 [.slice p len cap] = some x) : ∃ zs, InInts w p len zs ∧ len ≤ maxLen :=
  open_row (Value.int .i64) _ Try.underlying44 (by kernel_rfl) (fun n cs y h => by obtain ⟨s, h1, _, h2⟩ := DataW.trod_int Try.underlying3 h; exact ⟨s, h1, h2⟩) h
theorem open_boolz {n : Nat} {p : Option Addr} {len cap : Nat} {x : DataW H × List MemPlace} (h : DataW.trod enc Try.prog w base (fun _ => true) held n 52 [.slice p len cap] = some x) : ∃ zs, InBools w p len zs ∧ len ≤ maxLen :=
  open_row Value.bool _ Try.underlying52 (by kernel_rfl) (fun n cs y h => by obtain ⟨s, h1, _⟩ := DataW.trod_bool Try.underlying4 h; exact ⟨s, h1, trivial⟩) h
end
end Go.Proofs.Ytakceopobgommaa
