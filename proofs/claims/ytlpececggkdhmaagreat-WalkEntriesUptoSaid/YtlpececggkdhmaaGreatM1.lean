
set_option linter.unusedVariables false
set_option linter.unusedSimpArgs false
namespace Go.Proofs.YtlpececggkdhmaaGreat.Ino
abbrev Bs := List UInt8
structure Nod where
 is : Bool
 kind : Int
 mode : Int
 owner : Int
 group : Int
 tty : Int
 holds : Nat
 parent : Nat
 data : Bs
 ents : List (Bs × Nat)
def noN : Nod := ⟨false, 0, 0, 0, 0, 0, 0, 0, [], []⟩
abbrev T := Nat → Nod
def upd (t : T) (i : Nat) (v : Nod) : T := fun j => if j = i then v else t j
theorem upd_same (t : T) (i : Nat) (v : Nod) : upd t i v i = v := if_pos rfl
theorem upd_other (t : T) {i j : Nat} (v : Nod) (h : j ≠ i) : upd t i v j = t j := if_neg h
def cnt (l : List (Bs × Nat)) (x : Nat) : Nat := l.countP (fun e => e.2 == x)
def linksTo : Nat → T → Nat → Nat
 | 0, _, _ => 0
 | n + 1, t, x => linksTo n t x + cnt (t n).ents x
def links (t : T) (x : Nat) : Nat := linksTo 201 t x
theorem cnt_nil (x : Nat) : cnt [] x = 0 := rfl
theorem cnt_append (l m : List (Bs × Nat)) (x : Nat) : cnt (l ++ m) x = cnt l x + cnt m x := List.countP_append
theorem cnt_one (n : Bs) (y x : Nat) : cnt [(n, y)] x = if y = x then 1 else 0 := by
 unfold cnt
 rw [List.countP_cons, List.countP_nil, Nat.zero_add]
 by_cases h : y = x
 ·simp [h]
 ·simp [h]
theorem cnt_pos {l : List (Bs × Nat)} {x : Nat} : 0 < cnt l x ↔ ∃ e ∈ l, e.2 = x := by
 unfold cnt
 rw [List.countP_pos_iff]
 simp
theorem linksTo_congr {t u : T} (x : Nat) : ∀ n, (∀ i, i < n → (t i).ents = (u i).ents) → linksTo n t x = linksTo n u x
 | 0, _ => rfl
 | n + 1, h => by
  unfold linksTo
  rw [linksTo_congr x n (fun i hi => h i (by omega)), h n (by omega)]
theorem links_congr {t u : T} (x : Nat) (h : ∀ i, (t i).ents = (u i).ents) : links t x = links u x := linksTo_congr x 201 fun i _ => h i
theorem linksTo_upd (t : T) (i : Nat) (v : Nod) (x : Nat) : ∀ n, i < n → linksTo n (upd t i v) x + cnt (t i).ents x = linksTo n t x + cnt v.ents x
 | 0, h => absurd h (Nat.not_lt_zero _)
 | n + 1, h => by
  unfold linksTo
  by_cases e : i = n
  ·subst e
   rw [upd_same, linksTo_congr (t := upd t i v) (u := t) x i (fun j hj => by rw [upd_other _ _ (by omega)])]
   omega
  ·have := linksTo_upd t i v x n (by omega)
   rw [upd_other _ _ (show n ≠ i by omega)]
   omega
theorem links_upd (t : T) (i : Nat) (v : Nod) (x : Nat) (hi : i ≤ 200) : links (upd t i v) x + cnt (t i).ents x = links t x + cnt v.ents x := linksTo_upd t i v x 201 (by omega)
theorem links_upd_same (t : T) (i : Nat) (v : Nod) (x : Nat) (h : v.ents = (t i).ents) : links (upd t i v) x = links t x :=
 links_congr x fun j => by
  by_cases e : j = i
  ·subst e; rw [upd_same, h]
  ·rw [upd_other _ _ e]
theorem linksTo_pos {t : T} {x : Nat} : ∀ n, 0 < linksTo n t x ↔ ∃ i, i < n ∧ ∃ e ∈ (t i).ents, e.2 = x
 | 0 => by constructor <;> (intro h; simp [linksTo] at h)
 | n + 1 => by
  unfold linksTo
  constructor
  ·intro h
   by_cases h0 : 0 < linksTo n t x
   ·obtain ⟨i, hi, he⟩ := (linksTo_pos n).1 h0
    exact ⟨i, by omega, he⟩
   ·exact ⟨n, by omega, cnt_pos.1 (by omega)⟩
  ·rintro ⟨i, hi, he⟩
   by_cases h0 : i < n
   ·have := (linksTo_pos n).2 ⟨i, h0, he⟩
    omega
   ·have : i = n := by omega
    subst this
    have := cnt_pos.2 he
    omega
theorem links_pos {t : T} {x : Nat} : 0 < links t x ↔ ∃ i, i ≤ 200 ∧ ∃ e ∈ (t i).ents, e.2 = x := by
 unfold links
 rw [linksTo_pos]
 constructor
 ·rintro ⟨i, hi, h⟩; exact ⟨i, by omega, h⟩
 ·rintro ⟨i, hi, h⟩; exact ⟨i, by omega, h⟩
theorem cnt_le_links {t : T} {i x : Nat} (hi : i ≤ 200) : cnt (t i).ents x ≤ links t x := by
 have h := links_upd t i noN x hi
 have : cnt noN.ents x = 0 := rfl
 omega
theorem cnt_two_le {t : T} {i j x : Nat} (hi : i ≤ 200) (hj : j ≤ 200) (hne : i ≠ j) : cnt (t i).ents x + cnt (t j).ents x ≤ links t x := by
 have h := links_upd t i noN x hi
 have h2 := cnt_le_links (t := upd t i noN) (x := x) hj
 rw [upd_other _ _ (Ne.symm hne)] at h2
 have : cnt noN.ents x = 0 := rfl
 omega
def par (t : T) (x : Nat) : Nat := (t x).parent
def iter (t : T) : Nat → Nat → Nat
 | 0, x => x
 | n + 1, x => iter t n (par t x)
theorem iter_succ (t : T) : ∀ n x, iter t (n + 1) x = par t (iter t n x)
 | 0, _ => rfl
 | n + 1, x => iter_succ t n (par t x)
theorem iter_add (t : T) : ∀ m n x, iter t (m + n) x = iter t n (iter t m x)
 | 0, n, x => by rw [Nat.zero_add]; rfl
 | m + 1, n, x => by rw [show m + 1 + n = (m + n) + 1 by omega]; exact iter_add t m n (par t x)
def Fix (t : T) (x : Nat) : Prop := par t x = x
theorem iter_fix {t : T} {x : Nat} (h : Fix t x) : ∀ n, iter t n x = x
 | 0 => rfl
 | n + 1 => by show iter t n (par t x) = x; rw [show par t x = x from h]; exact iter_fix h n
def Acyc (t : T) : Prop := ∀ x, ∃ n, Fix t (iter t n x)
theorem acyc_mono {t u : T} (h : ∀ x, par u x = x ∨ par u x = par t x ∨ (par u x = 0 ∧ par u 0 = 0)) (ha : Acyc t) : Acyc u := by
 have key : ∀ n x, Fix t (iter t n x) → ∃ m, Fix u (iter u m x) := by
  intro n
  induction n with
  | zero =>
   intro x hx
   rcases h x with h1 | h1 | ⟨h1, h2⟩
   ·exact ⟨0, h1⟩
   ·exact ⟨0, h1.trans hx⟩
   ·exact ⟨1, by show Fix u (par u x); rw [h1]; exact h2⟩
  | succ n ih =>
   intro x hx
   rcases h x with h1 | h1 | ⟨h1, h2⟩
   ·exact ⟨0, h1⟩
   ·obtain ⟨m, hm⟩ := ih (par t x) hx
    exact ⟨m + 1, by show Fix u (iter u m (par u x)); rw [h1]; exact hm⟩
   ·exact ⟨1, by show Fix u (par u x); rw [h1]; exact h2⟩
 intro x
 obtain ⟨n, hn⟩ := ha x
 exact key n x hn
def Within (t : T) (d x : Nat) : Prop := ∃ n, iter t n d = x
theorem iter_agree {t u : T} {x : Nat} (h : ∀ y, y ≠ x → par u y = par t y) (d : Nat) (hd : ¬ Within t d x) : ∀ n, iter u n d = iter t n d
 | 0 => rfl
 | n + 1 => by
  rw [iter_succ, iter_succ, iter_agree h d hd n]
  exact h _ fun e => hd ⟨n, e⟩
theorem acyc_link {t u : T} {x d : Nat} (h : ∀ y, y ≠ x → par u y = par t y) (hx : par u x = d) (hd : ¬ Within t d x) (ha : Acyc t) : Acyc u := by
 have hdfix : ∃ m, Fix u (iter u m d) := by
  obtain ⟨n, hn⟩ := ha d
  refine ⟨n, ?_⟩
  unfold Fix
  rw [iter_agree h d hd n, h _ (fun e => hd ⟨n, e⟩)]
  exact hn
 have key : ∀ n y, Fix t (iter t n y) → ∃ m, Fix u (iter u m y) := by
  intro n
  induction n with
  | zero =>
   intro y hy
   by_cases e : y = x
   ·obtain ⟨m, hm⟩ := hdfix
    exact ⟨m + 1, by show Fix u (iter u m (par u y)); rw [e, hx]; exact hm⟩
   ·exact ⟨0, (h y e).trans hy⟩
  | succ n ih =>
   intro y hy
   by_cases e : y = x
   ·obtain ⟨m, hm⟩ := hdfix
    exact ⟨m + 1, by show Fix u (iter u m (par u y)); rw [e, hx]; exact hm⟩
   ·obtain ⟨m, hm⟩ := ih (par t y) hy
    exact ⟨m + 1, by show Fix u (iter u m (par u y)); rw [h y e]; exact hm⟩
 intro y
 obtain ⟨n, hn⟩ := ha y
 exact key n y hn
theorem within_mono {t u : T} (h : ∀ x, par u x = x ∨ par u x = par t x) {d x : Nat} (hw : Within u d x) : Within t d x := by
 obtain ⟨n, hn⟩ := hw
 have key : ∀ n y, ∃ m, iter t m y = iter u n y := by
  intro n
  induction n with
  | zero => intro y; exact ⟨0, rfl⟩
  | succ n ih =>
   intro y
   rcases h y with h1 | h1
   ·obtain ⟨m, hm⟩ := ih y
    exact ⟨m, by rw [hm]; show _ = iter u n (par u y); rw [h1]⟩
   ·obtain ⟨m, hm⟩ := ih (par t y)
    exact ⟨m + 1, by show iter t m (par t y) = iter u n (par u y); rw [hm, h1]⟩
 obtain ⟨m, hm⟩ := key n d
 exact ⟨m, hm.trans hn⟩
end Go.Proofs.YtlpececggkdhmaaGreat.Ino
namespace Go.Proofs.YtlpececggkdhmaaGreat.Ino
def has (l : List (Bs × Nat)) (x : Nat) : Bool := l.any (fun e => e.2 == x)
theorem has_iff {l : List (Bs × Nat)} {x : Nat} : has l x = true ↔ 0 < cnt l x := by
 rw [cnt_pos]
 unfold has
 simp
def DelOk (t : T) (i : Nat) : Prop := 2 ≤ i ∧ i ≤ 200 ∧ (t i).is = true ∧ (t i).holds = 0 ∧ links t i = 0
def del (t : T) (i : Nat) : T := fun j => if j = i then noN else if (t j).kind = 1 ∧ has (t i).ents j = true then { t j with parent := j } else t j
theorem del_self (t : T) (i : Nat) : del t i i = noN := if_pos rfl
theorem del_in {t : T} {i j : Nat} (h : j ≠ i) (hk : (t j).kind = 1) (hh : has (t i).ents j = true) : del t i j = { t j with parent := j } := by
 unfold del; rw [if_neg h, if_pos ⟨hk, hh⟩]
theorem del_out {t : T} {i j : Nat} (h : j ≠ i) (hh : ¬ ((t j).kind = 1 ∧ has (t i).ents j = true)) : del t i j = t j := by
 unfold del; rw [if_neg h, if_neg hh]
theorem del_ents (t : T) {i j : Nat} (h : j ≠ i) : (del t i j).ents = (t j).ents := by
 unfold del; rw [if_neg h]; split <;> rfl
theorem del_kind (t : T) {i j : Nat} (h : j ≠ i) : (del t i j).kind = (t j).kind := by
 unfold del; rw [if_neg h]; split <;> rfl
theorem del_is (t : T) {i j : Nat} (h : j ≠ i) : (del t i j).is = (t j).is := by
 unfold del; rw [if_neg h]; split <;> rfl
theorem del_holds (t : T) {i j : Nat} (h : j ≠ i) : (del t i j).holds = (t j).holds := by
 unfold del; rw [if_neg h]; split <;> rfl
theorem links_del (t : T) (i x : Nat) (hi : i ≤ 200) : links (del t i) x + cnt (t i).ents x = links t x := by
 have h := links_upd t i noN x hi
 rw [show cnt noN.ents x = 0 from rfl, Nat.add_zero] at h
 rw [← h, links_congr (t := del t i) (u := upd t i noN) x]
 intro j
 by_cases e : j = i
 ·subst e; rw [del_self, upd_same]
 ·rw [del_ents t e, upd_other _ _ e]
theorem no_entry {t : T} {i j : Nat} (hj : links t j = 0) (hi : i ≤ 200) : has (t i).ents j = false := by
 cases h : has (t i).ents j
 ·rfl
 ·have := has_iff.1 h
  have := cnt_le_links (t := t) (x := j) hi
  omega
theorem del_keeps {t : T} {i j : Nat} (hi : DelOk t i) (hj : DelOk t j) (hne : j ≠ i) : del t i j = t j :=
 del_out hne fun h => by rw [no_entry hj.2.2.2.2 hi.2.1] at h; exact Bool.false_ne_true h.2
theorem delOk_after {t : T} {i j : Nat} (hi : DelOk t i) (hj : DelOk t j) (hne : j ≠ i) : DelOk (del t i) j := by
 refine ⟨hj.1, hj.2.1, ?_, ?_, ?_⟩
 ·rw [del_keeps hi hj hne]; exact hj.2.2.1
 ·rw [del_keeps hi hj hne]; exact hj.2.2.2.1
 ·have := links_del t i j hi.2.1
  have := hj.2.2.2.2
  omega
theorem del_comm {t : T} {i j : Nat} (hi : DelOk t i) (hj : DelOk t j) (hne : j ≠ i) : del (del t i) j = del (del t j) i := by
 have e1 : del t i j = t j := del_keeps hi hj hne
 have e2 : del t j i = t i := del_keeps hj hi (Ne.symm hne)
 funext k
 by_cases ki : k = i
 ·subst ki
  rw [del_self, del_out (Ne.symm hne) (by rw [del_self]; rintro ⟨h, _⟩; exact absurd h (by decide)), del_self]
 ·by_cases kj : k = j
  ·subst kj
   rw [del_self, del_out hne (by rw [del_self]; rintro ⟨h, _⟩; exact absurd h (by decide)), del_self]
  ·show (if k = j then noN else if (del t i k).kind = 1 ∧ has (del t i j).ents k = true then { del t i k with parent := k } else del t i k) =
    (if k = i then noN else if (del t j k).kind = 1 ∧ has (del t j i).ents k = true then { del t j k with parent := k } else del t j k)
   rw [if_neg kj, if_neg ki, e1, e2, del_kind t ki, del_kind t kj]
   by_cases hk : (t k).kind = 1
   ·cases h1 : has (t i).ents k <;> cases h2 : has (t j).ents k
    ·rw [del_out ki (by rw [h1]; simp), del_out kj (by rw [h2]; simp)]
    ·rw [del_out ki (by rw [h1]; simp), del_in kj hk h2]; simp [hk]
    ·rw [del_in ki hk h1, del_out kj (by rw [h2]; simp)]; simp [hk]
    ·rw [del_in ki hk h1, del_in kj hk h2]
   ·rw [del_out ki (by simp [hk]), del_out kj (by simp [hk])]; simp [hk]
def OkAll : T → List Nat → Prop
 | _, [] => True
 | t, i :: l => DelOk t i ∧ OkAll (del t i) l
def run : T → List Nat → T
 | t, [] => t
 | t, i :: l => run (del t i) l
theorem okAll_append : ∀ (l m : List Nat) (t : T), OkAll t l → OkAll (run t l) m → OkAll t (l ++ m)
 | [], _, _, _, h => h
 | i :: l, m, t, h1, h2 => ⟨h1.1, okAll_append l m (del t i) h1.2 h2⟩
theorem run_append : ∀ (l m : List Nat) (t : T), run t (l ++ m) = run (run t l) m
 | [], _, _ => rfl
 | i :: l, m, t => run_append l m (del t i)
def Normal (t : T) : Prop := ∀ i, ¬ DelOk t i
theorem run_first : ∀ (m : List Nat) (t : T) (i : Nat), DelOk t i → OkAll t m → Normal (run t m) → ∃ m', OkAll (del t i) m' ∧ run (del t i) m' = run t m
 | [], t, i, hi, _, hn => absurd hi (hn i)
 | j :: m, t, i, hi, hm, hn => by
  by_cases e : j = i
  ·subst e; exact ⟨m, hm.2, rfl⟩
  ·obtain ⟨m', h1, h2⟩ := run_first m (del t j) i (delOk_after hm.1 hi (Ne.symm e)) hm.2 hn
   have hc := del_comm hi hm.1 e
   exact ⟨j :: m', ⟨delOk_after hi hm.1 e, by rw [hc]; exact h1⟩, by show run (del (del t i) j) m' = run (del t j) m; rw [hc]; exact h2⟩
theorem run_unique : ∀ (l m : List Nat) (t : T), OkAll t l → OkAll t m → Normal (run t l) → Normal (run t m) → run t l = run t m
 | [], [], _, _, _, _, _ => rfl
 | [], j :: m, t, _, hm, hn, _ => absurd hm.1 (hn j)
 | i :: l, m, t, hl, hm, hn, hn2 => by
  obtain ⟨m', h1, h2⟩ := run_first m t i hl.1 hm hn2
  rw [← h2]
  exact run_unique l m' (del t i) hl.2 h1 hn (by rw [h2]; exact hn2)
def Gone (t u : T) : Prop := ∃ l, OkAll t l ∧ run t l = u ∧ Normal u
theorem gone_unique {t u v : T} (h : Gone t u) (k : Gone t v) : u = v := by
 obtain ⟨l, h1, rfl, h2⟩ := h
 obtain ⟨m, k1, rfl, k2⟩ := k
 exact run_unique l m t h1 k1 h2 k2
noncomputable def goneP (t : T) : T := by
 classical
 exact if h : ∃ u, Gone t u then Classical.choose h else t
theorem goneP_eq {t u : T} (h : Gone t u) : goneP t = u := by
 unfold goneP
 rw [dif_pos ⟨u, h⟩]
 exact gone_unique (Classical.choose_spec (⟨u, h⟩ : ∃ u, Gone t u)) h
def count : Nat → T → Nat
 | 0, _ => 0
 | n + 1, t => count n t + (if (t n).is then 1 else 0)
theorem count_congr {t u : T} : ∀ n, (∀ i, i < n → (t i).is = (u i).is) → count n t = count n u
 | 0, _ => rfl
 | n + 1, h => by unfold count; rw [count_congr n (fun i hi => h i (by omega)), h n (by omega)]
theorem count_del (t : T) (i : Nat) (hi : (t i).is = true) : ∀ n, i < n → count n (del t i) + 1 = count n t
 | 0, h => absurd h (Nat.not_lt_zero _)
 | n + 1, h => by
  unfold count
  by_cases e : i = n
  ·subst e
   rw [del_self, hi, count_congr (t := del t i) (u := t) i (fun j hj => del_is t (by omega))]
   simp [noN]
  ·have := count_del t i hi n (by omega)
   rw [del_is t (show n ≠ i by omega)]
   omega
theorem gone_exists (t : T) : ∃ u, Gone t u := by
 have key : ∀ n t, count 201 t = n → ∃ u, Gone t u := by
  intro n
  induction n using Nat.strongRecOn with
  | ind n ih =>
   intro t hn
   by_cases h : ∃ i, DelOk t i
   ·obtain ⟨i, hi⟩ := h
    have hc := count_del t i hi.2.2.1 201 (by have := hi.2.1; omega)
    obtain ⟨u, l, h1, h2, h3⟩ := ih _ (by omega) (del t i) rfl
    exact ⟨u, i :: l, ⟨hi, h1⟩, h2, h3⟩
   ·exact ⟨t, [], trivial, rfl, fun i hi => h ⟨i, hi⟩⟩
 exact key _ t rfl
theorem goneP_gone (t : T) : Gone t (goneP t) := by
 obtain ⟨u, hu⟩ := gone_exists t
 rw [goneP_eq hu]
 exact hu
theorem goneP_del {t : T} {i : Nat} (h : DelOk t i) : goneP (del t i) = goneP t := by
 obtain ⟨l, h1, h2, h3⟩ := goneP_gone (del t i)
 exact (goneP_eq (⟨i :: l, ⟨h, h1⟩, h2, h3⟩ : Gone t (goneP (del t i)))).symm
theorem goneP_of_normal {t : T} (h : Normal t) : goneP t = t := goneP_eq ⟨[], trivial, rfl, h⟩
end Go.Proofs.YtlpececggkdhmaaGreat.Ino
namespace Go.Proofs.YtlpececggkdhmaaGreat.Ino
def findE : List (Bs × Nat) → Bs → Option Nat
 | [], _ => none
 | e :: l, n => if e.1 = n then some e.2 else findE l n
def erE : List (Bs × Nat) → Bs → List (Bs × Nat)
 | [], _ => []
 | e :: l, n => if e.1 = n then l else e :: erE l n
theorem findE_mem : ∀ {l : List (Bs × Nat)} {n : Bs} {x : Nat}, findE l n = some x → (n, x) ∈ l
 | e :: l, n, x, h => by
  unfold findE at h
  split at h
  ·rename_i h1
   cases h
   rw [← h1]
   exact List.mem_cons_self
  ·exact List.mem_cons_of_mem _ (findE_mem h)
theorem findE_none : ∀ {l : List (Bs × Nat)} {n : Bs}, findE l n = none ↔ n ∉ l.map (·.1)
 | [], n => by simp [findE]
 | e :: l, n => by
  unfold findE
  by_cases h : e.1 = n
  ·rw [if_pos h]; simp [h]
  ·rw [if_neg h, findE_none]; simp [Ne.symm h]
theorem findE_of_mem : ∀ {l : List (Bs × Nat)} {n : Bs} {x : Nat}, (l.map (·.1)).Nodup → (n, x) ∈ l → findE l n = some x
 | e :: l, n, x, hu, h => by
  rw [List.map_cons, List.nodup_cons] at hu
  unfold findE
  rcases List.mem_cons.1 h with h | h
  ·subst h; rw [if_pos rfl]
  ·rw [if_neg, findE_of_mem hu.2 h]
   intro he
   exact hu.1 (by rw [he]; exact List.mem_map.2 ⟨_, h, rfl⟩)
theorem erE_mem : ∀ {l : List (Bs × Nat)} {n : Bs} {e : Bs × Nat}, e ∈ erE l n → e ∈ l
 | a :: l, n, e, h => by
  unfold erE at h
  split at h
  ·exact List.mem_cons_of_mem _ h
  ·rcases List.mem_cons.1 h with h | h
   ·rw [h]; exact List.mem_cons_self
   ·exact List.mem_cons_of_mem _ (erE_mem h)
theorem erE_nodup : ∀ {l : List (Bs × Nat)} {n : Bs}, (l.map (·.1)).Nodup → ((erE l n).map (·.1)).Nodup
 | [], _, h => h
 | a :: l, n, h => by
  rw [List.map_cons, List.nodup_cons] at h
  unfold erE
  split
  ·exact h.2
  ·rw [List.map_cons, List.nodup_cons]
   refine ⟨fun hm => h.1 ?_, erE_nodup h.2⟩
   obtain ⟨e, he, h2⟩ := List.mem_map.1 hm
   exact List.mem_map.2 ⟨e, erE_mem he, h2⟩
theorem erE_find : ∀ {l : List (Bs × Nat)} {n : Bs}, (l.map (·.1)).Nodup → findE (erE l n) n = none
 | [], _, _ => rfl
 | a :: l, n, h => by
  rw [List.map_cons, List.nodup_cons] at h
  unfold erE
  split
  ·rename_i h1
   rw [findE_none, ← h1]
   exact h.1
  ·rename_i h1
   unfold findE
   rw [if_neg h1]
   exact erE_find h.2
theorem erE_other : ∀ {l : List (Bs × Nat)} {n m : Bs}, m ≠ n → findE (erE l n) m = findE l m
 | [], _, _, _ => rfl
 | a :: l, n, m, h => by
  unfold erE
  split
  ·rename_i h1
   show _ = if a.1 = m then some a.2 else findE l m
   rw [if_neg (by rw [h1]; exact Ne.symm h)]
  ·show (if a.1 = m then some a.2 else findE (erE l n) m) = if a.1 = m then some a.2 else findE l m
   rw [erE_other h]
theorem erE_length : ∀ {l : List (Bs × Nat)} {n : Bs} {x : Nat}, findE l n = some x → (erE l n).length + 1 = l.length
 | a :: l, n, x, h => by
  unfold findE at h
  unfold erE
  split at h
  ·rename_i h1; rw [if_pos h1]; rfl
  ·rename_i h1; rw [if_neg h1, List.length_cons, List.length_cons, erE_length h]
theorem erE_le (l : List (Bs × Nat)) (n : Bs) : (erE l n).length ≤ l.length := by
 cases h : findE l n with
 | some x => have := erE_length h; omega
 | none =>
  induction l with
  | nil => exact Nat.le_refl _
  | cons a l ih =>
   unfold findE at h
   unfold erE
   split at h
   ·cases h
   ·rename_i h1
    rw [if_neg h1, List.length_cons, List.length_cons]
    have := ih h
    omega
theorem erE_cnt : ∀ {l : List (Bs × Nat)} {n : Bs} {x : Nat} (y : Nat), findE l n = some x → cnt (erE l n) y + (if x = y then 1 else 0) = cnt l y
 | a :: l, n, x, y, h => by
  have hc : cnt (a :: l) y = cnt l y + (if a.2 = y then 1 else 0) := by
   rw [show a :: l = [a] ++ l from rfl, cnt_append, show [a] = [(a.1, a.2)] from rfl, cnt_one]; omega
  unfold findE at h
  unfold erE
  split at h
  ·rename_i h1
   cases h
   rw [if_pos h1, hc]
  ·rename_i h1
   rw [if_neg h1]
   have hc2 : cnt (a :: erE l n) y = cnt (erE l n) y + (if a.2 = y then 1 else 0) := by
    rw [show a :: erE l n = [a] ++ erE l n from rfl, cnt_append, show [a] = [(a.1, a.2)] from rfl, cnt_one]; omega
   rw [hc, hc2]
   have := erE_cnt y h
   omega
def nameOk (n : Bs) : Bool := decide (1 ≤ n.length ∧ n.length ≤ 14) && (n != [46] && (n != [46, 46] && n.all (fun c => !(decide (c < 32) || c == 127 || c == 47))))
structure Sd (t : T) : Prop where
 root : (t 1).is = true ∧ (t 1).kind = 1 ∧ links t 1 = 0
 none_ : ∀ i, (t i).is = false → t i = noN
 range : ∀ i, (t i).is = true → 1 ≤ i ∧ i ≤ 200
 tgt : ∀ i e, e ∈ (t i).ents → (t e.2).is = true
 dirs : ∀ i, (t i).ents ≠ [] → (t i).kind = 1
 uniq : ∀ i, ((t i).ents.map (·.1)).Nodup
 len : ∀ i, (t i).ents.length ≤ 40
 ok : ∀ i e, e ∈ (t i).ents → nameOk e.1 = true
 one : ∀ x, (t x).kind = 1 → links t x ≤ 1
 eight : ∀ x, links t x ≤ 8
 dpar : ∀ x, (t x).kind = 1 → (links t x = 0 ∧ (t x).parent = x) ∨ ((t x).parent ≠ x ∧ 0 < cnt (t (t x).parent).ents x)
 npar : ∀ x, (t x).kind ≠ 1 → (t x).parent = 0
 acyc : Acyc t
 kinds : ∀ x, (t x).kind = 0 ∨ (t x).kind = 1 ∨ (t x).kind = 2
 file : ∀ x, (t x).kind ≠ 0 → (t x).data = []
 size : ∀ x, (t x).data.length ≤ 4096
theorem Sd.zero {t : T} (h : Sd t) : t 0 = noN := h.none_ 0 (by
 cases h0 : (t 0).is
 ·rfl
 ·have := h.range 0 h0; omega)
theorem Sd.out {t : T} (h : Sd t) {i : Nat} (hi : 200 < i) : t i = noN := h.none_ i (by
 cases h0 : (t i).is
 ·rfl
 ·have := h.range i h0; omega)
theorem Sd.ents_is {t : T} (h : Sd t) {i : Nat} {e : Bs × Nat} (he : e ∈ (t i).ents) : (t i).is = true := by
 cases h0 : (t i).is
 ·rw [h.none_ i h0] at he; cases he
 ·rfl
theorem Sd.cnt_le {t : T} (h : Sd t) (i x : Nat) : cnt (t i).ents x ≤ links t x := by
 by_cases hi : i ≤ 200
 ·exact cnt_le_links hi
 ·rw [h.out (by omega)]; exact Nat.zero_le _
theorem Sd.links_none {t : T} (h : Sd t) {x : Nat} (hx : (t x).is = false) : links t x = 0 := by
 by_cases h0 : 0 < links t x
 ·obtain ⟨i, _, e, he, rfl⟩ := links_pos.1 h0
  rw [h.tgt i e he] at hx
  cases hx
 ·omega
theorem Sd.root_par {t : T} (h : Sd t) : (t 1).parent = 1 := by
 rcases h.dpar 1 h.root.2.1 with h1 | h1
 ·exact h1.2
 ·have := h.cnt_le (t 1).parent 1
  have := h.root.2.2
  have := h1.2
  omega
theorem Sd.del {t : T} (h : Sd t) {i : Nat} (hi : DelOk t i) : Sd (del t i) := by
 have hle : ∀ x, links (Ino.del t i) x ≤ links t x := fun x => by have := links_del t i x hi.2.1; omega
 have h1 : (1 : Nat) ≠ i := by have := hi.1; omega
 have hk : ∀ x, (Ino.del t i x).kind = 1 → x ≠ i ∧ (t x).kind = 1 := fun x hx => by
  by_cases e : x = i
  ·subst e; rw [del_self] at hx; exact absurd hx (by decide)
  ·rw [del_kind t e] at hx; exact ⟨e, hx⟩
 refine ⟨⟨?_, ?_, ?_⟩, ?_, ?_, ?_, ?_, ?_, ?_, ?_, ?_, ?_, ?_, ?_, ?_, ?_, ?_, ?_⟩
 ·rw [del_is t h1]; exact h.root.1
 ·rw [del_kind t h1]; exact h.root.2.1
 ·have := hle 1; have := h.root.2.2; omega
 ·intro j hj
  by_cases e : j = i
  ·subst e; exact del_self t j
  ·rw [del_is t e] at hj
   have hn := h.none_ j hj
   rw [del_out e (by rw [hn]; rintro ⟨hk, _⟩; exact absurd hk (by decide)), hn]
 ·intro j hj
  by_cases e : j = i
  ·subst e; rw [del_self] at hj; cases hj
  ·rw [del_is t e] at hj; exact h.range j hj
 ·intro j e he
  by_cases ej : j = i
  ·subst ej; rw [del_self] at he; cases he
  ·rw [del_ents t ej] at he
   have hx := h.tgt j e he
   have hne : e.2 ≠ i := by
    intro hh
    have h2 := (links_pos (t := t) (x := i)).2 ⟨j, (h.range j (h.ents_is he)).2, e, he, hh⟩
    have := hi.2.2.2.2
    omega
   rw [del_is t hne]; exact hx
 ·intro j hj
  by_cases e : j = i
  ·subst e; rw [del_self] at hj; exact absurd rfl hj
  ·rw [del_ents t e] at hj; rw [del_kind t e]; exact h.dirs j hj
 ·intro j
  by_cases e : j = i
  ·subst e; rw [del_self]; exact List.nodup_nil
  ·rw [del_ents t e]; exact h.uniq j
 ·intro j
  by_cases e : j = i
  ·subst e; rw [del_self]; exact Nat.zero_le _
  ·rw [del_ents t e]; exact h.len j
 ·intro j e he
  by_cases ej : j = i
  ·subst ej; rw [del_self] at he; cases he
  ·rw [del_ents t ej] at he; exact h.ok j e he
 ·intro x hx
  have := hle x; have := h.one x (hk x hx).2; omega
 ·intro x; have := hle x; have := h.eight x; omega
 ·intro x hx
  obtain ⟨hxi, hxk⟩ := hk x hx
  have hl := links_del t i x hi.2.1
  cases hh : has (t i).ents x
  ·rw [del_out hxi (by rw [hh]; simp)]
   rcases h.dpar x hxk with h2 | ⟨h3, h2⟩
   ·left; exact ⟨by omega, h2.2⟩
   ·right
    have hp : (t x).parent ≠ i := by
     intro e; rw [e] at h2; rw [has_iff.2 h2] at hh; cases hh
    refine ⟨h3, ?_⟩
    rw [del_ents t hp]; exact h2
  ·left
   have := has_iff.1 hh
   have := h.one x hxk
   exact ⟨by omega, by rw [del_in hxi hxk hh]⟩
 ·intro x hx
  by_cases e : x = i
  ·subst e; rw [del_self]; rfl
  ·rw [del_kind t e] at hx
   rw [del_out e (by rintro ⟨hk, _⟩; exact hx hk)]
   exact h.npar x hx
 ·refine acyc_mono (fun x => ?_) h.acyc
  by_cases e : x = i
  ·subst e
   right; right
   refine ⟨by show (Ino.del t x x).parent = 0; rw [del_self]; rfl, ?_⟩
   show (Ino.del t x 0).parent = 0
   have h0 := h.zero
   rw [del_out (by have := hi.1; omega) (by rw [h0]; rintro ⟨hk, _⟩; exact absurd hk (by decide)), h0]
   rfl
  ·by_cases hc : (t x).kind = 1 ∧ has (t i).ents x = true
   ·left; show (Ino.del t i x).parent = x; rw [del_in e hc.1 hc.2]
   ·right; left; show (Ino.del t i x).parent = (t x).parent; rw [del_out e hc]
 ·intro x
  by_cases e : x = i
  ·subst e; rw [del_self]; exact .inl rfl
  ·rw [del_kind t e]; exact h.kinds x
 ·intro x hx
  by_cases e : x = i
  ·subst e; rw [del_self]; rfl
  ·rw [del_kind t e] at hx
   show (Ino.del t i x).data = []
   unfold Ino.del; rw [if_neg e]; split
   ·exact h.file x hx
   ·exact h.file x hx
 ·intro x
  by_cases e : x = i
  ·subst e; rw [del_self]; exact Nat.zero_le _
  ·unfold Ino.del; rw [if_neg e]; split
   ·exact h.size x
   ·exact h.size x
theorem Sd.runs : ∀ (l : List Nat) (t : T), Sd t → OkAll t l → Sd (run t l)
 | [], _, h, _ => h
 | i :: l, t, h, ho => Sd.runs l (Ino.del t i) (h.del ho.1) ho.2
structure Sound (t : T) : Prop where
 sd : Sd t
 alive : Normal t
theorem Sd.gone {t : T} (h : Sd t) : Sound (goneP t) := by
 obtain ⟨l, h1, h2, h3⟩ := goneP_gone t
 rw [← h2] at h3 ⊢
 exact ⟨Sd.runs l t h h1, h3⟩
end Go.Proofs.YtlpececggkdhmaaGreat.Ino
namespace Go.Proofs.YtlpececggkdhmaaGreat.Ino
theorem Sd.scalar {t : T} (h : Sd t) {i : Nat} {v : Nod} (hi : (t i).is = true) (v1 : v.is = true) (v2 : v.kind = (t i).kind) (v3 : v.parent = (t i).parent) (v4 : v.ents = (t i).ents) (v5 : v.kind ≠ 0 → v.data = []) (v6 : v.data.length ≤ 4096) : Sd (upd t i v) := by
 have hl : ∀ x, links (upd t i v) x = links t x := fun x => links_upd_same t i v x v4
 have hk : ∀ x, (upd t i v x).kind = (t x).kind := fun x => by
  by_cases e : x = i
  ·subst e; rw [upd_same, v2]
  ·rw [upd_other _ _ e]
 have hs : ∀ x, (upd t i v x).is = (t x).is := fun x => by
  by_cases e : x = i
  ·subst e; rw [upd_same, v1, hi]
  ·rw [upd_other _ _ e]
 have hp : ∀ x, (upd t i v x).parent = (t x).parent := fun x => by
  by_cases e : x = i
  ·subst e; rw [upd_same, v3]
  ·rw [upd_other _ _ e]
 have he : ∀ x, (upd t i v x).ents = (t x).ents := fun x => by
  by_cases e : x = i
  ·subst e; rw [upd_same, v4]
  ·rw [upd_other _ _ e]
 refine ⟨⟨by rw [hs]; exact h.root.1, by rw [hk]; exact h.root.2.1, by rw [hl]; exact h.root.2.2⟩, ?_, fun x hx => h.range x (by rw [← hs]; exact hx), ?_, ?_, fun x => by rw [he]; exact h.uniq x, fun x => by rw [he]; exact h.len x, ?_, ?_, fun x => by rw [hl]; exact h.eight x, ?_, ?_, ?_, fun x => by rw [hk]; exact h.kinds x, ?_, ?_⟩
 ·intro j hj
  rw [hs] at hj
  have : j ≠ i := by rintro rfl; rw [hi] at hj; cases hj
  rw [upd_other _ _ this]; exact h.none_ j hj
 ·intro j e hje; rw [he] at hje; rw [hs]; exact h.tgt j e hje
 ·intro j hj; rw [he] at hj; rw [hk]; exact h.dirs j hj
 ·intro j e hje; rw [he] at hje; exact h.ok j e hje
 ·intro x hx; rw [hk] at hx; rw [hl]; exact h.one x hx
 ·intro x hx
  rw [hk] at hx
  rw [hl, hp, he]; exact h.dpar x hx
 ·intro x hx; rw [hk] at hx; rw [hp]; exact h.npar x hx
 ·exact acyc_mono (fun x => .inr (.inl (hp x))) h.acyc
 ·intro x hx
  by_cases e : x = i
  ·subst e; rw [upd_same] at hx ⊢; exact v5 hx
  ·rw [upd_other _ _ e] at hx ⊢; exact h.file x hx
 ·intro x
  by_cases e : x = i
  ·subst e; rw [upd_same]; exact v6
  ·rw [upd_other _ _ e]; exact h.size x
theorem Sd.make {t : T} (h : Sd t) {i : Nat} {v : Nod} (h1 : 1 ≤ i) (h2 : i ≤ 200) (hi : (t i).is = false) (v1 : v.is = true) (v2 : v.kind = 0 ∨ v.kind = 1 ∨ v.kind = 2) (v3 : v.parent = if v.kind = 1 then i else 0) (v4 : v.ents = []) (v5 : v.data = []) : Sd (upd t i v) := by
 have hn := h.none_ i hi
 have he : ∀ x, (upd t i v x).ents = (t x).ents := fun x => by
  by_cases e : x = i
  ·subst e; rw [upd_same, v4, hn]; rfl
  ·rw [upd_other _ _ e]
 have hl : ∀ x, links (upd t i v) x = links t x := fun x => links_congr x he
 have hli := h.links_none hi
 have h1i : (1 : Nat) ≠ i := by rintro rfl; rw [h.root.1] at hi; cases hi
 refine ⟨⟨by rw [upd_other _ _ h1i]; exact h.root.1, by rw [upd_other _ _ h1i]; exact h.root.2.1, by rw [hl]; exact h.root.2.2⟩, ?_, ?_, ?_, ?_, fun x => by rw [he]; exact h.uniq x, fun x => by rw [he]; exact h.len x, ?_, ?_, fun x => by rw [hl]; exact h.eight x, ?_, ?_, ?_, ?_, ?_, ?_⟩
 ·intro j hj
  by_cases e : j = i
  ·subst e; rw [upd_same, v1] at hj; cases hj
  ·rw [upd_other _ _ e] at hj ⊢; exact h.none_ j hj
 ·intro j hj
  by_cases e : j = i
  ·subst e; exact ⟨h1, h2⟩
  ·rw [upd_other _ _ e] at hj; exact h.range j hj
 ·intro j e hje
  rw [he] at hje
  have := h.tgt j e hje
  by_cases ee : e.2 = i
  ·rw [ee, upd_same]; exact v1
  ·rw [upd_other _ _ ee]; exact this
 ·intro j hj
  rw [he] at hj
  have hd := h.dirs j hj
  by_cases e : j = i
  ·subst e; rw [hn] at hd; exact absurd hd (by decide)
  ·rw [upd_other _ _ e]; exact hd
 ·intro j e hje; rw [he] at hje; exact h.ok j e hje
 ·intro x hx
  rw [hl]
  by_cases e : x = i
  ·subst e; omega
  ·rw [upd_other _ _ e] at hx; exact h.one x hx
 ·intro x hx
  rw [hl, he]
  by_cases e : x = i
  ·subst e
   left
   refine ⟨hli, ?_⟩
   rw [upd_same] at hx ⊢
   rw [v3, if_pos hx]
  ·rw [upd_other _ _ e] at hx ⊢; exact h.dpar x hx
 ·intro x hx
  by_cases e : x = i
  ·subst e; rw [upd_same] at hx ⊢; rw [v3, if_neg hx]
  ·rw [upd_other _ _ e] at hx ⊢; exact h.npar x hx
 ·have hz : par (upd t i v) 0 = 0 := by
   show (upd t i v 0).parent = 0
   rw [upd_other _ _ (by omega), h.zero]; rfl
  refine acyc_mono (fun x => ?_) h.acyc
  by_cases e : x = i
  ·subst e
   by_cases k : v.kind = 1
   ·left; show (upd t x v x).parent = x; rw [upd_same, v3, if_pos k]
   ·right; right; exact ⟨by show (upd t x v x).parent = 0; rw [upd_same, v3, if_neg k], hz⟩
  ·right; left; show (upd t i v x).parent = (t x).parent; rw [upd_other _ _ e]
 ·intro x
  by_cases e : x = i
  ·subst e; rw [upd_same]; exact v2
  ·rw [upd_other _ _ e]; exact h.kinds x
 ·intro x hx
  by_cases e : x = i
  ·subst e; rw [upd_same]; exact v5
  ·rw [upd_other _ _ e] at hx ⊢; exact h.file x hx
 ·intro x
  by_cases e : x = i
  ·subst e; rw [upd_same, v5]; exact Nat.zero_le _
  ·rw [upd_other _ _ e]; exact h.size x
def setPar (t : T) (x p : Nat) : T := fun j => if j = x ∧ (t j).kind = 1 then { t j with parent := p } else t j
theorem setPar_ents (t : T) (x p j : Nat) : (setPar t x p j).ents = (t j).ents := by unfold setPar; split <;> rfl
theorem setPar_kind (t : T) (x p j : Nat) : (setPar t x p j).kind = (t j).kind := by unfold setPar; split <;> rfl
theorem setPar_is (t : T) (x p j : Nat) : (setPar t x p j).is = (t j).is := by unfold setPar; split <;> rfl
theorem setPar_holds (t : T) (x p j : Nat) : (setPar t x p j).holds = (t j).holds := by unfold setPar; split <;> rfl
theorem setPar_data (t : T) (x p j : Nat) : (setPar t x p j).data = (t j).data := by unfold setPar; split <;> rfl
theorem setPar_other (t : T) (x p : Nat) {j : Nat} (h : j ≠ x) : setPar t x p j = t j := by unfold setPar; rw [if_neg]; rintro ⟨e, _⟩; exact h e
theorem setPar_not (t : T) (x p : Nat) (h : (t x).kind ≠ 1) : setPar t x p = t := by
 funext j
 unfold setPar
 rw [if_neg]
 rintro ⟨rfl, k⟩
 exact h k
theorem setPar_self (t : T) (x p : Nat) (h : (t x).kind = 1) : setPar t x p = upd t x { t x with parent := p } := by
 funext j
 unfold setPar upd
 by_cases e : j = x
 ·subst e; rw [if_pos ⟨rfl, h⟩, if_pos rfl]
 ·rw [if_neg (by rintro ⟨e2, _⟩; exact e e2), if_neg e]
def setEnts (t : T) (d : Nat) (l : List (Bs × Nat)) : T := upd t d { t d with ents := l }
theorem setEnts_ents (t : T) (d : Nat) (l : List (Bs × Nat)) (j : Nat) : (setEnts t d l j).ents = if j = d then l else (t j).ents := by
 unfold setEnts upd; split <;> rfl
theorem setEnts_kind (t : T) (d : Nat) (l : List (Bs × Nat)) (j : Nat) : (setEnts t d l j).kind = (t j).kind := by
 unfold setEnts upd; split
 ·rename_i h; rw [h]
 ·rfl
theorem setEnts_is (t : T) (d : Nat) (l : List (Bs × Nat)) (j : Nat) : (setEnts t d l j).is = (t j).is := by
 unfold setEnts upd; split
 ·rename_i h; rw [h]
 ·rfl
theorem setEnts_par (t : T) (d : Nat) (l : List (Bs × Nat)) (j : Nat) : (setEnts t d l j).parent = (t j).parent := by
 unfold setEnts upd; split
 ·rename_i h; rw [h]
 ·rfl
theorem setEnts_holds (t : T) (d : Nat) (l : List (Bs × Nat)) (j : Nat) : (setEnts t d l j).holds = (t j).holds := by
 unfold setEnts upd; split
 ·rename_i h; rw [h]
 ·rfl
theorem setEnts_data (t : T) (d : Nat) (l : List (Bs × Nat)) (j : Nat) : (setEnts t d l j).data = (t j).data := by
 unfold setEnts upd; split
 ·rename_i h; rw [h]
 ·rfl
def rem (t : T) (d : Nat) (n : Bs) (x : Nat) : T := setPar (setEnts t d (erE (t d).ents n)) x x
def add (t : T) (d : Nat) (n : Bs) (x : Nat) : T := setPar (setEnts t d ((t d).ents ++ [(n, x)])) x d
theorem rem_ents (t : T) (d : Nat) (n : Bs) (x j : Nat) : (rem t d n x j).ents = if j = d then erE (t d).ents n else (t j).ents := by
 unfold rem; rw [setPar_ents, setEnts_ents]
theorem add_ents (t : T) (d : Nat) (n : Bs) (x j : Nat) : (add t d n x j).ents = if j = d then (t d).ents ++ [(n, x)] else (t j).ents := by
 unfold add; rw [setPar_ents, setEnts_ents]
theorem rem_kind (t : T) (d : Nat) (n : Bs) (x j : Nat) : (rem t d n x j).kind = (t j).kind := by unfold rem; rw [setPar_kind, setEnts_kind]
theorem add_kind (t : T) (d : Nat) (n : Bs) (x j : Nat) : (add t d n x j).kind = (t j).kind := by unfold add; rw [setPar_kind, setEnts_kind]
theorem rem_is (t : T) (d : Nat) (n : Bs) (x j : Nat) : (rem t d n x j).is = (t j).is := by unfold rem; rw [setPar_is, setEnts_is]
theorem add_is (t : T) (d : Nat) (n : Bs) (x j : Nat) : (add t d n x j).is = (t j).is := by unfold add; rw [setPar_is, setEnts_is]
theorem rem_holds (t : T) (d : Nat) (n : Bs) (x j : Nat) : (rem t d n x j).holds = (t j).holds := by unfold rem; rw [setPar_holds, setEnts_holds]
theorem add_holds (t : T) (d : Nat) (n : Bs) (x j : Nat) : (add t d n x j).holds = (t j).holds := by unfold add; rw [setPar_holds, setEnts_holds]
theorem rem_data (t : T) (d : Nat) (n : Bs) (x j : Nat) : (rem t d n x j).data = (t j).data := by unfold rem; rw [setPar_data, setEnts_data]
theorem add_data (t : T) (d : Nat) (n : Bs) (x j : Nat) : (add t d n x j).data = (t j).data := by unfold add; rw [setPar_data, setEnts_data]
theorem setPar_par (t : T) (x p j : Nat) : (setPar t x p j).parent = if j = x ∧ (t j).kind = 1 then p else (t j).parent := by unfold setPar; split <;> rfl
theorem rem_par (t : T) (d : Nat) (n : Bs) (x j : Nat) : (rem t d n x j).parent = if j = x ∧ (t j).kind = 1 then x else (t j).parent := by
 unfold rem; rw [setPar_par, setEnts_kind, setEnts_par]
theorem add_par (t : T) (d : Nat) (n : Bs) (x j : Nat) : (add t d n x j).parent = if j = x ∧ (t j).kind = 1 then d else (t j).parent := by
 unfold add; rw [setPar_par, setEnts_kind, setEnts_par]
theorem links_setEnts (t : T) (d : Nat) (l : List (Bs × Nat)) (y : Nat) (hd : d ≤ 200) : links (setEnts t d l) y + cnt (t d).ents y = links t y + cnt l y := links_upd t d _ y hd
theorem links_setPar (t : T) (x p y : Nat) : links (setPar t x p) y = links t y := links_congr y fun j => setPar_ents t x p j
theorem links_rem {t : T} {d : Nat} {n : Bs} {x : Nat} (hd : d ≤ 200) (hf : findE (t d).ents n = some x) (y : Nat) : links (rem t d n x) y + (if x = y then 1 else 0) = links t y := by
 have h1 := links_setEnts t d (erE (t d).ents n) y hd
 have h2 := erE_cnt y hf
 unfold rem
 rw [links_setPar]
 omega
theorem links_add {t : T} {d : Nat} {n : Bs} {x : Nat} (hd : d ≤ 200) (y : Nat) : links (add t d n x) y = links t y + (if x = y then 1 else 0) := by
 have h1 := links_setEnts t d ((t d).ents ++ [(n, x)]) y hd
 rw [cnt_append, cnt_one] at h1
 unfold add
 rw [links_setPar]
 omega
theorem Sd.rem {t : T} (h : Sd t) {d : Nat} {n : Bs} {x : Nat} (hf : findE (t d).ents n = some x) : Sd (rem t d n x) := by
 have hm := findE_mem hf
 have hd2 := (h.range d (h.ents_is hm)).2
 have hl := links_rem hd2 hf
 have hle : ∀ y, links (Ino.rem t d n x) y ≤ links t y := fun y => by have := hl y; omega
 have hsub : ∀ j e, e ∈ (Ino.rem t d n x j).ents → e ∈ (t j).ents := fun j e he => by
  rw [rem_ents] at he
  split at he
  ·rename_i hj; rw [hj]; exact erE_mem he
  ·exact he
 refine ⟨⟨by rw [rem_is]; exact h.root.1, by rw [rem_kind]; exact h.root.2.1, by have := hle 1; have := h.root.2.2; omega⟩, ?_, fun j hj => h.range j (by rw [← rem_is t d n x j]; exact hj), fun j e he => by rw [rem_is]; exact h.tgt j e (hsub j e he), ?_, ?_, ?_, fun j e he => h.ok j e (hsub j e he), ?_, ?_, ?_, ?_, ?_, fun j => by rw [rem_kind]; exact h.kinds j, fun j hj => by rw [rem_kind] at hj; rw [rem_data]; exact h.file j hj, fun j => by rw [rem_data]; exact h.size j⟩
 ·intro j hj
  rw [rem_is] at hj
  have hn := h.none_ j hj
  have hjd : j ≠ d := by rintro rfl; rw [h.ents_is hm] at hj; cases hj
  unfold Ino.rem setPar
  rw [if_neg (by rw [setEnts_kind, hn]; rintro ⟨_, k⟩; exact absurd k (by decide))]
  unfold setEnts
  rw [upd_other _ _ hjd, hn]
 ·intro j hj
  rw [rem_kind]
  refine h.dirs j fun e => hj ?_
  rw [rem_ents, e]
  split
  ·rename_i hjd; rw [← hjd, e]; rfl
  ·rfl
 ·intro j
  rw [rem_ents]
  split
  ·exact erE_nodup (h.uniq d)
  ·exact h.uniq j
 ·intro j
  rw [rem_ents]
  split
  ·have := erE_le (t d).ents n; have := h.len d; omega
  ·exact h.len j
 ·intro y hy; rw [rem_kind] at hy; have := hle y; have := h.one y hy; omega
 ·intro y; have := hle y; have := h.eight y; omega
 ·intro y hy
  rw [rem_kind] at hy
  by_cases e : y = x
  ·subst e
   left
   have h1 := hl y
   rw [if_pos rfl] at h1
   have := h.one y hy
   exact ⟨by omega, by rw [rem_par, if_pos ⟨rfl, hy⟩]⟩
  ·have hp : (Ino.rem t d n x y).parent = (t y).parent := by rw [rem_par, if_neg (by rintro ⟨e2, _⟩; exact e e2)]
   rw [hp]
   have h1 := hl y
   rw [if_neg (Ne.symm e)] at h1
   rcases h.dpar y hy with h2 | ⟨h4, h2⟩
   ·left; exact ⟨by omega, h2.2⟩
   ·right
    refine ⟨h4, ?_⟩
    rw [rem_ents]
    split
    ·rename_i hpd
     have h3 := erE_cnt y hf
     rw [if_neg (Ne.symm e)] at h3
     rw [hpd] at h2
     omega
    ·exact h2
 ·intro y hy
  rw [rem_kind] at hy
  rw [rem_par, if_neg (by rintro ⟨_, k⟩; exact hy k)]
  exact h.npar y hy
 ·refine acyc_mono (fun y => ?_) h.acyc
  by_cases e : y = x ∧ (t y).kind = 1
  ·left; show (Ino.rem t d n x y).parent = y; rw [rem_par, if_pos e]; exact e.1.symm
  ·right; left; show (Ino.rem t d n x y).parent = (t y).parent; rw [rem_par, if_neg e]
theorem Sd.add {t : T} (h : Sd t) {d : Nat} {n : Bs} {x : Nat} (hd : (t d).is = true) (hk : (t d).kind = 1) (hx : (t x).is = true) (hx1 : x ≠ 1) (hn : nameOk n = true) (hf : findE (t d).ents n = none)
 (hdir : (t x).kind = 1 → links t x = 0 ∧ ¬ Within t d x) (h8 : links t x < 8) (h40 : (t d).ents.length < 40) : Sd (add t d n x) := by
 have hd2 := (h.range d hd).2
 have hl := links_add (t := t) (n := n) (x := x) hd2
 have hmem : ∀ j e, e ∈ (Ino.add t d n x j).ents → e ∈ (t j).ents ∨ (j = d ∧ e = (n, x)) := fun j e he => by
  rw [add_ents] at he
  split at he
  ·rename_i hj
   rcases List.mem_append.1 he with h1 | h1
   ·left; rw [hj]; exact h1
   ·right; exact ⟨hj, by simpa using h1⟩
  ·exact .inl he
 refine ⟨⟨by rw [add_is]; exact h.root.1, by rw [add_kind]; exact h.root.2.1, by rw [hl 1, if_neg hx1, Nat.add_zero]; exact h.root.2.2⟩, ?_, fun j hj => h.range j (by rw [← add_is t d n x j]; exact hj), ?_, ?_, ?_, ?_, ?_, ?_, ?_, ?_, ?_, ?_, fun j => by rw [add_kind]; exact h.kinds j, fun j hj => by rw [add_kind] at hj; rw [add_data]; exact h.file j hj, fun j => by rw [add_data]; exact h.size j⟩
 ·intro j hj
  rw [add_is] at hj
  have hn2 := h.none_ j hj
  have hjd : j ≠ d := by rintro rfl; rw [hd] at hj; cases hj
  unfold Ino.add setPar
  rw [if_neg (by rw [setEnts_kind, hn2]; rintro ⟨_, k⟩; exact absurd k (by decide))]
  unfold setEnts
  rw [upd_other _ _ hjd, hn2]
 ·intro j e he
  rw [add_is]
  rcases hmem j e he with h1 | ⟨_, rfl⟩
  ·exact h.tgt j e h1
  ·exact hx
 ·intro j hj
  rw [add_kind]
  rw [add_ents] at hj
  split at hj
  ·rename_i e; rw [e]; exact hk
  ·exact h.dirs j hj
 ·intro j
  rw [add_ents]
  split
  ·rw [List.map_append, List.nodup_append]
   refine ⟨h.uniq d, by simp, ?_⟩
   intro a ha b hb
   have hb' : b = n := by simpa using hb
   rw [hb']
   rintro rfl
   exact findE_none.1 hf ha
  ·exact h.uniq j
 ·intro j
  rw [add_ents]
  split
  ·rw [List.length_append]; simp; omega
  ·exact h.len j
 ·intro j e he
  rcases hmem j e he with h1 | ⟨_, rfl⟩
  ·exact h.ok j e h1
  ·exact hn
 ·intro y hy
  rw [add_kind] at hy
  rw [hl]
  have := h.one y hy
  split
  ·rename_i e; subst e; have := (hdir hy).1; omega
  ·omega
 ·intro y
  rw [hl]
  have := h.eight y
  split
  ·rename_i e; subst e; omega
  ·omega
 ·intro y hy
  rw [add_kind] at hy
  by_cases e : y = x
  ·subst e
   right
   rw [add_par, if_pos ⟨rfl, hy⟩, add_ents, if_pos rfl, cnt_append, cnt_one, if_pos rfl]
   exact ⟨fun e => (hdir hy).2 ⟨0, e⟩, by omega⟩
  ·have hp : (Ino.add t d n x y).parent = (t y).parent := by rw [add_par, if_neg (by rintro ⟨e2, _⟩; exact e e2)]
   rw [hp, hl, if_neg (Ne.symm e), Nat.add_zero]
   rcases h.dpar y hy with h2 | ⟨h4, h2⟩
   ·left; exact h2
   ·right
    refine ⟨h4, ?_⟩
    rw [add_ents]
    split
    ·rename_i hpd; rw [hpd] at h2; rw [cnt_append]; omega
    ·exact h2
 ·intro y hy
  rw [add_kind] at hy
  rw [add_par, if_neg (by rintro ⟨_, k⟩; exact hy k)]
  exact h.npar y hy
 ·by_cases hxk : (t x).kind = 1
  ·refine acyc_link (t := t) (x := x) (d := d) (fun y hy => ?_) ?_ (hdir hxk).2 h.acyc
   ·show (Ino.add t d n x y).parent = (t y).parent; rw [add_par, if_neg (by rintro ⟨e, _⟩; exact hy e)]
   ·show (Ino.add t d n x x).parent = d; rw [add_par, if_pos ⟨rfl, hxk⟩]
  ·refine acyc_mono (fun y => .inr (.inl ?_)) h.acyc
   show (Ino.add t d n x y).parent = (t y).parent
   rw [add_par, if_neg (by rintro ⟨e, k⟩; rw [e] at k; exact hxk k)]
end Go.Proofs.YtlpececggkdhmaaGreat.Ino
namespace Go.Proofs.YtlpececggkdhmaaGreat.Ino
def isI (t : T) (i : Int) : Bool := decide (1 ≤ i ∧ i ≤ 200) && (t i.toNat).is
def isD (t : T) (i : Int) : Bool := isI t i && decide ((t i.toNat).kind = 1)
theorem isI_iff {t : T} {i : Int} : isI t i = true ↔ (1 ≤ i ∧ i ≤ 200) ∧ (t i.toNat).is = true := by simp [isI]
theorem isI_cast {t : T} (h : Sd t) (i : Nat) : isI t (i : Int) = (t i).is := by
 cases hi : (t i).is
 ·simp [isI, hi]
 ·have := h.range i hi
  simp [isI, hi]; omega
def freeUp : Nat → Nat → T → Option Nat
 | 0, _, _ => none
 | n + 1, i, t => if (t i).is then freeUp n (i + 1) t else some i
def freeP (t : T) : Option Nat := freeUp 200 1 t
theorem freeUp_some : ∀ {n i : Nat} {t : T} {k : Nat}, freeUp n i t = some k → i ≤ k ∧ k < i + n ∧ (t k).is = false ∧ ∀ j, i ≤ j → j < k → (t j).is = true
 | n + 1, i, t, k, h => by
  unfold freeUp at h
  cases hi : (t i).is
  ·rw [hi, if_neg Bool.false_ne_true] at h
   cases h
   exact ⟨Nat.le_refl _, by omega, hi, fun j h1 h2 => by omega⟩
  ·rw [hi, if_pos rfl] at h
   obtain ⟨h1, h2, h3, h4⟩ := freeUp_some h
   refine ⟨by omega, by omega, h3, fun j hj1 hj2 => ?_⟩
   by_cases e : j = i
   ·rw [e]; exact hi
   ·exact h4 j (by omega) hj2
theorem freeUp_is : ∀ {n i k : Nat} {t : T}, i ≤ k → k < i + n → (t k).is = false → (∀ j, i ≤ j → j < k → (t j).is = true) → freeUp n i t = some k
 | 0, i, k, t, h1, h2, _, _ => by omega
 | n + 1, i, k, t, h1, h2, h3, h4 => by
  unfold freeUp
  by_cases e : i = k
  ·rw [e, h3, if_neg Bool.false_ne_true]
  ·rw [h4 i (Nat.le_refl _) (by omega), if_pos rfl]
   exact freeUp_is (by omega) (by omega) h3 fun j hj1 hj2 => h4 j (by omega) hj2
theorem freeUp_full : ∀ {n i : Nat} {t : T}, (∀ j, i ≤ j → j < i + n → (t j).is = true) → freeUp n i t = none
 | 0, _, _, _ => rfl
 | n + 1, i, t, h => by
  unfold freeUp
  rw [h i (Nat.le_refl _) (by omega), if_pos rfl]
  exact freeUp_full fun j h1 h2 => h j (by omega) (by omega)
def rootN (mode owner group : Int) : Nod := ⟨true, 1, mode, owner, group, 0, 0, 1, [], []⟩
def newP (mode owner group : Int) : T := upd (fun _ => noN) 1 (rootN mode owner group)
def madeN (kind mode owner group tty : Int) (i : Nat) : Nod := ⟨true, kind, mode, owner, group, if kind = 2 then tty else 0, 1, if kind = 1 then i else 0, [], []⟩
def makeP (t : T) (ok : Bool) (kind mode owner group tty : Int) : T × Nat × Nat :=
 if ok = true then
  match freeP t with
  | none => (t, 0, 9)
  | some i => (upd t i (madeN kind mode owner group tty i), i, 0)
 else (t, 0, 1)
def holdP (t : T) (i : Int) : T × Bool :=
 if isI t i = true then (upd t i.toNat { t i.toNat with holds := (t i.toNat).holds + 1 }, true) else (t, false)
noncomputable def dropP (t : T) (i : Int) : T × Bool :=
 if isI t i = true ∧ (t i.toNat).holds ≠ 0 then (goneP (upd t i.toNat { t i.toNat with holds := (t i.toNat).holds - 1 }), true) else (t, false)
def setP (t : T) (i : Int) (ok : Bool) (mode owner group : Int) : T × Nat :=
 if isI t i = true then
  if ok = true then (upd t i.toNat { t i.toNat with mode := mode, owner := owner, group := group }, 0) else (t, 1)
 else (t, 3)
def fileE (t : T) (i : Int) : Nat :=
 if isI t i = true then if (t i.toNat).kind = 1 then 7 else if (t i.toNat).kind = 2 then 1 else 0 else 3
def putP (t : T) (i : Int) (at_ : Int) (s : Bs) : T × Nat :=
 if fileE t i ≠ 0 then (t, fileE t i)
 else if at_ < 0 ∨ ((t i.toNat).data.length : Int) < at_ then (t, 1)
 else if (4096 : Int) - at_ < s.length then (t, 9)
 else (upd t i.toNat { t i.toNat with data := (t i.toNat).data.take at_.toNat ++ (s ++ (t i.toNat).data.drop (at_.toNat + s.length)) }, 0)
def cutP (t : T) (i : Int) : T × Nat :=
 if fileE t i ≠ 0 then (t, fileE t i) else (upd t i.toNat { t i.toNat with data := [] }, 0)
open Classical in
noncomputable def enterP (t : T) (dir : Int) (n : Bs) (ino : Int) : T × Nat :=
 if isI t dir = true ∧ isI t ino = true then
  if (t dir.toNat).kind = 1 then
   if nameOk n = true then
    if (findE (t dir.toNat).ents n).isSome = true then (t, 5)
    else if ino = 1 ∨ ((t ino.toNat).kind = 1 ∧ 0 < links t ino.toNat) ∨ 8 ≤ links t ino.toNat then (t, 12)
    else if 40 ≤ (t dir.toNat).ents.length then (t, 9)
    else if (t ino.toNat).kind = 1 ∧ Within t dir.toNat ino.toNat then (t, 8)
    else (add t dir.toNat n ino.toNat, 0)
   else (t, 1)
  else (t, 6)
 else (t, 3)
noncomputable def removeP (t : T) (dir : Int) (n : Bs) : T × Nat :=
 if isI t dir = true then
  if (t dir.toNat).kind = 1 then
   match findE (t dir.toNat).ents n with
   | none => (t, 3)
   | some x => if (t x).ents ≠ [] then (t, 8) else (goneP (rem t dir.toNat n x), 0)
  else (t, 6)
 else (t, 3)
def movedT (t : T) (d : Nat) (n : Bs) (to : Nat) (as : Bs) (ino : Nat) : T :=
 add (rem (match findE (t to).ents as with | none => t | some th => rem t to as th) d n ino) to as ino
def thereE (t : T) (to : Nat) (as : Bs) (ino : Nat) : Nat :=
 match findE (t to).ents as with
 | none => 0
 | some th => if ((t ino).kind = 1) ≠ ((t th).kind = 1) then 7 else if (t th).ents ≠ [] then 8 else 0
open Classical in
noncomputable def moveP (t : T) (dir : Int) (n : Bs) (to : Int) (as : Bs) : T × Nat :=
 if isI t dir = true ∧ isI t to = true then
  if (t dir.toNat).kind = 1 ∧ (t to.toNat).kind = 1 then
   match findE (t dir.toNat).ents n with
   | none => (t, 3)
   | some ino =>
    if nameOk as = true then
     if (t ino).kind = 1 ∧ Within t to.toNat ino then (t, 8)
     else if findE (t to.toNat).ents as = some ino then (t, 0)
     else if thereE t to.toNat as ino ≠ 0 then (t, thereE t to.toNat as ino)
     else if findE (t to.toNat).ents as = none ∧ 40 ≤ (t to.toNat).ents.length ∧ to ≠ dir then (t, 9)
     else (goneP (movedT t dir.toNat n to.toNat as ino), 0)
    else (t, 1)
  else (t, 6)
 else (t, 3)
theorem links_new (mode owner group : Int) (x : Nat) : links (newP mode owner group) x = 0 := by
 have h : ∀ i, (newP mode owner group i).ents = [] := fun i => by
  unfold newP upd rootN noN
  split <;> rfl
 by_cases h0 : 0 < links (newP mode owner group) x
 ·obtain ⟨i, _, e, he, _⟩ := links_pos.1 h0
  rw [h] at he
  cases he
 ·omega
theorem sound_new (mode owner group : Int) : Sound (newP mode owner group) := by
 have hl := links_new mode owner group
 have h1 : newP mode owner group 1 = rootN mode owner group := upd_same _ _ _
 have ho : ∀ i, i ≠ 1 → newP mode owner group i = noN := fun i hi => upd_other _ _ hi
 have he : ∀ i, (newP mode owner group i).ents = [] := fun i => by
  by_cases e : i = 1
  ·rw [e, h1]; rfl
  ·rw [ho i e]; rfl
 refine ⟨⟨⟨by rw [h1]; rfl, by rw [h1]; rfl, hl 1⟩, ?_, ?_, ?_, ?_, ?_, ?_, ?_, ?_, ?_, ?_, ?_, ?_, ?_, ?_, ?_⟩, ?_⟩
 ·intro i hi
  by_cases e : i = 1
  ·rw [e, h1] at hi; cases hi
  ·exact ho i e
 ·intro i hi
  by_cases e : i = 1
  ·omega
  ·rw [ho i e] at hi; cases hi
 ·intro i e hie; rw [he] at hie; cases hie
 ·intro i hi; exact absurd (he i) hi
 ·intro i; rw [he]; exact List.nodup_nil
 ·intro i; rw [he]; exact Nat.zero_le _
 ·intro i e hie; rw [he] at hie; cases hie
 ·intro x _; rw [hl]; exact Nat.zero_le _
 ·intro x; rw [hl]; exact Nat.zero_le _
 ·intro x hx
  left
  by_cases e : x = 1
  ·subst e; exact ⟨hl 1, by rw [h1]; rfl⟩
  ·rw [ho x e] at hx; exact absurd hx (by decide)
 ·intro x hx
  by_cases e : x = 1
  ·subst e; rw [h1] at hx; exact absurd rfl hx
  ·rw [ho x e]; rfl
 ·intro x
  by_cases e : x = 1
  ·subst e; exact ⟨0, by show (newP mode owner group 1).parent = 1; rw [h1]; rfl⟩
  ·refine ⟨1, ?_⟩
   have hp : par (newP mode owner group) x = 0 := by show (newP mode owner group x).parent = 0; rw [ho x e]; rfl
   show Fix _ (par _ x)
   rw [hp]
   show (newP mode owner group 0).parent = 0
   rw [ho 0 (by decide)]; rfl
 ·intro x
  by_cases e : x = 1
  ·subst e; rw [h1]; exact .inr (.inl rfl)
  ·rw [ho x e]; exact .inl rfl
 ·intro x _
  by_cases e : x = 1
  ·subst e; rw [h1]; rfl
  ·rw [ho x e]; rfl
 ·intro x
  by_cases e : x = 1
  ·subst e; rw [h1]; exact Nat.zero_le _
  ·rw [ho x e]; exact Nat.zero_le _
 ·intro i hi
  have h2 := hi.2.2.1
  rw [ho i (by have := hi.1; omega)] at h2
  cases h2
theorem Normal.scalar {t : T} (h : Normal t) {i : Nat} {v : Nod} (v1 : v.is = (t i).is) (v4 : v.ents = (t i).ents) (v0 : v.holds = 0 → (t i).holds = 0) : Normal (upd t i v) := by
 intro j hj
 have hl := links_upd_same t i v j v4
 obtain ⟨h1, h2, h3, h4, h5⟩ := hj
 by_cases e : j = i
 ·subst e
  rw [upd_same] at h3 h4
  exact h j ⟨h1, h2, by rw [← v1]; exact h3, v0 h4, by omega⟩
 ·rw [upd_other _ _ e] at h3 h4
  exact h j ⟨h1, h2, h3, h4, by omega⟩
theorem sound_make {t : T} (h : Sound t) (ok : Bool) (kind mode owner group tty : Int) (hk : ok = true → kind = 0 ∨ kind = 1 ∨ kind = 2) : Sound (makeP t ok kind mode owner group tty).1 := by
 unfold makeP
 split
 ·rename_i hok
  split
  ·exact h
  ·rename_i i hf
   obtain ⟨h1, h2, h3, _⟩ := freeUp_some hf
   refine ⟨h.sd.make h1 (by omega) h3 rfl (hk hok) rfl rfl rfl, fun j hj => ?_⟩
   obtain ⟨a1, a2, a3, a4, a5⟩ := hj
   dsimp only at a3 a4 a5
   by_cases e : j = i
   ·subst e; rw [upd_same] at a4; exact absurd (show (1 : Nat) = 0 from a4) (by decide)
   ·rw [upd_other _ _ e] at a3 a4
    refine h.alive j ⟨a1, a2, a3, a4, ?_⟩
    rw [links_upd_same t i _ j (by rw [h.sd.none_ i h3]; rfl)] at a5
    exact a5
 ·exact h
theorem sound_hold {t : T} (h : Sound t) (i : Int) : Sound (holdP t i).1 := by
 unfold holdP
 split
 ·rename_i hi
  have hs := (isI_iff.1 hi).2
  exact ⟨h.sd.scalar hs hs rfl rfl rfl (fun k => h.sd.file _ k) (h.sd.size _), h.alive.scalar rfl rfl (fun e => absurd e (Nat.succ_ne_zero _))⟩
 ·exact h
theorem sound_drop {t : T} (h : Sound t) (i : Int) : Sound (dropP t i).1 := by
 unfold dropP
 split
 ·rename_i hi
  have hs := (isI_iff.1 hi.1).2
  exact Sd.gone (h.sd.scalar hs hs rfl rfl rfl (fun k => h.sd.file _ k) (h.sd.size _))
 ·exact h
theorem sound_set {t : T} (h : Sound t) (i : Int) (ok : Bool) (mode owner group : Int) : Sound (setP t i ok mode owner group).1 := by
 unfold setP
 split
 ·rename_i hi
  have hs := (isI_iff.1 hi).2
  split
  ·exact ⟨h.sd.scalar hs hs rfl rfl rfl (fun k => h.sd.file _ k) (h.sd.size _), h.alive.scalar rfl rfl (fun e => e)⟩
  ·exact h
 ·exact h
theorem fileE_ok {t : T} (h : Sd t) {i : Int} (hf : ¬ fileE t i ≠ 0) : isI t i = true ∧ (t i.toNat).kind = 0 := by
 unfold fileE at hf
 by_cases hi : isI t i = true
 ·rw [if_pos hi] at hf
  refine ⟨hi, ?_⟩
  rcases h.kinds i.toNat with k | k | k
  ·exact k
  ·rw [if_pos k] at hf; exact absurd (by decide) hf
  ·rw [if_neg (by omega), if_pos k] at hf; exact absurd (by decide) hf
 ·rw [if_neg hi] at hf; exact absurd (by decide) hf
theorem sound_put {t : T} (h : Sound t) (i at_ : Int) (s : Bs) : Sound (putP t i at_ s).1 := by
 unfold putP
 split
 ·exact h
 ·rename_i hf
  obtain ⟨hi, hk⟩ := fileE_ok h.sd hf
  have hs := (isI_iff.1 hi).2
  split
  ·exact h
  ·rename_i ha
   split
   ·exact h
   ·rename_i hl
    refine ⟨h.sd.scalar hs hs rfl rfl rfl (fun k => absurd hk k) ?_, h.alive.scalar rfl rfl (fun e => e)⟩
    have := h.sd.size i.toNat
    simp only [List.length_append, List.length_take, List.length_drop]
    omega
theorem sound_cut {t : T} (h : Sound t) (i : Int) : Sound (cutP t i).1 := by
 unfold cutP
 split
 ·exact h
 ·rename_i hf
  obtain ⟨hi, hk⟩ := fileE_ok h.sd hf
  have hs := (isI_iff.1 hi).2
  exact ⟨h.sd.scalar hs hs rfl rfl rfl (fun _ => rfl) (Nat.zero_le _), h.alive.scalar rfl rfl (fun e => e)⟩
theorem sound_enter {t : T} (h : Sound t) (dir : Int) (n : Bs) (ino : Int) : Sound (enterP t dir n ino).1 := by
 unfold enterP
 split
 ·rename_i hi
  have hd := isI_iff.1 hi.1
  have hx := isI_iff.1 hi.2
  split
  ·rename_i hk
   split
   ·rename_i hn
    split
    ·exact h
    ·rename_i hf
     split
     ·exact h
     ·rename_i hm
      split
      ·exact h
      ·rename_i h40
       split
       ·exact h
       ·rename_i hw
        have hx1 : ino.toNat ≠ 1 := by intro e; exact hm (.inl (by omega))
        have hfn : findE (t dir.toNat).ents n = none := by
         cases hff : findE (t dir.toNat).ents n with
         | none => rfl
         | some x => rw [hff] at hf; exact absurd rfl hf
        refine ⟨h.sd.add hd.2 hk hx.2 hx1 hn hfn (fun k => ⟨?_, fun w => hw ⟨k, w⟩⟩) ?_ (by omega), fun j hj => ?_⟩
        ·by_cases e : 0 < links t ino.toNat
         ·exact absurd (.inr (.inl ⟨k, e⟩)) hm
         ·omega
        ·by_cases e : 8 ≤ links t ino.toNat
         ·exact absurd (.inr (.inr e)) hm
         ·omega
        ·obtain ⟨a1, a2, a3, a4, a5⟩ := hj
         dsimp only at a3 a4 a5
         rw [add_is] at a3
         rw [add_holds] at a4
         have := links_add (t := t) (n := n) (x := ino.toNat) (show dir.toNat ≤ 200 by omega) j
         exact h.alive j ⟨a1, a2, a3, a4, by omega⟩
   ·exact h
  ·exact h
 ·exact h
theorem sound_remove {t : T} (h : Sound t) (dir : Int) (n : Bs) : Sound (removeP t dir n).1 := by
 unfold removeP
 split
 ·split
  ·split
   ·exact h
   ·rename_i x hf
    split
    ·exact h
    ·exact Sd.gone (h.sd.rem hf)
  ·exact h
 ·exact h
theorem erE_keeps_none {l : List (Bs × Nat)} {n m : Bs} (h : findE l m = none) : findE (erE l n) m = none := by
 rw [findE_none] at h ⊢
 intro hm
 obtain ⟨e, he, h2⟩ := List.mem_map.1 hm
 exact h (List.mem_map.2 ⟨e, erE_mem he, h2⟩)
theorem rem_within {t : T} {d : Nat} {n : Bs} {x a b : Nat} (h : Within (rem t d n x) a b) : Within t a b :=
 within_mono (fun y => by
  show (rem t d n x y).parent = y ∨ (rem t d n x y).parent = (t y).parent
  rw [rem_par]
  split
  ·rename_i e; exact .inl e.1.symm
  ·exact .inr rfl) h
theorem sd_moved {t : T} (h : Sd t) {d to ino : Nat} {n as : Bs} (hd : (t d).is = true) (hto : (t to).is = true) (hk : (t to).kind = 1) (hf : findE (t d).ents n = some ino) (hn : nameOk as = true)
 (hw : ¬ ((t ino).kind = 1 ∧ Within t to ino)) (hne : findE (t to).ents as ≠ some ino) (h40 : ¬ (findE (t to).ents as = none ∧ 40 ≤ (t to).ents.length ∧ to ≠ d)) : Sd (movedT t d n to as ino) := by
 have hto2 := (h.range to hto).2
 have hd2 := (h.range d hd).2
 have hm := findE_mem hf
 have hino : (t ino).is = true := h.tgt d _ hm
 have hl1 : 0 < links t ino := links_pos.2 ⟨d, hd2, _, hm, rfl⟩
 have hi1 : ino ≠ 1 := by rintro rfl; have := h.root.2.2; omega
 have hlen := h.len to
 have key : ∀ t1 : T, Sd t1 → (∀ j, (t1 j).is = (t j).is) → (∀ j, (t1 j).kind = (t j).kind) → (∀ a b, Within t1 a b → Within t a b) → (∀ j, links t1 j ≤ links t j) → findE (t1 d).ents n = some ino → findE (t1 to).ents as = none →
  ((t1 to).ents.length < 40 ∨ to = d) → Sd (add (rem t1 d n ino) to as ino) := by
  intro t1 s1 e1 e2 e3 e4 f1 f2 f3
  have hrl := links_rem hd2 f1
  have hri := hrl ino
  rw [if_pos rfl] at hri
  refine (s1.rem f1).add (by rw [rem_is, e1]; exact hto) (by rw [rem_kind, e2]; exact hk) (by rw [rem_is, e1]; exact hino) hi1 hn ?_ (fun k => ?_) ?_ ?_
  ·rw [rem_ents]
   split
   ·rename_i e; rw [← e]; exact erE_keeps_none f2
   ·exact f2
  ·rw [rem_kind, e2] at k
   have := h.one ino k
   have := e4 ino
   exact ⟨by omega, fun w => hw ⟨k, e3 _ _ (rem_within w)⟩⟩
  ·have := h.eight ino
   have := e4 ino
   omega
  ·rw [rem_ents]
   split
   ·rename_i e
    have h1 := erE_length f1
    have h2 := s1.len d
    omega
   ·rename_i e
    rcases f3 with f3 | f3
    ·exact f3
    ·exact absurd f3 e
 unfold movedT
 cases ha : findE (t to).ents as with
 | none =>
  refine key t h (fun _ => rfl) (fun _ => rfl) (fun _ _ w => w) (fun _ => Nat.le_refl _) hf ha ?_
  by_cases e : to = d
  ·exact .inr e
  ·left
   by_cases e2 : 40 ≤ (t to).ents.length
   ·exact absurd ⟨ha, e2, e⟩ h40
   ·omega
 | some th =>
  have hrl := links_rem hto2 ha
  refine key (rem t to as th) (h.rem ha) (fun j => rem_is _ _ _ _ _) (fun j => rem_kind _ _ _ _ _) (fun a b w => rem_within w) (fun j => by have := hrl j; omega) ?_ ?_ ?_
  ·rw [rem_ents]
   split
   ·rename_i e
    rw [← e, erE_other ?_]
    ·exact hf
    ·rintro rfl
     rw [← e] at ha hne
     rw [hf] at hne
     exact hne rfl
   ·exact hf
  ·rw [rem_ents, if_pos rfl]
   exact erE_find (h.uniq to)
  ·left
   rw [rem_ents, if_pos rfl]
   have := erE_length ha
   omega
theorem sound_move {t : T} (h : Sound t) (dir : Int) (n : Bs) (to : Int) (as : Bs) : Sound (moveP t dir n to as).1 := by
 unfold moveP
 split
 ·rename_i hi
  have hd := isI_iff.1 hi.1
  have hx := isI_iff.1 hi.2
  split
  ·rename_i hk
   split
   ·exact h
   ·rename_i ino hf
    split
    ·rename_i hn
     split
     ·exact h
     ·rename_i hw
      split
      ·exact h
      ·rename_i hne
       split
       ·exact h
       ·split
        ·exact h
        ·rename_i h40
         exact Sd.gone (sd_moved h.sd hd.2 hx.2 hk.2 hf hn hw hne (fun e => h40 ⟨e.1, e.2.1, fun e2 => e.2.2 (by rw [e2])⟩))
    ·exact h
  ·exact h
 ·exact h
end Go.Proofs.YtlpececggkdhmaaGreat.Ino
namespace Go.Proofs.YtlpececggkdhmaaGreat.Ino
theorem least (p : Nat → Prop) (h : ∃ n, p n) : ∃ n, p n ∧ ∀ m, m < n → ¬ p m := by
 obtain ⟨n, hn⟩ := h
 induction n using Nat.strongRecOn with
 | ind n ih =>
  by_cases k : ∃ m, m < n ∧ p m
  ·obtain ⟨m, hm, hp⟩ := k
   exact ih m hm hp
  ·exact ⟨n, hn, fun m hm hp => k ⟨m, hm, hp⟩⟩
theorem Sd.up {t : T} (h : Sd t) {x : Nat} (hx : (t x).kind = 1) : (t (t x).parent).kind = 1 := by
 rcases h.dpar x hx with h1 | h1
 ·rw [h1.2]; exact hx
 ·obtain ⟨e, he, _⟩ := cnt_pos.1 h1.2
  exact h.dirs _ fun e0 => by rw [e0] at he; cases he
theorem Sd.kind_is {t : T} (h : Sd t) {x : Nat} (hx : (t x).kind ≠ 0) : (t x).is = true := by
 cases h0 : (t x).is
 ·rw [h.none_ x h0] at hx; exact absurd rfl hx
 ·rfl
theorem Sd.ups {t : T} (h : Sd t) {x : Nat} (hx : (t x).kind = 1) : ∀ n, (t (iter t n x)).kind = 1
 | 0 => hx
 | n + 1 => h.ups (show (t (par t x)).kind = 1 from h.up hx) n
theorem Sd.dir_range {t : T} (h : Sd t) {x : Nat} (hx : (t x).kind = 1) : 1 ≤ x ∧ x ≤ 200 := h.range x (h.kind_is (by omega))
theorem Sd.chain {t : T} (h : Sd t) {d : Nat} (hd : (t d).kind = 1) : ∃ n, n ≤ 200 ∧ Fix t (iter t n d) ∧ ∀ m, m < n → ¬ Fix t (iter t m d) := by
 obtain ⟨n, hn, hmin⟩ := least (fun n => Fix t (iter t n d)) (h.acyc d)
 refine ⟨n, ?_, hn, hmin⟩
 have hinj : ∀ i j, i < j → j ≤ n → iter t i d ≠ iter t j d := by
  intro i j hij hj e
  have h1 : iter t (i + (n - j)) d = iter t (j + (n - j)) d := by rw [iter_add, iter_add, e]
  rw [show j + (n - j) = n by omega] at h1
  exact hmin (i + (n - j)) (by omega) (by show Fix t (iter t (i + (n - j)) d); rw [h1]; exact hn)
 have hnd : ((List.range (n + 1)).map fun m => iter t m d).Nodup := by
  rw [List.nodup_iff_pairwise_ne, List.pairwise_map]
  refine List.pairwise_lt_range.imp_of_mem ?_
  intro a b _ hb hab
  exact hinj a b hab (by have := List.mem_range.1 hb; omega)
 have hsub : ((List.range (n + 1)).map fun m => iter t m d) ⊆ List.range 201 := by
  intro y hy
  obtain ⟨m, _, rfl⟩ := List.mem_map.1 hy
  exact List.mem_range.2 (by have := h.dir_range (h.ups hd m); omega)
 have := hnd.length_le_of_subset hsub
 simp at this
 omega
theorem Sd.within_bound {t : T} (h : Sd t) {d x : Nat} (hd : (t d).kind = 1) (hw : Within t d x) : ∃ n, n ≤ 200 ∧ iter t n d = x := by
 obtain ⟨n, h1, h2, _⟩ := h.chain hd
 obtain ⟨m, hm⟩ := hw
 by_cases e : m ≤ n
 ·exact ⟨m, by omega, hm⟩
 ·refine ⟨n, h1, ?_⟩
  rw [show m = n + (m - n) by omega, iter_add, iter_fix h2] at hm
  exact hm
theorem Sd.within_dir {t : T} (h : Sd t) {d x : Nat} (hd : (t d).kind = 1) (hw : Within t d x) : (t x).kind = 1 := by
 obtain ⟨n, rfl⟩ := hw
 exact h.ups hd n
theorem within_step {t : T} {d x : Nat} : Within t d x ↔ d = x ∨ Within t (par t d) x := by
 constructor
 ·rintro ⟨n, hn⟩
  cases n with
  | zero => exact .inl hn
  | succ n => exact .inr ⟨n, hn⟩
 ·rintro (h | ⟨n, hn⟩)
  ·exact ⟨0, h⟩
  ·exact ⟨n + 1, hn⟩
theorem Sd.only {t : T} (h : Sd t) {x i j : Nat} (hx : (t x).kind = 1) (hi : 0 < cnt (t i).ents x) (hj : 0 < cnt (t j).ents x) : i = j := by
 by_cases e : i = j
 ·exact e
 ·have hi2 : i ≤ 200 := by
   by_cases k : i ≤ 200
   ·exact k
   ·rw [h.out (by omega)] at hi; exact absurd hi (Nat.not_lt_zero _)
  have hj2 : j ≤ 200 := by
   by_cases k : j ≤ 200
   ·exact k
   ·rw [h.out (by omega)] at hj; exact absurd hj (Nat.not_lt_zero _)
  have := cnt_two_le (t := t) (x := x) hi2 hj2 e
  have := h.one x hx
  omega
end Go.Proofs.YtlpececggkdhmaaGreat.Ino
namespace Go.Proofs.YtlpececggkdhmaaGreat.Ino
def insN (n : Bs) : List Bs → List Bs
 | [] => [n]
 | m :: l => if n < m then n :: m :: l else m :: insN n l
def namesE (l : List (Bs × Nat)) : List Bs := l.foldr (fun e acc => insN e.1 acc) []
def namesP (t : T) (i : Int) : List Bs := if isI t i = true then namesE (t i.toNat).ents else []
def dataP (t : T) (i : Int) : Bs := if isI t i = true then (t i.toNat).data else []
structure Inf where
 ino : Int
 kind : Int
 mode : Int
 owner : Int
 group : Int
 links : Int
 size : Int
 tty : Int
def noInf : Inf := ⟨0, 0, 0, 0, 0, 0, 0, 0⟩
def statP (t : T) (i : Int) : Inf × Bool :=
 if isI t i = true then (⟨i, (t i.toNat).kind, (t i.toNat).mode, (t i.toNat).owner, (t i.toNat).group, links t i.toNat, ((t i.toNat).data.length : Int) + ((t i.toNat).ents.length : Int), (t i.toNat).tty⟩, true) else (noInf, false)
def lookP (t : T) (dir : Int) (n : Bs) : Nat × Bool :=
 if isD t dir = true then
  if n = [46] then (dir.toNat, true)
  else if n = [46, 46] then ((t dir.toNat).parent, true)
  else match findE (t dir.toNat).ents n with
   | none => (0, false)
   | some x => (x, true)
 else (0, false)
theorem nameOk_dots {n : Bs} (h : nameOk n = true) : n ≠ [46] ∧ n ≠ [46, 46] := by
 unfold nameOk at h
 simp only [Bool.and_eq_true, bne_iff_ne] at h
 exact ⟨h.2.1, h.2.2.1⟩
theorem look_name {t : T} (h : Sd t) {d : Nat} {n : Bs} {x : Nat} (hx : (n, x) ∈ (t d).ents) : lookP t d n = (x, true) ∧ nameOk n = true ∧ 1 ≤ x ∧ x ≤ 200 := by
 have hd := h.ents_is hx
 have hk := h.dirs d (fun e => by rw [e] at hx; cases hx)
 have hr := h.range d hd
 have hn := h.ok d _ hx
 obtain ⟨h1, h2⟩ := nameOk_dots hn
 have hI : isD t (d : Int) = true := by
  unfold isD
  rw [isI_cast h, hd]
  simp [hk]
 refine ⟨?_, hn, h.range x (h.tgt d _ hx)⟩
 unfold lookP
 rw [if_pos hI, if_neg h1, if_neg h2, Int.toNat_natCast, findE_of_mem (h.uniq d) hx]
end Go.Proofs.YtlpececggkdhmaaGreat.Ino
namespace Go.Proofs.YtlpececggkdhmaaGreat.Ino
def fullT (mode : Int) (k : Nat) : T := fun j => if j = 1 then rootN 493 0 0 else if 2 ≤ j ∧ j ≤ k then madeN 0 mode 0 0 0 j else noN
def fullBut (mode : Int) (k : Nat) : T := upd (fullT mode 200) k noN
end Go.Proofs.YtlpececggkdhmaaGreat.Ino
namespace Go.Proofs.YtlpececggkdhmaaGreat.Ino
def gap (o : List Bs) (k : Nat) (c : Bs) : List Bs := o.take k ++ c :: o.drop k
end Go.Proofs.YtlpececggkdhmaaGreat.Ino
