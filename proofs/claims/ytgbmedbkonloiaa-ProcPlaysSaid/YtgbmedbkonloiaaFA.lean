/- A table of processes as a plain list, and its facts. -/
import Derived.Test.YtgbmedbkonloiaaRows
namespace Go.Proofs.Ytgbmedbkonloiaa
structure Pr where
  pid : Int
  parent : Int
  user : Int
  session : Int
  status : Int
  dead : Bool
  reserve : Bool
structure TB where
  L : List Pr
  last : Int
  users : List Int
def isP (x : Int) (p : Pr) : Bool := p.pid == x
def atP (L : List Pr) (x : Int) : Option Pr := L.find? (isP x)
def liveP (L : List Pr) (x : Int) : Option Pr := (atP L x).filter (fun p => !p.dead)
def hold (u : Int) (p : Pr) : Bool := p.user == u && !p.reserve
def cntP (L : List Pr) (u : Int) : Nat := L.countP (hold u)
def resP (L : List Pr) : Nat := L.countP (·.reserve)
def knownP (us : List Int) (u : Int) : Bool := us.contains u
def roomP (s : TB) (u : Int) : Int := if knownP s.users u = false ∧ 8 ≤ s.users.length then 12 else if 6 ≤ cntP s.L u then 13 else 0
def learnU (us : List Int) (u : Int) : List Int := if knownP us u = true then us else us ++ [u]
def forkE (s : TB) (a : Int) (r : Bool) : Int :=
  match liveP s.L a with
  | none => 3
  | some p => if r = true then (if a = 1 then (if 5 ≤ resP s.L then 12 else 0) else 2) else roomP s p.user
def forkN (s : TB) (a : Int) (r : Bool) : Int := if forkE s a r = 0 then s.last + 1 else 0
def kidOf (s : TB) (a : Int) (r : Bool) (p : Pr) : Pr := ⟨s.last + 1, a, p.user, p.session, 0, false, r⟩
def forkT (s : TB) (a : Int) (r : Bool) : TB :=
  match liveP s.L a with
  | none => s
  | some p => if forkE s a r = 0 then ⟨s.L ++ [kidOf s a r p], s.last + 1, if r = true then s.users else learnU s.users p.user⟩ else s
def modP (a : Int) (f : Pr → Pr) (L : List Pr) : List Pr := L.map fun p => if p.pid = a then f p else p
def becE (s : TB) (a u : Int) : Int :=
  match liveP s.L a with
  | none => 3
  | some p => if u < 0 ∨ 65535 < u then 1 else if hold u p = true then 0 else roomP s u
def becT (s : TB) (a u : Int) : TB :=
  match liveP s.L a with
  | none => s
  | some p => if hold u p = false ∧ becE s a u = 0 then ⟨modP a (fun q => { q with user := u, reserve := false }) s.L, s.last, learnU s.users u⟩ else s
def leadE (s : TB) (a : Int) : Int := match liveP s.L a with | none => 3 | some _ => 0
def leadT (s : TB) (a : Int) : TB := match liveP s.L a with | none => s | some _ => ⟨modP a (fun q => { q with session := a }) s.L, s.last, s.users⟩
def exitE (s : TB) (a : Int) : Int := match liveP s.L a with | none => 3 | some _ => if a = 1 then 2 else 0
def orphan (a : Int) (p : Pr) : Pr := if p.parent = a then { p with parent := 1 } else p
def exitT (s : TB) (a st : Int) : TB :=
  match liveP s.L a with
  | none => s
  | some _ => if a = 1 then s else ⟨(modP a (fun q => { q with dead := true, status := st }) s.L).map (orphan a), s.last, s.users⟩
def kid (a c : Int) (p : Pr) : Bool := p.parent == a && !(decide (1 ≤ c) && p.pid != c)
def gone (a c : Int) (p : Pr) : Bool := kid a c p && p.dead
def waitV (s : TB) (a c : Int) : Int × Int × Int :=
  match liveP s.L a with
  | none => (0, 0, 3)
  | some _ => match s.L.find? (gone a c) with
    | some p => (p.pid, p.status, 0)
    | none => if s.L.any (kid a c) = true then (0, 0, 0) else (0, 0, 16)
def dropP (c : Int) (L : List Pr) : List Pr := L.filter fun q => q.pid != c
def waitT (s : TB) (a c : Int) : TB :=
  match liveP s.L a with
  | none => s
  | some _ => match s.L.find? (gone a c) with
    | some p => ⟨dropP p.pid s.L, s.last, s.users⟩
    | none => s
def new0 : TB := ⟨[⟨1, 0, 0, 1, 0, false, true⟩], 1, []⟩
/-- what holds of a table between two calls. -/
structure Sd (s : TB) : Prop where
  asc : s.L.Pairwise fun p q => p.pid < q.pid
  rng : ∀ p ∈ s.L, 1 ≤ p.pid ∧ p.pid ≤ s.last
  len : (s.L.length : Int) ≤ s.last
  pos : 1 ≤ s.last
  head : ∃ p r, s.L = p :: r ∧ p.pid = 1 ∧ p.dead = false ∧ p.parent = 0
  par : ∀ p ∈ s.L, p.pid = 1 ∨ ∃ q, liveP s.L p.parent = some q
  known : ∀ p ∈ s.L, p.reserve = false → p.user ∈ s.users
  cnt : ∀ u, cntP s.L u ≤ 6
  res : resP s.L ≤ 5
  u8 : s.users.length ≤ 8
theorem at_some {L : List Pr} {x : Int} {p : Pr} (h : atP L x = some p) : p ∈ L ∧ p.pid = x :=
  ⟨List.mem_of_find?_eq_some h, by have := List.find?_some h; unfold isP at this; simpa using this⟩
theorem live_some {L : List Pr} {x : Int} {p : Pr} (h : liveP L x = some p) : atP L x = some p ∧ p.dead = false := by
  unfold liveP at h
  rw [Option.filter_eq_some_iff] at h
  exact ⟨h.1, by simpa using h.2⟩
theorem live_of {L : List Pr} {x : Int} {p : Pr} (h : atP L x = some p) (hd : p.dead = false) : liveP L x = some p := by
  unfold liveP
  rw [h]; simp [Option.filter, hd]
theorem asc_nodup {L : List Pr} (h : L.Pairwise fun p q => p.pid < q.pid) : (L.map (·.pid)).Nodup := by
  rw [List.nodup_iff_pairwise_ne, List.pairwise_map]
  exact h.imp fun hlt e => by omega
theorem at_of_mem : ∀ {L : List Pr} {p : Pr}, L.Pairwise (fun p q => p.pid < q.pid) → p ∈ L → atP L p.pid = some p
  | a :: L, p, h, hp => by
    rw [List.pairwise_cons] at h
    unfold atP
    rw [List.find?_cons]
    rcases List.mem_cons.1 hp with e | e
    · subst e; simp [isP]
    · have := h.1 p e
      rw [show isP p.pid a = false by simp [isP]; omega]
      exact at_of_mem h.2 e
theorem at_split {L : List Pr} {x : Int} {p : Pr} (ha : L.Pairwise fun p q => p.pid < q.pid) (h : atP L x = some p) :
    ∃ l m, L = l ++ p :: m ∧ p.pid = x ∧ (∀ q ∈ l, q.pid ≠ x) ∧ ∀ q ∈ m, q.pid ≠ x := by
  obtain ⟨hm, hx⟩ := at_some h
  obtain ⟨l, m, rfl⟩ := List.append_of_mem hm
  rw [List.pairwise_append, List.pairwise_cons] at ha
  refine ⟨l, m, rfl, hx, fun q hq => ?_, fun q hq => ?_⟩
  · have := ha.2.2 q hq p (by simp); omega
  · have := ha.2.1.1 q hq; omega
theorem modP_other {a : Int} {f : Pr → Pr} : ∀ {l : List Pr}, (∀ q ∈ l, q.pid ≠ a) → modP a f l = l
  | [], _ => rfl
  | q :: l, h => by
    have ih := modP_other (f := f) (l := l) fun r hr => h r (by simp [hr])
    unfold modP at *
    rw [List.map_cons, if_neg (h q (by simp)), ih]
theorem modP_split {a : Int} {f : Pr → Pr} {l m : List Pr} {p : Pr} (hp : p.pid = a) (hl : ∀ q ∈ l, q.pid ≠ a) (hm : ∀ q ∈ m, q.pid ≠ a) : modP a f (l ++ p :: m) = l ++ f p :: m := by
  have h1 := modP_other (f := f) hl
  have h2 := modP_other (f := f) hm
  unfold modP at *
  rw [List.map_append, List.map_cons, if_pos hp, h1, h2]
theorem dropP_split {a : Int} {l m : List Pr} {p : Pr} (hp : p.pid = a) (hl : ∀ q ∈ l, q.pid ≠ a) (hm : ∀ q ∈ m, q.pid ≠ a) : dropP a (l ++ p :: m) = l ++ m := by
  unfold dropP
  rw [List.filter_append, List.filter_cons]
  rw [if_neg (by simp [hp]), List.filter_eq_self.2 (fun q hq => by simpa using hl q hq), List.filter_eq_self.2 (fun q hq => by simpa using hm q hq)]
/-- maps that leave the number alone. -/
theorem at_map {L : List Pr} {g : Pr → Pr} (hg : ∀ p, (g p).pid = p.pid) (x : Int) : atP (L.map g) x = (atP L x).map g := by
  unfold atP
  rw [List.find?_map]
  have : (isP x ∘ g) = isP x := by funext p; simp [isP, hg]
  rw [this]
theorem live_map {L : List Pr} {g : Pr → Pr} (hg : ∀ p, (g p).pid = p.pid) {x : Int} {q : Pr} (h : liveP L x = some q) (hd : (g q).dead = false) : liveP (L.map g) x = some (g q) :=
  live_of (by rw [at_map hg, (live_some h).1]; rfl) hd
theorem asc_map {L : List Pr} {g : Pr → Pr} (hg : ∀ p, (g p).pid = p.pid) (h : L.Pairwise fun p q => p.pid < q.pid) : (L.map g).Pairwise fun p q => p.pid < q.pid := by
  rw [List.pairwise_map]
  exact h.imp fun {a b} hl => by rw [hg, hg]; exact hl
theorem live_app {L m : List Pr} {x : Int} {q : Pr} (h : liveP L x = some q) : liveP (L ++ m) x = some q := by
  obtain ⟨h1, h2⟩ := live_some h
  refine live_of ?_ h2
  unfold atP at *
  rw [List.find?_append, h1]; rfl
theorem live_one {s : TB} (h : Sd s) : ∃ p, liveP s.L 1 = some p := by
  obtain ⟨p, r, e, h1, h2, _⟩ := h.head
  refine ⟨p, live_of ?_ h2⟩
  unfold atP
  rw [e, List.find?_cons]
  simp [isP, h1]
theorem Sd.pid_one {s : TB} (h : Sd s) {p : Pr} (hp : p ∈ s.L) (h1 : p.pid = 1) : p.dead = false ∧ p.parent = 0 := by
  obtain ⟨q, r, e, e1, e2, e3⟩ := h.head
  have hq : q ∈ s.L := by rw [e]; simp
  have := at_of_mem h.asc hp
  have h2 := at_of_mem h.asc hq
  rw [h1] at this
  rw [e1] at h2
  rw [this] at h2
  cases h2
  exact ⟨e2, e3⟩
theorem learn_len (s : TB) (u : Int) (h : s.users.length ≤ 8) (hr : roomP s u = 0) : (learnU s.users u).length ≤ 8 := by
  unfold learnU
  unfold roomP at hr
  split
  · exact h
  · rename_i hk
    rw [List.length_append]
    have : ¬ (knownP s.users u = false ∧ 8 ≤ s.users.length) := fun hh => by rw [if_pos hh] at hr; cases hr
    have hk2 : knownP s.users u = false := by simpa using hk
    have : ¬ 8 ≤ s.users.length := fun h8 => this ⟨hk2, h8⟩
    simp; omega
theorem learn_mem (us : List Int) (u : Int) : u ∈ learnU us u := by
  unfold learnU
  split
  · rename_i h; unfold knownP at h; simpa using h
  · simp
theorem learn_sub {us : List Int} {u v : Int} (h : v ∈ us) : v ∈ learnU us u := by
  unfold learnU
  split
  · exact h
  · exact List.mem_append_left _ h
theorem room_cnt {s : TB} {u : Int} (hr : roomP s u = 0) : cntP s.L u < 6 := by
  unfold roomP at hr
  split at hr
  · cases hr
  · split at hr
    · cases hr
    · omega
theorem cnt_app (l m : List Pr) (u : Int) : cntP (l ++ m) u = cntP l u + cntP m u := by unfold cntP; rw [List.countP_append]
theorem res_app (l m : List Pr) : resP (l ++ m) = resP l + resP m := by unfold resP; rw [List.countP_append]
theorem cnt_one (p : Pr) (u : Int) : cntP [p] u = if hold u p = true then 1 else 0 := by unfold cntP; rw [List.countP_cons, List.countP_nil, Nat.zero_add]
theorem res_one (p : Pr) : resP [p] = if p.reserve = true then 1 else 0 := by unfold resP; rw [List.countP_cons, List.countP_nil, Nat.zero_add]
theorem cnt_cons (p : Pr) (l : List Pr) (u : Int) : cntP (p :: l) u = cntP l u + if hold u p = true then 1 else 0 := by unfold cntP; rw [List.countP_cons]
theorem res_cons (p : Pr) (l : List Pr) : resP (p :: l) = resP l + if p.reserve = true then 1 else 0 := by unfold resP; rw [List.countP_cons]
theorem sd_new : Sd new0 := by
  refine ⟨by simp [new0], ?_, by decide, by decide, ⟨_, [], rfl, rfl, rfl, rfl⟩, ?_, ?_, fun u => ?_, by decide, by decide⟩
  · intro p hp; simp [new0] at hp; subst hp; decide
  · intro p hp; simp [new0] at hp; subst hp; exact .inl rfl
  · intro p hp; simp [new0] at hp; subst hp; intro h; cases h
  · have : cntP new0.L u ≤ new0.L.length := List.countP_le_length
    simp [new0] at this ⊢; omega
theorem sd_fork {s : TB} (h : Sd s) (a : Int) (r : Bool) : Sd (forkT s a r) := by
  unfold forkT
  cases hl : liveP s.L a with
  | none => exact h
  | some p =>
    simp only
    split
    · rename_i he
      obtain ⟨hat, hd⟩ := live_some hl
      obtain ⟨hm, hx⟩ := at_some hat
      unfold forkE at he
      rw [hl] at he
      simp only at he
      obtain ⟨q, t, e, e1, e2, e3⟩ := h.head
      refine ⟨?_, ?_, ?_, ?_, ⟨q, t ++ [kidOf s a r p], by simp [e], e1, e2, e3⟩, ?_, ?_, fun u => ?_, ?_, ?_⟩
      · simp only
        rw [List.pairwise_append]
        refine ⟨h.asc, by simp, fun x hxm y hy => ?_⟩
        simp at hy; subst hy
        have := (h.rng x hxm).2
        show x.pid < s.last + 1
        omega
      · intro x hxm
        rcases List.mem_append.1 hxm with hxm | hxm
        · have := h.rng x hxm
          exact ⟨this.1, by show x.pid ≤ s.last + 1; omega⟩
        · simp at hxm; subst hxm
          have := h.pos
          exact ⟨by show 1 ≤ s.last + 1; omega, Int.le_refl _⟩
      · have := h.len
        simp; omega
      · have := h.pos
        show 1 ≤ s.last + 1; omega
      · intro x hxm
        rcases List.mem_append.1 hxm with hxm | hxm
        · rcases h.par x hxm with h1 | ⟨y, hy⟩
          · exact .inl h1
          · exact .inr ⟨y, live_app hy⟩
        · simp at hxm; subst hxm
          exact .inr ⟨p, live_app hl⟩
      · intro x hxm hr
        show x.user ∈ (if r = true then s.users else learnU s.users p.user)
        rcases List.mem_append.1 hxm with hxm | hxm
        · split
          · exact h.known x hxm hr
          · exact learn_sub (h.known x hxm hr)
        · simp at hxm; subst hxm
          have hr2 : r = false := hr
          rw [hr2, if_neg (by decide)]
          exact learn_mem _ _
      · show cntP (s.L ++ [kidOf s a r p]) u ≤ 6
        rw [cnt_app, cnt_one]
        have := h.cnt u
        split
        · rename_i hh
          have : p.user = u ∧ r = false := by simpa [hold, kidOf] using hh
          rw [this.2, if_neg (by decide), this.1] at he
          have := room_cnt he
          omega
        · omega
      · show resP (s.L ++ [kidOf s a r p]) ≤ 5
        rw [res_app, res_one]
        have := h.res
        cases r
        · simp [kidOf]; omega
        · rw [if_pos rfl] at he
          split at he
          · split at he
            · cases he
            · simp [kidOf]; omega
          · cases he
      · show (if r = true then s.users else learnU s.users p.user).length ≤ 8
        cases r
        · rw [if_neg (by decide)] at he ⊢
          exact learn_len s _ h.u8 he
        · exact h.u8
    · exact h
theorem sd_bec {s : TB} (h : Sd s) (a u : Int) : Sd (becT s a u) := by
  unfold becT
  cases hl : liveP s.L a with
  | none => exact h
  | some p =>
    simp only
    split
    · rename_i he
      obtain ⟨hh, he⟩ := he
      obtain ⟨hat, hd⟩ := live_some hl
      obtain ⟨l, m, e, hp, h1, h2⟩ := at_split h.asc hat
      unfold becE at he
      rw [hl] at he
      simp only at he
      have he : roomP s u = 0 := by
        split at he
        · cases he
        · rw [if_neg (by rw [hh]; decide)] at he; exact he
      have hg : ∀ x : Pr, (if x.pid = a then { x with user := u, reserve := false } else x).pid = x.pid := fun x => by split <;> rfl
      have hgd : ∀ x : Pr, (if x.pid = a then { x with user := u, reserve := false } else x).dead = x.dead := fun x => by split <;> rfl
      have hgp : ∀ x : Pr, (if x.pid = a then { x with user := u, reserve := false } else x).parent = x.parent := fun x => by split <;> rfl
      have hM : modP a (fun q => { q with user := u, reserve := false }) s.L = l ++ { p with user := u, reserve := false } :: m := by rw [e]; exact modP_split hp h1 h2
      obtain ⟨q, t, e0, e1, e2, e3⟩ := h.head
      refine ⟨asc_map hg h.asc, ?_, ?_, h.pos, ⟨if q.pid = a then { q with user := u, reserve := false } else q, t.map fun x => if x.pid = a then { x with user := u, reserve := false } else x, by simp only [modP, e0, List.map_cons], by rw [hg, e1], by rw [hgd, e2], by rw [hgp, e3]⟩, ?_, ?_, fun v => ?_, ?_, learn_len s u h.u8 he⟩
      · intro x hx
        obtain ⟨y, hy, rfl⟩ := List.mem_map.1 hx
        rw [hg]; exact h.rng y hy
      · simp only [modP, List.length_map]; exact h.len
      · intro x hx
        obtain ⟨y, hy, rfl⟩ := List.mem_map.1 hx
        rw [hg, hgp]
        rcases h.par y hy with k1 | ⟨z, hz⟩
        · exact .inl k1
        · exact .inr ⟨_, live_map hg hz (by rw [hgd]; exact (live_some hz).2)⟩
      · intro x hx hr
        simp only at hx
        rw [hM] at hx
        show x.user ∈ learnU s.users u
        rcases List.mem_append.1 hx with hx | hx
        · exact learn_sub (h.known x (by rw [e]; simp [hx]) hr)
        · rcases List.mem_cons.1 hx with hx | hx
          · subst hx; exact learn_mem _ _
          · exact learn_sub (h.known x (by rw [e]; simp [hx]) hr)
      · simp only
        have k1 := h.cnt v
        have k2 := room_cnt he
        rw [hM]
        rw [e] at k1 k2
        rw [cnt_app, cnt_cons] at k1 k2 ⊢
        by_cases hv : u = v
        · subst hv
          rw [hh] at k2
          simp [hold] at k2 ⊢
          omega
        · rw [if_neg (c := hold v { p with user := u, reserve := false } = true) (by simp [hold, hv])]
          omega
      · simp only
        have k1 := h.res
        rw [hM]
        rw [e] at k1
        rw [res_app, res_cons] at k1 ⊢
        simp only [Bool.false_eq_true, if_false]
        omega
    · exact h
/-- maps that leave the number, the user and the reserve alone. -/
theorem cnt_map {L : List Pr} {g : Pr → Pr} (hu : ∀ p, (g p).user = p.user) (hr : ∀ p, (g p).reserve = p.reserve) (u : Int) : cntP (L.map g) u = cntP L u := by
  unfold cntP
  rw [List.countP_map]
  congr 1
  funext p
  simp [hold, hu, hr]
theorem res_map {L : List Pr} {g : Pr → Pr} (hr : ∀ p, (g p).reserve = p.reserve) : resP (L.map g) = resP L := by
  unfold resP
  rw [List.countP_map]
  congr 1
  funext p
  simp [hr]
theorem sd_map {s : TB} (h : Sd s) (g : Pr → Pr) (hg : ∀ p, (g p).pid = p.pid) (hu : ∀ p, (g p).user = p.user) (hr : ∀ p, (g p).reserve = p.reserve)
    (h1 : ∀ p, p.pid = 1 → p.parent = 0 → (g p).dead = p.dead ∧ (g p).parent = p.parent)
    (hp : ∀ p ∈ s.L, p.pid ≠ 1 → ∃ q, liveP (s.L.map g) (g p).parent = some q) : Sd ⟨s.L.map g, s.last, s.users⟩ := by
  obtain ⟨q, t, e0, e1, e2, e3⟩ := h.head
  obtain ⟨k1, k2⟩ := h1 q e1 e3
  refine ⟨asc_map hg h.asc, ?_, by simpa using h.len, h.pos, ⟨g q, t.map g, by simp only [e0, List.map_cons], by rw [hg, e1], by rw [k1, e2], by rw [k2, e3]⟩, ?_, ?_, fun v => ?_, ?_, h.u8⟩
  · intro x hx
    obtain ⟨y, hy, rfl⟩ := List.mem_map.1 hx
    rw [hg]; exact h.rng y hy
  · intro x hx
    obtain ⟨y, hy, rfl⟩ := List.mem_map.1 hx
    rw [hg]
    by_cases hy1 : y.pid = 1
    · exact .inl hy1
    · exact .inr (hp y hy hy1)
  · intro x hx hr'
    obtain ⟨y, hy, rfl⟩ := List.mem_map.1 hx
    rw [hu]
    rw [hr] at hr'
    exact h.known y hy hr'
  · show cntP (s.L.map g) v ≤ 6
    rw [cnt_map hu hr]; exact h.cnt v
  · show resP (s.L.map g) ≤ 5
    rw [res_map hr]; exact h.res
theorem sd_lead {s : TB} (h : Sd s) (a : Int) : Sd (leadT s a) := by
  unfold leadT
  cases hl : liveP s.L a with
  | none => exact h
  | some p =>
    have hg : ∀ x : Pr, (if x.pid = a then { x with session := a } else x).pid = x.pid := fun x => by split <;> rfl
    have hd : ∀ x : Pr, (if x.pid = a then { x with session := a } else x).dead = x.dead := fun x => by split <;> rfl
    have hq : ∀ x : Pr, (if x.pid = a then { x with session := a } else x).parent = x.parent := fun x => by split <;> rfl
    refine sd_map h _ hg (fun x => by split <;> rfl) (fun x => by split <;> rfl) (fun x _ _ => ⟨hd x, hq x⟩) fun x hx h1 => ?_
    rw [hq]
    rcases h.par x hx with k | ⟨z, hz⟩
    · exact absurd k h1
    · exact ⟨_, live_map hg hz (by rw [hd]; exact (live_some hz).2)⟩
def exitG (a st : Int) (p : Pr) : Pr := orphan a (if p.pid = a then { p with dead := true, status := st } else p)
theorem exitG_pid (a st : Int) (p : Pr) : (exitG a st p).pid = p.pid := by unfold exitG orphan; split <;> split <;> rfl
theorem exitG_user (a st : Int) (p : Pr) : (exitG a st p).user = p.user := by unfold exitG orphan; split <;> split <;> rfl
theorem exitG_res (a st : Int) (p : Pr) : (exitG a st p).reserve = p.reserve := by unfold exitG orphan; split <;> split <;> rfl
theorem exitG_session (a st : Int) (p : Pr) : (exitG a st p).session = p.session := by unfold exitG orphan; split <;> split <;> rfl
theorem exitG_dead (a st : Int) (p : Pr) : (exitG a st p).dead = (p.dead || p.pid == a) := by
  unfold exitG orphan
  by_cases h : p.pid = a
  · rw [if_pos h]; split <;> simp [h]
  · rw [if_neg h]; split <;> simp [h]
theorem exitG_status (a st : Int) (p : Pr) : (exitG a st p).status = if p.pid = a then st else p.status := by
  unfold exitG orphan
  by_cases h : p.pid = a
  · rw [if_pos h, if_pos h]; split <;> rfl
  · rw [if_neg h, if_neg h]; split <;> rfl
theorem exitG_parent (a st : Int) (p : Pr) : (exitG a st p).parent = if p.parent = a then 1 else p.parent := by
  unfold exitG orphan
  by_cases h : p.pid = a
  · rw [if_pos h]
    by_cases h2 : p.parent = a
    · rw [if_pos h2, if_pos h2]
    · rw [if_neg h2, if_neg h2]
  · rw [if_neg h]
    by_cases h2 : p.parent = a
    · rw [if_pos h2, if_pos h2]
    · rw [if_neg h2, if_neg h2]
theorem exit_map (s : TB) (a st : Int) : (modP a (fun q => { q with dead := true, status := st }) s.L).map (orphan a) = s.L.map (exitG a st) := by
  unfold modP
  rw [List.map_map]
  rfl
theorem sd_exit {s : TB} (h : Sd s) (a st : Int) : Sd (exitT s a st) := by
  unfold exitT
  cases hl : liveP s.L a with
  | none => exact h
  | some p =>
    simp only
    split
    · exact h
    · rename_i ha
      rw [exit_map]
      have ha0 : a ≠ 0 := by
        have := (h.rng p (at_some (live_some hl).1).1).1
        have := (at_some (live_some hl).1).2
        omega
      refine sd_map h _ (exitG_pid a st) (exitG_user a st) (exitG_res a st) (fun x h1 h0 => ⟨?_, ?_⟩) fun x hx h1 => ?_
      · rw [exitG_dead, show (x.pid == a) = false by simp; omega, Bool.or_false]
      · rw [exitG_parent, if_neg (by omega)]
      · rw [exitG_parent]
        by_cases hp : x.parent = a
        · rw [if_pos hp]
          obtain ⟨z, hz⟩ := live_one h
          refine ⟨_, live_map (exitG_pid a st) hz ?_⟩
          rw [exitG_dead, (live_some hz).2, (at_some (live_some hz).1).2]
          simp; omega
        · rw [if_neg hp]
          rcases h.par x hx with k | ⟨z, hz⟩
          · exact absurd k h1
          · refine ⟨_, live_map (exitG_pid a st) hz ?_⟩
            rw [exitG_dead, (live_some hz).2, (at_some (live_some hz).1).2]
            simpa using hp
theorem at_drop {L : List Pr} {c x : Int} (h : x ≠ c) : atP (dropP c L) x = atP L x := by
  unfold atP dropP
  induction L with
  | nil => rfl
  | cons p l ih =>
    rw [List.filter_cons, List.find?_cons]
    by_cases hp : p.pid = c
    · rw [if_neg (by simp [hp]), ih, show isP x p = false by simp [isP]; omega]
    · rw [if_pos (by simpa using hp), List.find?_cons, ih]
theorem sd_wait {s : TB} (h : Sd s) (a c : Int) : Sd (waitT s a c) := by
  unfold waitT
  cases hl : liveP s.L a with
  | none => exact h
  | some p =>
    simp only
    cases hf : s.L.find? (gone a c) with
    | none => exact h
    | some d =>
      simp only
      have hd : d.dead = true := by have := List.find?_some hf; unfold gone at this; simp at this; exact this.2
      have hdm : d ∈ s.L := List.mem_of_find?_eq_some hf
      have hd1 : d.pid ≠ 1 := fun e => by have := (h.pid_one hdm e).1; rw [hd] at this; cases this
      have hsub : (dropP d.pid s.L).Sublist s.L := List.filter_sublist
      obtain ⟨q, t, e0, e1, e2, e3⟩ := h.head
      refine ⟨h.asc.sublist hsub, fun x hx => h.rng x (hsub.subset hx), ?_, h.pos, ⟨q, dropP d.pid t, ?_, e1, e2, e3⟩, fun x hx => ?_, fun x hx => h.known x (hsub.subset hx), fun u => ?_, ?_, h.u8⟩
      · have := hsub.length_le
        have := h.len
        simp only at *
        omega
      · simp only [dropP, e0, List.filter_cons]
        rw [if_pos (by simp; omega)]
      · rcases h.par x (hsub.subset hx) with k | ⟨z, hz⟩
        · exact .inl k
        · refine .inr ⟨z, live_of ?_ (live_some hz).2⟩
          rw [at_drop]
          · exact (live_some hz).1
          · intro e
            have k := (live_some hz).1
            rw [e, at_of_mem h.asc hdm] at k
            cases k
            have := (live_some hz).2
            rw [hd] at this; cases this
      · exact Nat.le_trans (hsub.countP_le) (h.cnt u)
      · exact Nat.le_trans (hsub.countP_le) h.res
theorem last_fork (s : TB) (a : Int) (r : Bool) : s.last ≤ (forkT s a r).last ∧ (forkT s a r).last ≤ s.last + 1 := by
  unfold forkT
  cases liveP s.L a with
  | none => simp only; omega
  | some p => simp only; split <;> (try simp only) <;> omega
theorem last_bec (s : TB) (a u : Int) : (becT s a u).last = s.last := by
  unfold becT
  cases liveP s.L a with
  | none => rfl
  | some p => simp only; split <;> rfl
theorem last_lead (s : TB) (a : Int) : (leadT s a).last = s.last := by
  unfold leadT
  cases liveP s.L a <;> rfl
theorem last_exit (s : TB) (a u : Int) : (exitT s a u).last = s.last := by
  unfold exitT
  cases liveP s.L a with
  | none => rfl
  | some p => simp only; split <;> rfl
theorem last_wait (s : TB) (a u : Int) : (waitT s a u).last = s.last := by
  unfold waitT
  cases liveP s.L a with
  | none => rfl
  | some p => simp only; split <;> rfl
end Go.Proofs.Ytgbmedbkonloiaa
