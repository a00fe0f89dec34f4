/- Plain mathematics of package parse: the parser over the tokens, the nodes that it makes. -/
import Derived.Test.YtoahgblgchmclaaLA
namespace Go.Proofs.Ytoahgblgchmclaa
set_option linter.unusedVariables false
set_option linter.unusedSimpArgs false
structure Rd where
  fd : Int
  op : Bs
  word : Bs
structure Nd where
  kind : Int
  name : Bs
  inn : Bool
  sets : List Bs
  words : List Bs
  redirs : List Rd
  pats : List (List Bs)
  kids : List Int
def nd (k : Int) (kids : List Int) : Nd := ⟨k, [], false, [], [], [], [], kids⟩
/-- the parser: what is left, the nodes, what is open, the first error. -/
structure S where
  ts : List Tk
  ns : List Nd
  opn : Nat
  at_ : Nat
  err : Int
def endT : Tk := ⟨4, [], 0⟩
def S.hd (s : S) : Tk := s.ts.headD endT
def S.adv (s : S) : S := { s with ts := s.ts.tail }
def S.is (s : S) (t : Bs) : Bool := s.hd.text == t
def lastT (ts : List Tk) : List Tk := ts.drop (ts.length - 1)
def S.fail (s : S) : S := if s.err = 0 then { s with ts := lastT s.ts, at_ := s.hd.at_, err := if s.hd.kind = 4 then 23 else 17 } else s
def S.may (s : S) (t : Bs) : S := if s.is t then s.adv else s
def S.need (s : S) (t : Bs) : S := if s.is t then s.adv else s.fail
def S.word (s : S) : Bs × S := if s.hd.kind = 1 then (s.hd.text, s.adv) else ([], s.fail)
/-- letters, digits, names. -/
def pLet (c : UInt8) : Bool := (decide (97 ≤ c.toNat) && decide (c.toNat ≤ 122)) || (decide (65 ≤ c.toNat) && decide (c.toNat ≤ 90)) || decide (c.toNat = 95)
def nmL : Nat → Bs → Nat
  | _, [] => 0
  | i, c :: r => if pLet c || (decide (0 < i) && isDig c) then nmL (i + 1) r + 1 else 0
def nmS (t : Bs) : Nat := nmL 0 t
def isNm (t : Bs) : Bool := !(t == []) && decide (nmS t = t.length)
def isSetB (t : Bs) : Bool := decide (0 < nmS t) && (decide (nmS t < t.length) && decide (t.getD (nmS t) 0 = 61))
def resWords : List Bs := [[33], [123], [125], [99, 97, 115, 101], [100, 111], [100, 111, 110, 101], [101, 108, 105, 102], [101, 108, 115, 101], [101, 115, 97, 99], [102, 105], [102, 111, 114], [105, 102], [105, 110], [116, 104, 101, 110], [117, 110, 116, 105, 108], [119, 104, 105, 108, 101]]
def isRes (t : Bs) : Bool := resWords.contains t
def rdTexts : List Bs := [[60], [62], [62, 62], [60, 38], [62, 38], [60, 62], [62, 124]]
def bRedir (t : Tk) : Bool := rdTexts.contains t.text || t.kind == 3
def bFirst (t : Tk) : Bool := t.kind == 1 && (!isRes t.text || t.text == [105, 110])
/-- the kind of the compound that a word begins. -/
def cKind (t : Bs) : Int :=
  if t = [123] then 8 else if t = [40] then 9 else if t = [105, 102] then 10 else if t = [119, 104, 105, 108, 101] then 11 else if t = [117, 110, 116, 105, 108] then 12 else if t = [102, 111, 114] then 13 else if t = [99, 97, 115, 101] then 14 else 0
def bItem (t : Tk) : Bool := t.text == [33] || (!(cKind t.text == 0) || (bRedir t || bFirst t))
def S.name (s : S) : Bs × S := if isNm s.hd.text then (s.hd.text, s.adv) else ([], s.fail)
def S.breaks (s : S) : S := { s with ts := s.ts.dropWhile (fun t => t.text == [10]) }
def S.add (s : S) (n : Nd) : Int × S := (s.ns.length, { s with ns := s.ns ++ [n] })
def S.enter (s : S) : S := { (if 24 < s.opn then s.fail else s) with opn := s.opn + 1 }
def S.leave (s : S) : S := { s with opn := s.opn - 1 }
def S.fdOf (s : S) : Int × S := if s.hd.kind = 3 then (((s.hd.text.getD 0 0).toNat : Int) - 48, s.adv) else (-1, s)
def S.rword (s : S) : Bs × S := if s.hd.kind = 3 then (s.hd.text, s.adv) else s.word
def S.redir (s : S) : Rd × S :=
  (⟨s.fdOf.1, s.fdOf.2.hd.text, s.fdOf.2.adv.rword.1⟩, s.fdOf.2.adv.rword.2)
def redirsG : Nat → List Rd → S → List Rd × S
  | 0, l, s => (l, s)
  | k + 1, l, s => if bRedir s.hd then redirsG k (l ++ [s.redir.1]) s.redir.2 else (l, s)
def S.redirs (s : S) : List Rd × S := redirsG s.ts.length [] s
def simpG : Nat → Nd → S → Nd × S
  | 0, n, s => (n, s)
  | k + 1, n, s =>
    if bRedir s.hd then simpG k { n with redirs := n.redirs ++ [s.redir.1] } s.redir.2
    else if n.words.length == 0 && isSetB s.hd.text then simpG k { n with sets := n.sets ++ [s.word.1] } s.word.2
    else if bFirst s.hd || (decide (0 < n.words.length) && s.hd.kind == 1) then simpG k { n with words := n.words ++ [s.word.1] } s.word.2
    else (n, s)
def S.orFail (s : S) (n : Nd) : S := if n.sets.length + n.words.length + n.redirs.length = 0 then s.fail else s
def S.simple (s : S) : Int × S := ((simpG s.ts.length (nd 1 []) s).2.orFail (simpG s.ts.length (nd 1 []) s).1).add (simpG s.ts.length (nd 1 []) s).1
def listsG (L : S → Int × S) : List Bs → List Int → S → List Int × S
  | [], ks, s => (ks, s)
  | w :: r, ks, s => listsG L r (ks ++ [(L s).1]) ((L s).2.need w)
/-- condition, then; up to the fi. -/
def branG (L : S → Int × S) : Nat → Bs → S → List Int × S
  | 0, _, s => ([], s)
  | k + 1, w, s =>
    let a := L (s.need w)
    let b := L (a.2.need [116, 104, 101, 110])
    if b.2.is [101, 108, 105, 102] then
      let r := branG L k [101, 108, 105, 102] b.2
      ([a.1, b.1, (r.2.add (nd 10 r.1)).1], (r.2.add (nd 10 r.1)).2)
    else if b.2.is [101, 108, 115, 101] then ([a.1, b.1, (L b.2.adv).1], (L b.2.adv).2)
    else ([a.1, b.1], b.2)
def wordsG : Nat → List Bs → S → List Bs × S
  | 0, l, s => (l, s)
  | k + 1, l, s => if s.hd.kind = 1 then wordsG k (l ++ [s.word.1]) s.word.2 else (l, s)
/-- behind the name of a for. -/
def S.forIn (s : S) : (Bool × List Bs) × S :=
  let t := s.breaks
  let r := if t.is [105, 110] then wordsG t.ts.length [] t.adv else ([], t)
  ((t.is [105, 110], r.1), (r.2.may [59]).breaks)
def S.caseHead (s : S) : Bs × S :=
  let r := (s.need [99, 97, 115, 101]).word
  (r.1, (r.2.breaks.need [105, 110]).breaks)
def patG : Nat → List Bs → S → List Bs × S
  | 0, l, s => (l, s)
  | k + 1, l, s => if s.is [124] then patG k (l ++ [s.adv.word.1]) s.adv.word.2 else (l, s)
def S.patterns (s : S) : List Bs × S :=
  let r := (s.may [40]).word
  let q := patG r.2.ts.length [r.1] r.2
  (q.1, q.2.need [41])
def caseList (L : S → Int × S) (s : S) : Int × S := if bItem s.breaks.hd then L s.breaks else (-1, s.breaks)
def caseG (L : S → Int × S) : Nat → List (List Bs) → List Int → S → (List (List Bs) × List Int) × S
  | 0, ps, ks, s => ((ps, ks), s)
  | k + 1, ps, ks, s =>
    if s.is [101, 115, 97, 99] then ((ps, ks), s.adv)
    else
      let b := caseList L s.patterns.2
      if b.2.is [59, 59] then caseG L k (ps ++ [s.patterns.1]) (ks ++ [b.1]) b.2.adv.breaks
      else ((ps ++ [s.patterns.1], ks ++ [b.1]), b.2.need [101, 115, 97, 99])
/-- what stands in a compound, behind its opening: the node without its redirections. -/
def inner (L : S → Int × S) (s : S) (k : Int) : Nd × S :=
  if k = 8 then let r := listsG L [[125]] [] (s.need [123]); (nd 8 r.1, r.2)
  else if k = 9 then let r := listsG L [[41]] [] (s.need [40]); (nd 9 r.1, r.2)
  else if k = 10 then let r := branG L s.ts.length [105, 102] s; (nd 10 r.1, r.2.need [102, 105])
  else if k = 11 then let r := listsG L [[100, 111], [100, 111, 110, 101]] [] (s.need [119, 104, 105, 108, 101]); (nd 11 r.1, r.2)
  else if k = 12 then let r := listsG L [[100, 111], [100, 111, 110, 101]] [] (s.need [117, 110, 116, 105, 108]); (nd 12 r.1, r.2)
  else if k = 13 then
    let m := (s.need [102, 111, 114]).name
    let w := m.2.forIn
    let r := listsG L [[100, 111, 110, 101]] [] (w.2.need [100, 111])
    (⟨13, m.1, w.1.1, [], w.1.2, [], [], r.1⟩, r.2)
  else if k = 14 then
    let h := s.caseHead
    let r := caseG L h.2.ts.length [] [] h.2
    (⟨14, [], false, [], [h.1], [], r.1.1, r.1.2⟩, r.2)
  else (nd 0 [], s.fail)
def compound (L : S → Int × S) (s : S) : Int × S :=
  let r := inner L s.enter (cKind s.enter.hd.text)
  let d := r.2.leave.redirs
  d.2.add { r.1 with redirs := d.1 }
def function (L : S → Int × S) (s : S) : Int × S :=
  let m := s.enter.name
  let b := compound L (((m.2.need [40]).need [41]).breaks)
  b.2.leave.add ⟨15, m.1, false, [], [], [], [], [b.1]⟩
def S.bFun (s : S) : Bool := isNm s.hd.text && (!isRes s.hd.text && (s.ts.tail.headD endT).text == [40])
def command (L : S → Int × S) (s : S) : Int × S :=
  if cKind s.hd.text = 0 then (if s.bFun then function L s else s.simple) else compound L s
def pipeG (L : S → Int × S) : Nat → List Int → S → List Int × S
  | 0, l, s => (l, s)
  | k + 1, l, s => if s.is [124] then pipeG L k (l ++ [(command L s.adv.breaks).1]) (command L s.adv.breaks).2 else (l, s)
def S.whole (s : S) (cs : List Int) : Int × S := if 1 < cs.length then s.add (nd 3 cs) else (cs.headD 0, s)
def S.notP (s : S) (b : Bool) (i : Int) : Int × S := if b then s.add (nd 2 [i]) else (i, s)
def pipe (L : S → Int × S) (s : S) : Int × S :=
  let c := command L (s.may [33])
  let r := pipeG L c.2.ts.length [c.1] c.2
  let w := r.2.whole r.1
  w.2.notP (s.is [33]) w.1
def andG (L : S → Int × S) : Nat → Int → S → Int × S
  | 0, i, s => (i, s)
  | k + 1, i, s =>
    if s.is [124, 124] then
      let r := pipe L s.adv.breaks
      andG L k (r.2.add (nd 5 [i, r.1])).1 (r.2.add (nd 5 [i, r.1])).2
    else if s.is [38, 38] then
      let r := pipe L s.adv.breaks
      andG L k (r.2.add (nd 4 [i, r.1])).1 (r.2.add (nd 4 [i, r.1])).2
    else (i, s)
def item (L : S → Int × S) (s : S) : Int × S :=
  let r := pipe L s
  andG L r.2.ts.length r.1 r.2
/-- an item, perhaps not waited for. -/
def backed (s : S) (i : Int) : Int × S := if s.is [38] then s.adv.add (nd 7 [i]) else (i, s)
def S.seps (s : S) (b : Bool) : Bool × S := if b then (true, s) else if s.is [59] then (true, s.adv) else if s.is [10] then (true, s.adv) else (false, s)
def itemsG (L : S → Int × S) : Nat → List Int → Bool → S → (List Int × Bool) × S
  | 0, l, b, s => ((l, b), s)
  | k + 1, l, _, s =>
    let r := item L s
    let q := backed r.2 r.1
    let p := q.2.seps (r.2.is [38])
    if p.1 && bItem p.2.breaks.hd then itemsG L k (l ++ [q.1]) (r.2.is [38]) p.2.breaks else ((l ++ [q.1], r.2.is [38]), p.2.breaks)
def S.seqs (s : S) (l : List Int) (b : Bool) : Int × S := if l.length == 1 && !b then (l.headD 0, s) else s.add (nd 6 l)
def list1 (L : S → Int × S) (s : S) : Int × S :=
  let r := itemsG L s.breaks.ts.length [] false s.breaks
  r.2.seqs r.1.1 r.1.2
/-- a list, where so many more compounds may begin. -/
def listD : Nat → S → Int × S
  | 0, s => list1 (fun s => (0, s)) s
  | d + 1, s => list1 (listD d) s
def script (s : S) : S :=
  let t := if bItem s.breaks.hd then (listD 25 s.breaks).2 else s.breaks
  if t.hd.kind = 4 then t else t.fail
/-- the nodes; the place; the error. -/
def parseT (ts : List Tk) : List Nd × Nat × Int :=
  let s := script ⟨ts, [], 0, 0, 0⟩
  if ¬ s.err = 0 then ([], s.at_, s.err) else if 300 < s.ns.length then ([], 0, 12) else (s.ns, 0, 0)
def parseA (l : Bs) : List Nd × Nat × Int := match allA l with
  | .err k e => ([], k, e)
  | .ok ts => parseT ts
end Go.Proofs.Ytoahgblgchmclaa
