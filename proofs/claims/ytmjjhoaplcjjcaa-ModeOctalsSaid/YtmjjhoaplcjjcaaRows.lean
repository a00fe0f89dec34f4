/-
  No cell of these rows narrows 'for every input' (looked for: loops, veiled, ifaces, maps, wideKeys, modest, calm, conditions, laid).
  DERIVED. THE GIVEN ROWS OF THIS SEAT. 8 by the template 'for every input the law returns true; each argument reads behind the call as it read before'; 0 by the template 'total and deterministic' (their statements: YtmjjhoaplcjjcaaTotals.lean).
  GIVEN WITH THE SEED: the statements are not yours to turn. If you find one false, say at which input.
  Laid BY PROGRAM, IN A SANDBOX (cutbox-rows.mjs): the forced cells as the released guide's own fill.sh prints them over the translation afd7b79e039f3e51… (all of the seat's roots in one cut). By AI agents, Wed Nov 11 2026. No macro, syntax, notation, axiom, sorry.
-/
import Derived.Test.YtmjjhoaplcjjcaaChecked
import GoSem.Claim
import GoSem.ClaimJoined
import GoSem.ClaimMapViews
import Derived.JoinedTies
import Derived.KernelRfl
namespace Go.Proofs.Ytmjjhoaplcjjcaa
/- THE CELL 'sum', in the pinned program and in every row, IS THE sha256 OF THE DUMP (.gsa) THAT YtmjjhoaplcjjcaaProg.lean LOADS. Nothing in Lean hashes anything: it is a label: what it is worth is what the hold of that sum in a sandbox is worth. -/
noncomputable def Try.pinned : Pinned := { name := "ytmjjhoaplcjjcaa", sum := "afd7b79e039f3e5183c97335244680381956bf03ba404a809b539fab659775a2", checked := Try.checked }
namespace Rows
def none {H : Type} : Left H := { results := [], args := [] }

/-- 'almonerlaw01.ModeMays': WHATEVER THE INPUT: true; the input reads as it did. -/
def modeMaysSpec : ChangeSpec := { name := "modeMays", fn := fun _ => fun
  | [d1, d2, d3, d4, d5, d6, d7] => { results := [.lit (.bool true)], args := [d1, d2, d3, d4, d5, d6, d7] }
  | _ => none }
def modeMaysRow : OpenClaim := { program := "ytmjjhoaplcjjcaa", sum := "afd7b79e039f3e5183c97335244680381956bf03ba404a809b539fab659775a2", func := "almoner/almonerlaw01.ModeMays", spec := "modeMays", inPlace := ["internal/bytealg.IndexByteString", "internal/bytealg.IndexString"], named := ["internal/bytealg.MaxLen"], apart := false }
def ModeMaysSaid : Prop := modeMaysRow.holds Try.pinned (OpenSpec.ofChange modeMaysSpec)

/-- ITS FALSE NEIGHBOUR: 'it returns false'. Refute it at one input. -/
def modeMaysWrong : ChangeSpec := { name := "modeMays", fn := fun _ => fun
  | [d1, d2, d3, d4, d5, d6, d7] => { results := [.lit (.bool false)], args := [d1, d2, d3, d4, d5, d6, d7] }
  | _ => none }
def ModeMaysWrongFalsely : Prop := modeMaysRow.holds Try.pinned (OpenSpec.ofChange modeMaysWrong)

/-- 'almonerlaw01.ModeTexts': WHATEVER THE INPUT: true; the input reads as it did. -/
def modeTextsSpec : ChangeSpec := { name := "modeTexts", fn := fun _ => fun
  | [d1, d2, d3] => { results := [.lit (.bool true)], args := [d1, d2, d3] }
  | _ => none }
def modeTextsRow : OpenClaim := { program := "ytmjjhoaplcjjcaa", sum := "afd7b79e039f3e5183c97335244680381956bf03ba404a809b539fab659775a2", func := "almoner/almonerlaw01.ModeTexts", spec := "modeTexts", inPlace := ["internal/bytealg.IndexByteString", "internal/bytealg.IndexString"], named := ["internal/bytealg.MaxLen"], apart := false }
def ModeTextsSaid : Prop := modeTextsRow.holds Try.pinned (OpenSpec.ofChange modeTextsSpec)

/-- ITS FALSE NEIGHBOUR: 'it returns false'. Refute it at one input. -/
def modeTextsWrong : ChangeSpec := { name := "modeTexts", fn := fun _ => fun
  | [d1, d2, d3] => { results := [.lit (.bool false)], args := [d1, d2, d3] }
  | _ => none }
def ModeTextsWrongFalsely : Prop := modeTextsRow.holds Try.pinned (OpenSpec.ofChange modeTextsWrong)

/-- 'almonerlaw01.ModeChanges': WHATEVER THE INPUT: true; the input reads as it did. -/
def modeChangesSpec : ChangeSpec := { name := "modeChanges", fn := fun _ => fun
  | [d1, d2, d3] => { results := [.lit (.bool true)], args := [d1, d2, d3] }
  | _ => none }
def modeChangesRow : OpenClaim := { program := "ytmjjhoaplcjjcaa", sum := "afd7b79e039f3e5183c97335244680381956bf03ba404a809b539fab659775a2", func := "almoner/almonerlaw01.ModeChanges", spec := "modeChanges", inPlace := ["internal/bytealg.IndexByteString", "internal/bytealg.IndexString"], named := ["internal/bytealg.MaxLen"], apart := false }
def ModeChangesSaid : Prop := modeChangesRow.holds Try.pinned (OpenSpec.ofChange modeChangesSpec)

/-- ITS FALSE NEIGHBOUR: 'it returns false'. Refute it at one input. -/
def modeChangesWrong : ChangeSpec := { name := "modeChanges", fn := fun _ => fun
  | [d1, d2, d3] => { results := [.lit (.bool false)], args := [d1, d2, d3] }
  | _ => none }
def ModeChangesWrongFalsely : Prop := modeChangesRow.holds Try.pinned (OpenSpec.ofChange modeChangesWrong)

/-- 'almonerlaw01.ModeOne': WHATEVER THE INPUT: true; the input reads as it did. -/
def modeOneSpec : ChangeSpec := { name := "modeOne", fn := fun _ => fun
  | [d1, d2, d3, d4, d5] => { results := [.lit (.bool true)], args := [d1, d2, d3, d4, d5] }
  | _ => none }
def modeOneRow : OpenClaim := { program := "ytmjjhoaplcjjcaa", sum := "afd7b79e039f3e5183c97335244680381956bf03ba404a809b539fab659775a2", func := "almoner/almonerlaw01.ModeOne", spec := "modeOne", inPlace := ["internal/bytealg.IndexByteString", "internal/bytealg.IndexString"], named := ["internal/bytealg.MaxLen"], apart := false }
def ModeOneSaid : Prop := modeOneRow.holds Try.pinned (OpenSpec.ofChange modeOneSpec)

/-- ITS FALSE NEIGHBOUR: 'it returns false'. Refute it at one input. -/
def modeOneWrong : ChangeSpec := { name := "modeOne", fn := fun _ => fun
  | [d1, d2, d3, d4, d5] => { results := [.lit (.bool false)], args := [d1, d2, d3, d4, d5] }
  | _ => none }
def ModeOneWrongFalsely : Prop := modeOneRow.holds Try.pinned (OpenSpec.ofChange modeOneWrong)

/-- 'almonerlaw01.ModeTells': WHATEVER THE INPUT: true; the input reads as it did. -/
def modeTellsSpec : ChangeSpec := { name := "modeTells", fn := fun _ => fun
  | [d1, d2, d3, d4] => { results := [.lit (.bool true)], args := [d1, d2, d3, d4] }
  | _ => none }
def modeTellsRow : OpenClaim := { program := "ytmjjhoaplcjjcaa", sum := "afd7b79e039f3e5183c97335244680381956bf03ba404a809b539fab659775a2", func := "almoner/almonerlaw01.ModeTells", spec := "modeTells", inPlace := ["internal/bytealg.IndexByteString", "internal/bytealg.IndexString"], named := ["internal/bytealg.MaxLen"], apart := false }
def ModeTellsSaid : Prop := modeTellsRow.holds Try.pinned (OpenSpec.ofChange modeTellsSpec)

/-- ITS FALSE NEIGHBOUR: 'it returns false'. Refute it at one input. -/
def modeTellsWrong : ChangeSpec := { name := "modeTells", fn := fun _ => fun
  | [d1, d2, d3, d4] => { results := [.lit (.bool false)], args := [d1, d2, d3, d4] }
  | _ => none }
def ModeTellsWrongFalsely : Prop := modeTellsRow.holds Try.pinned (OpenSpec.ofChange modeTellsWrong)

/-- 'almonerlaw01.ModeSets': WHATEVER THE INPUT: true; the input reads as it did. -/
def modeSetsSpec : ChangeSpec := { name := "modeSets", fn := fun _ => fun
  | [d1, d2, d3] => { results := [.lit (.bool true)], args := [d1, d2, d3] }
  | _ => none }
def modeSetsRow : OpenClaim := { program := "ytmjjhoaplcjjcaa", sum := "afd7b79e039f3e5183c97335244680381956bf03ba404a809b539fab659775a2", func := "almoner/almonerlaw01.ModeSets", spec := "modeSets", inPlace := ["internal/bytealg.IndexByteString", "internal/bytealg.IndexString"], named := ["internal/bytealg.MaxLen"], apart := false }
def ModeSetsSaid : Prop := modeSetsRow.holds Try.pinned (OpenSpec.ofChange modeSetsSpec)

/-- ITS FALSE NEIGHBOUR: 'it returns false'. Refute it at one input. -/
def modeSetsWrong : ChangeSpec := { name := "modeSets", fn := fun _ => fun
  | [d1, d2, d3] => { results := [.lit (.bool false)], args := [d1, d2, d3] }
  | _ => none }
def ModeSetsWrongFalsely : Prop := modeSetsRow.holds Try.pinned (OpenSpec.ofChange modeSetsWrong)

/-- 'almonerlaw01.ModeOctals': WHATEVER THE INPUT: true; the input reads as it did. -/
def modeOctalsSpec : ChangeSpec := { name := "modeOctals", fn := fun _ => fun
  | [d1, d2, d3] => { results := [.lit (.bool true)], args := [d1, d2, d3] }
  | _ => none }
def modeOctalsRow : OpenClaim := { program := "ytmjjhoaplcjjcaa", sum := "afd7b79e039f3e5183c97335244680381956bf03ba404a809b539fab659775a2", func := "almoner/almonerlaw01.ModeOctals", spec := "modeOctals", inPlace := ["internal/bytealg.IndexByteString", "internal/bytealg.IndexString"], named := ["internal/bytealg.MaxLen"], apart := false }
def ModeOctalsSaid : Prop := modeOctalsRow.holds Try.pinned (OpenSpec.ofChange modeOctalsSpec)

/-- ITS FALSE NEIGHBOUR: 'it returns false'. Refute it at one input. -/
def modeOctalsWrong : ChangeSpec := { name := "modeOctals", fn := fun _ => fun
  | [d1, d2, d3] => { results := [.lit (.bool false)], args := [d1, d2, d3] }
  | _ => none }
def ModeOctalsWrongFalsely : Prop := modeOctalsRow.holds Try.pinned (OpenSpec.ofChange modeOctalsWrong)

/-- 'almonerlaw01.ModeRoot': WHATEVER THE INPUT: true; the input reads as it did. -/
def modeRootSpec : ChangeSpec := { name := "modeRoot", fn := fun _ => fun
  | [d1, d2, d3, d4] => { results := [.lit (.bool true)], args := [d1, d2, d3, d4] }
  | _ => none }
def modeRootRow : OpenClaim := { program := "ytmjjhoaplcjjcaa", sum := "afd7b79e039f3e5183c97335244680381956bf03ba404a809b539fab659775a2", func := "almoner/almonerlaw01.ModeRoot", spec := "modeRoot", inPlace := ["internal/bytealg.IndexByteString", "internal/bytealg.IndexString"], named := ["internal/bytealg.MaxLen"], apart := false }
def ModeRootSaid : Prop := modeRootRow.holds Try.pinned (OpenSpec.ofChange modeRootSpec)

/-- ITS FALSE NEIGHBOUR: 'it returns false'. Refute it at one input. -/
def modeRootWrong : ChangeSpec := { name := "modeRoot", fn := fun _ => fun
  | [d1, d2, d3, d4] => { results := [.lit (.bool false)], args := [d1, d2, d3, d4] }
  | _ => none }
def ModeRootWrongFalsely : Prop := modeRootRow.holds Try.pinned (OpenSpec.ofChange modeRootWrong)

/- THE SECOND FORM. 'bulk': how many values and letters a reading holds, each counted each time it is reached (what is shared counts as often as it is met; a slice's spare places count too). A statement '..UptoSaid' is the law's where the arguments, and the package variables that the reading takes, are together of bulk at most 1048576: NARROWER than '..Said'. Prove '..Said' where nothing that the law and all that it calls make is longer than what came in: it says more and counts as full. Else prove '..UptoSaid'. A law counts once. -/
mutual
def uptoBulk {H : Type} : DataW H → Nat
  | .lit (.string bytes) => bytes.length + 1
  | .lit _ => 1
  | .nil => 1
  | .ptr d => uptoBulk d + 1
  | .slice elems spare => uptoBulkAll elems + uptoBulkAll spare + 1
  | .agg parts => uptoBulkAll parts + 1
  | .iface _ d => uptoBulk d + 1
  | .map entries => uptoBulkEntries entries + 1
  | .held _ => 1
def uptoBulkAll {H : Type} : List (DataW H) → Nat
  | [] => 0
  | d :: r => uptoBulk d + uptoBulkAll r
def uptoBulkEntries {H : Type} : List (Lit × DataW H) → Nat
  | [] => 0
  | x :: r => uptoBulkEntry x + uptoBulkEntries r
def uptoBulkEntry {H : Type} : Lit × DataW H → Nat
  | (.string bytes, d) => bytes.length + uptoBulk d + 1
  | (_, d) => uptoBulk d + 1
 end
def uptoSmall : (H : Type) → List (DataW H) → Bool := fun _ ds => decide (uptoBulkAll ds ≤ 1048576)
def OpenSpec.upto (s : _root_.Go.ChangeSpec) : _root_.Go.OpenSpec := { _root_.Go.OpenSpec.ofChange s with cond := some uptoSmall }

/-- 'almonerlaw01.ModeMays', WHERE WHAT IT READS IS OF BULK AT MOST 1048576: true; the input reads as it did. -/
def modeMaysUptoRow : OpenClaim := { program := "ytmjjhoaplcjjcaa", sum := "afd7b79e039f3e5183c97335244680381956bf03ba404a809b539fab659775a2", func := "almoner/almonerlaw01.ModeMays", spec := "modeMays", inPlace := ["internal/bytealg.IndexByteString", "internal/bytealg.IndexString"], named := ["internal/bytealg.MaxLen"], apart := false, narrowed := true }
def ModeMaysUptoSaid : Prop := modeMaysUptoRow.holds Try.pinned (OpenSpec.upto modeMaysSpec)

/-- 'almonerlaw01.ModeTexts', WHERE WHAT IT READS IS OF BULK AT MOST 1048576: true; the input reads as it did. -/
def modeTextsUptoRow : OpenClaim := { program := "ytmjjhoaplcjjcaa", sum := "afd7b79e039f3e5183c97335244680381956bf03ba404a809b539fab659775a2", func := "almoner/almonerlaw01.ModeTexts", spec := "modeTexts", inPlace := ["internal/bytealg.IndexByteString", "internal/bytealg.IndexString"], named := ["internal/bytealg.MaxLen"], apart := false, narrowed := true }
def ModeTextsUptoSaid : Prop := modeTextsUptoRow.holds Try.pinned (OpenSpec.upto modeTextsSpec)

/-- 'almonerlaw01.ModeChanges', WHERE WHAT IT READS IS OF BULK AT MOST 1048576: true; the input reads as it did. -/
def modeChangesUptoRow : OpenClaim := { program := "ytmjjhoaplcjjcaa", sum := "afd7b79e039f3e5183c97335244680381956bf03ba404a809b539fab659775a2", func := "almoner/almonerlaw01.ModeChanges", spec := "modeChanges", inPlace := ["internal/bytealg.IndexByteString", "internal/bytealg.IndexString"], named := ["internal/bytealg.MaxLen"], apart := false, narrowed := true }
def ModeChangesUptoSaid : Prop := modeChangesUptoRow.holds Try.pinned (OpenSpec.upto modeChangesSpec)

/-- 'almonerlaw01.ModeOne', WHERE WHAT IT READS IS OF BULK AT MOST 1048576: true; the input reads as it did. -/
def modeOneUptoRow : OpenClaim := { program := "ytmjjhoaplcjjcaa", sum := "afd7b79e039f3e5183c97335244680381956bf03ba404a809b539fab659775a2", func := "almoner/almonerlaw01.ModeOne", spec := "modeOne", inPlace := ["internal/bytealg.IndexByteString", "internal/bytealg.IndexString"], named := ["internal/bytealg.MaxLen"], apart := false, narrowed := true }
def ModeOneUptoSaid : Prop := modeOneUptoRow.holds Try.pinned (OpenSpec.upto modeOneSpec)

/-- 'almonerlaw01.ModeTells', WHERE WHAT IT READS IS OF BULK AT MOST 1048576: true; the input reads as it did. -/
def modeTellsUptoRow : OpenClaim := { program := "ytmjjhoaplcjjcaa", sum := "afd7b79e039f3e5183c97335244680381956bf03ba404a809b539fab659775a2", func := "almoner/almonerlaw01.ModeTells", spec := "modeTells", inPlace := ["internal/bytealg.IndexByteString", "internal/bytealg.IndexString"], named := ["internal/bytealg.MaxLen"], apart := false, narrowed := true }
def ModeTellsUptoSaid : Prop := modeTellsUptoRow.holds Try.pinned (OpenSpec.upto modeTellsSpec)

/-- 'almonerlaw01.ModeSets', WHERE WHAT IT READS IS OF BULK AT MOST 1048576: true; the input reads as it did. -/
def modeSetsUptoRow : OpenClaim := { program := "ytmjjhoaplcjjcaa", sum := "afd7b79e039f3e5183c97335244680381956bf03ba404a809b539fab659775a2", func := "almoner/almonerlaw01.ModeSets", spec := "modeSets", inPlace := ["internal/bytealg.IndexByteString", "internal/bytealg.IndexString"], named := ["internal/bytealg.MaxLen"], apart := false, narrowed := true }
def ModeSetsUptoSaid : Prop := modeSetsUptoRow.holds Try.pinned (OpenSpec.upto modeSetsSpec)

/-- 'almonerlaw01.ModeOctals', WHERE WHAT IT READS IS OF BULK AT MOST 1048576: true; the input reads as it did. -/
def modeOctalsUptoRow : OpenClaim := { program := "ytmjjhoaplcjjcaa", sum := "afd7b79e039f3e5183c97335244680381956bf03ba404a809b539fab659775a2", func := "almoner/almonerlaw01.ModeOctals", spec := "modeOctals", inPlace := ["internal/bytealg.IndexByteString", "internal/bytealg.IndexString"], named := ["internal/bytealg.MaxLen"], apart := false, narrowed := true }
def ModeOctalsUptoSaid : Prop := modeOctalsUptoRow.holds Try.pinned (OpenSpec.upto modeOctalsSpec)

/-- 'almonerlaw01.ModeRoot', WHERE WHAT IT READS IS OF BULK AT MOST 1048576: true; the input reads as it did. -/
def modeRootUptoRow : OpenClaim := { program := "ytmjjhoaplcjjcaa", sum := "afd7b79e039f3e5183c97335244680381956bf03ba404a809b539fab659775a2", func := "almoner/almonerlaw01.ModeRoot", spec := "modeRoot", inPlace := ["internal/bytealg.IndexByteString", "internal/bytealg.IndexString"], named := ["internal/bytealg.MaxLen"], apart := false, narrowed := true }
def ModeRootUptoSaid : Prop := modeRootUptoRow.holds Try.pinned (OpenSpec.upto modeRootSpec)

end Rows
end Go.Proofs.Ytmjjhoaplcjjcaa
