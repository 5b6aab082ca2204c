/-
  No cell of these rows narrows 'for every input' (looked for: loops, veiled, ifaces, maps, wideKeys, modest, calm, conditions, laid).
  DERIVED. THE GIVEN ROWS OF THIS SEAT. 4 by the template 'for every input the law returns true; each argument reads behind the call as it read before'; 0 by the template 'total and deterministic' (their statements: YtdjlbbemgahohaaTotals.lean).
  GIVEN WITH THE SEED: the statements are not yours to turn. If you find one false, say at which input.
  Laid BY PROGRAM, IN A SANDBOX (cutbox-rows.mjs): the forced cells as the released guide's own fill.sh prints them over the translation ac00383543fbe91c… (all of the seat's roots in one cut). By AI agents, Wed Nov 11 2026. No macro, syntax, notation, axiom, sorry.
-/
import Derived.Test.YtdjlbbemgahohaaChecked
import GoSem.Claim
import GoSem.ClaimJoined
import GoSem.ClaimMapViews
import Derived.JoinedTies
import Derived.KernelRfl
namespace Go.Proofs.Ytdjlbbemgahohaa
/- THE CELL 'sum', in the pinned program and in every row, IS THE sha256 OF THE DUMP (.gsa) THAT YtdjlbbemgahohaaProg.lean LOADS. Nothing in Lean hashes anything: it is a label: what it is worth is what the hold of that sum in a sandbox is worth. -/
noncomputable def Try.pinned : Pinned := { name := "ytdjlbbemgahohaa", sum := "ac00383543fbe91c5124db8fe223ca75a8256bfc45ecc14d2bfd5651fb24f565", checked := Try.checked }
namespace Rows
def none {H : Type} : Left H := { results := [], args := [] }

/-- 'quillpenlaw06.WholeParses': WHATEVER THE INPUT: true; the input reads as it did. -/
def wholeParsesSpec : ChangeSpec := { name := "wholeParses", fn := fun _ => fun
  | [d1, d2, d3] => { results := [.lit (.bool true)], args := [d1, d2, d3] }
  | _ => none }
def wholeParsesRow : OpenClaim := { program := "ytdjlbbemgahohaa", sum := "ac00383543fbe91c5124db8fe223ca75a8256bfc45ecc14d2bfd5651fb24f565", func := "quillpen/quillpenlaw06.WholeParses", spec := "wholeParses", unfollowed := true, recurses := true, apart := false }
def WholeParsesSaid : Prop := wholeParsesRow.holds Try.pinned (OpenSpec.ofChange wholeParsesSpec)

/-- ITS FALSE NEIGHBOUR: 'it returns false'. Refute it at one input. -/
def wholeParsesWrong : ChangeSpec := { name := "wholeParses", fn := fun _ => fun
  | [d1, d2, d3] => { results := [.lit (.bool false)], args := [d1, d2, d3] }
  | _ => none }
def WholeParsesWrongFalsely : Prop := wholeParsesRow.holds Try.pinned (OpenSpec.ofChange wholeParsesWrong)

/-- 'quillpenlaw06.WholeTells': WHATEVER THE INPUT: true; the input reads as it did. -/
def wholeTellsSpec : ChangeSpec := { name := "wholeTells", fn := fun _ => fun
  | [d1, d2, d3] => { results := [.lit (.bool true)], args := [d1, d2, d3] }
  | _ => none }
def wholeTellsRow : OpenClaim := { program := "ytdjlbbemgahohaa", sum := "ac00383543fbe91c5124db8fe223ca75a8256bfc45ecc14d2bfd5651fb24f565", func := "quillpen/quillpenlaw06.WholeTells", spec := "wholeTells", unfollowed := true, recurses := true, apart := false }
def WholeTellsSaid : Prop := wholeTellsRow.holds Try.pinned (OpenSpec.ofChange wholeTellsSpec)

/-- ITS FALSE NEIGHBOUR: 'it returns false'. Refute it at one input. -/
def wholeTellsWrong : ChangeSpec := { name := "wholeTells", fn := fun _ => fun
  | [d1, d2, d3] => { results := [.lit (.bool false)], args := [d1, d2, d3] }
  | _ => none }
def WholeTellsWrongFalsely : Prop := wholeTellsRow.holds Try.pinned (OpenSpec.ofChange wholeTellsWrong)

/-- 'quillpenlaw06.WholeFront': WHATEVER THE INPUT: true; the input reads as it did. -/
def wholeFrontSpec : ChangeSpec := { name := "wholeFront", fn := fun _ => fun
  | [d1, d2, d3] => { results := [.lit (.bool true)], args := [d1, d2, d3] }
  | _ => none }
def wholeFrontRow : OpenClaim := { program := "ytdjlbbemgahohaa", sum := "ac00383543fbe91c5124db8fe223ca75a8256bfc45ecc14d2bfd5651fb24f565", func := "quillpen/quillpenlaw06.WholeFront", spec := "wholeFront", unfollowed := true, recurses := true, apart := false }
def WholeFrontSaid : Prop := wholeFrontRow.holds Try.pinned (OpenSpec.ofChange wholeFrontSpec)

/-- ITS FALSE NEIGHBOUR: 'it returns false'. Refute it at one input. -/
def wholeFrontWrong : ChangeSpec := { name := "wholeFront", fn := fun _ => fun
  | [d1, d2, d3] => { results := [.lit (.bool false)], args := [d1, d2, d3] }
  | _ => none }
def WholeFrontWrongFalsely : Prop := wholeFrontRow.holds Try.pinned (OpenSpec.ofChange wholeFrontWrong)

/-- 'quillpenlaw06.WholeLimits': WHATEVER THE INPUT: true; the input reads as it did. -/
def wholeLimitsSpec : ChangeSpec := { name := "wholeLimits", fn := fun _ => fun
  | [d1, d2, d3] => { results := [.lit (.bool true)], args := [d1, d2, d3] }
  | _ => none }
def wholeLimitsRow : OpenClaim := { program := "ytdjlbbemgahohaa", sum := "ac00383543fbe91c5124db8fe223ca75a8256bfc45ecc14d2bfd5651fb24f565", func := "quillpen/quillpenlaw06.WholeLimits", spec := "wholeLimits", unfollowed := true, recurses := true, apart := false }
def WholeLimitsSaid : Prop := wholeLimitsRow.holds Try.pinned (OpenSpec.ofChange wholeLimitsSpec)

/-- ITS FALSE NEIGHBOUR: 'it returns false'. Refute it at one input. -/
def wholeLimitsWrong : ChangeSpec := { name := "wholeLimits", fn := fun _ => fun
  | [d1, d2, d3] => { results := [.lit (.bool false)], args := [d1, d2, d3] }
  | _ => none }
def WholeLimitsWrongFalsely : Prop := wholeLimitsRow.holds Try.pinned (OpenSpec.ofChange wholeLimitsWrong)

/- THE SECOND FORM. 'bulk': how many values and letters a reading holds, each counted each time it is reached (what is shared counts as often as it is met; a slice's spare places count too). A statement '..UptoSaid' is the law's where the arguments, and the package variables that the reading takes, are together of bulk at most 1048576: NARROWER than '..Said'. Prove '..Said' where nothing that the law and all that it calls make is longer than what came in: it says more and counts as full. Else prove '..UptoSaid'. A law counts once. -/
mutual
def uptoBulk {H : Type} : DataW H → Nat
  | .lit (.string bytes) => bytes.length + 1
  | .lit _ => 1
  | .nil => 1
  | .ptr d => uptoBulk d + 1
  | .slice elems spare => uptoBulkAll elems + uptoBulkAll spare + 1
  | .agg parts => uptoBulkAll parts + 1
  | .iface _ d => uptoBulk d + 1
  | .map entries => uptoBulkEntries entries + 1
  | .held _ => 1
def uptoBulkAll {H : Type} : List (DataW H) → Nat
  | [] => 0
  | d :: r => uptoBulk d + uptoBulkAll r
def uptoBulkEntries {H : Type} : List (Lit × DataW H) → Nat
  | [] => 0
  | x :: r => uptoBulkEntry x + uptoBulkEntries r
def uptoBulkEntry {H : Type} : Lit × DataW H → Nat
  | (.string bytes, d) => bytes.length + uptoBulk d + 1
  | (_, d) => uptoBulk d + 1
 end
def uptoSmall : (H : Type) → List (DataW H) → Bool := fun _ ds => decide (uptoBulkAll ds ≤ 1048576)
def OpenSpec.upto (s : _root_.Go.ChangeSpec) : _root_.Go.OpenSpec := { _root_.Go.OpenSpec.ofChange s with cond := some uptoSmall }

/-- 'quillpenlaw06.WholeParses', WHERE WHAT IT READS IS OF BULK AT MOST 1048576: true; the input reads as it did. -/
def wholeParsesUptoRow : OpenClaim := { program := "ytdjlbbemgahohaa", sum := "ac00383543fbe91c5124db8fe223ca75a8256bfc45ecc14d2bfd5651fb24f565", func := "quillpen/quillpenlaw06.WholeParses", spec := "wholeParses", unfollowed := true, recurses := true, apart := false, narrowed := true }
def WholeParsesUptoSaid : Prop := wholeParsesUptoRow.holds Try.pinned (OpenSpec.upto wholeParsesSpec)

/-- 'quillpenlaw06.WholeTells', WHERE WHAT IT READS IS OF BULK AT MOST 1048576: true; the input reads as it did. -/
def wholeTellsUptoRow : OpenClaim := { program := "ytdjlbbemgahohaa", sum := "ac00383543fbe91c5124db8fe223ca75a8256bfc45ecc14d2bfd5651fb24f565", func := "quillpen/quillpenlaw06.WholeTells", spec := "wholeTells", unfollowed := true, recurses := true, apart := false, narrowed := true }
def WholeTellsUptoSaid : Prop := wholeTellsUptoRow.holds Try.pinned (OpenSpec.upto wholeTellsSpec)

/-- 'quillpenlaw06.WholeFront', WHERE WHAT IT READS IS OF BULK AT MOST 1048576: true; the input reads as it did. -/
def wholeFrontUptoRow : OpenClaim := { program := "ytdjlbbemgahohaa", sum := "ac00383543fbe91c5124db8fe223ca75a8256bfc45ecc14d2bfd5651fb24f565", func := "quillpen/quillpenlaw06.WholeFront", spec := "wholeFront", unfollowed := true, recurses := true, apart := false, narrowed := true }
def WholeFrontUptoSaid : Prop := wholeFrontUptoRow.holds Try.pinned (OpenSpec.upto wholeFrontSpec)

/-- 'quillpenlaw06.WholeLimits', WHERE WHAT IT READS IS OF BULK AT MOST 1048576: true; the input reads as it did. -/
def wholeLimitsUptoRow : OpenClaim := { program := "ytdjlbbemgahohaa", sum := "ac00383543fbe91c5124db8fe223ca75a8256bfc45ecc14d2bfd5651fb24f565", func := "quillpen/quillpenlaw06.WholeLimits", spec := "wholeLimits", unfollowed := true, recurses := true, apart := false, narrowed := true }
def WholeLimitsUptoSaid : Prop := wholeLimitsUptoRow.holds Try.pinned (OpenSpec.upto wholeLimitsSpec)

end Rows
end Go.Proofs.Ytdjlbbemgahohaa
