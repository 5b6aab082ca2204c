/-
  No cell of these rows narrows 'for every input' (looked for: loops, veiled, ifaces, maps, wideKeys, modest, calm, conditions, laid).
  DERIVED. THE GIVEN ROWS OF THIS SEAT. 5 by the template 'for every input the law returns true; each argument reads behind the call as it read before'; 0 by the template 'total and deterministic' (their statements: YtmfhnmdgcjlnpaaTotals.lean).
  GIVEN WITH THE SEED: the statements are not yours to turn. If you find one false, say at which input.
  Laid BY PROGRAM, IN A SANDBOX (cutbox-rows.mjs): the forced cells as the released guide's own fill.sh prints them over the translation 5f4845a9276a3575… (all of the seat's roots in one cut). By AI agents, Wed Nov 11 2026. No macro, syntax, notation, axiom, sorry.
-/
import Derived.Test.YtmfhnmdgcjlnpaaChecked
import GoSem.Claim
import GoSem.ClaimJoined
import GoSem.ClaimMapViews
import Derived.JoinedTies
import Derived.KernelRfl
namespace Go.Proofs.Ytmfhnmdgcjlnpaa
/- THE CELL 'sum', in the pinned program and in every row, IS THE sha256 OF THE DUMP (.gsa) THAT YtmfhnmdgcjlnpaaProg.lean LOADS. Nothing in Lean hashes anything: it is a label: what it is worth is what the hold of that sum in a sandbox is worth. -/
noncomputable def Try.pinned : Pinned := { name := "ytmfhnmdgcjlnpaa", sum := "5f4845a9276a35756573b9325ad1fe43108beab1b7fc3e982db03bc662fe9f4c", checked := Try.checked }
namespace Rows
def none {H : Type} : Left H := { results := [], args := [] }

/-- 'quillpenlaw07.CutsAt': WHATEVER THE INPUT: true; the input reads as it did. -/
def cutsAtSpec : ChangeSpec := { name := "cutsAt", fn := fun _ => fun
  | [d1, d2] => { results := [.lit (.bool true)], args := [d1, d2] }
  | _ => none }
def cutsAtRow : OpenClaim := { program := "ytmfhnmdgcjlnpaa", sum := "5f4845a9276a35756573b9325ad1fe43108beab1b7fc3e982db03bc662fe9f4c", func := "quillpen/quillpenlaw07.CutsAt", spec := "cutsAt", inPlace := ["internal/abi.NoEscape", "internal/bytealg.MakeNoZero"], recurses := true, apart := false }
def CutsAtSaid : Prop := cutsAtRow.holds Try.pinned (OpenSpec.ofChange cutsAtSpec)

/-- ITS FALSE NEIGHBOUR: 'it returns false'. Refute it at one input. -/
def cutsAtWrong : ChangeSpec := { name := "cutsAt", fn := fun _ => fun
  | [d1, d2] => { results := [.lit (.bool false)], args := [d1, d2] }
  | _ => none }
def CutsAtWrongFalsely : Prop := cutsAtRow.holds Try.pinned (OpenSpec.ofChange cutsAtWrong)

/-- 'quillpenlaw07.CutsBy': WHATEVER THE INPUT: true; the input reads as it did. -/
def cutsBySpec : ChangeSpec := { name := "cutsBy", fn := fun _ => fun
  | [d1, d2] => { results := [.lit (.bool true)], args := [d1, d2] }
  | _ => none }
def cutsByRow : OpenClaim := { program := "ytmfhnmdgcjlnpaa", sum := "5f4845a9276a35756573b9325ad1fe43108beab1b7fc3e982db03bc662fe9f4c", func := "quillpen/quillpenlaw07.CutsBy", spec := "cutsBy", recurses := true, apart := false }
def CutsBySaid : Prop := cutsByRow.holds Try.pinned (OpenSpec.ofChange cutsBySpec)

/-- ITS FALSE NEIGHBOUR: 'it returns false'. Refute it at one input. -/
def cutsByWrong : ChangeSpec := { name := "cutsBy", fn := fun _ => fun
  | [d1, d2] => { results := [.lit (.bool false)], args := [d1, d2] }
  | _ => none }
def CutsByWrongFalsely : Prop := cutsByRow.holds Try.pinned (OpenSpec.ofChange cutsByWrong)

/-- 'quillpenlaw07.CutsJoins': WHATEVER THE INPUT: true; the input reads as it did. -/
def cutsJoinsSpec : ChangeSpec := { name := "cutsJoins", fn := fun _ => fun
  | [d] => { results := [.lit (.bool true)], args := [d] }
  | _ => none }
def cutsJoinsRow : OpenClaim := { program := "ytmfhnmdgcjlnpaa", sum := "5f4845a9276a35756573b9325ad1fe43108beab1b7fc3e982db03bc662fe9f4c", func := "quillpen/quillpenlaw07.CutsJoins", spec := "cutsJoins", inPlace := ["internal/abi.NoEscape", "internal/bytealg.MakeNoZero"], recurses := true, apart := false }
def CutsJoinsSaid : Prop := cutsJoinsRow.holds Try.pinned (OpenSpec.ofChange cutsJoinsSpec)

/-- ITS FALSE NEIGHBOUR: 'it returns false'. Refute it at one input. -/
def cutsJoinsWrong : ChangeSpec := { name := "cutsJoins", fn := fun _ => fun
  | [d] => { results := [.lit (.bool false)], args := [d] }
  | _ => none }
def CutsJoinsWrongFalsely : Prop := cutsJoinsRow.holds Try.pinned (OpenSpec.ofChange cutsJoinsWrong)

/-- 'quillpenlaw07.CutsWays': WHATEVER THE INPUT: true; the input reads as it did. -/
def cutsWaysSpec : ChangeSpec := { name := "cutsWays", fn := fun _ => fun
  | [d1, d2] => { results := [.lit (.bool true)], args := [d1, d2] }
  | _ => none }
def cutsWaysRow : OpenClaim := { program := "ytmfhnmdgcjlnpaa", sum := "5f4845a9276a35756573b9325ad1fe43108beab1b7fc3e982db03bc662fe9f4c", func := "quillpen/quillpenlaw07.CutsWays", spec := "cutsWays", unfollowed := true, recurses := true, apart := false }
def CutsWaysSaid : Prop := cutsWaysRow.holds Try.pinned (OpenSpec.ofChange cutsWaysSpec)

/-- ITS FALSE NEIGHBOUR: 'it returns false'. Refute it at one input. -/
def cutsWaysWrong : ChangeSpec := { name := "cutsWays", fn := fun _ => fun
  | [d1, d2] => { results := [.lit (.bool false)], args := [d1, d2] }
  | _ => none }
def CutsWaysWrongFalsely : Prop := cutsWaysRow.holds Try.pinned (OpenSpec.ofChange cutsWaysWrong)

/-- 'quillpenlaw07.CutsEach': WHATEVER THE INPUT: true; the input reads as it did. -/
def cutsEachSpec : ChangeSpec := { name := "cutsEach", fn := fun _ => fun
  | [d] => { results := [.lit (.bool true)], args := [d] }
  | _ => none }
def cutsEachRow : OpenClaim := { program := "ytmfhnmdgcjlnpaa", sum := "5f4845a9276a35756573b9325ad1fe43108beab1b7fc3e982db03bc662fe9f4c", func := "quillpen/quillpenlaw07.CutsEach", spec := "cutsEach", unfollowed := true, recurses := true, apart := false }
def CutsEachSaid : Prop := cutsEachRow.holds Try.pinned (OpenSpec.ofChange cutsEachSpec)

/-- ITS FALSE NEIGHBOUR: 'it returns false'. Refute it at one input. -/
def cutsEachWrong : ChangeSpec := { name := "cutsEach", fn := fun _ => fun
  | [d] => { results := [.lit (.bool false)], args := [d] }
  | _ => none }
def CutsEachWrongFalsely : Prop := cutsEachRow.holds Try.pinned (OpenSpec.ofChange cutsEachWrong)

/- THE SECOND FORM. 'bulk': how many values and letters a reading holds, each counted each time it is reached (what is shared counts as often as it is met; a slice's spare places count too). A statement '..UptoSaid' is the law's where the arguments, and the package variables that the reading takes, are together of bulk at most 1048576: NARROWER than '..Said'. Prove '..Said' where nothing that the law and all that it calls make is longer than what came in: it says more and counts as full. Else prove '..UptoSaid'. A law counts once. -/
mutual
def uptoBulk {H : Type} : DataW H → Nat
  | .lit (.string bytes) => bytes.length + 1
  | .lit _ => 1
  | .nil => 1
  | .ptr d => uptoBulk d + 1
  | .slice elems spare => uptoBulkAll elems + uptoBulkAll spare + 1
  | .agg parts => uptoBulkAll parts + 1
  | .iface _ d => uptoBulk d + 1
  | .map entries => uptoBulkEntries entries + 1
  | .held _ => 1
def uptoBulkAll {H : Type} : List (DataW H) → Nat
  | [] => 0
  | d :: r => uptoBulk d + uptoBulkAll r
def uptoBulkEntries {H : Type} : List (Lit × DataW H) → Nat
  | [] => 0
  | x :: r => uptoBulkEntry x + uptoBulkEntries r
def uptoBulkEntry {H : Type} : Lit × DataW H → Nat
  | (.string bytes, d) => bytes.length + uptoBulk d + 1
  | (_, d) => uptoBulk d + 1
 end
def uptoSmall : (H : Type) → List (DataW H) → Bool := fun _ ds => decide (uptoBulkAll ds ≤ 1048576)
def OpenSpec.upto (s : _root_.Go.ChangeSpec) : _root_.Go.OpenSpec := { _root_.Go.OpenSpec.ofChange s with cond := some uptoSmall }

/-- 'quillpenlaw07.CutsAt', WHERE WHAT IT READS IS OF BULK AT MOST 1048576: true; the input reads as it did. -/
def cutsAtUptoRow : OpenClaim := { program := "ytmfhnmdgcjlnpaa", sum := "5f4845a9276a35756573b9325ad1fe43108beab1b7fc3e982db03bc662fe9f4c", func := "quillpen/quillpenlaw07.CutsAt", spec := "cutsAt", inPlace := ["internal/abi.NoEscape", "internal/bytealg.MakeNoZero"], recurses := true, apart := false, narrowed := true }
def CutsAtUptoSaid : Prop := cutsAtUptoRow.holds Try.pinned (OpenSpec.upto cutsAtSpec)

/-- 'quillpenlaw07.CutsBy', WHERE WHAT IT READS IS OF BULK AT MOST 1048576: true; the input reads as it did. -/
def cutsByUptoRow : OpenClaim := { program := "ytmfhnmdgcjlnpaa", sum := "5f4845a9276a35756573b9325ad1fe43108beab1b7fc3e982db03bc662fe9f4c", func := "quillpen/quillpenlaw07.CutsBy", spec := "cutsBy", recurses := true, apart := false, narrowed := true }
def CutsByUptoSaid : Prop := cutsByUptoRow.holds Try.pinned (OpenSpec.upto cutsBySpec)

/-- 'quillpenlaw07.CutsJoins', WHERE WHAT IT READS IS OF BULK AT MOST 1048576: true; the input reads as it did. -/
def cutsJoinsUptoRow : OpenClaim := { program := "ytmfhnmdgcjlnpaa", sum := "5f4845a9276a35756573b9325ad1fe43108beab1b7fc3e982db03bc662fe9f4c", func := "quillpen/quillpenlaw07.CutsJoins", spec := "cutsJoins", inPlace := ["internal/abi.NoEscape", "internal/bytealg.MakeNoZero"], recurses := true, apart := false, narrowed := true }
def CutsJoinsUptoSaid : Prop := cutsJoinsUptoRow.holds Try.pinned (OpenSpec.upto cutsJoinsSpec)

/-- 'quillpenlaw07.CutsWays', WHERE WHAT IT READS IS OF BULK AT MOST 1048576: true; the input reads as it did. -/
def cutsWaysUptoRow : OpenClaim := { program := "ytmfhnmdgcjlnpaa", sum := "5f4845a9276a35756573b9325ad1fe43108beab1b7fc3e982db03bc662fe9f4c", func := "quillpen/quillpenlaw07.CutsWays", spec := "cutsWays", unfollowed := true, recurses := true, apart := false, narrowed := true }
def CutsWaysUptoSaid : Prop := cutsWaysUptoRow.holds Try.pinned (OpenSpec.upto cutsWaysSpec)

/-- 'quillpenlaw07.CutsEach', WHERE WHAT IT READS IS OF BULK AT MOST 1048576: true; the input reads as it did. -/
def cutsEachUptoRow : OpenClaim := { program := "ytmfhnmdgcjlnpaa", sum := "5f4845a9276a35756573b9325ad1fe43108beab1b7fc3e982db03bc662fe9f4c", func := "quillpen/quillpenlaw07.CutsEach", spec := "cutsEach", unfollowed := true, recurses := true, apart := false, narrowed := true }
def CutsEachUptoSaid : Prop := cutsEachUptoRow.holds Try.pinned (OpenSpec.upto cutsEachSpec)

end Rows
end Go.Proofs.Ytmfhnmdgcjlnpaa
