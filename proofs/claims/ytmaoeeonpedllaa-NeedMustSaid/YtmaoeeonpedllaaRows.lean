/-
  No cell of these rows narrows 'for every input' (looked for: loops, veiled, ifaces, maps, wideKeys, modest, calm, conditions, laid).
  DERIVED. THE GIVEN ROWS OF THIS SEAT. 4 by the template 'for every input the law returns true; each argument reads behind the call as it read before'; 0 by the template 'total and deterministic' (their statements: YtmaoeeonpedllaaTotals.lean).
  GIVEN WITH THE SEED: the statements are not yours to turn. If you find one false, say at which input.
  Laid BY PROGRAM, IN A SANDBOX (cutbox-rows.mjs): the forced cells as the released guide's own fill.sh prints them over the translation 3f55f22ec0a3752a… (all of the seat's roots in one cut). By AI agents, Wed Nov 11 2026. No macro, syntax, notation, axiom, sorry.
-/
import Derived.Test.YtmaoeeonpedllaaChecked
import GoSem.Claim
import GoSem.ClaimJoined
import GoSem.ClaimMapViews
import Derived.JoinedTies
import Derived.KernelRfl
namespace Go.Proofs.Ytmaoeeonpedllaa
/- THE CELL 'sum', in the pinned program and in every row, IS THE sha256 OF THE DUMP (.gsa) THAT YtmaoeeonpedllaaProg.lean LOADS. Nothing in Lean hashes anything: it is a label: what it is worth is what the hold of that sum in a sandbox is worth. -/
noncomputable def Try.pinned : Pinned := { name := "ytmaoeeonpedllaa", sum := "3f55f22ec0a3752abd66173477673fba83eadb2794065c34e128b544b56a2487", checked := Try.checked }
namespace Rows
def none {H : Type} : Left H := { results := [], args := [] }

/-- 'quillpenlaw08.NeedTells': WHATEVER THE INPUT: true; the input reads as it did. -/
def needTellsSpec : ChangeSpec := { name := "needTells", fn := fun _ => fun
  | [d1, d2, d3] => { results := [.lit (.bool true)], args := [d1, d2, d3] }
  | _ => none }
def needTellsRow : OpenClaim := { program := "ytmaoeeonpedllaa", sum := "3f55f22ec0a3752abd66173477673fba83eadb2794065c34e128b544b56a2487", func := "quillpen/quillpenlaw08.NeedTells", spec := "needTells", inPlace := ["internal/bytealg.IndexByteString", "internal/bytealg.IndexString"], named := ["internal/bytealg.MaxLen"], apart := false }
def NeedTellsSaid : Prop := needTellsRow.holds Try.pinned (OpenSpec.ofChange needTellsSpec)

/-- ITS FALSE NEIGHBOUR: 'it returns false'. Refute it at one input. -/
def needTellsWrong : ChangeSpec := { name := "needTells", fn := fun _ => fun
  | [d1, d2, d3] => { results := [.lit (.bool false)], args := [d1, d2, d3] }
  | _ => none }
def NeedTellsWrongFalsely : Prop := needTellsRow.holds Try.pinned (OpenSpec.ofChange needTellsWrong)

/-- 'quillpenlaw08.NeedFields': WHATEVER THE INPUT: true; the input reads as it did. -/
def needFieldsSpec : ChangeSpec := { name := "needFields", fn := fun _ => fun
  | [d1, d2, d3] => { results := [.lit (.bool true)], args := [d1, d2, d3] }
  | _ => none }
def needFieldsRow : OpenClaim := { program := "ytmaoeeonpedllaa", sum := "3f55f22ec0a3752abd66173477673fba83eadb2794065c34e128b544b56a2487", func := "quillpen/quillpenlaw08.NeedFields", spec := "needFields", inPlace := ["internal/bytealg.IndexByteString", "internal/bytealg.IndexString"], named := ["internal/bytealg.MaxLen"], apart := false }
def NeedFieldsSaid : Prop := needFieldsRow.holds Try.pinned (OpenSpec.ofChange needFieldsSpec)

/-- ITS FALSE NEIGHBOUR: 'it returns false'. Refute it at one input. -/
def needFieldsWrong : ChangeSpec := { name := "needFields", fn := fun _ => fun
  | [d1, d2, d3] => { results := [.lit (.bool false)], args := [d1, d2, d3] }
  | _ => none }
def NeedFieldsWrongFalsely : Prop := needFieldsRow.holds Try.pinned (OpenSpec.ofChange needFieldsWrong)

/-- 'quillpenlaw08.NeedPlain': WHATEVER THE INPUT: true; the input reads as it did. -/
def needPlainSpec : ChangeSpec := { name := "needPlain", fn := fun _ => fun
  | [d1, d2] => { results := [.lit (.bool true)], args := [d1, d2] }
  | _ => none }
def needPlainRow : OpenClaim := { program := "ytmaoeeonpedllaa", sum := "3f55f22ec0a3752abd66173477673fba83eadb2794065c34e128b544b56a2487", func := "quillpen/quillpenlaw08.NeedPlain", spec := "needPlain", inPlace := ["internal/bytealg.IndexByteString", "internal/bytealg.IndexString"], named := ["internal/bytealg.MaxLen"], apart := false }
def NeedPlainSaid : Prop := needPlainRow.holds Try.pinned (OpenSpec.ofChange needPlainSpec)

/-- ITS FALSE NEIGHBOUR: 'it returns false'. Refute it at one input. -/
def needPlainWrong : ChangeSpec := { name := "needPlain", fn := fun _ => fun
  | [d1, d2] => { results := [.lit (.bool false)], args := [d1, d2] }
  | _ => none }
def NeedPlainWrongFalsely : Prop := needPlainRow.holds Try.pinned (OpenSpec.ofChange needPlainWrong)

/-- 'quillpenlaw08.NeedMust': WHATEVER THE INPUT: true; the input reads as it did. -/
def needMustSpec : ChangeSpec := { name := "needMust", fn := fun _ => fun
  | [d1, d2] => { results := [.lit (.bool true)], args := [d1, d2] }
  | _ => none }
def needMustRow : OpenClaim := { program := "ytmaoeeonpedllaa", sum := "3f55f22ec0a3752abd66173477673fba83eadb2794065c34e128b544b56a2487", func := "quillpen/quillpenlaw08.NeedMust", spec := "needMust", inPlace := ["internal/bytealg.IndexByteString", "internal/bytealg.IndexString"], named := ["internal/bytealg.MaxLen"], apart := false }
def NeedMustSaid : Prop := needMustRow.holds Try.pinned (OpenSpec.ofChange needMustSpec)

/-- ITS FALSE NEIGHBOUR: 'it returns false'. Refute it at one input. -/
def needMustWrong : ChangeSpec := { name := "needMust", fn := fun _ => fun
  | [d1, d2] => { results := [.lit (.bool false)], args := [d1, d2] }
  | _ => none }
def NeedMustWrongFalsely : Prop := needMustRow.holds Try.pinned (OpenSpec.ofChange needMustWrong)

/- THE SECOND FORM. 'bulk': how many values and letters a reading holds, each counted each time it is reached (what is shared counts as often as it is met; a slice's spare places count too). A statement '..UptoSaid' is the law's where the arguments, and the package variables that the reading takes, are together of bulk at most 1048576: NARROWER than '..Said'. Prove '..Said' where nothing that the law and all that it calls make is longer than what came in: it says more and counts as full. Else prove '..UptoSaid'. A law counts once. -/
mutual
def uptoBulk {H : Type} : DataW H → Nat
  | .lit (.string bytes) => bytes.length + 1
  | .lit _ => 1
  | .nil => 1
  | .ptr d => uptoBulk d + 1
  | .slice elems spare => uptoBulkAll elems + uptoBulkAll spare + 1
  | .agg parts => uptoBulkAll parts + 1
  | .iface _ d => uptoBulk d + 1
  | .map entries => uptoBulkEntries entries + 1
  | .held _ => 1
def uptoBulkAll {H : Type} : List (DataW H) → Nat
  | [] => 0
  | d :: r => uptoBulk d + uptoBulkAll r
def uptoBulkEntries {H : Type} : List (Lit × DataW H) → Nat
  | [] => 0
  | x :: r => uptoBulkEntry x + uptoBulkEntries r
def uptoBulkEntry {H : Type} : Lit × DataW H → Nat
  | (.string bytes, d) => bytes.length + uptoBulk d + 1
  | (_, d) => uptoBulk d + 1
 end
def uptoSmall : (H : Type) → List (DataW H) → Bool := fun _ ds => decide (uptoBulkAll ds ≤ 1048576)
def OpenSpec.upto (s : _root_.Go.ChangeSpec) : _root_.Go.OpenSpec := { _root_.Go.OpenSpec.ofChange s with cond := some uptoSmall }

/-- 'quillpenlaw08.NeedTells', WHERE WHAT IT READS IS OF BULK AT MOST 1048576: true; the input reads as it did. -/
def needTellsUptoRow : OpenClaim := { program := "ytmaoeeonpedllaa", sum := "3f55f22ec0a3752abd66173477673fba83eadb2794065c34e128b544b56a2487", func := "quillpen/quillpenlaw08.NeedTells", spec := "needTells", inPlace := ["internal/bytealg.IndexByteString", "internal/bytealg.IndexString"], named := ["internal/bytealg.MaxLen"], apart := false, narrowed := true }
def NeedTellsUptoSaid : Prop := needTellsUptoRow.holds Try.pinned (OpenSpec.upto needTellsSpec)

/-- 'quillpenlaw08.NeedFields', WHERE WHAT IT READS IS OF BULK AT MOST 1048576: true; the input reads as it did. -/
def needFieldsUptoRow : OpenClaim := { program := "ytmaoeeonpedllaa", sum := "3f55f22ec0a3752abd66173477673fba83eadb2794065c34e128b544b56a2487", func := "quillpen/quillpenlaw08.NeedFields", spec := "needFields", inPlace := ["internal/bytealg.IndexByteString", "internal/bytealg.IndexString"], named := ["internal/bytealg.MaxLen"], apart := false, narrowed := true }
def NeedFieldsUptoSaid : Prop := needFieldsUptoRow.holds Try.pinned (OpenSpec.upto needFieldsSpec)

/-- 'quillpenlaw08.NeedPlain', WHERE WHAT IT READS IS OF BULK AT MOST 1048576: true; the input reads as it did. -/
def needPlainUptoRow : OpenClaim := { program := "ytmaoeeonpedllaa", sum := "3f55f22ec0a3752abd66173477673fba83eadb2794065c34e128b544b56a2487", func := "quillpen/quillpenlaw08.NeedPlain", spec := "needPlain", inPlace := ["internal/bytealg.IndexByteString", "internal/bytealg.IndexString"], named := ["internal/bytealg.MaxLen"], apart := false, narrowed := true }
def NeedPlainUptoSaid : Prop := needPlainUptoRow.holds Try.pinned (OpenSpec.upto needPlainSpec)

/-- 'quillpenlaw08.NeedMust', WHERE WHAT IT READS IS OF BULK AT MOST 1048576: true; the input reads as it did. -/
def needMustUptoRow : OpenClaim := { program := "ytmaoeeonpedllaa", sum := "3f55f22ec0a3752abd66173477673fba83eadb2794065c34e128b544b56a2487", func := "quillpen/quillpenlaw08.NeedMust", spec := "needMust", inPlace := ["internal/bytealg.IndexByteString", "internal/bytealg.IndexString"], named := ["internal/bytealg.MaxLen"], apart := false, narrowed := true }
def NeedMustUptoSaid : Prop := needMustUptoRow.holds Try.pinned (OpenSpec.upto needMustSpec)

end Rows
end Go.Proofs.Ytmaoeeonpedllaa
