/-
  The frame of a law whose statement bounds what comes in.
-/
import Derived.Test.YtmfhnmdgcjlnpaaRows
import Derived.Test.YtmfhnmdgcjlnpaaLaw
import Derived.JoinedCond
import Derived.Deep.CondSized
namespace Go.Proofs.Ytmfhnmdgcjlnpaa
open Go.ChangeShapes Go.WideShapes Go.ChangeAt Go.RowKit

theorem upto_lift {os : Os} {F : FuncId} {f : Func} {s : ChangeSpec} {tb : TypeId} {H : Type} {enc : TypeId × Value → H} (I : Stop.Interp)
    (started : os.Started) (noInit : Try.prog.inits.idxOf? F = none) (hf : Try.prog.funcs[F]? = some f)
    (witness : ∃ (w : World) (tape : Tape) (i : Input), w.os = os ∧ (w.forCall tape i).Shaped Try.prog ∧ i.vars = [] ∧ Input.okWide Try.prog (w.forCall tape i) .any w.heap.size F i ∧
      (Rows.OpenSpec.upto s).pre6 enc Try.prog f [] false (w.forCall tape i).memory i.args ∧ ({} : Assume).holds Try.prog (lone (Frame.enter Try.prog F i.args .normal) [] (w.forCall tape i)))
    (hrt : f.resultTypes = #[tb]) (htb : Try.prog.underlying tb = some .bool)
    (hts : ∀ t ∈ f.params.toList, Try.prog.readableRec t = true ∧ t < Try.prog.types.size)
    (hv : s.vars = []) (hs : ∀ ds : List (DataW H), ds.length = f.params.toList.length → s.fn H ds = { results := [.lit (.bool true)], args := ds })
    (walk : ∀ (W : World) (base : Nat) (args : Array Value) (ds : List (DataW H)) (ps : List MemPlace), Handed enc Try.prog f W base args ds ps → Rows.uptoBulkAll ds ≤ 1048576 → Calls Try.prog F args W (Gives (.bool true) W)) :
    ReturnsInHanded {} Try.checked os F .any ((Rows.OpenSpec.upto s).pre6 enc Try.prog f [] false) (((Rows.OpenSpec.upto s).at I).post enc Try.prog f false true false false) := by
  refine returnsInHanded_of_cond_sized (C := Try.checked) (s := Rows.OpenSpec.upto s) (k := Rows.uptoSmall) rfl Try.own started noInit hf witness ?_
  intro W base args ds gs before hval hW _ hk hsz _
  have hW' := hW
  obtain ⟨p, q, hA, hV, rfl, hfz, hnd⟩ := hW
  have hV' : DataW.TrodVars enc Try.prog W (fun _ => true) s.vars gs q := hV
  rw [hv] at hV'
  obtain ⟨rfl, rfl⟩ := trodVars_none hV'
  obtain ⟨hlt, hlen⟩ := trodAll_places _ _ _ _ hA
  rw [List.append_nil] at hk
  have hb : Rows.uptoBulkAll ds ≤ 1048576 := of_decide_eq_true hk
  rw [List.append_nil, weights_append _ _ _ hlen] at hsz
  refine (walk W base args ds p ⟨hval, hA, hsz⟩ hb).mono fun e W' ⟨he, bel⟩ => ?_
  subst he
  have e1 := hs ds hlen
  refine ⟨_, rfl, ds, [], p ++ [], [], p, [], hW', ?_, ?_, ?_, bel.frame _, fun h => by cases h⟩
  · rw [List.append_nil]
    show DataW.TrodAll _ _ _ _ _ _ _ _ (s.fn H ds).results _
    rw [e1, hrt]
    exact trodAll_mk1 (shut_bool htb _)
  · rw [List.append_nil]
    show DataW.TrodAll _ _ _ _ _ _ _ _ (s.fn H ds).args _
    rw [e1]
    exact trodAll_later Try.laidOut bel _ _ _ _ hts hlt hA
  · rw [List.append_nil]
    show DataW.TrodVars _ _ _ _ s.vars (s.fn H ds).vars _
    rw [e1, hv]
    rfl

end Go.Proofs.Ytmfhnmdgcjlnpaa
