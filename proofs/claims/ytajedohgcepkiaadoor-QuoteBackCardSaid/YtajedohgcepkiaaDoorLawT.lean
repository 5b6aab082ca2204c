/-
  The frame of a law whose row lists tables of the library's: a function that hands back true, whatever it is called with, and turns nothing that was there, meets its row; the variable MaxLen holds some number.
-/
import Derived.Test.YtajedohgcepkiaaDoorRows
import Derived.Test.YtajedohgcepkiaaDoorLaw
import Derived.Shelf.Vars
import Derived.LaidLaws
import Derived.Lay
import Derived.LaidOnce
namespace Go.Proofs.YtajedohgcepkiaaDoor
open Go.ChangeShapes Go.WideShapes Go.ChangeAt Go.RowKit

/-- The library's MaxLen holds some number. -/
def MaxL (W : World) : Prop := ∃ m, W.cell? ⟨0, 0, none⟩ = some (.int .i64 m)
theorem MaxL.lt {W : World} (h : MaxL W) : 0 < W.heap.size := by
  obtain ⟨m, h⟩ := h
  refine Classical.byContradiction fun c => ?_
  have e : W.heap[0]? = none := Array.getElem?_eq_none (by omega)
  unfold World.cell? at h
  simp [e] at h
theorem MaxL.below {W W' : World} (h : MaxL W) (hb : Below W.heap.size W W') : MaxL W' := by
  obtain ⟨m, hm⟩ := h
  exact ⟨m, (hb.cell (p := ⟨0, 0, none⟩) (MaxL.lt ⟨m, hm⟩)).trans hm⟩
theorem MaxL.later {W : World} (x : Later W) (h : MaxL W) : MaxL x.w := h.below x.below
theorem MaxL.alloc {W : World} (h : MaxL W) (o : Obj) : MaxL (W.alloc o) := h.below ((Below.refl _ _).alloc (Nat.le_refl _) _)
theorem MaxL.drew {W : World} (h : MaxL W) : MaxL W.drew := h.below (Below.refl _ _).drew

theorem maxL_shaped {W : World} (h : W.ShapedOpen Tryd.prog) : MaxL W :=
  cell_of_shapedOpen_int (g := 0) (t := 3) (zero := #[.int .i64 0]) h (of_decide_eq_true (by kernel_rfl)) (by kernel_rfl) rfl (by kernel_rfl) (by kernel_rfl) (by kernel_rfl)

theorem law_lift_laid {C : Checked} {os : Os} {F : FuncId} {f : Func} {s : ChangeSpec} {tb : TypeId} {H : Type} {enc : TypeId × Value → H} {laid : List (String × DataW Unit)}
    (own : ownKnob C.prog.godebug = none) (laidO : laidOutB C.prog = true) (started : os.Started) (noInit : C.prog.inits.idxOf? F = none) (hf : C.prog.funcs[F]? = some f)
    (witness : ∃ (w : World) (tape : Tape) (i : Input), w.os = os ∧ (w.forCall tape i).Shaped C.prog ∧ i.vars = [] ∧ Input.okWide C.prog (w.forCall tape i) .any w.heap.size F i ∧
      ((s.pre enc C.prog f [] false (w.forCall tape i).memory i.args ∧ laidMetH C.prog laid (w.forCall tape i).memory) ∧ sizedMet enc C.prog f (OpenSpec.ofChange s) false (w.forCall tape i).memory i.args) ∧
      ({} : Assume).holds C.prog (lone (Frame.enter C.prog F i.args .normal) [] (w.forCall tape i)))
    (hrt : f.resultTypes = #[tb]) (htb : C.prog.underlying tb = some .bool)
    (hts : ∀ t ∈ f.params.toList, C.prog.readableRec t = true ∧ t < C.prog.types.size)
    (hv : s.vars = []) (hs : ∀ ds : List (DataW H), ds.length = f.params.toList.length → s.fn H ds = { results := [.lit (.bool true)], args := ds })
    (walk : ∀ (W : World) (base : Nat) (args : Array Value) (ds : List (DataW H)) (ps : List MemPlace), W.ShapedOpen C.prog → Handed enc C.prog f W base args ds ps → Calls C.prog F args W (Gives (.bool true) W)) :
    ReturnsInHanded {} C os F .any (fun w args => (s.pre enc C.prog f [] false w args ∧ laidMetH C.prog laid w) ∧ sizedMet enc C.prog f (OpenSpec.ofChange s) false w args) (s.post enc C.prog f false true false false) := by
  refine returnsInHanded_of_calls own started noInit witness ?_
  intro w tape i _ hsh _ hok hpre _
  obtain ⟨_, _, _, fn', hfn', _, _, _, _, hval⟩ := hok
  have e : fn' = f := Option.some.inj (hfn'.symm.trans hf)
  subst e
  obtain ⟨⟨⟨ds, gs, before, hw, _⟩, _⟩, hz⟩ := hpre
  have hsz := hz.weights hw
  have hW := DataW.Whole.of_heap (w' := w.forCall tape i) (by rfl) hw
  clear hw hz
  have hW' := hW
  obtain ⟨p, q, hA, hV, rfl, hfz, hnd⟩ := hW
  rw [hv] at hV
  obtain ⟨rfl, rfl⟩ := trodVars_none hV
  obtain ⟨hlt, hlen⟩ := trodAll_places _ _ _ _ hA
  rw [List.append_nil, weights_append _ _ _ hlen] at hsz
  refine (walk (w.forCall tape i) w.heap.size i.args ds p hsh ⟨hval, hA, hsz⟩).mono fun e W' ⟨he, bel⟩ => ?_
  subst he
  have e1 := hs ds hlen
  refine ChangeSpec.post_blind (W := w.forCall tape i) ?_
  refine ⟨ds, [], p ++ [], [], p, [], hW', ?_, ?_, ?_, bel.frame _, fun h => by cases h⟩
  · rw [List.append_nil, e1, hrt]
    exact trodAll_mk1 (shut_bool htb _)
  · rw [List.append_nil, e1]
    exact trodAll_later laidO bel _ _ _ _ hts hlt hA
  · rw [List.append_nil, e1, hv]
    rfl

end Go.Proofs.YtajedohgcepkiaaDoor
