/-
  Opening what a law is handed: a record, with its fields' lengths; a truth.
-/
import Derived.Test.YtmaoeeonpedllaaOpenB
import Derived.Test.YtmaoeeonpedllaaStrs
import Derived.ChangeSlices
import Derived.SliceStrings
namespace Go.Proofs.Ytmaoeeonpedllaa
open Go.RowKit Go.ChangeShapes Go.WideShapes Go.ChangeAt

theorem weigh_three {H : Type} {enc : TypeId × Value → H} {P : Program} {f : Func} {W : World} {base : Nat} {args : Array Value} {ds : List (DataW H)} {ps : List MemPlace} {t t' t'' : TypeId}
    (hp : f.params = #[t, t', t'']) (h : Handed enc P f W base args ds ps) : ∃ v v' v'' d d' d'' p p' p'', args = #[v, v', v''] ∧ (Value.okWide P W .any base t v ∧ DataW.Trod enc P W 0 (fun _ => true) true t v d p ∧ ∀ n ∈ d.weights P t, n ≤ 140737488351232) ∧
      (Value.okWide P W .any base t' v' ∧ DataW.Trod enc P W 0 (fun _ => true) true t' v' d' p' ∧ ∀ n ∈ d'.weights P t', n ≤ 140737488351232) ∧
      (Value.okWide P W .any base t'' v'' ∧ DataW.Trod enc P W 0 (fun _ => true) true t'' v'' d'' p'' ∧ ∀ n ∈ d''.weights P t'', n ≤ 140737488351232) := by
  have hr := fun (d : DataW H) => h.reach (j := 0) (t := t) (d := d) (by rw [hp]; rfl)
  have hr' := fun (d : DataW H) => h.reach (j := 1) (t := t') (d := d) (by rw [hp]; rfl)
  have hr'' := fun (d : DataW H) => h.reach (j := 2) (t := t'') (d := d) (by rw [hp]; rfl)
  obtain ⟨hval, hA, _⟩ := h
  rw [hp] at hA hval
  obtain ⟨v0, v1, v2, d0, d1, d2, p0, p1, p2, rfl, rfl, _, h0, h1, h2⟩ := trodAll_three hA
  exact ⟨v0, v1, v2, d0, d1, d2, p0, p1, p2, rfl, ⟨hval 0 t v0 rfl rfl, h0, hr _ rfl⟩, ⟨hval 1 t' v1 rfl rfl, h1, hr' _ rfl⟩, ⟨hval 2 t'' v2 rfl rfl, h2, hr'' _ rfl⟩⟩

theorem strs_weigh {H : Type} {P : Program} {e : TypeId} {L : List ByteArray} {s : ByteArray} (h : s ∈ L) : s.size ∈ DataW.weightsAll (H := H) P e (strs L) := by
  have hm : (DataW.lit (.string s.data.toList) : DataW H) ∈ strs L := List.mem_map.2 ⟨s, h, rfl⟩
  refine weightsAll_mem hm _ ?_
  rw [DataW.weights, List.mem_singleton, Array.length_toList]
  rfl

theorem open_record {H : Type} {enc : TypeId × Value → H} {W : World} {base : Nat} {v : Value} {d : DataW H} {p : List MemPlace}
    (hv : Value.okWide Try.prog W .any base 34 v) (h : DataW.Trod enc Try.prog W 0 (fun _ => true) true 34 v d p) (hw : ∀ n ∈ d.weights Try.prog 34, n ≤ 140737488351232) :
    ∃ L, Strs W v L ∧ ∀ s ∈ L, s.size ≤ 140737488351232 := by
  obtain ⟨A, len, cap, rfl⟩ := okWide_slice Try.underlying34 hv
  obtain ⟨fuel, hf⟩ := h
  rcases open_strings Try.underlying34 Try.underlying9 (by kernel_rfl) hf with ⟨hcs, _⟩ | ⟨a, len', cap', zs, hcs, _, hl, hm, hz, hx, hcell, hwz⟩
  · simp [Value.cells] at hcs
    obtain ⟨rfl, rfl, rfl⟩ := hcs
    exact ⟨[], ⟨none, 0, rfl, Nat.le_refl _, Nat.zero_le _, fun j x hx => by simp at hx⟩, fun s hs => by cases hs⟩
  · simp [Value.cells] at hcs
    obtain ⟨rfl, rfl, rfl⟩ := hcs
    simp only [if_true] at hz
    simp only [Prod.mk.injEq] at hx
    have hl' : (zs.take len).length = len := by rw [List.length_take]; omega
    refine ⟨zs.take len, ⟨some a, cap, by rw [hl'], by rw [hl']; exact hl, hm, fun j x hx => ⟨a, rfl, ?_⟩⟩, fun s hs => hw _ ?_⟩
    · have hj : j < len := by have := (List.getElem?_eq_some_iff.1 hx).1; omega
      rw [hcell j (by omega)]
      rw [List.getElem?_take_of_lt hj] at hx
      simp [List.getD, hx]
    · rw [hx.1]
      simp only [DataW.weights, Try.underlying34, List.mem_cons, List.mem_append]
      exact .inr (.inl (strs_weigh hs))

theorem open_truth {H : Type} {enc : TypeId × Value → H} {W : World} {base : Nat} {v : Value} {d : DataW H} {p : List MemPlace}
    (hv : Value.okWide Try.prog W .any base 4 v) (h : DataW.Trod enc Try.prog W 0 (fun _ => true) true 4 v d p) : ∃ b : Bool, v = .bool b := by
  obtain ⟨b, rfl, _, _⟩ := open_bool Try.underlying4 hv h
  exact ⟨b, rfl⟩

end Go.Proofs.Ytmaoeeonpedllaa
