/-
  How arguments are opened: one, two or three of them; a byte, a number, a string.
-/
import Derived.Test.YtajedohgcepkiaaDoorRows
import Derived.Test.YtajedohgcepkiaaDoorLaw
import Derived.ChangeMaps5
namespace Go.Proofs.YtajedohgcepkiaaDoor
open Go.ChangeShapes Go.WideShapes Go.ChangeAt Go.RowKit Go.Joins
open Go.ChangeMaps (open_string)

theorem nat_of_u8 {a : Int} (h : (Lit.int .u8 a).wf = true) : ∃ n : Nat, n < 256 ∧ a = n := by
  have hb := bounds_u8 h
  exact ⟨a.toNat, by omega, by omega⟩

set_option maxRecDepth 100000 in
theorem open_byte {H : Type} {enc : TypeId × Value → H} {W : World} {base : Nat} {v : Value} {d : DataW H} {p : List MemPlace}
    (hv : Value.okWide Tryd.prog W .any base 5 v) (h : DataW.Trod enc Tryd.prog W 0 (fun _ => true) true 5 v d p) : ∃ n : Nat, n < 256 ∧ v = .int .u8 n := by
  obtain ⟨a, rfl, _, _, wa⟩ := open_int Tryd.underlying5 hv h
  obtain ⟨n, hn, rfl⟩ := nat_of_u8 wa
  exact ⟨n, hn, rfl⟩

set_option maxRecDepth 100000 in
theorem open_text {H : Type} {enc : TypeId × Value → H} {W : World} {base : Nat} {v : Value} {d : DataW H} {p : List MemPlace}
    (hv : Value.okWide Tryd.prog W .any base 9 v) (h : DataW.Trod enc Tryd.prog W 0 (fun _ => true) true 9 v d p) : ∃ s : ByteArray, v = .string s ∧ s.size ≤ maxLen := by
  obtain ⟨s, rfl, _, _, hs⟩ := open_string Tryd.underlying9 hv h
  exact ⟨s, rfl, hs⟩

theorem handed_one {H : Type} {enc : TypeId × Value → H} {P : Program} {f : Func} {W : World} {base : Nat} {args : Array Value} {ds : List (DataW H)} {ps : List MemPlace} {t : TypeId}
    (hp : f.params = #[t]) (h : Handed enc P f W base args ds ps) : ∃ v d p, args = #[v] ∧ Value.okWide P W .any base t v ∧ DataW.Trod enc P W 0 (fun _ => true) true t v d p := by
  obtain ⟨hval, hA, _⟩ := h
  rw [hp] at hA hval
  obtain ⟨v, d, rfl, _, h0⟩ := trodAll_one hA
  exact ⟨v, d, ps, rfl, hval 0 t v rfl rfl, h0⟩

theorem handed_two {H : Type} {enc : TypeId × Value → H} {P : Program} {f : Func} {W : World} {base : Nat} {args : Array Value} {ds : List (DataW H)} {ps : List MemPlace} {t t' : TypeId}
    (hp : f.params = #[t, t']) (h : Handed enc P f W base args ds ps) : ∃ v v' d d' p p', args = #[v, v'] ∧ Value.okWide P W .any base t v ∧ Value.okWide P W .any base t' v' ∧
      DataW.Trod enc P W 0 (fun _ => true) true t v d p ∧ DataW.Trod enc P W 0 (fun _ => true) true t' v' d' p' := by
  obtain ⟨hval, hA, _⟩ := h
  rw [hp] at hA hval
  obtain ⟨v0, v1, d0, d1, p0, p1, rfl, _, _, h0, h1⟩ := trodAll_two hA
  exact ⟨v0, v1, d0, d1, p0, p1, rfl, hval 0 t v0 rfl rfl, hval 1 t' v1 rfl rfl, h0, h1⟩

theorem handed_three {H : Type} {enc : TypeId × Value → H} {P : Program} {f : Func} {W : World} {base : Nat} {args : Array Value} {ds : List (DataW H)} {ps : List MemPlace} {t t' t'' : TypeId}
    (hp : f.params = #[t, t', t'']) (h : Handed enc P f W base args ds ps) : ∃ v v' v'' d d' d'' p p' p'', args = #[v, v', v''] ∧
      (Value.okWide P W .any base t v ∧ Value.okWide P W .any base t' v' ∧ Value.okWide P W .any base t'' v'') ∧
      DataW.Trod enc P W 0 (fun _ => true) true t v d p ∧ DataW.Trod enc P W 0 (fun _ => true) true t' v' d' p' ∧ DataW.Trod enc P W 0 (fun _ => true) true t'' v'' d'' p'' := by
  obtain ⟨hval, hA, _⟩ := h
  rw [hp] at hA hval
  obtain ⟨v0, v1, v2, d0, d1, d2, p0, p1, p2, rfl, _, _, h0, h1, h2⟩ := trodAll_three hA
  exact ⟨v0, v1, v2, d0, d1, d2, p0, p1, p2, rfl, ⟨hval 0 t v0 rfl rfl, hval 1 t' v1 rfl rfl, hval 2 t'' v2 rfl rfl⟩, h0, h1, h2⟩

end Go.Proofs.YtajedohgcepkiaaDoor
