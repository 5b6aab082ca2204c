/-
  How this seat's kinds of arguments are opened: a dialect, limits, a string.
-/
import Derived.Test.YtcnahofojjkacaaRows
import Derived.Test.YtcnahofojjkacaaLaw
namespace Go.Proofs.Ytcnahofojjkacaa
open Go.ChangeShapes Go.WideShapes Go.ChangeAt Go.RowKit Go.Joins

theorem nat_of_u8 {a : Int} (h : (Lit.int .u8 a).wf = true) : ∃ n : Nat, n < 256 ∧ a = n := by
  have hb := bounds_u8 h
  exact ⟨a.toNat, by omega, by omega⟩

theorem open_dialect {H : Type} {enc : TypeId × Value → H} {W : World} {base : Nat} {v : Value} {d : DataW H} {p : List MemPlace}
    (hv : Value.okWide Try.prog W .any base 23 v) (h : DataW.Trod enc Try.prog W 0 (fun _ => true) true 23 v d p) :
    ∃ (a b : Nat) (n : Int), a < 256 ∧ b < 256 ∧ v = .agg #[.int .u8 a, .int .u8 b, .int .i64 n] := by
  obtain ⟨c0, c1, c2, y0, y1, y2, m, rfl, rfl, rfl, hy0, hy1, hy2⟩ := open_agg3 Try.underlying23 (by kernel_rfl) (by kernel_rfl) hv h
  obtain ⟨a, e0, _, wa⟩ := DataW.trod_int Try.underlying5 hy0
  obtain ⟨b, e1, _, wb⟩ := DataW.trod_int Try.underlying5 hy1
  obtain ⟨n, e2, _, _⟩ := DataW.trod_int Try.underlying3 hy2
  simp at e0 e1 e2
  subst e0 e1 e2
  obtain ⟨a', ha, rfl⟩ := nat_of_u8 wa
  obtain ⟨b', hb, rfl⟩ := nat_of_u8 wb
  exact ⟨a', b', n, ha, hb, rfl⟩

theorem open_limits {H : Type} {enc : TypeId × Value → H} {W : World} {base : Nat} {v : Value} {d : DataW H} {p : List MemPlace} (hv : Value.okWide Try.prog W .any base 37 v) (h : DataW.Trod enc Try.prog W 0 (fun _ => true) true 37 v d p) : ∃ (a b c : Int) (u : Bool), (Lit.int .i64 a).wf = true ∧ (Lit.int .i64 b).wf = true ∧ (Lit.int .i64 c).wf = true ∧ v = .agg #[.int .i64 a, .int .i64 b, .int .i64 c, .bool u] := by
  obtain ⟨c0, c1, c2, c3, y0, y1, y2, y3, m, rfl, rfl, rfl, hy0, hy1, hy2, hy3⟩ := open_agg4 Try.underlying37 (by kernel_rfl) (by kernel_rfl) hv h
  obtain ⟨a, e0, _, wa⟩ := DataW.trod_int Try.underlying3 hy0
  obtain ⟨b, e1, _, wb⟩ := DataW.trod_int Try.underlying3 hy1
  obtain ⟨n, e2, _, wc⟩ := DataW.trod_int Try.underlying3 hy2
  obtain ⟨u, e3, _⟩ := DataW.trod_bool Try.underlying4 hy3
  simp at e0 e1 e2 e3
  subst e0 e1 e2 e3
  exact ⟨a, b, n, u, wa, wb, wc, rfl⟩

theorem handed_one {H : Type} {enc : TypeId × Value → H} {P : Program} {f : Func} {W : World} {base : Nat} {args : Array Value} {ds : List (DataW H)} {ps : List MemPlace} {t : TypeId}
    (hp : f.params = #[t]) (h : Handed enc P f W base args ds ps) : ∃ v d p, args = #[v] ∧ Value.okWide P W .any base t v ∧ DataW.Trod enc P W 0 (fun _ => true) true t v d p := by
  obtain ⟨hval, hA⟩ := h
  rw [hp] at hA hval
  obtain ⟨v, d, rfl, _, h0⟩ := trodAll_one hA
  exact ⟨v, d, ps, rfl, hval 0 t v rfl rfl, h0⟩

theorem handed_two {H : Type} {enc : TypeId × Value → H} {P : Program} {f : Func} {W : World} {base : Nat} {args : Array Value} {ds : List (DataW H)} {ps : List MemPlace} {t t' : TypeId}
    (hp : f.params = #[t, t']) (h : Handed enc P f W base args ds ps) : ∃ v v' d d' p p', args = #[v, v'] ∧ Value.okWide P W .any base t v ∧ Value.okWide P W .any base t' v' ∧
      DataW.Trod enc P W 0 (fun _ => true) true t v d p ∧ DataW.Trod enc P W 0 (fun _ => true) true t' v' d' p' := by
  obtain ⟨hval, hA⟩ := h
  rw [hp] at hA hval
  obtain ⟨v0, v1, d0, d1, p0, p1, rfl, _, _, h0, h1⟩ := trodAll_two hA
  exact ⟨v0, v1, d0, d1, p0, p1, rfl, hval 0 t v0 rfl rfl, hval 1 t' v1 rfl rfl, h0, h1⟩

end Go.Proofs.Ytcnahofojjkacaa
