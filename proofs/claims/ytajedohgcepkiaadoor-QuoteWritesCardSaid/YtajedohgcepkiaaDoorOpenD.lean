/-
  How an argument that is a dialect is opened.
-/
import Derived.Test.YtajedohgcepkiaaDoorRows
import Derived.Test.YtajedohgcepkiaaDoorOpenA
namespace Go.Proofs.YtajedohgcepkiaaDoor
open Go.ChangeShapes Go.WideShapes Go.ChangeAt Go.RowKit Go.Joins

set_option maxRecDepth 100000 in
theorem open_dialect {H : Type} {enc : TypeId × Value → H} {W : World} {base : Nat} {v : Value} {d : DataW H} {p : List MemPlace}
    (hv : Value.okWide Tryd.prog W .any base 23 v) (h : DataW.Trod enc Tryd.prog W 0 (fun _ => true) true 23 v d p) :
    ∃ (a b : Nat) (n : Int), a < 256 ∧ b < 256 ∧ v = .agg #[.int .u8 a, .int .u8 b, .int .i64 n] := by
  obtain ⟨c0, c1, c2, y0, y1, y2, m, rfl, rfl, rfl, hy0, hy1, hy2⟩ := open_agg3 Tryd.underlying23 (by kernel_rfl) (by kernel_rfl) hv h
  obtain ⟨a, e0, _, wa⟩ := DataW.trod_int Tryd.underlying5 hy0
  obtain ⟨b, e1, _, wb⟩ := DataW.trod_int Tryd.underlying5 hy1
  obtain ⟨n, e2, _, _⟩ := DataW.trod_int Tryd.underlying3 hy2
  simp at e0 e1 e2
  subst e0 e1 e2
  obtain ⟨a', ha, rfl⟩ := nat_of_u8 wa
  obtain ⟨b', hb, rfl⟩ := nat_of_u8 wb
  exact ⟨a', b', n, ha, hb, rfl⟩

end Go.Proofs.YtajedohgcepkiaaDoor
