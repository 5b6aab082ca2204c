/-
  How a slice of events is opened.
-/
import Derived.Test.YtgmejmnfdeacoaaRows
import Derived.Test.YtgmejmnfdeacoaaOpenA
import Derived.Test.YtgmejmnfdeacoaaMem
import Derived.Test.YtgmejmnfdeacoaaEv
import Derived.Deep.Slices
namespace Go.Proofs.Ytgmejmnfdeacoaa
open Go.ChangeShapes Go.WideShapes Go.ChangeAt Go.RowKit Go.Joins

/-- The first n events of a slice. -/
def EvsAt (w : World) (A : Option Addr) (n : Nat) (E : Nat → Ev) : Prop :=
  ∀ k, k < n → ∃ ad, A = some ad ∧ (E k).by_ < 256 ∧ ∀ j u, (evC (E k))[j]? = some u → w.cell? (ad.add (k * 6 + j)) = some u
theorem EvsAt.below {w w' : World} {A : Option Addr} {n : Nat} {E : Nat → Ev} (h : EvsAt w A n E) (hb : Below w.heap.size w w') : EvsAt w' A n E := fun k hk => by
  obtain ⟨ad, ha, h1, h2⟩ := h k hk
  exact ⟨ad, ha, h1, fun j u hu => (hb.cell (World.block_lt_of_cell? w _ (h2 j u hu))).trans (h2 j u hu)⟩

theorem open_events {H : Type} {enc : TypeId × Value → H} {W : World} {base : Nat} {v : Value} {d : DataW H} {p : List MemPlace}
    (hv : Value.okWide Try.prog W .any base 22 v) (h : DataW.Trod enc Try.prog W 0 (fun _ => true) true 22 v d p) :
    ∃ A n c E, v = .slice A n c ∧ n ≤ c ∧ c ≤ maxLen ∧ EvsAt W A n E := by
  obtain ⟨A, len, cap, rfl⟩ := okWide_slice Try.underlying22 hv
  obtain ⟨fuel, hf⟩ := h
  rcases Go.Deep.open_slice Try.underlying22 hf with ⟨hcs, _⟩ | ⟨a, len', cap', m, n, D, Pl, hcs, _, hl, hm, hmm, hx, hrows⟩
  · simp [Value.cells] at hcs
    obtain ⟨rfl, rfl, rfl⟩ := hcs
    exact ⟨none, 0, 0, fun _ => default, rfl, Nat.le_refl _, Nat.zero_le _, fun k hk => by omega⟩
  · simp [Value.cells] at hcs
    obtain ⟨rfl, rfl, rfl⟩ := hcs
    have hlm : len ≤ m := by rw [hmm]; split <;> omega
    have each : ∀ i, i < len → ∃ e : Ev, e.by_ < 256 ∧ ∀ j u, (evC e)[j]? = some u → W.cell? (a.add (i * 6 + j)) = some u := by
      intro i hi
      obtain ⟨cs', h1, h2⟩ := hrows i (by omega)
      have ce : Try.prog.cellsOf 31 = 6 := by kernel_rfl
      rw [ce] at h1
      obtain ⟨_, hlen, hcell⟩ := World.cells?_some h1
      obtain ⟨xs, k, hk, hxy, _, hxl, hfs⟩ := DataW.trod_struct Try.underlying31 h2
      match xs, hxl, cs', hlen with
      | [y0, y1, y2, y3, y4, y5], _, [v0, v1, v2, v3, v4, v5], _ =>
        have cb : Try.prog.cellsOf 4 = 1 := by kernel_rfl
        have cu : Try.prog.cellsOf 5 = 1 := by kernel_rfl
        have g0 := hfs 0 _ rfl
        have g1 := hfs 1 _ rfl
        have g2 := hfs 2 _ rfl
        have g3 := hfs 3 _ rfl
        have g4 := hfs 4 _ rfl
        have g5 := hfs 5 _ rfl
        simp [cb, cu] at g0 g1 g2 g3 g4 g5
        obtain ⟨b0, e0, _⟩ := DataW.trod_bool Try.underlying4 g0
        obtain ⟨b1, e1, _⟩ := DataW.trod_bool Try.underlying4 g1
        obtain ⟨b2, e2, _⟩ := DataW.trod_bool Try.underlying4 g2
        obtain ⟨b3, e3, _⟩ := DataW.trod_bool Try.underlying4 g3
        obtain ⟨b4, e4, _⟩ := DataW.trod_bool Try.underlying4 g4
        obtain ⟨n5, e5, _, w5⟩ := DataW.trod_int Try.underlying5 g5
        simp at e0 e1 e2 e3 e4 e5
        subst e0 e1 e2 e3 e4 e5
        obtain ⟨b5, hb5, rfl⟩ := nat_of_u8 w5
        refine ⟨⟨b0, b1, b2, b3, b4, b5⟩, hb5, fun j u hu => ?_⟩
        have hj : j < 6 := (List.getElem?_eq_some_iff.1 hu).1
        have hc := hcell j hj
        rw [Go.Deep.add_add] at hc
        rw [hc]
        exact hu
    obtain ⟨E, hE⟩ := Go.Deep.choose_lt (α := Ev) each
    exact ⟨some a, len, cap, E, rfl, hl, hm, fun k hk => ⟨a, rfl, (hE k hk).1, (hE k hk).2⟩⟩

end Go.Proofs.Ytgmejmnfdeacoaa
