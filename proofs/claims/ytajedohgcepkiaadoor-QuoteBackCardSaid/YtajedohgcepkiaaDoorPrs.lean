/-
  Words for a text that is parsed in a law.
-/
import Derived.Test.YtajedohgcepkiaaDoorRows
import Derived.Test.YtajedohgcepkiaaDoorNdM
import Derived.Test.YtajedohgcepkiaaDoorRefW
namespace Go.Proofs.YtajedohgcepkiaaDoor
open Go.RowKit Nd

/-- What stands while a text is parsed: the dialect, the limits. -/
def PaS (w : World) (db lb p q : Nat) (n : Int) (w' : World) : Prop :=
  w'.cell? ⟨db, 0, none⟩ = some (.int .u8 p) ∧ w'.cell? ⟨db, 1, none⟩ = some (.int .u8 q) ∧ w'.cell? ⟨db, 2, none⟩ = some (.int .i64 n) ∧
    w'.cell? ⟨lb, 0, none⟩ = some (.int .i64 2147483648) ∧ w'.cell? ⟨lb, 1, none⟩ = some (.int .i64 2147483648) ∧ w'.cell? ⟨lb, 2, none⟩ = some (.int .i64 2147483648) ∧ w'.cell? ⟨lb, 3, none⟩ = some (.int .i64 0) ∧
    db < w'.heap.size ∧ lb < w'.heap.size ∧ Below w.heap.size w w'
theorem paS_next {w W W' : World} {db lb p q : Nat} {n : Int} (h : PaS w db lb p q n W) (hb : Below W.heap.size W W') : PaS w db lb p q n W' := by
  obtain ⟨h0, h1, h2, h3, h4, h5, h6, h7, h8, h9⟩ := h
  have hs := hb.size
  exact ⟨(hb.cell h7).trans h0, (hb.cell h7).trans h1, (hb.cell h7).trans h2, (hb.cell h8).trans h3, (hb.cell h8).trans h4, (hb.cell h8).trans h5, (hb.cell h8).trans h6, by omega, by omega, h9.trans (hb.mono h9.size)⟩

/-- What the document's Parse within the widest limits comes to. -/
def PaP (T : List (List ByteArray)) (K A0 : Nat) (w : World) (e : Ending) (w' : World) : Prop := ∃ v, e = .returned (.tuple #[v, .int .i64 K, .int .i64 A0]) ∧ Tbl w' v T ∧ Below w.heap.size w w'
theorem parse_wide (p q : Nat) (n : Int) (s : ByteArray) (hs : s.size ≤ 4000) (hok : okB p q n = true) : ∃ A0 : Nat, ∀ w,
    Calls Tryd.prog 19 #[.agg #[.int .i64 p, .int .i64 q, .int .i64 n], .agg #[.int .i64 2147483648, .int .i64 2147483648, .int .i64 2147483648, .int .i64 0], .string s] w (PaP (recs (finU p q n wLim (Bom.stripS s))) (finU p q n wLim (Bom.stripS s)).ft.1 A0 w) :=
  ⟨_, fun w => refParse_any p q n wLim s w hs hok (by decide) (by decide) (by decide)⟩

end Go.Proofs.YtajedohgcepkiaaDoor
