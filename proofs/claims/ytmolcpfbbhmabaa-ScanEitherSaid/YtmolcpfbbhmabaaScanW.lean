/-
  Words for the laws that run over all events.
-/
import Derived.Test.YtmolcpfbbhmabaaRows
import Derived.Test.YtmolcpfbbhmabaaScanL
namespace Go.Proofs.Ytmolcpfbbhmabaa
open Go.RowKit

theorem evsC_get (L : List Ev) (i j : Nat) (e : Ev) (h : L[i]? = some e) (hj : j < 6) : (evsC L)[i * 6 + j]? = (evC e)[j]? := by
  induction L generalizing i with
  | nil => simp at h
  | cons a L ih =>
    show (evC a ++ evsC L)[i * 6 + j]? = _
    have hl : (evC a).length = 6 := rfl
    cases i with
    | zero =>
      simp at h
      subst h
      rw [List.getElem?_append_left (by omega)]
      congr 1
      omega
    | succ i =>
      rw [List.getElem?_append_right (by omega), hl, show (i + 1) * 6 + j - 6 = i * 6 + j by omega]
      exact ih i (by simpa using h)

/-- What stands while the events are looked at: a run's events, the dialect's box, the fault's box. -/
def RInv (w : World) (q0 q1 : Nat) (dv fv : Array Value) (b0 : Nat) (v : Value) (k : Nat) (L : List Ev) (wr : World) : Prop :=
  wr.ownsRow b0 30 6 v k (evsC L) ∧ Box wr q0 23 dv ∧ Box wr q1 47 fv ∧ Below w.heap.size w wr
theorem RInv.go {w : World} {q0 q1 : Nat} {dv fv : Array Value} {b0 : Nat} {v : Value} {k : Nat} {L : List Ev} {wr wx : World} (h : RInv w q0 q1 dv fv b0 v k L wr) (hb : Below wr.heap.size wr wx) : RInv w q0 q1 dv fv b0 v k L wx :=
  ⟨h.1.kept (grown_below hb none) (by cases v.ownBlock <;> simp), h.2.1.below hb h.2.1.lt, h.2.2.1.below hb h.2.2.1.lt, h.2.2.2.trans (hb.mono h.2.2.2.size)⟩

/-- A cell of an event of a run. -/
theorem own_cell {wr : World} {b0 k cap : Nat} {g : Nat} {L : List Ev} (h : wr.ownsRow b0 30 6 (.slice (some ⟨g, 0, none⟩) k cap) k (evsC L)) (i j : Nat) (e : Ev) (v : Value) (he : L[i]? = some e) (hi : i < k) (hj : j < 6) (hv : (evC e)[j]? = some v) : wr.cell? ⟨g, i * 6 + j, none⟩ = some v := by
  rw [h.cellAt (i * 6 + j) (by omega), evsC_get L i j e he hj, hv]

theorem atv_by (p q : Nat) (n : Int) (s : ByteArray) (i : Nat) : (atV p q n s i).ev.by_ ≤ 255 := by
  unfold atV
  split
  · have := step_by p q n (stA p q n s i) (bytN s i)
    have := bytN_lt s i
    omega
  · unfold closeV
    repeat' split
    all_goals simp [ev0]

/-- No error up to i: the run goes on that far. -/
theorem says_more {p q : Nat} {n : Int} {s : ByteArray} {k kind at_ i : Nat} (h : RunSays p q n s k kind at_) (hi : i ≤ s.size) (hto : okTo p q n s i) (h0 : (atV p q n s i).er = 0) : i < k := by
  obtain ⟨_, _, ⟨h1, h2, _⟩ | ⟨rfl, _⟩⟩ := h
  · rcases Nat.lt_or_ge i k with h | h
    · exact h
    · exfalso
      rcases Nat.lt_or_ge k i with h' | h'
      · exact h2 (hto k h')
      · exact h2 (by rw [show k = i by omega]; exact h0)
  · omega
theorem says_stop {p q : Nat} {n : Int} {s : ByteArray} {k kind at_ i : Nat} (h : RunSays p q n s k kind at_) (hi : i ≤ s.size) (hto : okTo p q n s i) (h0 : (atV p q n s i).er ≠ 0) : k = i ∧ kind = (atV p q n s i).er ∧ at_ = i := by
  obtain ⟨_, hk, h'⟩ := h
  have hle : k ≤ i := by
    rcases Nat.lt_or_ge i k with h | h
    · exact absurd (hk i h) h0
    · exact h
  rcases h' with ⟨h1, h2, h3, h4⟩ | ⟨h1, _⟩
  · have hge : i ≤ k := by
      rcases Nat.lt_or_ge k i with h | h
      · exact absurd (hto k h) h2
      · exact h
    have e : k = i := by omega
    subst e
    exact ⟨rfl, h3, h4⟩
  · omega
theorem says_end {p q : Nat} {n : Int} {s : ByteArray} {k kind at_ : Nat} (h : RunSays p q n s k kind at_) (hto : okTo p q n s (s.size + 1)) : k = s.size + 1 ∧ kind = 0 ∧ at_ = 0 := by
  obtain ⟨_, _, ⟨h1, h2, _⟩ | h⟩ := h
  · exact absurd (hto k (by omega)) h2
  · exact h

end Go.Proofs.Ytmolcpfbbhmabaa
