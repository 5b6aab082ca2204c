/-
  Walks: the program goes over a text, and gathers its records.
-/
import Derived.Test.YtdkdbmiafnadmaaRows
import Derived.Test.YtdkdbmiafnadmaaWhu
import Derived.Test.YtdkdbmiafnadmaaRec
import Derived.Test.YtdkdbmiafnadmaaTak
namespace Go.Proofs.Ytdkdbmiafnadmaa
open Go.RowKit

/-- What holds ahead of a place. -/
def LoopI (W3 wr : World) (qr o m fb p q : Nat) (n : Int) (l : Lim) (t : ByteArray) (k : Nat) (v : Value) (vs : List Value) : Prop :=
  RecB wr qr v vs (recs (xAt p q n l t k)) ∧ Keeps W3 wr (fun i => i = qr ∨ (m ≤ i ∧ i ≠ fb)) ∧ (∀ i, rfoot qr v vs i → i = qr ∨ (m ≤ i ∧ i ≠ o ∧ i ≠ fb)) ∧
    (k ≤ t.size → 0 ≤ Utf.stateAt t k ∧ ∃ A c vm, PB wr o p q n (Utf.stateAt t k) (runU p q n l t k).st m ∧ MBox wr m A c vm l (runU p q n l t k).mr ∧ ∀ i, feet m A vm i → i ≠ o ∧ i ≠ fb ∧ ¬ rfoot qr v vs i)

theorem loop_none {W3 wr w4 : World} {qr o m fb p q k : Nat} {n : Int} {l : Lim} {t : ByteArray} {v vm vm' : Value} {vs : List Value} {A A' : Option Addr} {c' : Nat} {sq : Int} {st : Nat} {mr : Mkr}
    (hR : RecB wr qr v vs (recs (runU p q n l t k))) (hK : Keeps W3 wr (fun i => i = qr ∨ (m ≤ i ∧ i ≠ fb))) (hF : ∀ i, rfoot qr v vs i → i = qr ∨ (m ≤ i ∧ i ≠ o ∧ i ≠ fb)) (hd : ∀ i, feet m A vm i → i ≠ o ∧ i ≠ fb ∧ ¬ rfoot qr v vs i) (hmo : m < o) (hqm : qr < m) (hof : o < fb) (hfb : fb < wr.heap.size) (hm0 : ∀ i, feet m A vm i → m ≤ i)
    (hP : PB w4 o p q n sq st m) (hM : MBox w4 m A' c' vm' l mr) (hk : Keeps wr w4 (fun k => k = o ∨ feet m A vm k)) (hn : ∀ k, feet m A' vm' k → feet m A vm k ∨ wr.heap.size ≤ k)
    (h0 : recs (xAt p q n l t (k + 1)) = recs (runU p q n l t k)) (h1 : k < t.size → (runU p q n l t (k + 1)).mr = mr ∧ (runU p q n l t (k + 1)).st = st ∧ Utf.stateAt t (k + 1) = sq) (hsq : k < t.size → 0 ≤ sq) :
    LoopI W3 w4 qr o m fb p q n l t (k + 1) v vs := by
  refine ⟨?_, ?_, hF, fun hlt => ?_⟩
  · rw [h0]
    refine hR.keeps hk (fun i hi hc => ?_)
    rcases hc with hc | hc
    · rcases hF i hi with h | h
      · omega
      · exact h.2.1 hc
    · exact (hd i hc).2.2 hi
  · refine hK.trans hk (fun i _ hi => ?_)
    rcases hi with hi | hi
    · exact .inr ⟨by omega, by omega⟩
    · exact .inr ⟨hm0 i hi, (hd i hi).2.1⟩
  · obtain ⟨e1, e2, e3⟩ := h1 (by omega)
    rw [e1, e2, e3]
    refine ⟨hsq (by omega), A', c', vm', hP, hM, fun i hi => ?_⟩
    rcases hn i hi with h | h
    · exact hd i h
    · exact ⟨by omega, by omega, fun hc => by have := hR.foot_lt i hc; omega⟩

theorem loop_some {W3 wr w4 w5 : World} {qr o m fb p q k : Nat} {n : Int} {l : Lim} {t : ByteArray} {v v' vm vm' r : Value} {vs : List Value} {A A' : Option Addr} {c' : Nat} {sq : Int} {st : Nat} {mr : Mkr} {R : List ByteArray}
    (hR : RecB wr qr v vs (recs (runU p q n l t k))) (hK : Keeps W3 wr (fun i => i = qr ∨ (m ≤ i ∧ i ≠ fb))) (hF : ∀ i, rfoot qr v vs i → i = qr ∨ (m ≤ i ∧ i ≠ o ∧ i ≠ fb)) (hd : ∀ i, feet m A vm i → i ≠ o ∧ i ≠ fb ∧ ¬ rfoot qr v vs i) (hmo : m < o) (hqm : qr < m) (hof : o < fb) (hfb : fb < wr.heap.size) (hm0 : ∀ i, feet m A vm i → m ≤ i)
    (hP : PB w4 o p q n sq st m) (hM : MBox w4 m A' c' vm' l mr) (hk : Keeps wr w4 (fun k => k = o ∨ feet m A vm k)) (hn : ∀ k, feet m A' vm' k → feet m A vm k ∨ wr.heap.size ≤ k) (hr : ∀ g, r.ownBlock = some g → (feet m A vm g ∨ wr.heap.size ≤ g) ∧ ¬ feet m A' vm' g)
    (hR5 : RecB w5 qr v' (vs ++ [r]) (recs (runU p q n l t k) ++ [R])) (hk5 : Keeps w4 w5 (fun k => k = qr ∨ v.ownBlock = some k)) (hv' : v'.ownBlock = v.ownBlock ∨ ∃ g, v'.ownBlock = some g ∧ w4.heap.size ≤ g)
    (h0 : recs (xAt p q n l t (k + 1)) = recs (runU p q n l t k) ++ [R]) (h1 : k < t.size → (runU p q n l t (k + 1)).mr = mr ∧ (runU p q n l t (k + 1)).st = st ∧ Utf.stateAt t (k + 1) = sq) (hsq : k < t.size → 0 ≤ sq) :
    LoopI W3 w5 qr o m fb p q n l t (k + 1) v' (vs ++ [r]) := by
  have hs := hk.size
  have hro : ∀ i, rfoot qr v' (vs ++ [r]) i → rfoot qr v vs i ∨ r.ownBlock = some i ∨ w4.heap.size ≤ i := by
    intro i hi
    rcases hi with hi | hi | ⟨u, hu, hi⟩
    · exact .inl (.inl hi)
    · rcases hv' with h | ⟨g, h, hg⟩
      · exact .inl (.inr (.inl (h ▸ hi)))
      · rw [hi] at h; injection h with h; subst h; exact .inr (.inr hg)
    · rcases List.mem_append.1 hu with hu | hu
      · exact .inl (.inr (.inr ⟨u, hu, hi⟩))
      · simp at hu; subst hu; exact .inr (.inl hi)
  have hvf : ∀ g, v.ownBlock = some g → m ≤ g ∧ g ≠ o ∧ g ≠ fb := fun g hg => by
    rcases hF g (.inr (.inl hg)) with h | h
    · have := hR.2.1.lt g hg; omega
    · exact h
  refine ⟨by rw [h0]; exact hR5, ?_, fun i hi => ?_, fun hlt => ?_⟩
  · refine (hK.trans hk (fun i _ hi => ?_)).trans hk5 (fun i _ hi => ?_)
    · rcases hi with hi | hi
      · exact .inr ⟨by omega, by omega⟩
      · exact .inr ⟨hm0 i hi, (hd i hi).2.1⟩
    · rcases hi with hi | hi
      · exact .inl hi
      · exact .inr ⟨(hvf i hi).1, (hvf i hi).2.2⟩
  · rcases hro i hi with h | h | h
    · exact hF i h
    · rcases (hr i h).1 with h' | h'
      · exact .inr ⟨hm0 i h', (hd i h').1, (hd i h').2.1⟩
      · exact .inr ⟨by omega, by omega, by omega⟩
    · exact .inr ⟨by omega, by omega, by omega⟩
  · obtain ⟨e1, e2, e3⟩ := h1 (by omega)
    rw [e1, e2, e3]
    have hSo : ∀ i, (i = qr ∨ v.ownBlock = some i) → i ≠ o ∧ ¬ feet m A' vm' i := fun i hi => by
      have hrf : rfoot qr v vs i := hi.elim (fun h => .inl h) (fun h => .inr (.inl h))
      refine ⟨?_, fun hc => ?_⟩
      · rcases hi with hi | hi
        · omega
        · exact (hvf i hi).2.1
      · rcases hn i hc with h | h
        · exact (hd i h).2.2 hrf
        · have := hR.foot_lt i hrf; omega
    refine ⟨hsq (by omega), A', c', vm', hP.keeps hk5 (fun hc => (hSo o hc).1 rfl), hM.keeps hk5 (fun i hi hc => (hSo i hc).2 hi), fun i hi => ?_⟩
    have hlt4 := (hM.feet_lt i hi).2
    have hno : ¬ rfoot qr v' (vs ++ [r]) i := fun hc => by
      rcases hro i hc with h | h | h
      · rcases hn i hi with h' | h'
        · exact (hd i h').2.2 h
        · have := hR.foot_lt i h; omega
      · exact (hr i h).2 hi
      · omega
    rcases hn i hi with h | h
    · exact ⟨(hd i h).1, (hd i h).2.1, hno⟩
    · exact ⟨by omega, by omega, hno⟩

def faultV (x : MS) (off : Nat) : Value := .agg #[.int .i64 x.ft.1, .int .i64 (if x.ft.1 = 0 then 0 else off + x.ft.2 : Nat)]
def WalkP (w : World) (qr p q : Nat) (n : Int) (l : Lim) (s : ByteArray) (e : Ending) (w' : World) : Prop :=
  e = .returned (faultV (finU p q n l (Bom.stripS s)) (offN s)) ∧ ∃ v vs, RecB w' qr v vs (recs (finU p q n l (Bom.stripS s))) ∧ Keeps w w' (fun k => k = qr) ∧ ∀ i, rfoot qr v vs i → i = qr ∨ w.heap.size ≤ i

end Go.Proofs.Ytdkdbmiafnadmaa
