/-
  The mark, on texts alone.
-/
import Derived.Test.YtajedohgcepkiaaDoorByt
namespace Go.Proofs.YtajedohgcepkiaaDoor.Bom
open Go.RowKit

def markB : ByteArray := ⟨#[239, 187, 191]⟩
/-- The bytes of the mark. -/
def mk (i : Nat) : Int := if i = 0 then 239 else if i = 1 then 187 else 191
theorem markB_size : markB.size = 3 := rfl
theorem byt_mark (i : Nat) (h : i < 3) : byt markB i = mk i := by
  have : i = 0 ∨ i = 1 ∨ i = 2 := by omega
  rcases this with rfl | rfl | rfl <;> rfl
theorem mk_pos (i : Nat) : 0 < mk i ∧ mk i ≤ 255 := by unfold mk; repeat' split <;> omega

/-- How many bytes of the mark a text begins with. -/
def preN (s : ByteArray) : Nat := if byt s 0 ≠ 239 then 0 else if byt s 1 ≠ 187 then 1 else if byt s 2 ≠ 191 then 2 else 3
def Pre (s : ByteArray) (k : Nat) : Prop := k ≤ 3 ∧ (∀ i, i < k → byt s i = mk i) ∧ (k < 3 → byt s k ≠ mk k)
theorem pre_is (s : ByteArray) : Pre s (preN s) := by
  unfold Pre preN
  by_cases h0 : byt s 0 ≠ 239
  · rw [if_pos h0]
    exact ⟨by omega, fun i hi => by omega, fun _ => h0⟩
  · rw [if_neg h0]
    have h0' : byt s 0 = mk 0 := by unfold mk; omega
    by_cases h1 : byt s 1 ≠ 187
    · rw [if_pos h1]
      exact ⟨by omega, fun i hi => by rw [show i = 0 by omega]; exact h0', fun _ => h1⟩
    · rw [if_neg h1]
      have h1' : byt s 1 = mk 1 := by unfold mk; omega
      by_cases h2 : byt s 2 ≠ 191
      · rw [if_pos h2]
        exact ⟨by omega, fun i hi => by rcases (by omega : i = 0 ∨ i = 1) with rfl | rfl <;> assumption, fun _ => h2⟩
      · rw [if_neg h2]
        have h2' : byt s 2 = mk 2 := by unfold mk; omega
        exact ⟨by omega, fun i hi => by rcases (by omega : i = 0 ∨ i = 1 ∨ i = 2) with rfl | rfl | rfl <;> assumption, fun hc => by omega⟩
theorem pre_unique {s : ByteArray} {a b : Nat} (ha : Pre s a) (hb : Pre s b) : a = b := by
  obtain ⟨a1, a2, a3⟩ := ha
  obtain ⟨b1, b2, b3⟩ := hb
  rcases Nat.lt_trichotomy a b with h | h | h
  · exact absurd (b2 a h) (a3 (by omega))
  · exact h
  · exact absurd (a2 b h) (b3 (by omega))
theorem pre_size {s : ByteArray} {k : Nat} (h : Pre s k) : k ≤ s.size := by
  refine Classical.byContradiction fun hc => ?_
  have h1 := h.2.1 s.size (by omega)
  rw [byt_out s s.size (Nat.le_refl _)] at h1
  have := mk_pos s.size
  omega
theorem preN_le (s : ByteArray) : preN s ≤ s.size ∧ preN s ≤ 3 := ⟨pre_size (pre_is s), (pre_is s).1⟩

/-- All that came may still be the mark's. -/
def waits (s : ByteArray) : Prop := preN s = s.size ∧ s.size < 3
instance (s : ByteArray) : Decidable (waits s) := by unfold waits; exact inferInstance
def heldN (s : ByteArray) : Nat := if waits s then s.size else 0
def stripS (s : ByteArray) : ByteArray := if preN s = 3 then s.extract 3 s.size else s
def hadN (s : ByteArray) : Int := if preN s = 3 then 1 else 0
def hadB (s : ByteArray) : Bool := decide (preN s = 3)
def toldS (s : ByteArray) : ByteArray := if waits s then ⟨#[]⟩ else stripS s
theorem hadN_B (s : ByteArray) : (hadN s == 1) = hadB s := by unfold hadN hadB; split <;> simp_all

theorem strip_waits (s : ByteArray) (h : waits s) : stripS s = s := by unfold stripS; rw [if_neg (by unfold waits at h; omega)]

/-- What is handed on of a piece b, where h bytes are kept back and n more go on. -/
theorem told_more (a b : ByteArray) (n : Nat) (hw : waits a) (h1 : n ≤ 3 - a.size) (h2 : n ≤ b.size) (h3 : ∀ i, i < n → byt b i = mk (a.size + i)) (h4 : n < 3 - a.size → n < b.size → byt b n ≠ mk (a.size + n)) :
    preN (a ++ b) = a.size + n := by
  obtain ⟨w1, w2⟩ := hw
  have hp := pre_is a
  rw [w1] at hp
  refine pre_unique (pre_is _) ⟨by omega, fun i hi => ?_, fun hlt => ?_⟩
  · rw [byt_append]
    by_cases hia : i < a.size
    · rw [if_pos hia]; exact hp.2.1 i hia
    · rw [if_neg hia, h3 (i - a.size) (by omega), show a.size + (i - a.size) = i by omega]
  · rw [byt_append, if_neg (by omega), show a.size + n - a.size = n by omega]
    by_cases hnb : n < b.size
    · exact h4 (by omega) hnb
    · rw [byt_out b n (by omega)]
      have := mk_pos (a.size + n)
      omega

theorem waits_append {a b : ByteArray} (h : ¬ waits a) : ¬ waits (a ++ b) ∧ preN (a ++ b) = preN a := by
  have hp := pre_is a
  have hl := preN_le a
  have h2 : preN (a ++ b) = preN a := by
    refine pre_unique (pre_is _) ⟨hp.1, fun i hi => ?_, fun hlt => ?_⟩
    · rw [byt_append, if_pos (by omega)]; exact hp.2.1 i hi
    · have hsz : preN a < a.size := by unfold waits at h; omega
      rw [byt_append, if_pos hsz]; exact hp.2.2 hlt
  refine ⟨?_, h2⟩
  unfold waits at h ⊢
  rw [h2, ByteArray.size_append]
  omega

theorem extract_append_left (a b : ByteArray) (k : Nat) (h : k ≤ a.size) : (a ++ b).extract k (a ++ b).size = a.extract k a.size ++ b := by
  refine byt_inj ?_ fun i hi => ?_
  · rw [ByteArray.size_extract, ByteArray.size_append, ByteArray.size_append, ByteArray.size_extract]; omega
  · rw [ByteArray.size_extract, ByteArray.size_append] at hi
    rw [byt_extract, byt_append, byt_append, byt_extract, ByteArray.size_append, ByteArray.size_extract, if_pos (by omega)]
    by_cases h1 : k + i < a.size
    · rw [if_pos h1, if_pos (by omega), if_pos h1]
    · rw [if_neg h1, if_neg (by omega)]
      congr 1
      omega
theorem extract_append_right (a b : ByteArray) (k : Nat) (h : a.size ≤ k) : (a ++ b).extract k (a ++ b).size = b.extract (k - a.size) b.size := by
  refine byt_inj ?_ fun i hi => ?_
  · rw [ByteArray.size_extract, ByteArray.size_append, ByteArray.size_extract]; omega
  · rw [ByteArray.size_extract, ByteArray.size_append] at hi
    rw [byt_extract, byt_append, byt_extract, ByteArray.size_append, if_pos (by omega), if_neg (by omega), if_pos (by omega)]
    congr 1
    omega

theorem told_begun {a b : ByteArray} (h : ¬ waits a) : toldS (a ++ b) = toldS a ++ b := by
  obtain ⟨h1, h2⟩ := waits_append (b := b) h
  unfold toldS stripS
  rw [if_neg h, if_neg h1, h2]
  split
  · rename_i h3
    exact extract_append_left a b 3 (by have := preN_le a; omega)
  · rfl

/-- A text that waits is the mark's beginning. -/
theorem waits_mark {a : ByteArray} (h : waits a) : a = markB.extract 0 a.size := by
  have h0 := h
  unfold waits at h0
  refine byt_inj (by rw [ByteArray.size_extract, markB_size]; omega) fun i hi => ?_
  rw [byt_extract, Nat.zero_add, if_pos hi, byt_mark i (by omega)]
  exact (pre_is a).2.1 i (by omega)

theorem waits_none : waits ⟨#[]⟩ := by refine ⟨?_, ?_⟩ <;> decide +kernel

end Go.Proofs.YtajedohgcepkiaaDoor.Bom
