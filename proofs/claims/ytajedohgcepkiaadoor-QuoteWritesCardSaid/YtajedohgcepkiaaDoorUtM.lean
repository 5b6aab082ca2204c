/-
  What the document's sequences are, as a table.
-/
import Derived.Test.YtajedohgcepkiaaDoorRows
import Derived.Test.YtajedohgcepkiaaDoorUtS
namespace Go.Proofs.YtajedohgcepkiaaDoor.Utf
open Go.RowKit

def cont (b : Int) : Prop := 128 ≤ b ∧ b ≤ 191
instance contDec (b : Int) : Decidable (cont b) := by unfold cont; infer_instance

theorem byte_ints (s : ByteArray) (k : Nat) (h : k ≤ s.size) : (s.extract 0 k).data.toList.map (fun b => (b.toNat : Int)) = (List.range k).map (byt s) := by
  have e : (s.extract 0 k).data.toList = s.data.toList.take k := by
    rw [ByteArray.data_extract, Array.toList_extract]
    simp [List.extract]
  rw [e]
  have hl : s.data.toList.length = s.size := by simp
  apply List.ext_getElem
  · simp; omega
  · intro i h1 h2
    have hi : i < k := by simpa using h2
    simp only [List.getElem_map, List.getElem_take, List.getElem_range]
    rw [← byt_eq s i (by omega)]
    rfl

theorem putL_range (c : Int) (h : okC c) : ∀ x ∈ putL c, 0 ≤ x ∧ x < 256 := by
  unfold okC at h
  unfold putL
  split
  · simp; omega
  · split
    · simp; omega
    · split
      · simp; omega
      · simp; omega

theorem put_ints (c : Int) (h : okC c) : (putM c).data.toList.map (fun b => (b.toNat : Int)) = putL c := by
  have hr := putL_range c h
  unfold putM
  simp only [List.map_map]
  have : ∀ l : List Int, (∀ x ∈ l, 0 ≤ x ∧ x < 256) → l.map ((fun b : UInt8 => (b.toNat : Int)) ∘ toB) = l := by
    intro l hl
    induction l with
    | nil => rfl
    | cons x l ih =>
      rw [List.map_cons, ih (fun y hy => hl y (by simp [hy]))]
      have := hl x (by simp)
      simp [toB_toNat x this.1 this.2]
  exact this _ hr

theorem ints_inj : ∀ (l m : List UInt8), l.map (fun b => (b.toNat : Int)) = m.map (fun b => (b.toNat : Int)) → l = m
  | [], [], _ => rfl
  | [], _ :: _, h => by simp at h
  | _ :: _, [], h => by simp at h
  | a :: l, b :: m, h => by
    simp only [List.map_cons, List.cons.injEq] at h
    have e : a = b := by
      apply UInt8.toNat.inj
      have := h.1
      omega
    rw [e, ints_inj l m h.2]

theorem isSeq_iff (s : ByteArray) (k : Nat) (hk : k ≤ s.size) : isSeq s k ↔ okC (point s k) ∧ putL (point s k) = (List.range k).map (byt s) := by
  unfold isSeq
  constructor
  · rintro ⟨h1, h2⟩
    refine ⟨h1, ?_⟩
    rw [ByteArray.toList_eq, ByteArray.toList_eq] at h2
    rw [← put_ints _ h1, ← byte_ints s k hk, h2]
  · rintro ⟨h1, h2⟩
    refine ⟨h1, ?_⟩
    rw [ByteArray.toList_eq, ByteArray.toList_eq]
    apply ints_inj
    rw [put_ints _ h1, byte_ints s k hk, h2]

theorem seq1 (s : ByteArray) (h : 1 ≤ s.size) : isSeq s 1 ↔ byt s 0 < 128 := by
  have r0 := byt_range s 0
  have ep : point s 1 = byt s 0 := by unfold point; simp
  rw [isSeq_iff s 1 h, ep]
  have er : (List.range 1).map (byt s) = [byt s 0] := rfl
  rw [er]
  generalize byt s 0 = a at *
  unfold okC putL
  constructor
  · rintro ⟨h1, h2⟩
    split at h2
    · assumption
    · split at h2
      · simp at h2
      · split at h2 <;> simp at h2
  · intro h
    exact ⟨by omega, by rw [if_pos h]⟩

theorem seq2 (s : ByteArray) (h : 2 ≤ s.size) : isSeq s 2 ↔ (194 ≤ byt s 0 ∧ byt s 0 ≤ 223 ∧ cont (byt s 1)) := by
  have r0 := byt_range s 0
  have r1 := byt_range s 1
  have ep : point s 2 = (byt s 0 - 192) * 64 + byt s 1 - 128 := by unfold point; simp
  rw [isSeq_iff s 2 h, ep]
  have er : (List.range 2).map (byt s) = [byt s 0, byt s 1] := rfl
  rw [er]
  generalize byt s 0 = a at *
  generalize byt s 1 = b at *
  unfold okC putL cont
  constructor
  · rintro ⟨h1, h2⟩
    split at h2
    · simp at h2
    · split at h2
      · simp only [List.cons.injEq, and_true] at h2; omega
      · split at h2 <;> simp at h2
  · intro h
    refine ⟨by omega, ?_⟩
    rw [if_neg (by omega), if_pos (by omega)]
    simp only [List.cons.injEq, and_true]
    omega

theorem seq3 (s : ByteArray) (h : 3 ≤ s.size) : isSeq s 3 ↔ (224 ≤ byt s 0 ∧ byt s 0 ≤ 239 ∧ cont (byt s 1) ∧ cont (byt s 2) ∧ (byt s 0 = 224 → 160 ≤ byt s 1) ∧ (byt s 0 = 237 → byt s 1 ≤ 159)) := by
  have r0 := byt_range s 0
  have r1 := byt_range s 1
  have r2 := byt_range s 2
  have ep : point s 3 = (byt s 0 - 224) * 4096 + (byt s 1 - 128) * 64 + byt s 2 - 128 := by unfold point; simp
  rw [isSeq_iff s 3 h, ep]
  have er : (List.range 3).map (byt s) = [byt s 0, byt s 1, byt s 2] := rfl
  rw [er]
  generalize byt s 0 = a at *
  generalize byt s 1 = b at *
  generalize byt s 2 = d at *
  unfold okC putL cont
  constructor
  · rintro ⟨h1, h2⟩
    split at h2
    · simp at h2
    · split at h2
      · simp at h2
      · split at h2
        · simp only [List.cons.injEq, and_true] at h2; omega
        · simp at h2
  · intro h
    refine ⟨by omega, ?_⟩
    rw [if_neg (by omega), if_neg (by omega), if_pos (by omega)]
    simp only [List.cons.injEq, and_true]
    omega

theorem seq4 (s : ByteArray) (h : 4 ≤ s.size) : isSeq s 4 ↔ (240 ≤ byt s 0 ∧ byt s 0 ≤ 244 ∧ cont (byt s 1) ∧ cont (byt s 2) ∧ cont (byt s 3) ∧ (byt s 0 = 240 → 144 ≤ byt s 1) ∧ (byt s 0 = 244 → byt s 1 ≤ 143)) := by
  have r0 := byt_range s 0
  have r1 := byt_range s 1
  have r2 := byt_range s 2
  have r3 := byt_range s 3
  have ep : point s 4 = (byt s 0 - 240) * 262144 + (byt s 1 - 128) * 4096 + (byt s 2 - 128) * 64 + byt s 3 - 128 := by unfold point; simp
  rw [isSeq_iff s 4 h, ep]
  have er : (List.range 4).map (byt s) = [byt s 0, byt s 1, byt s 2, byt s 3] := rfl
  rw [er]
  generalize byt s 0 = a at *
  generalize byt s 1 = b at *
  generalize byt s 2 = d at *
  generalize byt s 3 = e at *
  unfold okC putL cont
  constructor
  · rintro ⟨h1, h2⟩
    split at h2
    · simp at h2
    · split at h2
      · simp at h2
      · split at h2
        · simp at h2
        · simp only [List.cons.injEq, and_true] at h2; omega
  · intro h
    refine ⟨by omega, ?_⟩
    rw [if_neg (by omega), if_neg (by omega), if_neg (by omega)]
    simp only [List.cons.injEq, and_true]
    omega

/-- How long the sequence is that these bytes begin with: n bytes are there. -/
def seqN (n : Nat) (a b d e : Int) : Nat :=
  if n = 0 then 0
  else if a < 128 then 1
  else if 194 ≤ a ∧ a ≤ 223 then (if 2 ≤ n ∧ cont b then 2 else 0)
  else if 224 ≤ a ∧ a ≤ 239 then (if 3 ≤ n ∧ cont b ∧ cont d ∧ (a = 224 → 160 ≤ b) ∧ (a = 237 → b ≤ 159) then 3 else 0)
  else if 240 ≤ a ∧ a ≤ 244 then (if 4 ≤ n ∧ cont b ∧ cont d ∧ cont e ∧ (a = 240 → 144 ≤ b) ∧ (a = 244 → b ≤ 143) then 4 else 0)
  else 0
def sizeM (s : ByteArray) : Nat := seqN s.size (byt s 0) (byt s 1) (byt s 2) (byt s 3)

theorem size_is (s : ByteArray) (n : Nat) (h : (1 ≤ n ∧ n ≤ 4 ∧ n ≤ s.size ∧ isSeq s n ∧ ∀ j, 1 ≤ j → j < n → ¬ isSeq s j) ∨ (n = 0 ∧ ∀ j, 1 ≤ j → j ≤ 4 → j ≤ s.size → ¬ isSeq s j)) : n = sizeM s := by
  have k1 := seq1 s
  have k2 := seq2 s
  have k3 := seq3 s
  have k4 := seq4 s
  unfold sizeM seqN
  rcases h with ⟨h1, h2, h3, h4, _⟩ | ⟨rfl, h⟩
  · have hn : n = 1 ∨ n = 2 ∨ n = 3 ∨ n = 4 := by omega
    rcases hn with rfl | rfl | rfl | rfl
    · have := (k1 h3).1 h4
      rw [if_neg (by omega), if_pos this]
    · have := (k2 h3).1 h4
      rw [if_neg (by omega), if_neg (by omega), if_pos (by omega), if_pos ⟨h3, this.2.2⟩]
    · have := (k3 h3).1 h4
      rw [if_neg (by omega), if_neg (by omega), if_neg (by omega), if_pos (by omega), if_pos ⟨h3, this.2.2⟩]
    · have := (k4 h3).1 h4
      rw [if_neg (by omega), if_neg (by omega), if_neg (by omega), if_neg (by omega), if_pos (by omega), if_pos ⟨h3, this.2.2⟩]
  · split
    · rfl
    · rename_i h0
      have n1 := h 1 (by omega) (by omega) (by omega)
      rw [k1 (by omega)] at n1
      rw [if_neg n1]
      split
      · rw [if_neg]
        rintro ⟨hs, hb⟩
        exact h 2 (by omega) (by omega) hs ((k2 hs).2 ⟨by omega, by omega, hb⟩)
      · split
        · rw [if_neg]
          rintro ⟨hs, hb⟩
          exact h 3 (by omega) (by omega) hs ((k3 hs).2 ⟨by omega, by omega, hb⟩)
        · split
          · rw [if_neg]
            rintro ⟨hs, hb⟩
            exact h 4 (by omega) (by omega) hs ((k4 hs).2 ⟨by omega, by omega, hb⟩)
          · rfl

theorem size_M (s : ByteArray) (w : World) (hs : s.size ≤ maxLen) : Calls Tryd.prog 29 #[.string s] w (Gives (.int .i64 (sizeM s)) w) := by
  refine (size_any s w hs).mono ?_
  rintro e w' ⟨⟨n, he, h⟩, hb⟩
  refine ⟨?_, hb⟩
  rw [he, size_is s n h]

end Go.Proofs.YtajedohgcepkiaaDoor.Utf
