/-
  Words for slices of ints: what one reads as; one of the call's own.
-/
import Derived.Test.YtmfhnmdgcjlnpaaRows
import Derived.Test.YtmfhnmdgcjlnpaaKeep
namespace Go.Proofs.Ytmfhnmdgcjlnpaa
open Go.RowKit

def intC (L : List Int) : List Value := L.map (Value.int .i64)
theorem intC_len (L : List Int) : (intC L).length = L.length := by unfold intC; simp
theorem intC_snoc (L : List Int) (s : Int) : intC (L ++ [s]) = intC L ++ [.int .i64 s] := by unfold intC; simp
theorem intC_one (L : List Int) : ∀ u ∈ intC L, u.oneCell' = true := by
  intro u hu
  unfold intC at hu
  obtain ⟨_, _, rfl⟩ := List.mem_map.1 hu
  rfl
theorem intC_get (L : List Int) (j : Nat) : (intC L)[j]? = L[j]?.map (Value.int .i64) := by unfold intC; rw [List.getElem?_map]
theorem int_info : (Try.prog.info? 3).map (fun i => (i.zero, i.size, i.bytes)) = some (some (.int .i64 0), 1, 8) := by kernel_rfl

/-- A slice of ints of the call's own. -/
abbrev OwnI (w : World) (b : Nat) (v : Value) (L : List Int) : Prop := w.ownsRow b 3 1 v L.length (intC L)

/-- A slice that reads as a list of ints. -/
def Ints (w : World) (v : Value) (L : List Int) : Prop :=
  ∃ A c, v = .slice A L.length c ∧ L.length ≤ c ∧ c ≤ maxLen ∧ ∀ j x, L[j]? = some x → ∃ a, A = some a ∧ w.cell? (a.add j) = some (.int .i64 x)
theorem Ints.below {w w' : World} {v : Value} {L : List Int} (h : Ints w v L) (hb : Below w.heap.size w w') : Ints w' v L := by
  obtain ⟨A, c, h1, h2, h3, h4⟩ := h
  refine ⟨A, c, h1, h2, h3, fun j s hs => ?_⟩
  obtain ⟨a, ha, hc⟩ := h4 j s hs
  exact ⟨a, ha, (hb.cell (World.block_lt_of_cell? w _ hc)).trans hc⟩
theorem OwnI.ints {w : World} {b : Nat} {v : Value} {L : List Int} (h : OwnI w b v L) : Ints w v L := by
  have h' := h
  rcases owns_cases h with ⟨rfl, hn⟩ | ⟨g, cap, rfl, h4, h5, h6, h7⟩
  · have : L = [] := List.length_eq_zero_iff.1 hn
    subst this
    exact ⟨none, 0, rfl, Nat.le_refl _, Nat.zero_le _, fun j s hs => by simp at hs⟩
  · refine ⟨some ⟨g, 0, none⟩, cap, rfl, h6, h7, fun j s hs => ⟨_, rfl, ?_⟩⟩
    have hj : j < L.length := (List.getElem?_eq_some_iff.1 hs).1
    rw [add_zero_off, h'.cellAt j (by omega), intC_get, hs]
    rfl
/-- A list of ints just built. -/
theorem Ints.built (w : World) (t : TypeId) (L : List Int) (hl : L.length ≤ maxLen) : Ints (w.alloc (.cells (intC L).toArray t)) (.slice (some ⟨w.heap.size, 0, none⟩) L.length L.length) L := by
  refine ⟨_, _, rfl, Nat.le_refl _, hl, fun j x hx => ⟨_, rfl, ?_⟩⟩
  have hb : Box (w.alloc (.cells (intC L).toArray t)) w.heap.size t (intC L).toArray := Box.new w t _
  rw [add_zero_off, hb.cell, List.getElem?_toArray, intC_get, hx]
  rfl

/-! ### Pieces -/
/-- A number within 0 and another one. -/
def held (n most : Int) : Int := if n < 0 then 0 else if n > most then most else n
theorem held_range (n most : Int) (h : 0 ≤ most) : 0 ≤ held n most ∧ held n most ≤ most := by unfold held; split <;> (try split) <;> omega
theorem held_mono (a b most : Int) (h : 0 ≤ most) (hab : a ≤ b) : held a most ≤ held b most := by unfold held; split <;> (try split) <;> (try split) <;> (try split) <;> omega
theorem held_minmax (n most : Int) (h : 0 ≤ most) : min (max n 0) most = held n most := by unfold held; omega

/-- The borders of pieces: 0, then the places. -/
def bord (qs : List Int) (j : Nat) : Int := if j = 0 then 0 else qs.getD (j - 1) 0
def cutF (s : ByteArray) (f : Nat → Int) (k : Nat) : List ByteArray := (List.range k).map fun j => s.extract (f j).toNat (f (j + 1)).toNat
theorem cutF_zero (s : ByteArray) (f : Nat → Int) : cutF s f 0 = [] := rfl
theorem cutF_succ (s : ByteArray) (f : Nat → Int) (k : Nat) : cutF s f (k + 1) = cutF s f k ++ [s.extract (f k).toNat (f (k + 1)).toNat] := by unfold cutF; rw [List.range_succ, List.map_append]; rfl
theorem cutF_len (s : ByteArray) (f : Nat → Int) (k : Nat) : (cutF s f k).length = k := by unfold cutF; simp
/-- A text's pieces at sorted places within it. -/
def cutAt (s : ByteArray) (qs : List Int) : List ByteArray := cutF s (bord qs) qs.length ++ [s.extract (bord qs qs.length).toNat s.size]
theorem cutAt_len (s : ByteArray) (qs : List Int) : (cutAt s qs).length = qs.length + 1 := by unfold cutAt; rw [List.length_append, cutF_len]; rfl

theorem bord_zero (qs : List Int) : bord qs 0 = 0 := rfl
theorem bord_succ (qs : List Int) (k : Nat) (h : k < qs.length) : bord qs (k + 1) = qs[k] := by
  unfold bord
  rw [if_neg (by omega)]
  simp [List.getD, h]
theorem bord_last (qs : List Int) (x : Int) : bord (qs ++ [x]) (qs.length + 1) = x := by
  rw [bord_succ _ _ (by simp)]
  simp
theorem bord_front (qs : List Int) (x : Int) (j : Nat) (hj : j ≤ qs.length) : bord (qs ++ [x]) j = bord qs j := by
  unfold bord
  by_cases h0 : j = 0
  · rw [if_pos h0, if_pos h0]
  · rw [if_neg h0, if_neg h0]
    simp only [List.getD]
    rw [List.getElem?_append_left (by omega)]
theorem cutF_front (s : ByteArray) (qs : List Int) (x : Int) : cutF s (bord (qs ++ [x])) qs.length = cutF s (bord qs) qs.length := by
  unfold cutF
  apply List.map_congr_left
  intro j hj
  have := List.mem_range.1 hj
  rw [bord_front _ _ _ (by omega), bord_front _ _ _ (by omega)]
theorem cutF_snoc (s : ByteArray) (qs : List Int) (x : Int) : cutF s (bord (qs ++ [x])) (qs ++ [x]).length = cutF s (bord qs) qs.length ++ [s.extract (bord qs qs.length).toNat x.toNat] := by
  rw [List.length_append, List.length_singleton, cutF_succ, cutF_front, bord_last, bord_front _ _ _ (Nat.le_refl _)]

/-! ### All of a list, one behind the other -/
def catB : List ByteArray → ByteArray
  | [] => ⟨#[]⟩
  | s :: l => s ++ catB l
theorem catB_append (l m : List ByteArray) : catB (l ++ m) = catB l ++ catB m := by
  induction l with
  | nil => exact (none_append _).symm
  | cons s l ih => show s ++ catB (l ++ m) = s ++ catB l ++ catB m; rw [ih, append_assoc]
theorem catB_one (s : ByteArray) : catB [s] = s := append_none s
theorem catB_snoc (l : List ByteArray) (s : ByteArray) : catB (l ++ [s]) = catB l ++ s := by rw [catB_append, catB_one]
theorem extract_glue (s : ByteArray) (i j : Nat) (hij : i ≤ j) (hj : j ≤ s.size) : s.extract 0 i ++ s.extract i j = s.extract 0 j := by
  apply byt_inj
  · simp only [ByteArray.size_append, ByteArray.size_extract]; omega
  · intro k hk
    simp only [ByteArray.size_append, ByteArray.size_extract] at hk
    rw [byt_append, byt_extract, byt_extract, byt_extract]
    simp only [ByteArray.size_extract]
    by_cases h : k < i
    · rw [if_pos (by omega), if_pos (by omega), if_pos (by omega)]
    · rw [if_neg (by omega), if_pos (by omega), if_pos (by omega)]
      congr 1
      omega
theorem catB_cutF (s : ByteArray) (f : Nat → Int) (k : Nat) (h0 : f 0 = 0) (hm : ∀ j, j < k → f j ≤ f (j + 1)) (hn : ∀ j, j ≤ k → 0 ≤ f j ∧ (f j).toNat ≤ s.size) : catB (cutF s f k) = s.extract 0 (f k).toNat := by
  induction k with
  | zero => rw [h0]; exact (byt_inj (by simp; rfl) (fun i hi => by simp [catB, cutF_zero] at hi; exact absurd hi (by show ¬ i < 0; omega)))
  | succ k ih =>
    rw [cutF_succ, catB_snoc, ih (fun j hj => hm j (by omega)) (fun j hj => hn j (by omega))]
    have := hm k (by omega)
    have := hn k (by omega)
    have := hn (k + 1) (by omega)
    exact extract_glue s _ _ (by omega) (by omega)
theorem extract_all (s : ByteArray) : s.extract 0 s.size = s := by
  apply byt_inj
  · simp
  · intro i hi
    simp at hi
    rw [byt_extract, if_pos (by omega), Nat.zero_add]
theorem catB_cutAt (s : ByteArray) (qs : List Int) (hs : qs.Pairwise (· ≤ ·)) (hr : ∀ q ∈ qs, 0 ≤ q ∧ q.toNat ≤ s.size) : catB (cutAt s qs) = s := by
  have hb : ∀ j, j ≤ qs.length → 0 ≤ bord qs j ∧ (bord qs j).toNat ≤ s.size := by
    intro j hj
    cases j with
    | zero => exact ⟨Int.le_refl _, Nat.zero_le _⟩
    | succ j => rw [bord_succ _ _ (by omega)]; exact hr _ (List.getElem_mem _)
  unfold cutAt
  rw [catB_snoc, catB_cutF s (bord qs) qs.length rfl ?_ hb, extract_glue s _ _ (hb _ (Nat.le_refl _)).2 (Nat.le_refl _), extract_all]
  intro j hj
  cases j with
  | zero => rw [bord_zero]; exact (hb 1 (by omega)).1
  | succ j =>
    rw [bord_succ _ _ (by omega), bord_succ _ _ (by omega)]
    exact List.pairwise_iff_getElem.1 hs _ _ _ _ (by omega)

/-! ### Two sorted lists that hold the same -/
theorem sorted_perm : ∀ {l m : List Int}, l.Pairwise (· ≤ ·) → m.Pairwise (· ≤ ·) → l.Perm m → l = m
  | [], m, _, _, h => (List.nil_perm.1 h).symm
  | a :: l, m, hl, hm, h => by
    cases m with
    | nil => exact absurd (List.perm_nil.1 h) (by simp)
    | cons b m =>
      have hab : a ≤ b := by
        have : b ∈ a :: l := h.mem_iff.2 (by simp)
        rcases List.mem_cons.1 this with rfl | h'
        · exact Int.le_refl _
        · exact (List.pairwise_cons.1 hl).1 _ h'
      have hba : b ≤ a := by
        have : a ∈ b :: m := h.mem_iff.1 (by simp)
        rcases List.mem_cons.1 this with rfl | h'
        · exact Int.le_refl _
        · exact (List.pairwise_cons.1 hm).1 _ h'
      obtain rfl : a = b := by omega
      rw [sorted_perm (List.pairwise_cons.1 hl).2 (List.pairwise_cons.1 hm).2 (List.perm_cons _ |>.1 h)]

/-- The places, in order, held within the text. -/
def heldS (s : ByteArray) (ps : List Int) : List Int := (ps.mergeSort fun x y => decide (x ≤ y)).map fun p => held p s.size
theorem heldS_len (s : ByteArray) (ps : List Int) : (heldS s ps).length = ps.length := by unfold heldS; simp
theorem sort_sorted (ps : List Int) : (ps.mergeSort fun x y => decide (x ≤ y)).Pairwise (· ≤ ·) := by
  have := List.pairwise_mergeSort (le := fun (x y : Int) => decide (x ≤ y)) (by intro a b c; simp; omega) (by intro a b; simp; omega) ps
  exact this.imp (by simp)
theorem heldS_sorted (s : ByteArray) (ps : List Int) : (heldS s ps).Pairwise (· ≤ ·) := by
  unfold heldS
  rw [List.pairwise_map]
  exact (sort_sorted ps).imp fun h => held_mono _ _ _ (by omega) h
theorem heldS_perm (s : ByteArray) (ps : List Int) : (heldS s ps).Perm (ps.map fun p => held p s.size) := (List.mergeSort_perm ps _).map _
theorem heldS_range (s : ByteArray) (ps : List Int) : ∀ q ∈ heldS s ps, 0 ≤ q ∧ q.toNat ≤ s.size := by
  intro q hq
  unfold heldS at hq
  obtain ⟨p, _, rfl⟩ := List.mem_map.1 hq
  have := held_range p s.size (by omega)
  omega
theorem catB_at (s : ByteArray) (ps : List Int) : catB (cutAt s (heldS s ps)) = s := catB_cutAt s _ (heldS_sorted s ps) (heldS_range s ps)

end Go.Proofs.Ytmfhnmdgcjlnpaa
