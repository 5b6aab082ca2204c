/-
  Walks: which of a record's fields must be quoted; the chapter's examples.
-/
import Derived.Test.YtmaoeeonpedllaaRows
import Derived.Test.YtmaoeeonpedllaaNdP
import Derived.Test.YtmaoeeonpedllaaStrs
import Derived.Laws.MakeOwn
import Derived.Lib.Hide
import Derived.StillTailTactics
namespace Go.Proofs.Ytmaoeeonpedllaa
open Go.RowKit

/-- Must the field with this number be quoted. -/
def fieldB (p q : Nat) (L : List ByteArray) (first : Bool) (j : Nat) : Bool := decide (whyN p q (L.getD j ⟨#[]⟩) (decide (L.length = 1)) (first && decide (j = 0)) ≠ 0)
/-- n cells, of which the first k are told. -/
def cellsB (F : Nat → Bool) (n k : Nat) : Array Value := ((List.range n).map fun j => Value.bool (decide (j < k) && F j)).toArray
theorem cellsB_at (F : Nat → Bool) (n k j : Nat) (h : j < n) : (cellsB F n k)[j]? = some (.bool (decide (j < k) && F j)) := by
  unfold cellsB
  rw [List.getElem?_toArray, List.getElem?_map, List.getElem?_range h]
  rfl
theorem cellsB_size (F : Nat → Bool) (n k : Nat) : (cellsB F n k).size = n := by unfold cellsB; simp
theorem cellsB_set (F : Nat → Bool) (n k : Nat) (h : k < n) : (cellsB F n k).setIfInBounds k (.bool (F k)) = cellsB F n (k + 1) := by
  apply Array.ext
  · rw [Array.size_setIfInBounds, cellsB_size, cellsB_size]
  · intro i h1 h2
    rw [cellsB_size] at h2
    have e := cellsB_at F n (k + 1) i h2
    have e2 : ((cellsB F n k).setIfInBounds k (.bool (F k)))[i]? = (cellsB F n (k + 1))[i]? := by
      rw [e]
      by_cases c : i = k
      · subst c
        rw [Array.getElem?_setIfInBounds_self_of_lt (by rw [cellsB_size]; exact h), decide_eq_true (by omega), Bool.true_and]
      · rw [Array.getElem?_setIfInBounds_ne (by omega), cellsB_at F n k i h2]
        congr 3
        exact decide_eq_decide.2 (by omega)
    rw [Array.getElem?_eq_getElem h1, Array.getElem?_eq_getElem (by rw [cellsB_size]; exact h2)] at e2
    injection e2
theorem bool_info : (Try.prog.info? 4).map (fun i => (i.zero, i.size, i.bytes)) = some (some (.bool false), 1, 1) := by kernel_rfl
theorem made_bools (F : Nat → Bool) (n : Nat) : madeCells #[.bool false] n = cellsB F n 0 := by
  apply Array.ext
  · rw [size_madeCells, cellsB_size]
  · intro i h1 h2
    rw [cellsB_size] at h2
    have e := cellsB_at F n 0 i h2
    rw [Array.getElem?_eq_getElem (by rw [cellsB_size]; exact h2)] at e
    injection e with e
    rw [e]
    simp [madeCells, Nat.mod_one]
theorem make_bools (F : Nat → Bool) (n : Nat) (W : World) (hn : n ≤ 1000000) :
    (Instr.makeSlice 36 (.int .i64 n) (.int .i64 n)).run Try.prog W = .ok (.slice (some ⟨W.heap.size, 0, none⟩) n n) (W.alloc (.cells (cellsB F n 0) 4)) := by
  cases hq : Try.prog.info? 4 with
  | none => have := bool_info; rw [hq] at this; cases this
  | some i =>
    have h := bool_info
    rw [hq] at h
    simp at h
    obtain ⟨h1, h2, h3⟩ := h
    have := run_make (P := Try.prog) W 36 4 i _ Try.underlying36 hq h1 .i64 .i64 n n (by omega) (Int.le_refl _) (by rw [h3]; omega) (by omega)
    rw [this, h2]
    simp only [Int.toNat_natCast, Nat.mul_one]
    rw [show (Value.bool false).cells = #[.bool false] from rfl, made_bools F n]

def BoolsP (F : Nat → Bool) (n : Nat) (w : World) (e : Ending) (w' : World) : Prop :=
  ∃ g, e = .returned (.slice (some ⟨g, 0, none⟩) n n) ∧ w.heap.size ≤ g ∧ Box w' g 4 (cellsB F n n) ∧ Below w.heap.size w w'

set_option maxHeartbeats 4000000 in
theorem fields_any (p q : Nat) (n : Int) (v : Value) (L : List ByteArray) (fi : Bool) (w : World) (hv : Strs w v L) (hL : L.length ≤ 1000000) (hs : ∀ s ∈ L, s.size ≤ 1000000) (hp : p < 256) (hq : q < 256) :
    Calls Try.prog 15 #[.agg #[.int .u8 p, .int .u8 q, .int .i64 n], v, .bool fi] w (BoolsP (fieldB p q L fi) L.length w) := by
  unfold BoolsP
  have HN := Lib.hid (fun f al fi W hs => need_any p q n f al fi W hs hp hq)
  clear hp hq
  obtain ⟨A, c, rfl, hc1, hc2, hA⟩ := hv
  have hmk := fun W => make_bools (fieldB p q L fi) L.length W hL
  obtain ⟨al, hal⟩ : ∃ al, ((L.length : Int) == 1) = al := ⟨_, rfl⟩
  have hal2 : decide (L.length = 1) = al := by rw [← hal]; rw [Bool.eq_iff_iff]; simp; omega
  have HAL := Lib.hid hal2
  have HA := Lib.hid hA
  have HS := Lib.hid hs
  clear hal2 hA hs
  unfold maxLen at hc2
  have hcell := fun (W : World) (x : Later W) => x.cell
  have hfrozen := fun (W : World) (x : Later W) => x.frozen
  have HF : Hid (∀ j s, L[j]? = some s → fieldB p q L fi j = decide (whyN p q s al (fi && decide (j = 0)) ≠ 0)) := Lib.hid (fun j s h => by
    unfold fieldB
    rw [HAL.out]
    have : L.getD j ⟨#[]⟩ = s := by rw [List.getD_eq_getElem?_getD, h]; rfl
    rw [this])
  go_enter Try.func15, Try.ntmps15
  go_wp2
  go_loopw [15] (fun i (wr : World) => ∃ k : Nat, k ≤ L.length ∧ i = .int .i64 k ∧ Box wr w.heap.size 23 #[.int .u8 p, .int .u8 q, .int .i64 n] ∧ Box wr (w.heap.size + 1) 4 (cellsB (fieldB p q L fi) L.length k) ∧ Below w.heap.size w wr) (fun i _ => L.length - (intOf i).toNat)
  case atStart => exact ⟨0, by omega, rfl, (Box.new _ _ _).alloc _, (by have := Box.new (w.alloc (.cells #[.int .u8 p, .int .u8 q, .int .i64 n] 23)) 4 (cellsB (fieldB p q L fi) L.length 0); simpa using this), by (repeat (first | (with_reducible exact Below.refl _ _) | (with_reducible refine later_below _ ?_) | (with_reducible refine alloc_below ?_ _) | (with_reducible refine Below.drew ?_) | (refine Below.setCell ?_ (by first | exact Nat.le_refl _ | (simp; done) | (simp; omega) | omega) _)))⟩
  case round =>
    obtain ⟨k, hk, rfl, hd, hg, hb⟩ := hrel
    have d0 : wr.cell? ⟨w.heap.size, 0, none⟩ = some (.int .u8 p) := hd.cell 0
    have d1 : wr.cell? ⟨w.heap.size, 1, none⟩ = some (.int .u8 q) := hd.cell 1
    have d2 : wr.cell? ⟨w.heap.size, 2, none⟩ = some (.int .i64 n) := hd.cell 2
    have hlt := hg.lt
    have hlt0 := hd.lt
    have HD := Lib.hid hd
    have HG := Lib.hid hg
    have HB := Lib.hid hb
    clear hd hg hb
    by_cases c1 : k < L.length
    · have i1 : (k : Int) < (L.length : Int) := by omega
      obtain ⟨s, hs⟩ : ∃ s, L[k]? = some s := ⟨_, List.getElem?_eq_getElem c1⟩
      obtain ⟨a, rfl, ha⟩ := HA.out k s hs
      have ha' := (HB.out.cell (World.block_lt_of_cell? w _ ha)).trans ha
      have g1 : wr.cell? ⟨w.heap.size + 1, k, none⟩ = some (.bool false) := by
        rw [HG.out.cell k, cellsB_at _ _ _ _ c1, decide_eq_false (by omega)]; rfl
      have f1 : wr.frozen? ⟨w.heap.size + 1, k, none⟩ = false := HG.out.frozen k
      have hsz := HS.out s (List.mem_of_getElem? hs)
      clear ha
      cases fi
      · obtain ⟨V, hV⟩ : ∃ V, decide (whyN p q s al false ≠ 0) = V := ⟨_, rfl⟩
        have HV : Hid (fieldB p q L false k = V) := Lib.hid (by rw [HF.out k s hs, ← hV]; simp)
        have HX := Lib.hid (fun W => HN.out s al false W hsz)
        rw [hV] at HX
        clear hs hsz hV
        go_wp2_with (go_at_call 13; (first | (with_reducible refine (later_call _ (HX.out _)).mono ?_) | (with_reducible refine (call_later (HX.out _)).mono ?_)); rintro e w' ⟨rfl, x, rfl⟩)
        go_roundw
        case rel => exact ⟨k + 1, by omega, by go_num, (HD.out.below x.below hlt0).far (by simp) _, (by
          have := (HG.out.below x.below hlt).set k (.bool V)
          rw [← HV.out] at this ⊢
          rw [cellsB_set _ _ _ c1] at this
          exact this), Below.setCell (later_below _ HB.out) (by simp) _⟩
        case measure => simp [intOf]; omega
      · by_cases k0 : k = 0
        · subst k0
          have HX := Lib.hid (fun W => HN.out s al true W hsz)
          have ha2 : wr.cell? a = some (.string s) := ha'
          obtain ⟨V, hV⟩ : ∃ V, decide (whyN p q s al true ≠ 0) = V := ⟨_, rfl⟩
          have HV : Hid (fieldB p q L true 0 = V) := Lib.hid (by rw [HF.out 0 s hs, ← hV]; rfl)
          rw [hV] at HX
          clear hs hsz hV ha'
          go_wp2_with (go_at_call 13; (first | (with_reducible refine (later_call _ (HX.out _)).mono ?_) | (with_reducible refine (call_later (HX.out _)).mono ?_)); rintro e w' ⟨rfl, x, rfl⟩)
          go_roundw
          case rel => exact ⟨1, by omega, by go_num, (HD.out.below x.below hlt0).far (by simp) _, (by
            have := (HG.out.below x.below hlt).set 0 (.bool V)
            rw [← HV.out] at this ⊢
            rw [cellsB_set _ _ _ c1] at this
            exact this), Below.setCell (later_below _ HB.out) (by simp) _⟩
          case measure => simp [intOf]; omega
        · have k1 : ((k : Int) == 0) = false := beq_eq_false_iff_ne.2 (by omega)
          obtain ⟨V, hV⟩ : ∃ V, decide (whyN p q s al false ≠ 0) = V := ⟨_, rfl⟩
          have HV : Hid (fieldB p q L true k = V) := Lib.hid (by rw [HF.out k s hs, ← hV]; rw [decide_eq_false k0]; rfl)
          have HX := Lib.hid (fun W => HN.out s al false W hsz)
          rw [hV] at HX
          clear hs hsz hV
          go_wp2_with (go_at_call 13; (first | (with_reducible refine (later_call _ (HX.out _)).mono ?_) | (with_reducible refine (call_later (HX.out _)).mono ?_)); rintro e w' ⟨rfl, x, rfl⟩)
          go_roundw
          case rel => exact ⟨k + 1, by omega, by go_num, (HD.out.below x.below hlt0).far (by simp) _, (by
            have := (HG.out.below x.below hlt).set k (.bool V)
            rw [← HV.out] at this ⊢
            rw [cellsB_set _ _ _ c1] at this
            exact this), Below.setCell (later_below _ HB.out) (by simp) _⟩
          case measure => simp [intOf]; omega
    · obtain rfl : k = L.length := by omega
      have i1 : ¬ (L.length : Int) < (L.length : Int) := by omega
      go_wp2
      go_ret
      exact ⟨_, rfl, by omega, HG.out, HB.out⟩

end Go.Proofs.Ytmaoeeonpedllaa
