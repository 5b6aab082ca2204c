/-
  Walks: the chapter's examples; are there few fields.
-/
import Derived.Test.YtmaoeeonpedllaaRows
import Derived.Test.YtmaoeeonpedllaaNdF
import Derived.Deep.RegionHeld
import Derived.Deep.DeepCutAuto
namespace Go.Proofs.Ytmaoeeonpedllaa
open Go.RowKit

theorem Strs.built (w : World) (t : TypeId) (L : List ByteArray) (hl : L.length ≤ maxLen) : Strs (w.alloc (.cells (strC L).toArray t)) (.slice (some ⟨w.heap.size, 0, none⟩) L.length L.length) L := by
  refine ⟨_, _, rfl, Nat.le_refl _, hl, fun j x hx => ⟨_, rfl, ?_⟩⟩
  have hb : Box (w.alloc (.cells (strC L).toArray t)) w.heap.size t (strC L).toArray := Box.new w t _
  rw [add_zero_off, hb.cell, List.getElem?_toArray, strC_get, hx]
  rfl

def e1 : List ByteArray := [⟨#[]⟩]
def e2 : List ByteArray := [⟨#[]⟩, ⟨#[]⟩]
theorem e1_built (w : World) : Strs (w.alloc (.cells #[.string ⟨#[]⟩] 9)) (.slice (some ⟨w.heap.size, 0, none⟩) 1 1) e1 := Strs.built w 9 e1 (by unfold maxLen; decide)
theorem e2_built (w : World) : Strs (w.alloc (.cells #[.string ⟨#[]⟩, .string ⟨#[]⟩] 9)) (.slice (some ⟨w.heap.size, 0, none⟩) 2 2) e2 := Strs.built w 9 e2 (by unfold maxLen; decide)
theorem e1_built' (w : World) (o : Obj) : Strs ((w.alloc o).alloc (.cells #[.string ⟨#[]⟩] 9)) (.slice (some ⟨w.heap.size + 1, 0, none⟩) 1 1) e1 := by have := e1_built (w.alloc o); simpa using this
theorem e2_built' (w : World) (o : Obj) : Strs ((w.alloc o).alloc (.cells #[.string ⟨#[]⟩, .string ⟨#[]⟩] 9)) (.slice (some ⟨w.heap.size + 1, 0, none⟩) 2 2) e2 := by have := e2_built (w.alloc o); simpa using this
theorem strs_drew {w : World} {v : Value} {L : List ByteArray} (h : Strs w v L) : Strs w.drew v L := h
theorem one_alloc (w : World) (o : Obj) : Below w.heap.size w (w.alloc o) := (Below.refl _ _).alloc (Nat.le_refl _) _

def E1 (w : World) (e : Ending) (w' : World) : Prop := ∃ g, e = .returned (.slice (some ⟨g, 0, none⟩) 1 1) ∧ Box w' g 4 #[.bool true] ∧ Below w.heap.size w w'
def E2 (w : World) (e : Ending) (w' : World) : Prop := ∃ g, e = .returned (.slice (some ⟨g, 0, none⟩) 2 2) ∧ Box w' g 4 #[.bool false, .bool false] ∧ Below w.heap.size w w'
theorem hasC_nil (b : Nat) : hasC ⟨#[]⟩ b = false := hasC_no (fun _ hi => absurd hi (Nat.not_lt_zero _))
theorem why_nil (p q : Nat) (al : Bool) : whyN p q ⟨#[]⟩ al false = if al = true then 4 else 0 := by
  unfold whyN
  rw [hasC_nil, hasC_nil, hasC_nil, hasC_nil]
  cases al <;> rfl
theorem f1_at : cellsB (fieldB 44 34 e1 false) 1 1 = #[.bool true] := by
  have h : fieldB 44 34 e1 false 0 = true := by unfold fieldB; rw [show e1.getD 0 ⟨#[]⟩ = ⟨#[]⟩ from rfl, Bool.false_and, why_nil]; rfl
  unfold cellsB
  rw [show List.range 1 = [0] from rfl]
  simp [h]
theorem f2_at : cellsB (fieldB 44 34 e2 false) 2 2 = #[.bool false, .bool false] := by
  have h0 : fieldB 44 34 e2 false 0 = false := by unfold fieldB; rw [show e2.getD 0 ⟨#[]⟩ = ⟨#[]⟩ from rfl, Bool.false_and, why_nil]; rfl
  have h1 : fieldB 44 34 e2 false 1 = false := by unfold fieldB; rw [show e2.getD 1 ⟨#[]⟩ = ⟨#[]⟩ from rfl, Bool.false_and, why_nil]; rfl
  unfold cellsB
  rw [show List.range 2 = [0, 1] from rfl]
  simp [h0, h1]
theorem fields1 (v : Value) (w : World) (h : Strs w v e1) : Calls Try.prog 15 #[.agg #[.int .u8 44, .int .u8 34, .int .i64 1], v, .bool false] w (E1 w) := by
  refine (show Calls Try.prog 15 #[.agg #[.int .u8 44, .int .u8 34, .int .i64 1], v, .bool false] w (BoolsP (fieldB 44 34 e1 false) 1 w) from fields_any 44 34 1 v e1 false w h (by decide) (by decide) (by decide) (by decide)).mono ?_
  rintro e w' ⟨g, rfl, _, hb, hw⟩
  rw [f1_at] at hb
  exact ⟨g, rfl, hb, hw⟩
theorem fields2 (v : Value) (w : World) (h : Strs w v e2) : Calls Try.prog 15 #[.agg #[.int .u8 44, .int .u8 34, .int .i64 1], v, .bool false] w (E2 w) := by
  refine (show Calls Try.prog 15 #[.agg #[.int .u8 44, .int .u8 34, .int .i64 1], v, .bool false] w (BoolsP (fieldB 44 34 e2 false) 2 w) from fields_any 44 34 1 v e2 false w h (by decide) (by decide) (by decide) (by decide)).mono ?_
  rintro e w' ⟨g, rfl, _, hb, hw⟩
  rw [f2_at] at hb
  exact ⟨g, rfl, hb, hw⟩

def AwS (w : World) (db : Nat) (w' : World) : Prop := w'.cell? ⟨db, 0, none⟩ = some (.int .u8 44) ∧ w'.cell? ⟨db, 1, none⟩ = some (.int .u8 34) ∧ w'.cell? ⟨db, 2, none⟩ = some (.int .i64 1) ∧ db < w'.heap.size ∧ Below w.heap.size w w'
theorem awS_next {w W W' : World} {db : Nat} (h : AwS w db W) (hb : Below W.heap.size W W') : AwS w db W' := by
  obtain ⟨h0, h1, h2, h3, h4⟩ := h
  exact ⟨(hb.cell h3).trans h0, (hb.cell h3).trans h1, (hb.cell h3).trans h2, by have := hb.size; omega, h4.trans (hb.mono h4.size)⟩

set_option maxHeartbeats 4000000 in
theorem awake_any (w : World) : Calls Try.prog 9 #[] w (Gives (.bool true) w) := by
  apply Gives.of
  have H1 := Lib.hid fields1
  have H2 := Lib.hid fields2
  go_enter Try.func9, Try.ntmps9
  go_upto_region 2 with fail
  have hbx := Box.new w 23 #[.int .u8 44, .int .u8 34, .int .i64 1]
  have hS : AwS w w.heap.size (w.alloc (.cells #[.int .u8 44, .int .u8 34, .int .i64 1] 23)) := ⟨hbx.cell 0, hbx.cell 1, hbx.cell 2, hbx.lt, one_alloc _ _⟩
  clear hbx
  generalize w.alloc (.cells #[.int .u8 44, .int .u8 34, .int .i64 1] 23) = W0 at hS ⊢
  obtain ⟨db, hdb⟩ : ∃ db, w.heap.size = db := ⟨_, rfl⟩
  rw [hdb] at hS ⊢
  go_cut [2, 3] (fun z2 z3 wx => ∃ g h, z2 = .slice (some ⟨g, 0, none⟩) 1 1 ∧ z3 = .slice (some ⟨h, 0, none⟩) 2 2 ∧ Box wx g 4 #[.bool true] ∧ Box wx h 4 #[.bool false, .bool false] ∧ Below w.heap.size w wx)
  case first =>
    go_region_held (fun w' => w'.cell? ⟨db, 0, none⟩ = some (.int .u8 44) ∧ w'.cell? ⟨db, 1, none⟩ = some (.int .u8 34) ∧ w'.cell? ⟨db, 2, none⟩ = some (.int .i64 1) ∧ db < w'.heap.size ∧ Below w.heap.size w w')
      (first | exact awS_next (w := w) (db := db) (by assumption) x.below | exact awS_next (w := w) (db := db) (by assumption) (one_alloc _ _) | exact awS_next (w := w) (db := db) hS (Below.refl _ _).drew | go_keep)
      (first
        | (go_at_call 15; refine (H1.out _ _ (by first | exact e1_built' _ _ | exact strs_drew (e1_built' _ _) | exact e1_built _ | exact strs_drew (e1_built _) | exact (e1_built _).below (one_alloc _ _) | exact strs_drew ((e1_built _).below (one_alloc _ _)))).mono ?_; rintro e w' ⟨g1, rfl, hb1, hw1⟩; obtain ⟨x, rfl⟩ : ∃ x : Later _, w' = x.w := ⟨⟨w', hw1⟩, rfl⟩; have HG1 := Lib.hid hb1; clear hb1 hw1)
        | (go_at_call 15; refine (H2.out _ _ (by first | exact e2_built' _ _ | exact strs_drew (e2_built' _ _) | exact (e2_built' _ _).below x.below | exact (strs_drew (e2_built' _ _)).below x.below | exact strs_drew ((e2_built' _ _).below x.below) | exact e2_built _ | exact strs_drew (e2_built _) | exact (e2_built _).below x.below | exact strs_drew ((e2_built _).below x.below) | exact (e2_built _).below (x.below.mono (by simp)) | exact ((e2_built _).below (one_alloc _ _)).below x.below | exact ((e2_built _).below (one_alloc _ _)).below (Below.mono x.below (Nat.le_refl _)) | exact strs_drew (((e2_built _).below (one_alloc _ _)).below x.below) | exact (strs_drew (e2_built _)).below x.below | exact (strs_drew ((e2_built _).below (one_alloc _ _))).below x.below | exact strs_drew ((strs_drew (e2_built _)).below x.below) | exact strs_drew ((strs_drew ((e2_built _).below (one_alloc _ _))).below x.below))).mono ?_; rintro e w' ⟨g2, rfl, hb1, hw1⟩; obtain ⟨x, rfl⟩ : ∃ x : Later _, w' = x.w := ⟨⟨w', hw1⟩, rfl⟩; have HG2 := Lib.hid hb1; clear hb1 hw1))
    all_goals
      go_wp2_with fail
      go_meet
      exact ⟨g1, g2, rfl, rfl, (by first | exact HG1.out.below x.below HG1.out.lt | exact (HG1.out.alloc _).below x.below (HG1.out.alloc _).lt), HG2.out, (show AwS w db _ from by assumption).2.2.2.2⟩
  case rest =>
    obtain ⟨g, h, rfl, rfl, hg, hh, hb⟩ := hcut
    have c0 : wc.cell? ⟨g, 0, none⟩ = some (.bool true) := hg.cell 0
    have d0 : wc.cell? ⟨h, 0, none⟩ = some (.bool false) := hh.cell 0
    have d1 : wc.cell? ⟨h, 1, none⟩ = some (.bool false) := hh.cell 1
    have HB := Lib.hid hb
    clear hg hh hb hS
    go_wp2
    go_ret
    exact ⟨rfl, HB.out⟩

/-- At most 20 fields, of at most 400 bytes together. -/
def sumN (L : List ByteArray) (k : Nat) : Nat := ((L.take k).map (·.size)).sum
theorem sumN_zero (L : List ByteArray) : sumN L 0 = 0 := by unfold sumN; simp
theorem sumN_succ (L : List ByteArray) (k : Nat) (s : ByteArray) (h : L[k]? = some s) : sumN L (k + 1) = sumN L k + s.size := by
  unfold sumN
  rw [List.take_add_one, h, List.map_append, List.sum_append]
  simp
theorem sumN_le (L : List ByteArray) (j k : Nat) (h : j ≤ k) : sumN L j ≤ sumN L k := by
  obtain ⟨d, rfl⟩ : ∃ d, k = j + d := ⟨k - j, by omega⟩
  clear h
  induction d with
  | zero => exact Nat.le_refl _
  | succ d ih =>
    rw [← Nat.add_assoc]
    cases hl : L[j + d]? with
    | none =>
      refine Nat.le_trans ih ?_
      unfold sumN
      have hn : L.length ≤ j + d := List.getElem?_eq_none_iff.1 hl
      rw [List.take_of_length_le hn, List.take_of_length_le (by omega)]
      exact Nat.le_refl _
    | some s => rw [sumN_succ L _ s hl]; omega
theorem sumN_mem (L : List ByteArray) (s : ByteArray) (h : s ∈ L) : s.size ≤ sumN L L.length := by
  obtain ⟨k, hk⟩ := List.mem_iff_getElem?.1 h
  have h1 := sumN_succ L k s hk
  have h2 := sumN_le L (k + 1) L.length (List.getElem?_eq_some_iff.1 hk).1
  omega
def fewB (L : List ByteArray) : Bool := decide (L.length ≤ 20) && decide (sumN L L.length ≤ 400)
theorem fewB_spec {L : List ByteArray} (h : fewB L = true) : L.length ≤ 20 ∧ sumN L L.length ≤ 400 := by
  unfold fewB at h
  simp at h
  exact h

set_option maxHeartbeats 2000000 in
theorem few_any (v : Value) (L : List ByteArray) (w : World) (hv : Strs w v L) (hm : ∀ s ∈ L, s.size ≤ 140737488351232) : Calls Try.prog 14 #[v] w (Gives (.bool (fewB L)) w) := by
  apply Gives.of
  obtain ⟨A, c, rfl, hc1, hc2, hA⟩ := hv
  unfold maxLen at hc2
  have HA := Lib.hid hA
  have HM := Lib.hid hm
  clear hA hm
  obtain ⟨B, hB⟩ : ∃ B, fewB L = B := ⟨_, rfl⟩
  have HB := Lib.hid hB
  rw [hB]
  clear hB
  by_cases hl : 20 < L.length
  · have h1 : (20 : Int) < (L.length : Int) := by omega
    have h2 : decide ((20 : Int) < (L.length : Int)) = true := decide_eq_true h1
    obtain rfl : B = false := by rw [← HB.out]; unfold fewB; rw [decide_eq_false (by omega)]; rfl
    clear hl
    go_enter Try.func14, Try.ntmps14
    go_wp2
    go_ret
    exact ⟨rfl, Below.refl _ _⟩
  · have h1 : ¬ (20 : Int) < (L.length : Int) := by omega
    have h2 : decide ((20 : Int) < (L.length : Int)) = false := decide_eq_false h1
    have HL := Lib.hid hl
    clear hl
    go_enter Try.func14, Try.ntmps14
    go_wp2
    go_loopw [3, 11] (fun z i (wr : World) => ∃ k : Nat, k ≤ L.length ∧ i = .int .i64 k ∧ z = .int .i64 (sumN L k) ∧ sumN L k ≤ 400 ∧ wr = w) (fun _ i _ => L.length - (intOf i).toNat)
    case atStart => exact ⟨0, by omega, rfl, by rw [sumN_zero]; rfl, by rw [sumN_zero]; omega, rfl⟩
    case round =>
      obtain ⟨k, hk, rfl, rfl, hs4, rfl⟩ := hrel
      by_cases c1 : k < L.length
      · have i1 : (k : Int) < (L.length : Int) := by omega
        obtain ⟨s, hs⟩ : ∃ s, L[k]? = some s := ⟨_, List.getElem?_eq_getElem c1⟩
        obtain ⟨a, rfl, ha⟩ := HA.out k s hs
        have hsz := HM.out s (List.mem_of_getElem? hs)
        have hsum := sumN_succ L k s hs
        have hle := sumN_le L (k + 1) L.length (by omega)
        obtain ⟨X, hX⟩ : ∃ X, sumN L k = X := ⟨_, rfl⟩
        obtain ⟨Y, hY⟩ : ∃ Y, sumN L (k + 1) = Y := ⟨_, rfl⟩
        rw [hX] at hs4 ⊢
        rw [hX, hY] at hsum
        rw [hY] at hle
        have hw : wrap64 ((X : Int) + (s.size : Int)) = (Y : Int) := by unfold wrap64; omega
        by_cases c2 : 400 < Y
        · have j1 : (400 : Int) < (Y : Int) := by omega
          have j2 : decide ((400 : Int) < (Y : Int)) = true := decide_eq_true j1
          obtain rfl : B = false := by rw [← HB.out]; unfold fewB; rw [decide_eq_false (p := sumN L L.length ≤ 400) (by omega), Bool.and_false]
          have HY := Lib.hid hY
          clear hX hY hsum hle hs c2 hs4 hsz
          go_wp2
          go_ret
          exact ⟨rfl, Below.refl _ _⟩
        · have j1 : ¬ (400 : Int) < (Y : Int) := by omega
          have j2 : decide ((400 : Int) < (Y : Int)) = false := decide_eq_false j1
          have HY := Lib.hid hY
          have HC := Lib.hid c2
          clear hX hY hsum hle hs c2 hs4 hsz
          go_wp2
          go_roundw
          case rel => exact ⟨k + 1, by omega, by go_num, by rw [HY.out, hw], by rw [HY.out]; have := HC.out; omega, True.intro⟩
          case measure => simp [intOf]; omega
      · obtain rfl : k = L.length := by omega
        have i1 : ¬ (L.length : Int) < (L.length : Int) := by omega
        obtain rfl : B = true := by rw [← HB.out]; unfold fewB; rw [decide_eq_true (p := L.length ≤ 20) (by have := HL.out; omega), decide_eq_true hs4]; rfl
        clear hs4
        go_wp2
        go_ret
        exact ⟨rfl, Below.refl _ _⟩

end Go.Proofs.Ytmaoeeonpedllaa
