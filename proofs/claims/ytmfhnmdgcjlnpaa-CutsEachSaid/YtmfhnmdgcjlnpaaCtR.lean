/-
  Walks: the document's pieces at places.
-/
import Derived.Test.YtmfhnmdgcjlnpaaRows
import Derived.Test.YtmfhnmdgcjlnpaaCtH
import Derived.Lib.Hide
import Derived.StillTailTactics
import Derived.Deep.DeepCutAuto
namespace Go.Proofs.Ytmfhnmdgcjlnpaa
open Go.RowKit

def heldL (s : ByteArray) (ps : List Int) : List Int := ps.map fun p => held p s.size
theorem heldL_take (s : ByteArray) (ps : List Int) (k : Nat) (x : Int) (h : ps[k]? = some x) : heldL s (ps.take (k + 1)) = heldL s (ps.take k) ++ [held x s.size] := by
  unfold heldL
  rw [List.take_add_one, h, List.map_append]
  rfl
theorem heldL_len (s : ByteArray) (ps : List Int) (k : Nat) : (heldL s (ps.take k)).length ≤ ps.length := by unfold heldL; simp; omega

/-- What is known between two rounds of the outer loop: the places so far, in order; those that are left. -/
structure Sel (s : ByteArray) (ps so lf : List Int) : Prop where
  sorted : so.Pairwise (· ≤ ·)
  perm : (so ++ lf).Perm (heldL s ps)
  above : ∀ x ∈ lf, bord so so.length ≤ x
  range : ∀ x ∈ so ++ lf, 0 ≤ x ∧ x.toNat ≤ s.size

theorem heldL_range (s : ByteArray) (ps : List Int) : ∀ x ∈ heldL s ps, 0 ≤ x ∧ x.toNat ≤ s.size := by
  intro x hx
  obtain ⟨p, _, rfl⟩ := List.mem_map.1 hx
  have := held_range p s.size (by omega)
  omega
theorem Sel.start (s : ByteArray) (ps : List Int) : Sel s ps [] (heldL s ps) :=
  ⟨List.Pairwise.nil, List.Perm.refl _, fun x hx => (heldL_range s ps x hx).1, fun x hx => heldL_range s ps x hx⟩
theorem Sel.len {s : ByteArray} {ps so lf : List Int} (h : Sel s ps so lf) : so.length + lf.length = ps.length := by
  have := h.perm.length_eq
  simpa [heldL] using this
theorem bord_at (so : List Int) : so = [] ∧ bord so so.length = 0 ∨ ∃ x, so.getLast? = some x ∧ bord so so.length = x := by
  cases so with
  | nil => exact .inl ⟨rfl, rfl⟩
  | cons a l =>
    right
    refine ⟨(a :: l)[l.length]'(by simp), ?_, ?_⟩
    · rw [List.getLast?_eq_getElem?]
      simp
    · simp [bord, List.getD]
theorem eraseIdx_perm : ∀ (l : List Int) (k : Nat) (x : Int), l[k]? = some x → (x :: l.eraseIdx k).Perm l
  | [], k, x, h => by simp at h
  | a :: l, 0, x, h => by simp at h; subst h; exact List.Perm.refl _
  | a :: l, k + 1, x, h => by
    have h' : l[k]? = some x := by simpa using h
    rw [List.eraseIdx_cons_succ]
    exact (List.Perm.swap a x _).trans ((eraseIdx_perm l k x h').cons a)
theorem Sel.step {s : ByteArray} {ps so lf : List Int} (h : Sel s ps so lf) (k : Nat) (x : Int) (hk : lf[k]? = some x) (hx : ∀ y ∈ lf, x ≤ y) : Sel s ps (so ++ [x]) (lf.eraseIdx k) := by
  have hp := eraseIdx_perm lf k x hk
  have hmem : x ∈ lf := List.mem_of_getElem? hk
  have hb : bord (so ++ [x]) (so ++ [x]).length = x := by rw [List.length_append]; exact bord_last so x
  refine ⟨?_, ?_, ?_, ?_⟩
  · rw [List.pairwise_append]
    refine ⟨h.sorted, List.pairwise_singleton _ _, ?_⟩
    intro a ha b hb'
    have hb' := List.mem_singleton.1 hb'
    subst hb'
    have hab := h.above _ hmem
    rcases bord_at so with ⟨rfl, _⟩ | ⟨y, hy, e⟩
    · simp at ha
    · rw [e] at hab
      have : a ≤ y := by
        obtain ⟨m, hm, rfl⟩ := List.getElem_of_mem ha
        rw [List.getLast?_eq_getElem?] at hy
        obtain ⟨hl, rfl⟩ := List.getElem?_eq_some_iff.1 hy
        by_cases hml : m = so.length - 1
        · subst hml; exact Int.le_refl _
        · exact List.pairwise_iff_getElem.1 h.sorted _ _ hm hl (by omega)
      omega
  · rw [List.append_assoc]
    exact ((hp).append_left so).trans h.perm
  · intro y hy
    rw [hb]
    exact hx y (hp.mem_iff.1 (List.mem_cons_of_mem _ hy))
  · intro y hy
    rw [List.append_assoc] at hy
    exact h.range y (((hp).append_left so).mem_iff.1 hy)
theorem Sel.done {s : ByteArray} {ps so : List Int} (h : Sel s ps so []) : so = heldS s ps := by
  have hp := h.perm
  rw [List.append_nil] at hp
  exact sorted_perm h.sorted (heldS_sorted s ps) (hp.trans (heldS_perm s ps).symm)
theorem Sel.from {s : ByteArray} {ps so lf : List Int} (h : Sel s ps so lf) : 0 ≤ bord so so.length ∧ (bord so so.length).toNat ≤ s.size := by
  rcases bord_at so with ⟨_, e⟩ | ⟨x, hx, e⟩
  · rw [e]; exact ⟨Int.le_refl _, Nat.zero_le _⟩
  · rw [e]; exact h.range x (List.mem_append_left _ (List.mem_of_getLast? hx))

/-- Where the least of the first i stands. -/
def LeastAt (lf : List Int) (k i : Nat) : Prop := k < lf.length ∧ ∀ x, lf[k]? = some x → ∀ j y, j < i → lf[j]? = some y → x ≤ y

theorem erase_take_same (lf : List Int) (k : Nat) : (lf.take (k + 1)).eraseIdx k = lf.take k := by
  apply List.ext_getElem?
  intro j
  rw [List.getElem?_eraseIdx]
  by_cases h : j < k
  · rw [if_pos h, List.getElem?_take_of_lt (by omega), List.getElem?_take_of_lt h]
  · rw [if_neg h, List.getElem?_take_eq_none (by omega), List.getElem?_take_eq_none (by omega)]
/-- The first i, but for the k-th. -/
def butL (lf : List Int) (k i : Nat) : List Int := (lf.take i).eraseIdx k
theorem butL_zero (lf : List Int) (k : Nat) : butL lf k 0 = [] := by simp [butL]
theorem butL_all (lf : List Int) (k : Nat) : butL lf k lf.length = lf.eraseIdx k := by simp [butL]
theorem butL_skip (lf : List Int) (k : Nat) (hk : k < lf.length) : butL lf k (k + 1) = butL lf k k := by
  unfold butL
  rw [erase_take_same, List.eraseIdx_of_length_le (by simp; omega)]
theorem butL_step (lf : List Int) (k i : Nat) (x : Int) (hi : lf[i]? = some x) (hk : i ≠ k) : butL lf k (i + 1) = butL lf k i ++ [x] := by
  have hil : i < lf.length := (List.getElem?_eq_some_iff.1 hi).1
  unfold butL
  rw [List.take_add_one, hi]
  show (List.take i lf ++ [x]).eraseIdx k = (List.take i lf).eraseIdx k ++ [x]
  by_cases h : k < i
  · rw [List.eraseIdx_append_of_lt_length (by simp; omega)]
  · rw [List.eraseIdx_of_length_le (by simp; omega), List.eraseIdx_of_length_le (l := List.take i lf) (by simp; omega)]
theorem butL_len (lf : List Int) (k i : Nat) : (butL lf k i).length ≤ lf.length := by
  unfold butL
  exact Nat.le_trans (List.length_eraseIdx_le _ _) (by simp; omega)

theorem LeastAt.start (lf : List Int) (h : 0 < lf.length) : LeastAt lf 0 0 := ⟨h, fun _ _ j _ hj => by omega⟩
theorem LeastAt.less {lf : List Int} {k i : Nat} (h : LeastAt lf k i) (x y : Int) (hx : lf[k]? = some x) (hy : lf[i]? = some y) (hyx : y < x) : LeastAt lf i (i + 1) := by
  refine ⟨(List.getElem?_eq_some_iff.1 hy).1, fun z hz j u hj hu => ?_⟩
  rw [hy] at hz
  injection hz with hz
  subst hz
  by_cases e : j = i
  · subst e; rw [hy] at hu; injection hu with hu; omega
  · have := h.2 x hx j u (by omega) hu; omega
theorem LeastAt.same {lf : List Int} {k i : Nat} (h : LeastAt lf k i) (x y : Int) (hx : lf[k]? = some x) (hy : lf[i]? = some y) (hyx : ¬ y < x) : LeastAt lf k (i + 1) := by
  refine ⟨h.1, fun z hz j u hj hu => ?_⟩
  rw [hx] at hz
  injection hz with hz
  subst hz
  by_cases e : j = i
  · subst e; rw [hy] at hu; injection hu with hu; omega
  · exact h.2 x hx j u (by omega) hu
theorem LeastAt.all {lf : List Int} {k : Nat} (h : LeastAt lf k lf.length) (x : Int) (hx : lf[k]? = some x) : ∀ y ∈ lf, x ≤ y := by
  intro y hy
  obtain ⟨j, hj, rfl⟩ := List.getElem_of_mem hy
  exact h.2 x hx j _ hj (List.getElem?_eq_getElem hj)
theorem own_int {w : World} {b n c : Nat} {a : Addr} {L : List Int} (h : OwnI w b (.slice (some a) n c) L) (j : Nat) (x : Int) (hx : L[j]? = some x) : w.cell? (a.add j) = some (.int .i64 x) := by
  obtain ⟨A, c', e, _, _, h3⟩ := h.ints
  injection e with e1 e2 e3
  subst e1
  obtain ⟨a', e, hc⟩ := h3 j x hx
  injection e with e
  subst e
  exact hc

def lenOf : Value → Nat
  | .slice _ n _ => n
  | _ => 0
def apartV (v u : Value) : Prop := ∀ g, v.ownBlock = some g → u.ownBlock ≠ some g
theorem owns_lenOf {w : World} {b : Nat} {e : TypeId} {n : Nat} {v : Value} {xs : List Value} (h : w.ownsRow b e 1 v n xs) : lenOf v = n := by
  obtain ⟨A, c, rfl, _⟩ := owns_len h
  rfl

set_option maxRecDepth 100000 in
set_option maxHeartbeats 4000000 in
theorem refAt_any (s : ByteArray) (v : Value) (ps : List Int) (w : World) (h : Ints w v ps) (hs : s.size ≤ 200) (hp : ps.length ≤ 40) :
    Calls Try.prog 11 #[.string s, v] w (fun e w' => ∃ v', e = .returned v' ∧ OwnS w' w.heap.size v' (cutAt s (heldS s ps)) ∧ Below w.heap.size w w') := by
  obtain ⟨A, c, rfl, hc1, hc2, hA⟩ := h
  unfold maxLen at hc2
  have HA := Lib.hid hA
  clear hA
  have hss : (s.size : Int) ≤ 200 := by omega
  have HH := Lib.hid (fun n W => held_any n s.size W)
  go_enter Try.func11, Try.ntmps11
  go_wp2
  go_loopw [5, 7, 16] (fun l _ i (wr : World) => ∃ k : Nat, k ≤ ps.length ∧ i = .int .i64 k ∧ OwnI wr w.heap.size l (heldL s (ps.take k)) ∧ Below w.heap.size w wr) (fun _ _ i _ => ps.length - (intOf i).toNat)
  case atStart => exact ⟨0, by omega, rfl, World.ownsRow_nil _ _ _ _, Below.refl _ _⟩
  case round =>
    obtain ⟨k, hk, rfl, ho, hb⟩ := hrel
    have HBW := Lib.hid hb
    have HO := Lib.hid ho
    clear ho hb
    by_cases c1 : k < ps.length
    · have i1 : (k : Int) < (ps.length : Int) := by omega
      obtain ⟨x, hx⟩ : ∃ x, ps[k]? = some x := ⟨_, List.getElem?_eq_getElem c1⟩
      obtain ⟨a, rfl, ha⟩ := HA.out k x hx
      have ha' := (HBW.out.cell (World.block_lt_of_cell? w _ ha)).trans ha
      have HX := Lib.hid hx
      clear hx ha
      go_wp2_with (first | (go_at_call 23; refine (HH.out x _).mono ?_; rintro e w1 ⟨rfl, hb1⟩; have HO1 := Lib.hid (owns_later HO.out hb1); have HB1 := Lib.hid (below_next HBW.out (Nat.le_refl _) hb1); clear hb1) | (at_builtin; refine append_int rfl (.tmp 20) (.tmp 25) rfl w.heap.size _ _ _ rfl rfl HO1.out (by have := heldL_len s ps k; omega) HB1.out.size ?_; intro A2 p2 w2 ho2 hb2 _ _; have HO2 := Lib.hid ho2; have HB2 := Lib.hid hb2; clear ho2 hb2))
      go_roundw
      case rel => exact ⟨k + 1, by omega, by go_num, by rw [heldL_take s ps k x HX.out]; exact HO2.out, HB1.out.trans HB2.out⟩
      case measure => simp [intOf]; omega
    · obtain rfl : k = ps.length := by omega
      have i1 : ¬ (ps.length : Int) < (ps.length : Int) := by omega
      have HO' : Hid (OwnI wr w.heap.size u5 (heldL s ps)) := Lib.hid (by have := HO.out; rwa [List.take_length] at this)
      clear HO HA
      go_wp2
      go_loopw [5, 8, 9, 10, 11, 12, 13] (fun l o f _ _ _ _ (wr : World) => ∃ so lf, Sel s ps so lf ∧ OwnI wr w.heap.size l lf ∧ OwnS wr w.heap.size o (cutF s (bord so) so.length) ∧ f = .int .i64 (bord so so.length) ∧ apartV l o ∧ Below w.heap.size w wr) (fun l _ _ _ _ _ _ _ => lenOf l)
      case atStart => exact ⟨[], heldL s ps, Sel.start s ps, HO'.out, World.ownsRow_nil _ _ _ _, rfl, (fun g _ hg => by cases hg), HBW.out⟩
      case round =>
        clear HO' HBW
        obtain ⟨so, lf, hsel, hl, ho, rfl, hap, hb⟩ := hrel
        obtain ⟨W2, rfl⟩ : ∃ W, W = wr := ⟨_, rfl⟩
        have hfr := hsel.from
        have hln := hsel.len
        have HSEL := Lib.hid hsel
        have HB2 := Lib.hid hb
        have HO2 := Lib.hid ho
        have HAP := Lib.hid hap
        obtain ⟨A5, c5, rfl, hc51, hc52⟩ := owns_len hl
        have HL2 := Lib.hid hl
        clear hsel hl ho hap hb
        by_cases c2 : 0 < lf.length
        · have i2 : (0 : Int) < (lf.length : Int) := by omega
          obtain ⟨a0, rfl⟩ : ∃ a0, A5 = some a0 := by
            obtain ⟨A, c', e, _, _, h3⟩ := HL2.out.ints
            obtain ⟨a', e', hc⟩ := h3 0 _ (List.getElem?_eq_getElem c2)
            injection e with e1 e2 e3
            exact ⟨a', e1.trans e'⟩
          have HF := Lib.hid hfr
          clear hfr
          go_wp2
          go_loopw [10, 11, 33] (fun k _ i (wx : World) => ∃ kk j : Nat, k = .int .i64 kk ∧ i = .int .i64 j ∧ j ≤ lf.length ∧ LeastAt lf kk j ∧ Below W2.heap.size W2 wx) (fun _ _ i _ => lf.length - (intOf i).toNat)
          case atStart => exact ⟨0, 0, rfl, rfl, by omega, LeastAt.start lf c2, Below.refl _ _⟩
          case round =>
            obtain ⟨kk, j, rfl, rfl, hj, hle, hbx⟩ := hrel
            have HLE := Lib.hid hle
            have HBX := Lib.hid hbx
            obtain ⟨x, hx⟩ : ∃ x, lf[kk]? = some x := ⟨_, List.getElem?_eq_getElem hle.1⟩
            have hkl : kk < lf.length := hle.1
            have ik : (kk : Int) < (lf.length : Int) := by omega
            have q1 : wr.cell? (a0.add kk) = some (.int .i64 x) := own_int (owns_later HL2.out HBX.out) kk x hx
            have HX := Lib.hid hx
            clear hle hbx hx
            by_cases c3 : j < lf.length
            · have i3 : (j : Int) < (lf.length : Int) := by omega
              obtain ⟨y, hy⟩ : ∃ y, lf[j]? = some y := ⟨_, List.getElem?_eq_getElem c3⟩
              have q2 : wr.cell? (a0.add j) = some (.int .i64 y) := own_int (owns_later HL2.out HBX.out) j y hy
              have xa := fun (z : Later wr) => z.below.cell (p := a0.add kk) (World.block_lt_of_cell? wr _ q1)
              have xb := fun (z : Later wr) => z.below.cell (p := a0.add j) (World.block_lt_of_cell? wr _ q2)
              have HY := Lib.hid hy
              clear hy
              by_cases c4 : y < x
              · have e4 : decide (y < x) = true := decide_eq_true c4
                have H4 := Lib.hid c4
                clear c4
                go_wp2
                refine wp_region_later_lit (by kernel_rfl) (by kernel_rfl) ?_
                repeat (go_big_quiet_step (fail))
                refine wpQuiet_nil ?_
                rintro w' ⟨z, rfl⟩
                go_wp2
                go_roundw
                case rel => exact ⟨j, j + 1, rfl, by go_num, by omega, HLE.out.less x y HX.out HY.out H4.out, below_next HBX.out (Nat.le_refl _) z.below⟩
                case measure => simp [intOf]; omega
              · have e4 : decide (y < x) = false := decide_eq_false c4
                have H4 := Lib.hid c4
                clear c4
                go_wp2
                refine wp_region_later_lit (by kernel_rfl) (by kernel_rfl) ?_
                repeat (go_big_quiet_step (fail))
                refine wpQuiet_nil ?_
                rintro w' ⟨z, rfl⟩
                go_wp2
                go_roundw
                case rel => exact ⟨kk, j + 1, rfl, by go_num, by omega, HLE.out.same x y HX.out HY.out (by have := H4.out; omega), below_next HBX.out (Nat.le_refl _) z.below⟩
                case measure => simp [intOf]; omega
            · obtain rfl : j = lf.length := by omega
              have i3 : ¬ (lf.length : Int) < (lf.length : Int) := by omega
              have hrx := HSEL.out.range x (List.mem_append_right _ (List.mem_of_getElem? HX.out))
              have hax := HSEL.out.above x (List.mem_of_getElem? HX.out)
              have hfr := HF.out
              have hxs : x ≤ (s.size : Int) := by omega
              have HO3 := Lib.hid (owns_later HO2.out HBX.out)
              have HL3 := Lib.hid (owns_later HL2.out HBX.out)
              have HB3 := Lib.hid (below_next HB2.out (Nat.le_refl _) HBX.out)
              go_wp2_with (at_builtin; refine append_str rfl (.tmp 47) (.tmp 55) rfl w.heap.size u8 _ _ rfl rfl HO3.out (by rw [cutF_len]; omega) HB3.out.size ?_; intro A2 p2 w2 ho2 hb2 hg2 hat2; have HL4 := Lib.hid (owns_kept HL3.out (fun g hg => hg2.block g (HL3.out.lt g hg).2 (fun e => HAP.out g hg e.symm))); have k2 : w2.cell? (a0.add kk) = some (.int .i64 x) := own_int HL4.out kk x HX.out; have HA2 := Lib.hid hat2; have HO4 := Lib.hid ho2; have HB4 := Lib.hid (HB3.out.trans hb2); have HG4 := Lib.hid hg2; clear ho2 hb2 hg2 hat2)
              clear k2
              go_loopw [12, 13, 63] (fun r _ i (wx : World) => ∃ j : Nat, i = .int .i64 j ∧ j ≤ lf.length ∧ OwnI wx w2.heap.size r (butL lf kk j) ∧ Below w2.heap.size w2 wx) (fun _ _ i _ => lf.length - (intOf i).toNat)
              case atStart => exact ⟨0, rfl, by omega, by rw [butL_zero]; exact World.ownsRow_nil _ _ _ _, Below.refl _ _⟩
              case round =>
                obtain ⟨j, rfl, hj, hr, hbx⟩ := hrel
                have HR := Lib.hid hr
                have HBY := Lib.hid hbx
                clear hr hbx
                by_cases c6 : j < lf.length
                · have i6 : (j : Int) < (lf.length : Int) := by omega
                  obtain ⟨y, hy⟩ : ∃ y, lf[j]? = some y := ⟨_, List.getElem?_eq_getElem c6⟩
                  have q2 : wr.cell? (a0.add j) = some (.int .i64 y) := own_int (owns_later HL4.out HBY.out) j y hy
                  have HY := Lib.hid hy
                  clear hy
                  by_cases c7 : j = kk
                  · subst c7
                    have e7 : ((j : Int) != (j : Int)) = false := by simp
                    go_wp2
                    go_roundw
                    case rel => exact ⟨j + 1, by go_num, by omega, by rw [butL_skip lf j hkl]; exact HR.out, HBY.out⟩
                    case measure => simp [intOf]; omega
                  · have e7 : ((j : Int) != (kk : Int)) = true := by simp; omega
                    have H7 := Lib.hid c7
                    clear c7
                    go_wp2_with (at_builtin; refine append_int rfl (.tmp 69) (.tmp 74) rfl w2.heap.size u12 _ _ rfl rfl HR.out (by have := butL_len lf kk j; omega) HBY.out.size ?_; intro A6 p6 w6 ho6 hb6 _ _; have HR6 := Lib.hid ho6; have HB6 := Lib.hid hb6; clear ho6 hb6)
                    go_roundw
                    case rel => exact ⟨j + 1, by go_num, by omega, by rw [butL_step lf kk j y HY.out H7.out]; exact HR6.out, HBY.out.trans HB6.out⟩
                    case measure => simp [intOf]; omega
                · obtain rfl : j = lf.length := by omega
                  have i6 : ¬ (lf.length : Int) < (lf.length : Int) := by omega
                  have hr := HR.out
                  rw [butL_all] at hr
                  have HR2 := Lib.hid hr
                  clear hr HR
                  have hw2 := HB4.out.size
                  go_wp2
                  go_roundw
                  case rel =>
                    have hO5 := owns_later HO4.out HBY.out
                    refine ⟨so ++ [x], lf.eraseIdx kk, HSEL.out.step kk x HX.out (HLE.out.all x HX.out), owns_less HR2.out hw2, ?_, ?_, ?_, below_next HB4.out (Nat.le_refl _) HBY.out⟩
                    · rw [cutF_snoc]
                      exact hO5
                    · rw [List.length_append]
                      exact congrArg _ (bord_last so x).symm
                    · intro g hg hg'
                      have h1 := (HR2.out.lt g hg).1
                      have h2 := (HO4.out.lt g hg').2
                      omega
                  case measure =>
                    rw [owns_lenOf HR2.out, List.length_eraseIdx_of_lt hkl]
                    show lf.length - 1 < lf.length
                    omega
        · obtain rfl : lf = [] := List.length_eq_zero_iff.1 (by omega)
          have hd := Lib.hid HSEL.out.done
          have hlo0 : 0 ≤ bord so so.length := hfr.1
          have hlo : bord so so.length ≤ (s.size : Int) := by omega
          clear c2
          go_wp2_with (at_builtin; refine append_str rfl (.tmp 78) (.tmp 82) rfl w.heap.size u8 _ _ rfl rfl HO2.out (by rw [cutF_len]; simp at hln; omega) HB2.out.size ?_; intro A2 p2 w2 ho2 hb2 _ _; have HO4 := Lib.hid ho2; have HB4 := Lib.hid hb2; clear ho2 hb2)
          refine bodyPost_ret (v := _) (by simp [results, Try.results11]; rfl) rfl ?_
          refine ⟨_, rfl, ?_, HB2.out.trans HB4.out⟩
          have := HO4.out
          rw [← hd.out]
          unfold cutAt
          exact this

end Go.Proofs.Ytmfhnmdgcjlnpaa
