/-
  Walks: the program's stripper.
-/
import Derived.Test.YtnmcbilnebfcfaaRows
import Derived.Test.YtnmcbilnebfcfaaMem
import Derived.Test.YtnmcbilnebfcfaaBomM
import Derived.Lib.Hide
namespace Go.Proofs.Ytnmcbilnebfcfaa
open Go.RowKit

theorem u8_info : (Try.prog.info? 5).map (fun i => (i.zero, i.size, i.bytes)) = some (some (.int .u8 0), 1, 1) := by kernel_rfl

def JoinPost (w : World) (u : ByteArray) (n : Nat) (e : Ending) (w' : World) : Prop :=
  ∃ A c, e = .returned (.slice A n c) ∧ Own w' w.heap.size A n c u ∧ Below w.heap.size w w'

theorem joined_any (k s : ByteArray) (A : Option Addr) (n c : Nat) (w : World) (h : Txt w w.heap.size A n c s) (hk : k.size + n ≤ 1000000) :
    Calls Try.prog 18 #[.string k, .slice A n c] w (JoinPost w (k ++ s) (k.size + n)) := by
  obtain ⟨i0, hi, hz0, hz1, hz2⟩ := info_parts u8_info
  have HN := Lib.hid h.1
  have HT := Lib.hid h
  have hm := h.le
  clear h
  by_cases h0 : k.size + n = 0
  · have hk0 : k = ⟨#[]⟩ := size_none k (by omega)
    have hs0 : s = ⟨#[]⟩ := size_none s (by have := HN.out; omega)
    obtain rfl : n = 0 := by omega
    subst hk0 hs0
    clear h0
    go_enter Try.func18, Try.ntmps18
    go_wp2
    go_ret
    exact ⟨none, 0, rfl, Own.nil w _, Below.refl _ _⟩
  · have hne : ((k.size : Int) + (n : Int) == 0) = false := by
      rw [beq_eq_false_iff_ne]; omega
    have hne' : decide ((k.size : Int) + (n : Int) = 0) = false := decide_eq_false (by omega)
    have h0I : ¬ ((k.size : Int) + (n : Int) = 0) := by omega
    obtain ⟨A1, c1, w1, hr1, ho1, hg1⟩ := Own.ofString (P := Try.prog) w 9 31 5 k Try.underlying9 Try.underlying31 Try.underlying5 (by unfold maxLen; omega)
    have hb1 : Below w.heap.size w w1 := below_grown hg1 (Nat.le_refl _) (fun g hg => by cases hg)
    have HS := Lib.hid ((HT.out.below hb1).src (P := Try.prog) (tx := 31) Try.underlying31)
    have HO := Lib.hid ho1
    have HB := Lib.hid hb1
    clear ho1 hb1 hg1
    go_enter Try.func18, Try.ntmps18
    go_wp2_with (at_builtin; refine wpList_append_text rfl (.tmp 12) (.tmp 13) _ _ rfl 5 i0 _ Try.underlying31 hi hz0 hz1 hz2 rfl rfl HO.out rfl HS.out HB.out.size (by omega) ?_; intro A2 c2 w2 ho2 hg2 _h2)
    go_ret
    refine ⟨A2, c2, rfl, ho2, HB.out.grown hg2 HB.out.size (fun g hg => ?_)⟩
    cases A1 with
    | none => simp at hg
    | some a1 =>
      have := (HO.out.lt rfl).1
      simp at hg
      omega

/-- What goOn says: m bytes of the piece are those that are wanted, and no more. -/
def OnSays (t s : ByteArray) (m : Nat) : Prop := m ≤ t.size ∧ m ≤ s.size ∧ (∀ i, i < m → byt s i = byt t i) ∧ (m < t.size → m < s.size → byt s m ≠ byt t m)
def OnPost (t s : ByteArray) (w : World) (e : Ending) (w' : World) : Prop := ∃ m : Nat, OnSays t s m ∧ e = .returned (.int .i64 m) ∧ Below w.heap.size w w'

set_option maxHeartbeats 1000000 in
theorem goOn_any (t s : ByteArray) (A : Option Addr) (n c : Nat) (w : World) (h : Txt w w.heap.size A n c s) (ht : t.size ≤ 3) : Calls Try.prog 21 #[.string t, .slice A n c] w (OnPost t s w) := by
  have HN := Lib.hid h.1
  have HT := Lib.hid h
  have hm := h.le
  clear h
  go_enter Try.func21, Try.ntmps21
  go_wp2
  go_loopw [5] (fun i (wr : World) => ∃ k : Nat, k ≤ t.size ∧ k ≤ n ∧ i = .int .i64 k ∧ (∀ j, j < k → byt s j = byt t j) ∧ Below w.heap.size w wr) (fun i _ => n - (intOf i).toNat)
  case atStart => exact ⟨0, by omega, by omega, rfl, fun j hj => by omega, Below.refl _ _⟩
  case round =>
    obtain ⟨k, hkt, hkn, rfl, hj, hb⟩ := hrel
    have HJ := Lib.hid hj
    have HB := Lib.hid hb
    clear hj
    by_cases c1 : k < t.size
    · have e1 : decide (k < t.size) = true := decide_eq_true c1
      have i1 : (k : Int) < (t.size : Int) := by omega
      have d1 : decide ((k : Int) < (t.size : Int)) = true := decide_eq_true i1
      have b1 := byt_eq t k c1
      by_cases c2 : k < n
      · have e2 : decide (k < n) = true := decide_eq_true c2
        have i2 : (k : Int) < (n : Int) := by omega
        have d2 : decide ((k : Int) < (n : Int)) = true := decide_eq_true i2
        obtain ⟨a, ha, hcell⟩ : ∃ a, A = some a ∧ wr.cell? (a.add k) = some (.int .u8 (byt s k)) := by
          have hT := HT.out.below HB.out
          cases A with
          | none => have := hT.2.2.2.1 rfl; omega
          | some a => exact ⟨a, rfl, (hT.2.2.2.2 a rfl (by omega)).2 k c2⟩
        subst ha
        have hcell' := fun (x : Later wr) => x.below.cell (p := a.add k) (World.block_lt_of_cell? wr _ hcell)
        by_cases c3 : byt t k = byt s k
        · have e3 : (byt t k == byt s k) = true := by simp [c3]
          have H3 := Lib.hid c3
          clear c3
          go_wp2
          refine wp_region_later_lit (by kernel_rfl) (by kernel_rfl) ?_
          repeat (go_big_quiet_step (fail))
          refine wpQuiet_nil ?_
          rintro w' ⟨y, rfl⟩
          go_wp2
          go_roundw
          case rel => exact ⟨k + 1, by omega, by omega, by go_num, fun j hj' => (by
            by_cases e : j = k
            · rw [e]; exact H3.out.symm
            · exact HJ.out j (by omega)), (by (repeat (first | (with_reducible exact hb) | (with_reducible exact Below.refl _ _) | (with_reducible refine later_below _ ?_) | (with_reducible refine alloc_below ?_ _) | (with_reducible refine Below.drew ?_))))⟩
          case measure => simp [intOf]; omega
        · have e3 : (byt t k == byt s k) = false := by simp [c3]
          have H3 := Lib.hid c3
          clear c3
          go_wp2
          refine wp_region_later_lit (by kernel_rfl) (by kernel_rfl) ?_
          repeat (go_big_quiet_step (fail))
          refine wpQuiet_nil ?_
          rintro w' ⟨y, rfl⟩
          go_wp2
          go_ret
          exact ⟨k, ⟨hkt, by have := HN.out; omega, HJ.out, fun _ _ hc => H3.out hc.symm⟩, rfl, (by (repeat (first | (with_reducible exact hb) | (with_reducible exact Below.refl _ _) | (with_reducible refine later_below _ ?_) | (with_reducible refine alloc_below ?_ _) | (with_reducible refine Below.drew ?_))))⟩
      · have e2 : decide (k < n) = false := decide_eq_false c2
        have i2 : ¬ (k : Int) < (n : Int) := by omega
        have d2 : decide ((k : Int) < (n : Int)) = false := decide_eq_false i2
        go_wp2
        refine wp_region_later_lit (by kernel_rfl) (by kernel_rfl) ?_
        repeat (go_big_quiet_step (fail))
        refine wpQuiet_nil ?_
        rintro w' ⟨y, rfl⟩
        go_wp2
        go_ret
        exact ⟨k, ⟨hkt, by have := HN.out; omega, HJ.out, fun _ hc => by have := HN.out; omega⟩, rfl, (by (repeat (first | (with_reducible exact hb) | (with_reducible exact Below.refl _ _) | (with_reducible refine later_below _ ?_) | (with_reducible refine alloc_below ?_ _) | (with_reducible refine Below.drew ?_))))⟩
    · have e1 : decide (k < t.size) = false := decide_eq_false c1
      have i1 : ¬ (k : Int) < (t.size : Int) := by omega
      have d1 : decide ((k : Int) < (t.size : Int)) = false := decide_eq_false i1
      go_wp2
      refine wp_region_later_lit (by kernel_rfl) (by kernel_rfl) ?_
      repeat (go_big_quiet_step (fail))
      refine wpQuiet_nil ?_
      rintro w' ⟨y, rfl⟩
      go_wp2
      go_ret
      exact ⟨k, ⟨hkt, by have := HN.out; omega, HJ.out, fun hc => by omega⟩, rfl, (by (repeat (first | (with_reducible exact hb) | (with_reducible exact Below.refl _ _) | (with_reducible refine later_below _ ?_) | (with_reducible refine alloc_below ?_ _) | (with_reducible refine Below.drew ?_))))⟩

/-- The stripper at block q, behind a text. -/
def StBox (w : World) (q : Nat) (a : ByteArray) (cl : Bool) : Prop := Box w q 42 #[.int .i64 (heldN a), .bool (!(decide (waits a))), .bool (hadB a), .bool cl]

/-- What is handed on of a piece. -/
def outS (a b : ByteArray) : ByteArray := if waits a then toldS (a ++ b) else b
theorem told_out (a b : ByteArray) : toldS (a ++ b) = toldS a ++ outS a b := by
  unfold outS
  by_cases h : waits a
  · rw [if_pos h]
    have : toldS a = ⟨#[]⟩ := by unfold toldS; rw [if_pos h]
    rw [this, none_append]
  · rw [if_neg h]; exact told_begun h

def FeedPost (w : World) (q : Nat) (a b : ByteArray) (e : Ending) (w' : World) : Prop :=
  ∃ A c, e = .returned (.slice A (outS a b).size c) ∧ Own w' w.heap.size A (outS a b).size c (outS a b) ∧ w.grownBy w' (some q) ∧ StBox w' q (a ++ b) false

theorem FeedPost.mk {w w' : World} {q b0 n' c' : Nat} {a b u : ByteArray} {A' : Option Addr} (hu : outS a b = u) (ho : Own w' b0 A' n' c' u) (h0 : w.heap.size ≤ b0) (hg : w.grownBy w' (some q)) (hst : StBox w' q (a ++ b) false) :
    FeedPost w q a b (.returned (.slice A' n' c')) w' := by
  subst hu
  have := ho.1
  subst this
  exact ⟨A', c', rfl, ho.less h0, hg, hst⟩

theorem _root_.Go.World.grownBy.trans' {a b c : World} {row : Option Nat} (h : a.grownBy b row) (k : b.grownBy c row) : a.grownBy c row := grown_trans h k
theorem waits_mark' {a : ByteArray} (h : waits a) : a = (⟨#[239, 187, 191]⟩ : ByteArray).extract 0 a.size := waits_mark h

theorem three_sets (w w1 : World) (q : Nat) (v0 v1 v2 : Value) (hb : Below w.heap.size w w1) :
    w.grownBy (((w1.setCell ⟨q, 0, none⟩ v0).setCell ⟨q, 1, none⟩ v1).setCell ⟨q, 2, none⟩ v2) (some q) ∧ w1.grownBy (((w1.setCell ⟨q, 0, none⟩ v0).setCell ⟨q, 1, none⟩ v1).setCell ⟨q, 2, none⟩ v2) (some q) ∧
      w.heap.size ≤ (((w1.setCell ⟨q, 0, none⟩ v0).setCell ⟨q, 1, none⟩ v1).setCell ⟨q, 2, none⟩ v2).heap.size := by
  have h := ((grown_set w1 q 0 v0).trans' (grown_set _ q 1 v1)).trans' (grown_set _ q 2 v2)
  exact ⟨(grown_below hb _).trans' h, h, Nat.le_trans hb.size h.size⟩

theorem piece_waits {a s : ByteArray} {m : Nat} (hp : preN (a ++ s) = a.size + m) (hm : m = s.size) (hlt : a.size + m < 3) :
    waits (a ++ s) ∧ heldN (a ++ s) = a.size + m ∧ hadB (a ++ s) = false ∧ (waits a → outS a s = ⟨#[]⟩) := by
  have hw : waits (a ++ s) := ⟨by rw [ByteArray.size_append]; omega, by rw [ByteArray.size_append]; omega⟩
  refine ⟨hw, by unfold heldN; rw [if_pos hw, ByteArray.size_append]; omega, by unfold hadB; exact decide_eq_false (by omega), fun h => ?_⟩
  unfold outS toldS
  rw [if_pos h, if_pos hw]
theorem piece_mark {a s : ByteArray} {m : Nat} (hp : preN (a ++ s) = a.size + m) (hm : a.size + m = 3) (ha : a.size < 3) :
    ¬ waits (a ++ s) ∧ heldN (a ++ s) = 0 ∧ hadB (a ++ s) = true ∧ (waits a → outS a s = s.extract m s.size) := by
  have hw : ¬ waits (a ++ s) := fun h => by have := h.1; have := h.2; omega
  refine ⟨hw, by unfold heldN; rw [if_neg hw], by unfold hadB; exact decide_eq_true (by omega), fun h => ?_⟩
  unfold outS toldS stripS
  rw [if_pos h, if_neg hw, if_pos (by omega), extract_append_right a s 3 (by omega)]
  congr 1
  omega
theorem piece_other {a s : ByteArray} {m : Nat} (hp : preN (a ++ s) = a.size + m) (hm : m < s.size) (hlt : a.size + m < 3) :
    ¬ waits (a ++ s) ∧ heldN (a ++ s) = 0 ∧ hadB (a ++ s) = false ∧ (waits a → outS a s = a ++ s) := by
  have hw : ¬ waits (a ++ s) := fun h => by have := h.1; rw [ByteArray.size_append] at this; omega
  refine ⟨hw, by unfold heldN; rw [if_neg hw], by unfold hadB; exact decide_eq_false (by omega), fun h => ?_⟩
  unfold outS toldS stripS
  rw [if_pos h, if_neg hw, if_neg (by omega)]

set_option maxHeartbeats 2000000 in
theorem begin_any (a s : ByteArray) (A : Option Addr) (n c q : Nat) (w : World) (h : Txt w w.heap.size A n c s) (hB : StBox w q a false) (hw : waits a) (hk : n ≤ 900000) : Calls Try.prog 19 #[.pointer (some ⟨q, 0, none⟩), .slice A n c] w (FeedPost w q a s) := by
  have HT := Lib.hid h
  have HN := Lib.hid h.1
  have HW := Lib.hid hw
  have hm := h.le
  have hlt : q < w.heap.size := hB.lt
  have ha3 : a.size < 3 := hw.2
  have haI : (a.size : Int) ≤ 2 := by omega
  have hbx : Box w q 42 #[.int .i64 a.size, .bool false, .bool false, .bool false] := by
    have h1 : heldN a = a.size := by unfold heldN; exact if_pos hw
    have h2 : hadB a = false := by unfold hadB; exact decide_eq_false (by have := hw.1; omega)
    have h3 := hB
    unfold StBox at h3
    rw [h1, h2, decide_eq_true hw] at h3
    exact h3
  have HBX := Lib.hid hbx
  have c0 : w.cell? ⟨q, 0, none⟩ = some (.int .i64 a.size) := hbx.cell 0
  clear h hB hw hbx
  go_enter Try.func19, Try.ntmps19
  go_wp2_with fail
  go_at_call 21
  refine (goOn_any _ s A n c w HT.out (by rw [ByteArray.size_extract]; omega)).mono ?_
  rintro e w1 ⟨m, hon, rfl, hb1⟩
  have HM : Hid (preN (a ++ s) = a.size + m) := Lib.hid (by
    obtain ⟨o1, o2, o3, o4⟩ := hon
    have hz : ((⟨#[239, 187, 191]⟩ : ByteArray).extract a.size 3).size = 3 - a.size := by
      rw [ByteArray.size_extract]; show min 3 3 - _ = _; omega
    have hx : ∀ i, i < 3 - a.size → byt ((⟨#[239, 187, 191]⟩ : ByteArray).extract a.size 3) i = mk (a.size + i) := fun i hi => by
      rw [byt_extract, if_pos (by omega)]; exact byt_mark (a.size + i) (by omega)
    rw [hz] at o1 o4
    exact told_more a s m HW.out o1 o2 (fun i hi => by rw [o3 i hi]; exact hx i (by omega)) (fun h1 h2 => by rw [← hx m h1]; exact o4 h1 h2))
  have hm1 : m ≤ 3 - a.size := by have := hon.1; rw [ByteArray.size_extract] at this; have h3 : (⟨#[239, 187, 191]⟩ : ByteArray).size = 3 := rfl; omega
  have hm2 : m ≤ n := by have := hon.2.1; have := HN.out; omega
  have HT1 := Lib.hid (HT.out.below hb1)
  have HB1 := Lib.hid (HBX.out.below hb1 hlt)
  have HG1 := Lib.hid hb1
  have hlt1 : q < w1.heap.size := by have := hb1.size; omega
  have c0' : w1.cell? ⟨q, 0, none⟩ = some (.int .i64 a.size) := HB1.out.cell 0
  have c1' : w1.cell? ⟨q, 1, none⟩ = some (.bool false) := HB1.out.cell 1
  have c2' : w1.cell? ⟨q, 2, none⟩ = some (.bool false) := HB1.out.cell 2
  have f0' : w1.frozen? ⟨q, 0, none⟩ = false := HB1.out.frozen 0
  have f1' : w1.frozen? ⟨q, 1, none⟩ = false := HB1.out.frozen 1
  have f2' : w1.frozen? ⟨q, 2, none⟩ = false := HB1.out.frozen 2
  have hmI : (m : Int) ≤ 3 := by omega
  have HNE : Hid (0 < n → ∀ a', A = some a' → some a'.block ≠ some q) := Lib.hid (fun h0 a' ha' he => HT1.out.ne_box HB1.out (fun i k => by
    rcases (by omega : i = 0 ∨ i = 1 ∨ i = 2 ∨ i = 3 ∨ 4 ≤ i) with rfl | rfl | rfl | rfl | hi
    all_goals first | (intro hc; simp at hc; done) | (rw [Array.getElem?_eq_none (by simpa using hi)]; intro hc; cases hc)) h0 a' ha' (by injection he))
  clear hon hb1 c0
  by_cases h3 : a.size + m < 3
  · have h3I : (a.size : Int) + (m : Int) < 3 := by omega
    have d3 : decide ((a.size : Int) + (m : Int) < 3) = true := decide_eq_true h3I
    by_cases hn : m = n
    · have hnI : ((m : Int) == (n : Int)) = true := by simp [hn]
      have HX := Lib.hid hn
      clear hn
      go_wp2_with fail
      go_ret
      obtain ⟨p1, p2, p3, p4⟩ := piece_waits HM.out (by have := HX.out; have := HN.out; omega) h3
      refine FeedPost.mk (p4 HW.out) (Own.nil _ _) (Nat.le_refl _) (grown_trans (grown_below HG1.out _) (grown_set _ _ _ _)) ?_
      have hz := HB1.out.set 0 (.int .i64 ((a.size : Int) + (m : Int)))
      unfold StBox
      rw [p2, p3, decide_eq_true p1]
      exact hz
    · have hnI : ((m : Int) == (n : Int)) = false := by simp; omega
      have h3e : ((a.size : Int) + (m : Int) == 3) = false := by simp; omega
      have hnI' : ¬ ((m : Int) = (n : Int)) := by omega
      have h3e' : ¬ ((a.size : Int) + (m : Int) = 3) := by omega
      go_wp2_with fail
      have H3 := Lib.hid (three_sets w w1 q (.int .i64 0) (.bool true) (.bool false) HG1.out)
      go_at_call 18
      refine (joined_any _ s A n c _ ((HT1.out.kept H3.out.2.1 HNE.out).more H3.out.2.2) (by rw [ByteArray.size_extract]; omega)).mono ?_
      rintro e w2 ⟨A2, c2, rfl, ho2, hb2⟩
      have HO2 := Lib.hid ho2
      have HB2 := Lib.hid hb2
      clear ho2 hb2
      go_wp2_with fail
      go_ret
      obtain ⟨p1, p2, p3, p4⟩ := piece_other HM.out (by have := HN.out; omega) h3
      have hbz := ((HB1.out.set 0 (.int .i64 0)).set 1 (.bool true)).set 2 (.bool false)
      have ho3 : Own w2 w.heap.size A2 (min a.size 3 + n) c2 (a ++ s) := by
        have h1 := HO2.out.less H3.out.2.2
        rw [← waits_mark' HW.out] at h1
        rw [show min a.size 3 + n = a.size + n by omega]
        exact h1
      refine FeedPost.mk (p4 HW.out) ho3 (Nat.le_refl _) (H3.out.1.trans' (grown_below HB2.out _)) ?_
      have hz := hbz.below HB2.out hbz.lt
      unfold StBox
      rw [p2, p3, decide_eq_false p1]
      exact hz
  · have h3e : a.size + m = 3 := by omega
    have h3I : ¬ (a.size : Int) + (m : Int) < 3 := by omega
    have d3 : decide ((a.size : Int) + (m : Int) < 3) = false := decide_eq_false h3I
    have h3b : ((a.size : Int) + (m : Int) == 3) = true := by simp; omega
    have hmi : (m : Int) ≤ (n : Int) := by omega
    have H3 := Lib.hid (three_sets w w1 q (.int .i64 0) (.bool true) (.bool true) HG1.out)
    have HTC := Lib.hid (((HT1.out.kept H3.out.2.1 HNE.out).more H3.out.2.2).cut m hm2)
    by_cases hn : m = n
    case' pos => have hnI : ((m : Int) == (n : Int)) = true := by simp [hn]
    case' neg => have hnI : ((m : Int) == (n : Int)) = false := by simp; omega
    all_goals
      have HX := Lib.hid hn
      clear hn
      go_wp2_with fail
    all_goals
      go_at_call 18
      refine (joined_any _ (s.extract m s.size) _ _ _ _ (by have h1 := HTC.out; first | (rw [if_pos (by assumption)] at h1; first | exact h1 | (rw [show c - m = 0 by omega] at h1; exact h1)) | (rw [if_neg (by assumption)] at h1; exact h1)) (by show 0 + (n - m) ≤ _; omega)).mono ?_
      rintro e w2 ⟨A2, c2, rfl, ho2, hb2⟩
      have HO2 := Lib.hid ho2
      have HB2 := Lib.hid hb2
      clear ho2 hb2
      go_wp2_with fail
      go_ret
      obtain ⟨p1, p2, p3, p4⟩ := piece_mark HM.out h3e ha3
      have hbz := ((HB1.out.set 0 (.int .i64 0)).set 1 (.bool true)).set 2 (.bool true)
      have ho3 := HO2.out.less H3.out.2.2
      rw [none_append, show (⟨#[]⟩ : ByteArray).size + (n - m) = n - m from Nat.zero_add _] at ho3
      refine FeedPost.mk (p4 HW.out) ho3 (Nat.le_refl _) (H3.out.1.trans' (grown_below HB2.out _)) ?_
      have hz := hbz.below HB2.out hbz.lt
      unfold StBox
      rw [p2, p3, decide_eq_false p1]
      exact hz

theorem stbox_more {w : World} {q : Nat} {a b : ByteArray} {cl : Bool} (h : StBox w q a cl) (hw : ¬ waits a) : StBox w q (a ++ b) cl := by
  obtain ⟨h1, h2⟩ := waits_append (b := b) hw
  have e1 : heldN (a ++ b) = heldN a := by unfold heldN; rw [if_neg h1, if_neg hw]
  have e2 : hadB (a ++ b) = hadB a := by unfold hadB; rw [h2]
  unfold StBox at h ⊢
  rw [e1, e2, decide_eq_false h1]
  rw [decide_eq_false hw] at h
  exact h

set_option maxHeartbeats 1000000 in
theorem feed_any (a s : ByteArray) (A : Option Addr) (n c q : Nat) (w : World) (h : Txt w w.heap.size A n c s) (hB : StBox w q a false) (hk : n ≤ 900000) : Calls Try.prog 10 #[.pointer (some ⟨q, 0, none⟩), .slice A n c] w (FeedPost w q a s) := by
  have HT := Lib.hid h
  have hm := h.le
  have HBX := Lib.hid hB
  have hlt : q < w.heap.size := hB.lt
  have c3 : w.cell? ⟨q, 3, none⟩ = some (.bool false) := hB.cell 3
  by_cases hw : waits a
  · have c1 : w.cell? ⟨q, 1, none⟩ = some (.bool false) := by have := hB.cell 1; rw [decide_eq_true hw] at this; exact this
    have HBG := Lib.hid (begin_any a s A n c q w h hB hw hk)
    clear h hB hw
    go_enter Try.func10, Try.ntmps10
    go_wp2_with fail
    go_at_call 19
    refine HBG.out.mono ?_
    rintro e w1 ⟨A1, c1', rfl, ho, hg, hst⟩
    have HP : Hid (FeedPost w q a s (.returned (.slice A1 (outS a s).size c1')) w1) := Lib.hid ⟨A1, c1', rfl, ho, hg, hst⟩
    clear ho hg hst
    go_wp2_with fail
    go_ret
    exact HP.out
  · have c1 : w.cell? ⟨q, 1, none⟩ = some (.bool true) := by have := hB.cell 1; rw [decide_eq_false hw] at this; exact this
    have HW := Lib.hid hw
    clear hB hw
    go_enter Try.func10, Try.ntmps10
    go_wp2_with fail
    go_at_call 18
    refine (joined_any _ s A n c w h (by show 0 + n ≤ _; omega)).mono ?_
    rintro e w2 ⟨A2, c2, rfl, ho2, hb2⟩
    have HO2 := Lib.hid ho2
    have HB2 := Lib.hid hb2
    clear ho2 hb2
    go_wp2_with fail
    go_ret
    have ho3 := HO2.out
    rw [none_append, show (⟨#[]⟩ : ByteArray).size + n = n from Nat.zero_add _] at ho3
    exact FeedPost.mk (by unfold outS; rw [if_neg HW.out]) ho3 (Nat.le_refl _) (grown_below HB2.out _) (stbox_more (HBX.out.below HB2.out hlt) HW.out)

/-- Behind Close nothing is handed on. -/
theorem feed_closed (A : Option Addr) (n c q : Nat) (w : World) (x y z : Value) (hB : Box w q 42 #[x, y, z, .bool true]) : Calls Try.prog 10 #[.pointer (some ⟨q, 0, none⟩), .slice A n c] w (fun e w' => e = .returned (.slice none 0 0) ∧ w = w') := by
  have c3 : w.cell? ⟨q, 3, none⟩ = some (.bool true) := hB.cell 3
  clear hB
  go_enter Try.func10, Try.ntmps10
  go_wp2_with fail
  go_ret
  exact ⟨rfl, rfl⟩

def ClosePost (w : World) (q k : Nat) (b st : Bool) (e : Ending) (w' : World) : Prop :=
  ∃ A c, e = .returned (.slice A k c) ∧ Own w' w.heap.size A k c (markB.extract 0 k) ∧ w.grownBy w' (some q) ∧ Box w' q 42 #[.int .i64 0, .bool b, .bool st, .bool true]

set_option maxHeartbeats 1000000 in
theorem close_any (k q : Nat) (b st cl : Bool) (w : World) (hB : Box w q 42 #[.int .i64 k, .bool b, .bool st, .bool cl]) (hk : k ≤ 3) : Calls Try.prog 15 #[.pointer (some ⟨q, 0, none⟩)] w (ClosePost w q k b st) := by
  have hlt : q < w.heap.size := hB.lt
  have HBX := Lib.hid hB
  have c0 : w.cell? ⟨q, 0, none⟩ = some (.int .i64 k) := hB.cell 0
  clear hB
  go_enter Try.func15, Try.ntmps15
  go_wp2_with fail
  go_at_call 18
  refine (joined_any _ ⟨#[]⟩ none 0 0 w (Txt.nil _ _) (by rw [ByteArray.size_extract]; omega)).mono ?_
  rintro e w1 ⟨A1, c1, rfl, ho1, hb1⟩
  have HO1 := Lib.hid ho1
  have HB1 := Lib.hid hb1
  have HX1 := Lib.hid (HBX.out.below hb1 hlt)
  have hlt1 : q < w1.heap.size := by have := hb1.size; omega
  have c0' : w1.cell? ⟨q, 0, none⟩ = some (.int .i64 k) := HX1.out.cell 0
  have c3' : w1.cell? ⟨q, 3, none⟩ = some (.bool cl) := HX1.out.cell 3
  have f0' : w1.frozen? ⟨q, 0, none⟩ = false := HX1.out.frozen 0
  have f3' : w1.frozen? ⟨q, 3, none⟩ = false := HX1.out.frozen 3
  clear ho1 hb1 c0
  go_wp2_with fail
  go_ret
  have ho2 : Own w1 w.heap.size A1 k c1 (markB.extract 0 k) := by
    have h1 := HO1.out
    rw [append_none, show ((⟨#[239, 187, 191]⟩ : ByteArray).extract 0 k).size + 0 = k by rw [ByteArray.size_extract]; show min k 3 - 0 + 0 = k; omega] at h1
    exact h1
  have hgr := (grown_set w1 q 0 (.int .i64 0)).trans' (grown_set _ q 3 (.bool true))
  refine ⟨A1, c1, ?_, ho2.grown hgr (fun a ha he => ?_), (grown_below HB1.out _).trans' hgr, (HX1.out.set 0 (.int .i64 0)).set 3 (.bool true)⟩
  · rfl
  · have h1 := (HO1.out.lt ha).1
    injection he with he
    omega

theorem held_any (q : Nat) (k : Int) (x y z : Value) (w : World) (hB : Box w q 42 #[.int .i64 k, x, y, z]) : Calls Try.prog 12 #[.pointer (some ⟨q, 0, none⟩)] w (fun e w' => e = .returned (.int .i64 k) ∧ w = w') := by
  have c0 : w.cell? ⟨q, 0, none⟩ = some (.int .i64 k) := hB.cell 0
  clear hB
  go_enter Try.func12, Try.ntmps12
  go_wp2_with fail
  go_ret
  exact ⟨rfl, rfl⟩

theorem stripped_any (q : Nat) (b : Bool) (x y z : Value) (w : World) (hB : Box w q 42 #[x, y, .bool b, z]) : Calls Try.prog 14 #[.pointer (some ⟨q, 0, none⟩)] w (fun e w' => e = .returned (.bool b) ∧ w = w') := by
  have c0 : w.cell? ⟨q, 2, none⟩ = some (.bool b) := hB.cell 2
  clear hB
  go_enter Try.func14, Try.ntmps14
  go_wp2_with fail
  go_ret
  exact ⟨rfl, rfl⟩

def NewPost (w : World) (e : Ending) (w' : World) : Prop := ∃ q, w.heap.size ≤ q ∧ e = .returned (.pointer (some ⟨q, 0, none⟩)) ∧ StBox w' q ⟨#[]⟩ false ∧ Below w.heap.size w w'

theorem none_held : heldN ⟨#[]⟩ = 0 := rfl
theorem none_had : hadB ⟨#[]⟩ = false := by decide +kernel
theorem new_any (w : World) : Calls Try.prog 9 #[] w (NewPost w) := by
  go_enter Try.func9, Try.ntmps9
  go_wp2_with fail
  go_ret
  refine ⟨w.heap.size, Nat.le_refl _, rfl, ?_, by (repeat (first | (with_reducible exact Below.refl _ _) | (with_reducible refine later_below _ ?_) | (with_reducible refine alloc_below ?_ _) | (with_reducible refine Below.drew ?_) | (refine Below.setCell ?_ (by first | exact Nat.le_refl _ | (simp; done) | (simp; omega) | omega) _)))⟩
  unfold StBox
  rw [none_held, none_had, decide_eq_true waits_none]
  exact Box.new w _ _

theorem had_list (s : ByteArray) (h : 3 ≤ s.size) : ((s.extract 0 3).toList == [239, 187, 191]) = hadB s := by
  rw [Bool.eq_iff_iff]
  unfold hadB
  rw [decide_eq_true_eq, beq_iff_eq, ByteArray.toList_eq]
  have hz : (s.extract 0 3).size = 3 := by rw [ByteArray.size_extract]; omega
  constructor
  · intro he
    have hx : s.extract 0 3 = markB := ByteArray.ext (Array.ext' (by rw [he]; rfl))
    refine pre_unique (pre_is s) ⟨Nat.le_refl _, fun i hi => ?_, fun hc => by omega⟩
    rw [← byt_mark i hi, ← hx, byt_extract, Nat.zero_add, if_pos hi]
  · intro he
    have hp := pre_is s
    rw [he] at hp
    have hx : s.extract 0 3 = markB := byt_inj (by rw [hz]; rfl) (fun i hi => by
      rw [hz] at hi
      rw [byt_extract, Nat.zero_add, if_pos hi, byt_mark i hi]
      exact hp.2.1 i hi)
    rw [hx]
    rfl

theorem hasPrefix_any (s : ByteArray) (w : World) (hs : s.size ≤ maxLen) : Calls Try.prog 22 #[.string s, .string ⟨#[239, 187, 191]⟩] w (fun e w' => e = .returned (.bool (hadB s)) ∧ w = w') := by
  unfold maxLen at hs
  by_cases h3 : 3 ≤ s.size
  · have h3I : (3 : Int) ≤ (s.size : Int) := by omega
    have hd : decide ((3 : Int) ≤ (s.size : Int)) = true := decide_eq_true h3I
    go_enter Try.func22, Try.ntmps22
    go_wp2_with fail
    go_ret
    exact ⟨ret_bool (had_list s h3), rfl⟩
  · have h3I : ¬ (3 : Int) ≤ (s.size : Int) := by omega
    have hd : decide ((3 : Int) ≤ (s.size : Int)) = false := decide_eq_false h3I
    have e : hadB s = false := by unfold hadB; have := preN_le s; exact decide_eq_false (by omega)
    rw [e]
    clear e
    go_enter Try.func22, Try.ntmps22
    go_wp2_with fail
    go_ret
    exact ⟨rfl, rfl⟩

theorem cutPrefix_any (s : ByteArray) (w : World) (hs : s.size ≤ maxLen) : Calls Try.prog 20 #[.string s, .string ⟨#[239, 187, 191]⟩] w (fun e w' => e = .returned (.tuple #[.string (stripS s), .bool (hadB s)]) ∧ w = w') := by
  have HP := Lib.hid (fun W => hasPrefix_any s W hs)
  have hl := preN_le s
  unfold maxLen at hs
  by_cases h3 : preN s = 3
  · have e1 : stripS s = s.extract 3 s.size := by unfold stripS; rw [if_pos h3]
    have e2 : hadB s = true := by unfold hadB; exact decide_eq_true h3
    have h3s : 3 ≤ s.size := by omega
    rw [e1, e2]
    rw [e2] at HP
    clear e1 e2 h3 hl
    go_enter Try.func20, Try.ntmps20
    go_wp2_with (go_at_call 22; (with_reducible refine (HP.out _).mono ?_); rintro e w' ⟨rfl, rfl⟩)
    go_ret2
    exact ⟨rfl, rfl⟩
  · have e1 : stripS s = s := by unfold stripS; rw [if_neg h3]
    have e2 : hadB s = false := by unfold hadB; exact decide_eq_false h3
    rw [e1, e2]
    rw [e2] at HP
    clear e1 e2 h3 hl
    go_enter Try.func20, Try.ntmps20
    go_wp2_with (go_at_call 22; (with_reducible refine (HP.out _).mono ?_); rintro e w' ⟨rfl, rfl⟩)
    go_ret2
    exact ⟨rfl, rfl⟩

theorem cutPrefix2_any (s : ByteArray) (w : World) (hs : s.size ≤ maxLen) : Calls Try.prog 16 #[.string s, .string ⟨#[239, 187, 191]⟩] w (fun e w' => e = .returned (.tuple #[.string (stripS s), .bool (hadB s)]) ∧ w = w') := by
  have HP := Lib.hid (fun W => cutPrefix_any s W hs)
  clear hs
  go_enter Try.func16, Try.ntmps16
  go_wp2_with (go_at_call 20; (with_reducible refine (HP.out _).mono ?_); rintro e w' ⟨rfl, rfl⟩)
  go_ret2
  exact ⟨rfl, rfl⟩

theorem stripP_any (s : ByteArray) (w : World) (hs : s.size ≤ maxLen) : Calls Try.prog 6 #[.string s] w (Gives (.tuple #[.string (stripS s), .bool (hadB s)]) w) := by
  apply Gives.same_left
  have HP := Lib.hid (fun W => cutPrefix2_any s W hs)
  clear hs
  go_enter Try.func6, Try.ntmps6
  go_wp2_with (go_at_call 16; (with_reducible refine (HP.out _).mono ?_); rintro e w' ⟨rfl, rfl⟩)
  go_ret2
  exact ⟨rfl, rfl⟩

end Go.Proofs.Ytnmcbilnebfcfaa
