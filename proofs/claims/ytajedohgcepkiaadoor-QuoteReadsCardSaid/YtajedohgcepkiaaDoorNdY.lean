/-
  Walks: has a text one of the two ends of line in it, by strings.ContainsAny; does it begin with the mark.
-/
import Derived.Test.YtajedohgcepkiaaDoorRows
import Derived.Test.YtajedohgcepkiaaDoorNdX
import Derived.Deep.WholeRow
namespace Go.Proofs.YtajedohgcepkiaaDoor
open Go.RowKit

def hasE (s : ByteArray) : Bool := hasC s 13 || hasC s 10
theorem hasE_yes {s : ByteArray} {i : Nat} (hi : i < s.size) (h : byt s i = 13 ∨ byt s i = 10) : hasE s = true := by
  unfold hasE
  rcases h with h | h
  · rw [hasC_yes hi (b := 13) h]; rfl
  · rw [hasC_yes hi (b := 10) h, Bool.or_true]
theorem hasE_no {s : ByteArray} (h : ∀ i, i < s.size → byt s i ≠ 13 ∧ byt s i ≠ 10) : hasE s = false := by
  unfold hasE
  rw [hasC_no (b := 13) (fun i hi => (h i hi).1), hasC_no (b := 10) (fun i hi => (h i hi).2)]
  rfl
theorem hasE_not {s : ByteArray} (h : hasE s = false) : ∀ i, i < s.size → byt s i ≠ 13 ∧ byt s i ≠ 10 := fun _ hi =>
  ⟨fun e => Bool.noConfusion ((hasE_yes hi (.inl e)).symm.trans h), fun e => Bool.noConfusion ((hasE_yes hi (.inr e)).symm.trans h)⟩
theorem hasE_at {s : ByteArray} (h : hasE s = true) : ∃ i, i < s.size ∧ (byt s i = 13 ∨ byt s i = 10) := by
  unfold hasE at h
  rcases Bool.or_eq_true_iff.1 h with h | h
  · obtain ⟨i, hi, e⟩ := hasC_at h; exact ⟨i, hi, .inl e⟩
  · obtain ⟨i, hi, e⟩ := hasC_at h; exact ⟨i, hi, .inr e⟩

theorem crlf_list : crlf.data.toList = [13, 10] := rfl
theorem byt_at (s : ByteArray) (j : Nat) (b : UInt8) (h : s.data.toList[j]? = some b) : j < s.size ∧ byt s j = (b.toNat : Int) := by
  have hj : j < s.size := by have := (List.getElem?_eq_some_iff.1 h).1; rw [Array.length_toList] at this; exact this
  refine ⟨hj, ?_⟩
  rw [byt_list, h]
  rfl
theorem at_byt (s : ByteArray) (j : Nat) (h : j < s.size) : ∃ b : UInt8, s.data.toList[j]? = some b ∧ byt s j = (b.toNat : Int) := by
  have hj : j < s.data.toList.length := by rw [Array.length_toList]; exact h
  exact ⟨_, List.getElem?_eq_getElem hj, (byt_at s j _ (List.getElem?_eq_getElem hj)).2⟩
theorem two_contains (b : UInt8) : [13, 10].contains b = true ↔ ((b.toNat : Int) = 13 ∨ (b.toNat : Int) = 10) := by
  have h : ∀ n : Fin 256, [13, 10].contains (UInt8.ofNat n.val) = true ↔ (((UInt8.ofNat n.val).toNat : Int) = 13 ∨ ((UInt8.ofNat n.val).toNat : Int) = 10) := by decide +kernel
  have := h ⟨b.toNat, b.toNat_lt⟩
  simpa using this
theorem first_of {p : Nat → Prop} [DecidablePred p] : ∀ {n : Nat}, (∃ i, i < n ∧ p i) → ∃ i, i < n ∧ p i ∧ ∀ j, j < i → ¬ p j
  | 0, h => by obtain ⟨i, hi, _⟩ := h; omega
  | n + 1, h => by
    by_cases h' : ∃ i, i < n ∧ p i
    · obtain ⟨i, hi, hp, hj⟩ := first_of h'
      exact ⟨i, by omega, hp, hj⟩
    · obtain ⟨i, hi, hp⟩ := h
      have : i = n := by
        by_cases e : i < n
        · exact absurd ⟨i, e, hp⟩ h'
        · omega
      subst this
      exact ⟨i, hi, hp, fun j hj hpj => h' ⟨j, hj, hpj⟩⟩
theorem indexAny_says (s : ByteArray) : (hasE s = true → 0 ≤ Lib.indexAny s.data.toList [13, 10]) ∧ (hasE s = false → Lib.indexAny s.data.toList [13, 10] = -1) := by
  refine ⟨fun h => ?_, fun h => ?_⟩
  · obtain ⟨i, hi, hp, hj⟩ := first_of (p := fun i => byt s i = 13 ∨ byt s i = 10) (hasE_at h)
    obtain ⟨b, hb, eb⟩ := at_byt s i hi
    have hn : Lib.NoAny s.data.toList [13, 10] i := fun j x hj' hx => by
      obtain ⟨_, ex⟩ := byt_at s j x hx
      have := hj j hj'
      rw [ex] at this
      rw [← Bool.not_eq_true, two_contains]
      exact this
    rw [Lib.indexAny_hit hn hb ((two_contains b).2 (by rw [← eb]; exact hp))]
    omega
  · refine Lib.indexAny_none (fun j x _ hx => ?_)
    obtain ⟨hj, ex⟩ := byt_at s j x hx
    have := hasE_not h j hj
    rw [ex] at this
    rw [← Bool.not_eq_true, two_contains]
    omega

def AnyP (s : ByteArray) (w : World) (e : Ending) (w' : World) : Prop := ∃ x : Int, e = .returned (.int .i64 x) ∧ (hasE s = true → 0 ≤ x) ∧ (hasE s = false → x = -1) ∧ Below w.heap.size w w'

theorem indexAny_long (s : ByteArray) (w : World) (h8 : 8 < s.size) (hs : s.size ≤ 1000000) : Calls Tryd.prog 65 #[.string s, .string crlf] w (AnyP s w) := by
  have hz := zero_of_info (P := Tryd.prog) (t := 105) (v := .agg (Array.replicate 256 (.bool false))) (n := 256) (by kernel_rfl)
  refine (Sh.strings_IndexAny_long hz.1 s crlf w (Nat.le_refl _) h8 (by omega) (by decide) (fun j b hb => ?_)).mono ?_
  · rw [crlf_list] at hb
    match j, hb with
    | 0, hb => cases hb; decide
    | 1, hb => cases hb; decide
  · rintro e w' ⟨rfl, rfl⟩
    have hx := indexAny_says s
    exact ⟨_, rfl, hx.1, hx.2, ((Below.refl _ _).alloc (Nat.le_refl _) _).alloc (by simp) _⟩

/-- An iterator over a text, put to another place. -/
def itSet (W : World) (q : Nat) (s : ByteArray) (pos : Nat) : World := { W with heap := W.heap.setIfInBounds q (.stringIter s pos) }
theorem itSet_at {W : World} {q : Nat} {s : ByteArray} {pos : Nat} (h : q < W.heap.size) : (itSet W q s pos).heap[q]? = some (.stringIter s pos) := by
  show (W.heap.setIfInBounds q (.stringIter s pos))[q]? = _
  simp [h]
theorem itSet_below {w W : World} {q : Nat} {s : ByteArray} {pos : Nat} (h : Below w.heap.size w W) (hq : w.heap.size ≤ q) : Below w.heap.size w (itSet W q s pos) :=
  ⟨h.os, h.tape, h.output, by have := h.size; show _ ≤ (W.heap.setIfInBounds q _).size; simpa using this, fun k hk => by
    show (W.heap.setIfInBounds q (.stringIter s pos))[k]? = _
    rw [Array.getElem?_setIfInBounds_ne (by omega)]
    exact h.block k hk⟩
theorem run_next_at {P : Program} (W : World) (q : Nat) (s : ByteArray) (pos : Nat) (ty : TypeId) (hq : W.heap[q]? = some (.stringIter s pos)) (h : pos < s.size) :
    (Instr.next (.pointer (some ⟨q, 0, none⟩)) true ty).run P W = .ok (.tuple #[.bool true, .int .i64 pos, .int .i32 (Utf8.decode s pos).1]) (itSet W q s (pos + (Utf8.decode s pos).2)) := by
  simp only [Instr.next, getObj, setObj, Sem.run_bind, Sem.run, hq, Result.andThen, h, if_true]
  simp [goInt, itSet]
theorem run_next_stop {P : Program} (W : World) (q : Nat) (s : ByteArray) (pos : Nat) (ty : TypeId) (hq : W.heap[q]? = some (.stringIter s pos)) (h : ¬ pos < s.size) :
    (Instr.next (.pointer (some ⟨q, 0, none⟩)) true ty).run P W = .ok (.tuple #[.bool false]) W := by
  simp [Instr.next, getObj, Sem.run, hq, h]
theorem iterPos_at {W : World} {q : Nat} {s : ByteArray} {pos : Nat} (hq : W.heap[q]? = some (.stringIter s pos)) : W.iterPos q = pos := by unfold World.iterPos; rw [hq]

set_option maxRecDepth 100000 in
set_option maxHeartbeats 4000000 in
theorem indexAny_short (s : ByteArray) (w : World) (h8 : s.size ≤ 8) : Calls Tryd.prog 65 #[.string s, .string crlf] w (AnyP s w) := by
  have HU : Hid (∀ W, Calls Tryd.prog 74 #[.int .i64 s.size] W (fun e w' => e = .returned (.bool false) ∧ W = w')) := Lib.hid (fun W => by have := Sh.strings_shouldUseASCIISet s.size W; rw [decide_eq_false (by omega)] at this; exact this.mono fun e w' h => ⟨h.1, h.2.symm⟩)
  have HH := Lib.hid indexRune_high
  have HA := Lib.hid (fun (r : Int) W h0 h1 => Sh.strings_IndexRune_ascii crlf r W h0 h1)
  have HS := Lib.hid h8
  clear h8
  unfold crlf at HH HA ⊢
  unfold AnyP
  go_enter Tryd.func65, Tryd.ntmps65
  go_wp2_with (go_at_call 74; refine (HU.out _).mono ?_; rintro e w' ⟨rfl, rfl⟩)
  go_loopw [9, 10] (fun _ _ (wr : World) => ∃ i : Nat, i ≤ s.size ∧ (∀ j, j < i → byt s j ≠ 13 ∧ byt s j ≠ 10) ∧ wr.heap[w.heap.size]? = some (.stringIter s i) ∧ Below w.heap.size w wr) (fun _ _ wr => s.size + 1 - wr.iterPos w.heap.size)
  case atStart => exact ⟨0, by omega, (fun j hj => by omega), World.iter_heap w s 0, (Below.refl _ _).alloc (Nat.le_refl _) _⟩
  case round =>
    obtain ⟨i, hi, hj, hq, hb⟩ := hrel
    have HJ := Lib.hid hj
    have HB := Lib.hid hb
    have HM : Hid (wr.iterPos w.heap.size = i) := Lib.hid (iterPos_at hq)
    have hqs : w.heap.size < wr.heap.size := (Array.getElem?_eq_some_iff.1 hq).1
    clear hj hb
    by_cases c1 : i < s.size
    · have hnx := fun ty => run_next_at (P := Tryd.prog) wr w.heap.size s i ty hq c1
      by_cases c2 : byt s i < 128
      · obtain ⟨b, hb1, hb2⟩ := at_byt s i c1
        have hd : Utf8.decode s i = (b.toNat, 1) := by
          have := byt_eq s i c1
          rw [decode_ascii s i c1 (by omega)]
          rw [hb2] at this
          have e : (s[i]'c1).toNat = b.toNat := by omega
          rw [e]
        rw [hd] at hnx
        simp only [] at hnx
        have b0 : (0 : Int) ≤ (b.toNat : Int) := by omega
        have b1 : (b.toNat : Int) < 128 := by omega
        have hback : ((b.toNat : Int)).toNat.toUInt8 = b := by simp
        have hcon := Lib.contains_iff_indexByte [13, 10] b
        have hat := itSet_at (W := wr) (q := w.heap.size) (s := s) (pos := i + 1) hqs
        have HBW := Lib.hid (itSet_below (q := w.heap.size) (s := s) (pos := i + 1) HB.out (Nat.le_refl _))
        generalize itSet wr w.heap.size s (i + 1) = W1 at hnx hat HBW
        have HAT := Lib.hid hat
        have HQ := Lib.hid hq
        have HAB : Hid (∀ W, Calls Tryd.prog 73 #[.string ⟨#[13, 10]⟩, .int .i32 (b.toNat : Int)] W (fun e w' => e = .returned (.int .i64 (Lib.indexByte [13, 10] b)) ∧ W = w')) := Lib.hid (fun W => (HA.out _ W b0 b1).mono fun e w' h => ⟨by rw [h.1, hback], h.2.symm⟩)
        by_cases c3 : byt s i = 13 ∨ byt s i = 10
        · rw [(two_contains b).2 (by rw [← hb2]; exact c3)] at hcon
          have hge : (0 : Int) ≤ Lib.indexByte [13, 10] b := of_decide_eq_true hcon.symm
          have HE := Lib.hid (hasE_yes c1 c3)
          clear hcon hat hq hback hb1 hb2 hd c2 c3 hqs
          go_wp2_with (go_at_call 73; refine (HAB.out _).mono ?_; rintro e w' ⟨rfl, rfl⟩)
          go_ret
          exact ⟨_, rfl, (fun _ => by omega), (fun h => Bool.noConfusion (HE.out.symm.trans h)), HBW.out⟩
        · have hnc : [13, 10].contains b = false := by rw [← Bool.not_eq_true, two_contains, ← hb2]; exact c3
          rw [hnc] at hcon
          have hlt : ¬ (0 : Int) ≤ Lib.indexByte [13, 10] b := of_decide_eq_false hcon.symm
          have HC := Lib.hid c3
          clear hcon hnc hat hq hback hb1 hb2 hd c2 c3 hqs
          go_wp2_with (go_at_call 73; refine (HAB.out _).mono ?_; rintro e w' ⟨rfl, rfl⟩)
          go_roundw
          case rel => exact ⟨i + 1, by omega, (fun j hj => by
            by_cases e : j = i
            · subst e; exact ⟨fun h => HC.out (.inl h), fun h => HC.out (.inr h)⟩
            · exact HJ.out j (by omega)), HAT.out, HBW.out⟩
          case measure =>
            rw [iterPos_at HAT.out, HM.out]
            omega
      · obtain ⟨d1, d2, d3, d4, d5⟩ := decode_span s i c1 (by omega)
        generalize (Utf8.decode s i).1 = r at hnx d1 d2
        generalize (Utf8.decode s i).2 = k at hnx d3 d4 d5
        have hat := itSet_at (W := wr) (q := w.heap.size) (s := s) (pos := i + k) hqs
        have HBW := Lib.hid (itSet_below (q := w.heap.size) (s := s) (pos := i + k) HB.out (Nat.le_refl _))
        have hqs1 : w.heap.size < (itSet wr w.heap.size s (i + k)).heap.size := (Array.getElem?_eq_some_iff.1 hat).1
        generalize itSet wr w.heap.size s (i + k) = W1 at hnx hat HBW hqs1
        have HAT := Lib.hid hat
        have HQ1 := Lib.hid hqs1
        have HHB := Lib.hid (fun W => HH.out r W d1 d2)
        have H5 := Lib.hid d5
        clear hat hq hqs hqs1 d1 d2 d5 c2
        go_wp2_with (go_at_call 73; (first | (with_reducible refine (later_call _ (HHB.out _)).mono ?_) | (with_reducible refine (call_later (HHB.out _)).mono ?_)); rintro e w' ⟨rfl, x, rfl⟩)
        go_roundw
        case rel => exact ⟨i + k, d4, (fun j hj => by
          by_cases e : j < i
          · exact HJ.out j e
          · have := H5.out j (by omega) hj
            omega), (x.below.block _ HQ1.out).trans HAT.out, later_below _ HBW.out⟩
        case measure =>
          rw [iterPos_at ((x.below.block _ HQ1.out).trans HAT.out), HM.out]
          omega
    · obtain rfl : i = s.size := by omega
      have hnx := fun ty => run_next_stop (P := Tryd.prog) wr w.heap.size s s.size ty hq c1
      clear hq hqs
      go_wp2
      go_ret
      exact ⟨_, rfl, (fun h => by rw [hasE_no HJ.out] at h; cases h), (fun _ => rfl), HB.out⟩

theorem indexAny_any (s : ByteArray) (w : World) (hs : s.size ≤ 1000000) : Calls Tryd.prog 65 #[.string s, .string crlf] w (AnyP s w) := by
  by_cases h : s.size ≤ 8
  · exact indexAny_short s w h
  · exact indexAny_long s w (by omega) hs

theorem containsAny_any (s : ByteArray) (w : World) (hs : s.size ≤ 1000000) : Calls Tryd.prog 52 #[.string s, .string ⟨#[13, 10]⟩] w (Gives (.bool (hasE s)) w) := by
  apply Gives.of
  have HA : Hid (∀ W, Calls Tryd.prog 65 #[.string s, .string ⟨#[13, 10]⟩] W (AnyP s W)) := Lib.hid (fun W => indexAny_any s W hs)
  clear hs
  cases c : hasE s
  · go_enter Tryd.func52, Tryd.ntmps52
    go_wp2_with (go_at_call 65; refine (HA.out _).mono ?_; rintro e w' ⟨x, rfl, h1, h2, hb⟩; have hx := h2 c; subst hx; clear h1 h2)
    go_ret
    exact ⟨rfl, hb⟩
  · go_enter Tryd.func52, Tryd.ntmps52
    go_wp2_with (go_at_call 65; refine (HA.out _).mono ?_; rintro e w' ⟨x, rfl, h1, h2, hb⟩; have hx := h1 c; clear h1 h2)
    go_ret
    exact ⟨rfl, hb⟩

theorem had_list (s : ByteArray) (h : 3 ≤ s.size) : ((s.extract 0 3).toList == [239, 187, 191]) = Bom.hadB s := by
  rw [Bool.eq_iff_iff]
  unfold Bom.hadB
  rw [decide_eq_true_eq, beq_iff_eq, ByteArray.toList_eq]
  have hz : (s.extract 0 3).size = 3 := by rw [ByteArray.size_extract]; omega
  constructor
  · intro he
    have hx : s.extract 0 3 = Bom.markB := ByteArray.ext (Array.ext' (by rw [he]; rfl))
    refine Bom.pre_unique (Bom.pre_is s) ⟨Nat.le_refl _, fun i hi => ?_, fun hc => by omega⟩
    rw [← Bom.byt_mark i hi, ← hx, byt_extract, Nat.zero_add, if_pos hi]
  · intro he
    have hp := Bom.pre_is s
    rw [he] at hp
    have hx : s.extract 0 3 = Bom.markB := byt_inj (by rw [hz]; rfl) (fun i hi => by
      rw [hz] at hi
      rw [byt_extract, Nat.zero_add, if_pos hi, Bom.byt_mark i hi]
      exact hp.2.1 i hi)
    rw [hx]
    rfl

theorem slHasPrefix_any (s : ByteArray) (w : World) (hs : s.size ≤ maxLen) : Calls Tryd.prog 39 #[.string s, .string ⟨#[239, 187, 191]⟩] w (fun e w' => e = .returned (.bool (Bom.hadB s)) ∧ w = w') := by
  unfold maxLen at hs
  by_cases h3 : 3 ≤ s.size
  · have h3I : (3 : Int) ≤ (s.size : Int) := by omega
    have hd : decide ((3 : Int) ≤ (s.size : Int)) = true := decide_eq_true h3I
    go_enter Tryd.func39, Tryd.ntmps39
    go_wp2_with fail
    go_ret
    exact ⟨ret_bool (had_list s h3), rfl⟩
  · have h3I : ¬ (3 : Int) ≤ (s.size : Int) := by omega
    have hd : decide ((3 : Int) ≤ (s.size : Int)) = false := decide_eq_false h3I
    have e : Bom.hadB s = false := by unfold Bom.hadB; have := Bom.preN_le s; exact decide_eq_false (by omega)
    rw [e]
    clear e
    go_enter Tryd.func39, Tryd.ntmps39
    go_wp2_with fail
    go_ret
    exact ⟨rfl, rfl⟩

theorem hasPrefix_any (s : ByteArray) (w : World) (hs : s.size ≤ maxLen) : Calls Tryd.prog 26 #[.string s, .string ⟨#[239, 187, 191]⟩] w (Gives (.bool (Bom.hadB s)) w) := by
  apply Gives.same_left
  have HP := Lib.hid (fun W => slHasPrefix_any s W hs)
  clear hs
  go_enter Tryd.func26, Tryd.ntmps26
  go_wp2_with (go_at_call 39; (with_reducible refine (HP.out _).mono ?_); rintro e w' ⟨rfl, rfl⟩)
  go_ret
  exact ⟨rfl, rfl⟩

theorem indexByte_says (s : ByteArray) (b : Nat) (hb : b < 256) : hasC s b = decide (0 ≤ Lib.indexByte s.data.toList ((b : Int).toNat.toUInt8)) := by
  rw [← Lib.contains_iff_indexByte, Bool.eq_iff_iff]
  have eb : ((b : Int).toNat.toUInt8).toNat = b := by simp; omega
  constructor
  · intro h
    obtain ⟨i, hi, e⟩ := hasC_at h
    obtain ⟨x, hx, ex⟩ := at_byt s i hi
    rw [List.contains_iff_mem]
    have : x = (b : Int).toNat.toUInt8 := UInt8.toNat_inj.1 (by omega)
    rw [← this]
    exact List.mem_of_getElem? hx
  · intro h
    rw [List.contains_iff_mem] at h
    obtain ⟨i, hi⟩ := List.mem_iff_getElem?.1 h
    obtain ⟨h1, h2⟩ := byt_at s i _ hi
    exact hasC_yes h1 (by rw [h2, eb])

theorem indexByte_any (s : ByteArray) (b : Nat) (w : World) (hb : b < 256) : Calls Tryd.prog 51 #[.string s, .int .u8 b] w (fun e w' => ∃ x : Int, e = .returned (.int .i64 x) ∧ (hasC s b = true → 0 ≤ x) ∧ (hasC s b = false → ¬ 0 ≤ x) ∧ w = w') := by
  refine (stIndexByte_any s b w).mono ?_
  rintro e w' ⟨rfl, rfl⟩
  have h := indexByte_says s b hb
  exact ⟨_, rfl, (fun c => of_decide_eq_true (h.symm.trans c)), (fun c => of_decide_eq_false (h.symm.trans c)), rfl⟩

end Go.Proofs.YtajedohgcepkiaaDoor
