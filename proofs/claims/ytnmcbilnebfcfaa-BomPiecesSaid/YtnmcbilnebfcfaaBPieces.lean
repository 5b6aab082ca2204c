/-
  The law BomPieces returns true for every list of pieces. Conditions: none.
-/
import Derived.Test.YtnmcbilnebfcfaaRows
import Derived.Test.YtnmcbilnebfcfaaOpenB
import Derived.Test.YtnmcbilnebfcfaaBomL
import Derived.Lib.SlBytesConst
namespace Go.Proofs.Ytnmcbilnebfcfaa
open Go.ChangeShapes Go.WideShapes Go.ChangeAt Go.RowKit Go.Joins

/-- The first k pieces, one behind the other. -/
def catT (T : Nat → ByteArray) : Nat → ByteArray
  | 0 => ⟨#[]⟩
  | k + 1 => catT T k ++ T k

theorem told_close (a : ByteArray) : toldS a ++ markB.extract 0 (heldN a) = stripS a := by
  unfold toldS heldN
  by_cases h : waits a
  · rw [if_pos h, if_pos h, none_append, strip_waits a h]
    exact (waits_mark h).symm
  · rw [if_neg h, if_neg h]
    have : markB.extract 0 0 = ⟨#[]⟩ := by decide +kernel
    rw [this, append_none]

theorem told_size (s : ByteArray) : (toldS s).size ≤ s.size := by
  unfold toldS stripS
  split
  · show 0 ≤ _; omega
  · split
    · rw [ByteArray.size_extract]; omega
    · omega

theorem pieces_many (a : Option Addr) (len cap : Nat) (w : World) (h : 40 < len) (hl : len ≤ cap) (hm : cap ≤ maxLen) : Calls Try.prog 4 #[.slice a len cap] w (Gives (.bool true) w) := by
  apply Gives.of
  unfold maxLen at hm
  have hI : (40 : Int) < (len : Int) := by omega
  have hd : decide ((40 : Int) < (len : Int)) = true := decide_eq_true hI
  go_enter Try.func4, Try.ntmps4
  go_wp2_with fail
  go_at_call 9
  refine (new_any w).mono ?_
  rintro e w1 ⟨q, hq, rfl, _, hb⟩
  have HB := Lib.hid hb
  clear hb
  go_wp2_with (go_at_call 8; (first | (with_reducible refine (later_call _ (awake_any _)).mono ?_) | (with_reducible refine (call_later (awake_any _)).mono ?_)); rintro e w' ⟨rfl, x, rfl⟩)
  go_ret
  exact ⟨rfl, later_below' _ HB.out⟩

set_option maxHeartbeats 2000000 in
theorem pieces_any (a : Option Addr) (len cap : Nat) (T : Nat → ByteArray) (w : World) (h : ¬ 40 < len) (hl : len ≤ cap) (hm : cap ≤ maxLen)
    (hr : ∀ r, r < len → ∃ ad A c, a = some ad ∧ w.cell? (ad.add r) = some (.slice A (T r).size c) ∧ Txt w w.heap.size A (T r).size c (T r) ∧ c ≤ 140737488351232) : Calls Try.prog 4 #[.slice a len cap] w (Gives (.bool true) w) := by
  apply Gives.of
  unfold maxLen at hm
  have HR := Lib.hid hr
  have hI : ¬ (40 : Int) < (len : Int) := by omega
  have hd : decide ((40 : Int) < (len : Int)) = false := decide_eq_false hI
  clear hr
  go_enter Try.func4, Try.ntmps4
  go_wp2_with fail
  go_at_call 9
  refine (new_any w).mono ?_
  rintro e w1 ⟨q, hq, rfl, hst, hb⟩
  have HB := Lib.hid hb
  have HS := Lib.hid hst
  clear hb hst
  go_wp2_with fail
  go_loopw [4, 5, 27] (fun al to i (wr : World) => ∃ k : Nat, k ≤ len ∧ i = .int .i64 k ∧ al = .string (catT T k) ∧ to = .string (toldS (catT T k)) ∧ (catT T k).size ≤ 400 ∧ Below w.heap.size w wr ∧ StBox wr q (catT T k) false) (fun _ _ i _ => len - (intOf i).toNat)
  case atStart => exact ⟨0, by omega, rfl, rfl, rfl, by show 0 ≤ 400; omega, HB.out, HS.out⟩
  case round =>
    obtain ⟨k, hk, rfl, rfl, rfl, hsz, hbr, hsr⟩ := hrel
    have HBR := Lib.hid hbr
    have HSR := Lib.hid hsr
    have hqr : q < wr.heap.size := hsr.lt
    clear hbr hsr
    by_cases hkl : k < len
    · obtain ⟨ad, A, c, ha, hcell, htx, hc47⟩ := HR.out k hkl
      subst ha
      have hcr : wr.cell? (ad.add k) = some (.slice A (T k).size c) := (HBR.out.cell (World.block_lt_of_cell? w _ hcell)).trans hcell
      have HT := Lib.hid (htx.below HBR.out)
      have htl := htx.le.1
      have htl' : (T k).size ≤ 140737488351232 := by omega
      have hkI : (k : Int) < (len : Int) := by omega
      have hkd : decide (k < len) = true := decide_eq_true hkl
      clear htx hcell
      by_cases h4 : 400 < (catT T k).size + (T k).size
      · have h4I : (400 : Int) < ((catT T k).size : Int) + ((T k).size : Int) := by omega
        have h4d : decide ((400 : Int) < ((catT T k).size : Int) + ((T k).size : Int)) = true := decide_eq_true h4I
        go_wp2_with (go_at_call 8; (first | (with_reducible refine (later_call _ (awake_any _)).mono ?_) | (with_reducible refine (call_later (awake_any _)).mono ?_)); rintro e w' ⟨rfl, x, rfl⟩)
        go_ret
        exact ⟨rfl, later_below' _ HBR.out⟩
      · have h4I : ¬ (400 : Int) < ((catT T k).size : Int) + ((T k).size : Int) := by omega
        have h4d : decide ((400 : Int) < ((catT T k).size : Int) + ((T k).size : Int)) = false := decide_eq_false h4I
        have hcv : (convert 31 9 (.slice A (T k).size c)).run Try.prog wr = .ok (.string (T k)) wr := HT.out.str _ _ _ Try.underlying31 Try.underlying5 Try.underlying9
        go_wp2_with fail
        go_at_call 10
        refine (feed_any (catT T k) (T k) A (T k).size c q wr (HT.out.more HBR.out.size) HSR.out (by omega)).mono ?_
        rintro e w2 ⟨A2, c2, rfl, ho2, hg2, hst2⟩
        have hcv2 : (convert 31 9 (.slice A2 (outS (catT T k) (T k)).size c2)).run Try.prog w2 = .ok (.string (outS (catT T k) (T k))) w2 := ho2.txt.str _ _ _ Try.underlying31 Try.underlying5 Try.underlying9
        have HS2 := Lib.hid (fun W' (hb : Below w2.heap.size w2 W') => hst2.below hb hst2.lt)
        have HB2 := Lib.hid (HBR.out.grown hg2 HBR.out.size (fun g hg => by injection hg with hg; omega))
        have hto : toldS (catT T k) ++ outS (catT T k) (T k) = toldS (catT T k ++ T k) := (told_out (catT T k) (T k)).symm
        have hsum : (toldS (catT T k)).size + (outS (catT T k) (T k)).size ≤ 400 := by
          rw [← ByteArray.size_append, hto]
          have := told_size (catT T k ++ T k)
          rw [ByteArray.size_append] at this
          omega
        have hts : (catT T k ++ T k).size ≤ 400 := by rw [ByteArray.size_append]; omega
        have HTS := Lib.hid hts
        have hmx : (catT T k ++ T k).size ≤ maxLen := by unfold maxLen; omega
        have HK1 : Hid (∀ W, Calls Try.prog 7 #[.string (catT T k ++ T k)] W (Gives (.tuple #[.string (stripS (catT T k ++ T k)), .int .i64 (hadN (catT T k ++ T k))]) W)) := Lib.hid (fun W => strip_ref _ W hmx)
        have HK2 : Hid (∀ W, Calls Try.prog 11 #[.string (catT T k ++ T k)] W (Gives (.string (toldS (catT T k ++ T k))) W)) := Lib.hid (fun W => told_ref _ W hmx)
        have HK3 : Hid (∀ W, Calls Try.prog 13 #[.string (catT T k ++ T k)] W (Gives (.int .i64 (heldN (catT T k ++ T k))) W)) := Lib.hid (fun W => held_ref _ W hmx)
        have hb1 := hadN_B (catT T k ++ T k)
        clear hst2 hg2 ho2 hmx hts h4 h4I h4d htl htl' hcr hcv
        go_wp2_with (first | (go_at_call 7; (first | (with_reducible refine (later_call _ (HK1.out _)).mono ?_) | (with_reducible refine (call_later (HK1.out _)).mono ?_)); rintro e w' ⟨rfl, x, rfl⟩) | (go_at_call 11; (first | (with_reducible refine (later_call _ (HK2.out _)).mono ?_) | (with_reducible refine (call_later (HK2.out _)).mono ?_)); rintro e w' ⟨rfl, x, rfl⟩) | (go_at_call 13; (first | (with_reducible refine (later_call _ (HK3.out _)).mono ?_) | (with_reducible refine (call_later (HK3.out _)).mono ?_)); rintro e w' ⟨rfl, x, rfl⟩) | (go_at_call 12; refine (held_any q _ _ _ _ _ (HS2.out _ (by (repeat (first | (with_reducible exact Below.refl _ _) | (with_reducible refine later_below _ ?_) | (with_reducible refine later_below' _ ?_) | (with_reducible refine Below.drew ?_)))))).mono ?_; rintro e w' ⟨rfl, rfl⟩) | (go_at_call 14; refine (stripped_any q _ _ _ _ _ (HS2.out _ (by (repeat (first | (with_reducible exact Below.refl _ _) | (with_reducible refine later_below _ ?_) | (with_reducible refine later_below' _ ?_) | (with_reducible refine Below.drew ?_)))))).mono ?_; rintro e w' ⟨rfl, rfl⟩))
        refine ⟨⟨k + 1, by omega, by go_num, rfl, rfl, HTS.out, (by (repeat (first | (with_reducible exact HB2.out) | (with_reducible refine later_below' _ ?_)))), HS2.out _ (by (repeat (first | (with_reducible exact Below.refl _ _) | (with_reducible refine later_below _ ?_) | (with_reducible refine Below.drew ?_))))⟩, ?_⟩
        simp [intOf]; omega
    · obtain rfl : k = len := by omega
      have hkd : decide (k < k) = false := decide_eq_false (by omega)
      have hN : heldN (catT T k) ≤ 3 := by unfold heldN; split <;> (first | (rename_i hw; have := hw.2; omega) | omega)
      have hcl : toldS (catT T k) ++ markB.extract 0 (heldN (catT T k)) = stripS (catT T k) := told_close (catT T k)
      have hmx : (catT T k).size ≤ maxLen := by unfold maxLen; omega
      have HK1 : Hid (∀ W, Calls Try.prog 7 #[.string (catT T k)] W (Gives (.tuple #[.string (stripS (catT T k)), .int .i64 (hadN (catT T k))]) W)) := Lib.hid (fun W => strip_ref _ W hmx)
      have hb1 := hadN_B (catT T k)
      have ht4 := told_size (catT T k)
      clear hmx
      go_wp2_with fail
      go_at_call 15
      refine (close_any (heldN (catT T k)) q _ _ _ wr HSR.out hN).mono ?_
      rintro e w2 ⟨A2, c2, rfl, ho2, hg2, hbx2⟩
      have hcv2 : (convert 31 9 (.slice A2 (heldN (catT T k)) c2)).run Try.prog w2 = .ok (.string (markB.extract 0 (heldN (catT T k)))) w2 := ho2.txt.str _ _ _ Try.underlying31 Try.underlying5 Try.underlying9
      have hme : (markB.extract 0 (heldN (catT T k))).size ≤ 3 := by rw [ByteArray.size_extract, markB_size]; omega
      have HS2 := Lib.hid (fun W' (hb : Below w2.heap.size w2 W') => hbx2.below hb hbx2.lt)
      have HB2 := Lib.hid (HBR.out.grown hg2 HBR.out.size (fun g hg => by injection hg with hg; omega))
      have kc := fun (w : World) (C : Array Value) (n c : Nat) => Lib.run_convert_bytes_const (P := Try.prog) w 31 5 C n c Try.underlying31 Try.underlying5
      clear hbx2 hg2 ho2
      go_wp2_with (first | (go_at_call 7; (first | (with_reducible refine (later_call _ (HK1.out _)).mono ?_) | (with_reducible refine (call_later (HK1.out _)).mono ?_)); rintro e w' ⟨rfl, x, rfl⟩) | (go_at_call 12; refine (held_any q _ _ _ _ _ (HS2.out _ (by (repeat (first | (with_reducible exact Below.refl _ _) | (with_reducible refine later_below _ ?_) | (with_reducible refine Below.drew ?_)))))).mono ?_; rintro e w' ⟨rfl, rfl⟩) | (go_at_call 14; refine (stripped_any q _ _ _ _ _ (HS2.out _ (by (repeat (first | (with_reducible exact Below.refl _ _) | (with_reducible refine later_below _ ?_) | (with_reducible refine Below.drew ?_)))))).mono ?_; rintro e w' ⟨rfl, rfl⟩))
      have HW3 : Hid (Below w2.heap.size w2 x.w) := Lib.hid (by (repeat (first | (with_reducible exact Below.refl _ _) | (with_reducible refine later_below _ ?_) | (with_reducible refine Below.drew ?_))))
      have HB3 := Lib.hid (HB2.out.trans (HW3.out.mono HB2.out.size))
      go_at_call 15
      refine (close_any 0 q _ _ _ x.w (HS2.out _ HW3.out) (by omega)).mono ?_
      rintro e w3 ⟨A3, c3, rfl, _, hg3, hbx3⟩
      have HS3 := Lib.hid (fun W' (hb : Below w3.heap.size w3 W') => hbx3.below hb hbx3.lt)
      have HB4 := Lib.hid (HB3.out.grown hg3 HB3.out.size (fun g hg => by injection hg with hg; omega))
      clear hbx3 hg3
      go_wp2_with (first | (go_at_call 10; refine (feed_closed _ _ _ q _ _ _ _ (HS3.out _ (((Below.refl _ _).alloc (Nat.le_refl _) _)))).mono ?_; rintro e w' ⟨rfl, rfl⟩) | (go_at_call 8; (first | (with_reducible refine (later_call _ (awake_any _)).mono ?_) | (with_reducible refine (call_later (awake_any _)).mono ?_)); rintro e w' ⟨rfl, x, rfl⟩))
      go_ret
      refine ⟨rfl, later_below' _ (HB4.out.alloc HB4.out.size _)⟩

theorem pieces_all (a : Option Addr) (len cap : Nat) (T : Nat → ByteArray) (w : World) (hl : len ≤ cap) (hm : cap ≤ maxLen)
    (hr : ∀ r, r < len → ∃ ad A c, a = some ad ∧ w.cell? (ad.add r) = some (.slice A (T r).size c) ∧ Txt w w.heap.size A (T r).size c (T r) ∧ c ≤ 140737488351232) : Calls Try.prog 4 #[.slice a len cap] w (Gives (.bool true) w) := by
  by_cases h : 40 < len
  · exact pieces_many a len cap w h hl hm
  · exact pieces_any a len cap T w h hl hm hr

set_option maxRecDepth 100000 in
theorem bomPieces_lifted (os : Os) (started : os.Started) (H : Type) (enc : TypeId × Value → H) :
    ReturnsInHanded {} Try.checked os 4 .any (Rows.bomPiecesSpec.pre6 enc Try.prog Try.f4 Rows.bomPiecesRow.domain false) (Rows.bomPiecesSpec.post enc Try.prog Try.f4 false true false false) := by
  refine law_lift (C := Try.checked) (tb := 4) Try.own Try.laidOut started (by kernel_rfl) Try.func4
    (ChangeSpec.witness6 (enc := enc) (C := Try.checked) false ⟨#[], #[.slice none 0 0], []⟩ 8 (by kernel_rfl) (by kernel_rfl) (by kernel_rfl) (by kernel_rfl))
    rfl Try.underlying4 (by intro t ht; have ht' : t ∈ [28] := ht; simp at ht'; subst ht'; exact ⟨by kernel_rfl, of_decide_eq_true (by kernel_rfl)⟩) rfl
    (fun ds h => match ds, h with | [_], _ => rfl) ?_
  intro W base args ds ps hh
  obtain ⟨v, d, p, rfl, hv, h0, hw⟩ := weigh_one Try.params4 hh
  obtain ⟨a, len, cap, T, rfl, hl, hm, hr⟩ := open_pieces hv h0 hw
  exact pieces_all a len cap T W hl hm hr

theorem bomPieces_holds : Rows.BomPiecesSaid :=
  OpenClaim.holds_of_wide 4 Try.f4 rfl rfl rfl rfl rfl rfl rfl ⟨rfl, rfl, rfl, rfl, rfl⟩ rfl rfl rfl rfl rfl (by kernel_rfl) Try.func4 (by kernel_rfl)
    (of_decide_eq_true (by kernel_rfl)) (by unfold Func.isWrapper; first | (rw [if_pos (by decide +kernel)]; kernel_rfl) | (rw [if_neg (by decide +kernel)]; exact ⟨rfl, rfl⟩))
    (fun os started H enc _ => bomPieces_lifted os started H enc)
#print axioms bomPieces_holds

end Go.Proofs.Ytnmcbilnebfcfaa
