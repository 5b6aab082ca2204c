/-
  The pieces of any text at any places are what the document says, and joined they are the text.
  Conditions: none.
-/
import Derived.Test.YtmfhnmdgcjlnpaaRows
import Derived.Test.YtmfhnmdgcjlnpaaLaw
import Derived.Test.YtmfhnmdgcjlnpaaOpenI
import Derived.Test.YtmfhnmdgcjlnpaaCtL
import Derived.Lib.Hide
namespace Go.Proofs.Ytmfhnmdgcjlnpaa
open Go.RowKit

theorem ints_same {w : World} {v : Value} {L : List Int} (h : Ints w v L) {A : Option Addr} {n c : Nat} (e : v = .slice A n c) (j : Nat) (x : Int) (hx : L[j]? = some x) : ∃ a, A = some a ∧ w.cell? (a.add j) = some (.int .i64 x) := by
  obtain ⟨A', c', rfl, h1, h2, h3⟩ := h
  injection e with e1 e2 e3
  subst e1
  exact h3 j x hx

set_option maxHeartbeats 4000000 in
theorem cutsAt_any (s : ByteArray) (v : Value) (ps : List Int) (w : World) (h : Ints w v ps) (hl : Lain v) : Calls Try.prog 3 #[.string s, v] w (Gives (.bool true) w) := by
  apply Gives.of
  by_cases h1 : s.size ≤ 200
  · by_cases h2 : ps.length ≤ 40
    · have i1 : ¬ ((s.size : Int) > 200) := by omega
      have i2 : ¬ ((ps.length : Int) > 40) := by omega
      have HL := Lib.hid hl
      have HI := Lib.hid h
      obtain ⟨A, c, rfl, hc1, hc2, hA⟩ := h
      have HA := Lib.hid hA
      have HC := Lib.hid (catB_at s ps)
      have HN : Hid ((cutAt s (heldS s ps)).length ≤ 41) := Lib.hid (by rw [cutAt_len, heldS_len]; omega)
      clear hl hA
      go_enter Try.func3, Try.ntmps3
      go_wp2_with (first
        | (at_builtin; refine append_ints_made rfl (.tmp 17) (.tmp 18) rfl (.slice A ps.length c) ps rfl rfl HI.out HL.out (by omega) ?_; intro v1 w1 ho1 hb1; have HO1 := Lib.hid ho1; have HB1 := Lib.hid hb1; have HAT := Lib.hid (at_any s v1 ps w1 ho1.ints h1 h2); clear ho1 hb1)
        | (go_at_call 9; refine HAT.out.mono ?_; rintro e w2 ⟨v2, rfl, ho2, hb2⟩; have HO2 := Lib.hid ho2; have HB2 := Lib.hid (below_next HB1.out (Nat.le_refl _) hb2); have HO1' := Lib.hid (owns_later HO1.out hb2); obtain ⟨A1, c1, rfl, _, _⟩ := owns_len HO1.out; clear ho2 hb2))
      go_loopw [7, 25] (fun _ i (wr : World) => ∃ k : Nat, k ≤ ps.length ∧ i = .int .i64 k ∧ Below w2.heap.size w2 wr) (fun _ i _ => ps.length - (intOf i).toNat)
      case atStart => exact ⟨0, by omega, rfl, Below.refl _ _⟩
      case round =>
        obtain ⟨k, hk, rfl, hb⟩ := hrel
        have HB := Lib.hid hb
        clear hb
        by_cases c3 : k < ps.length
        · have i3 : (k : Int) < (ps.length : Int) := by omega
          obtain ⟨x, hx⟩ : ∃ x, ps[k]? = some x := ⟨_, List.getElem?_eq_getElem c3⟩
          obtain ⟨a, rfl, ha⟩ := HA.out k x hx
          obtain ⟨a1, rfl⟩ := own_some HO1'.out (by omega)
          have q1 : wr.cell? (a1.add k) = some (.int .i64 x) := own_int (owns_later HO1'.out HB.out) k x hx
          have q2 : wr.cell? (a.add k) = some (.int .i64 x) := ((below_next HB2.out (Nat.le_refl _) HB.out).cell (World.block_lt_of_cell? w _ ha)).trans ha
          have xa := fun (z : Later wr) => z.below.cell (p := a1.add k) (World.block_lt_of_cell? wr _ q1)
          have xb := fun (z : Later wr) => z.below.cell (p := a.add k) (World.block_lt_of_cell? wr _ q2)
          clear ha hx
          go_wp2
          refine wp_region_later_lit (by kernel_rfl) (by kernel_rfl) ?_
          repeat (go_big_quiet_step (fail))
          refine wpQuiet_nil ?_
          rintro w' ⟨z, rfl⟩
          go_wp2
          go_roundw
          case rel => exact ⟨k + 1, by omega, by go_num, below_next HB.out (Nat.le_refl _) z.below⟩
          case measure => simp [intOf]; omega
        · obtain rfl : k = ps.length := by omega
          have i3 : ¬ (ps.length : Int) < (ps.length : Int) := by omega
          have HBW := Lib.hid (below_next HB2.out (Nat.le_refl _) HB.out)
          have HO3 := Lib.hid (owns_later HO2.out HB.out)
          obtain ⟨A2, c2, rfl, _, _⟩ := owns_len HO2.out
          go_wp2_with (first
            | (go_at_call 11; refine (refAt_any s _ ps wr (HI.out.below HBW.out) h1 h2).mono ?_; rintro e w4 ⟨v4, rfl, ho4, hb4⟩; have HS := Lib.hid (same_any _ v4 _ _ w4 (OwnS.strs (owns_later HO3.out hb4)) ho4.strs); have HO4 := Lib.hid (owns_later HO3.out hb4); have HB4 := Lib.hid (below_next HBW.out (Nat.le_refl _) hb4); clear ho4 hb4)
            | (go_at_call 10; refine HS.out.mono ?_; rintro e w5 ⟨rfl, hb5⟩; have HO5 := Lib.hid (owns_later HO4.out hb5); have HB5 := Lib.hid (below_next HB4.out (Nat.le_refl _) hb5); have HJ := Lib.hid (joined_any _ _ w5 (OwnS.strs HO5.out) (by rw [HC.out]; omega)); clear hb5)
            | (go_at_call 12; refine HJ.out.mono ?_; rintro e w6 ⟨rfl, hb6⟩; rw [HC.out]; have HO6 := Lib.hid (owns_later HO5.out hb6); have HB6 := Lib.hid (below_next HB5.out (Nat.le_refl _) hb6); have HK := Lib.hid (joinP_any _ _ w6 (OwnS.strs HO6.out) (by have := HN.out; omega) (by rw [HC.out]; omega)); clear hb6)
            | (go_at_call 13; refine HK.out.mono ?_; rintro e w7 ⟨rfl, hb7⟩; rw [HC.out]; have HB7 := Lib.hid (below_next HB6.out (Nat.le_refl _) hb7); clear hb7)
            | (go_at_call 8; refine (awake_any w7).mono ?_; rintro e w8 ⟨rfl, hb8⟩; have HB8 := Lib.hid (below_next HB7.out (Nat.le_refl _) hb8); clear hb8))
          go_ret
          exact ⟨rfl, HB8.out⟩
    · have i1 : ¬ ((s.size : Int) > 200) := by omega
      have i2 : (ps.length : Int) > 40 := by omega
      obtain ⟨A, c, rfl, _, _, _⟩ := h
      have HW := Lib.hid (fun W => awake_any W)
      clear h2
      go_enter Try.func3, Try.ntmps3
      go_wp2_with ((go_at_call 8; (first | (with_reducible refine (later_call _ (HW.out _)).mono ?_) | (with_reducible refine (call_later (HW.out _)).mono ?_)); rintro e w' ⟨rfl, x, rfl⟩))
      go_ret
      exact ⟨rfl, x.below⟩
  · have i1 : (s.size : Int) > 200 := by omega
    obtain ⟨A, c, rfl, _, _, _⟩ := h
    have HW := Lib.hid (fun W => awake_any W)
    clear h1
    go_enter Try.func3, Try.ntmps3
    go_wp2_with ((go_at_call 8; (first | (with_reducible refine (later_call _ (HW.out _)).mono ?_) | (with_reducible refine (call_later (HW.out _)).mono ?_)); rintro e w' ⟨rfl, x, rfl⟩))
    go_ret
    exact ⟨rfl, x.below⟩

set_option maxRecDepth 100000 in
theorem cutsAt_lifted (os : Os) (started : os.Started) (H : Type) (enc : TypeId × Value → H) :
    ReturnsInHanded {} Try.checked os 3 .any (Rows.cutsAtSpec.pre6 enc Try.prog Try.f3 Rows.cutsAtRow.domain false) (Rows.cutsAtSpec.post enc Try.prog Try.f3 false true false false) := by
  refine law_lift (C := Try.checked) (tb := 4) Try.own Try.laidOut started (by kernel_rfl) Try.func3
    (ChangeSpec.witness6 (enc := enc) (C := Try.checked) false ⟨#[], #[.string ⟨#[]⟩, .slice none 0 0], []⟩ 8 (by kernel_rfl) (by kernel_rfl) (by kernel_rfl) (by kernel_rfl))
    rfl Try.underlying4 (by intro t ht; have ht' : t ∈ [9, 22] := ht; simp at ht'; rcases ht' with rfl | rfl <;> exact ⟨by kernel_rfl, of_decide_eq_true (by kernel_rfl)⟩) rfl
    (fun ds h => match ds, h with | [_, _], _ => rfl) ?_
  intro W base args ds ps hh
  obtain ⟨v, v', d, d', p, p', rfl, hv, hv', h0, h0'⟩ := handed_two Try.params3 hh
  obtain ⟨s, rfl, hs⟩ := open_text hv h0
  obtain ⟨L, hL, hla⟩ := open_nums hv' h0'
  exact cutsAt_any s v' L W hL hla

theorem cutsAt_holds : Rows.CutsAtSaid :=
  OpenClaim.holds_of_wide 3 Try.f3 rfl rfl rfl rfl rfl rfl rfl ⟨rfl, rfl, rfl, rfl, rfl⟩ rfl rfl rfl rfl rfl (by kernel_rfl) Try.func3 (by kernel_rfl)
    (of_decide_eq_true (by kernel_rfl)) (by unfold Func.isWrapper; first | (rw [if_pos (by decide +kernel)]; kernel_rfl) | (rw [if_neg (by decide +kernel)]; exact ⟨rfl, rfl⟩))
    (fun os started H enc _ => cutsAt_lifted os started H enc)
#print axioms cutsAt_holds

end Go.Proofs.Ytmfhnmdgcjlnpaa
