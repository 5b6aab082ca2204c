/-
  The law BomOwn returns true for every two pieces. Conditions: none.
-/
import Derived.Test.YtnmcbilnebfcfaaRows
import Derived.Test.YtnmcbilnebfcfaaOpenB
import Derived.Test.YtnmcbilnebfcfaaBomL
import Derived.Deep.RegionWith
namespace Go.Proofs.Ytnmcbilnebfcfaa
open Go.ChangeShapes Go.WideShapes Go.ChangeAt Go.RowKit Go.Joins

theorem told_close (a : ByteArray) : toldS a ++ markB.extract 0 (heldN a) = stripS a := by
  unfold toldS heldN
  by_cases h : waits a
  · rw [if_pos h, if_pos h, none_append, strip_waits a h]
    exact (waits_mark h).symm
  · rw [if_neg h, if_neg h]
    have : markB.extract 0 0 = ⟨#[]⟩ := by decide +kernel
    rw [this, append_none]

theorem told_none : toldS ⟨#[]⟩ = ⟨#[]⟩ := by decide +kernel
/-- All that is handed on of two pieces. -/
theorem told_two (a b : ByteArray) : outS ⟨#[]⟩ a ++ outS a b ++ markB.extract 0 (heldN (a ++ b)) = stripS (a ++ b) := by
  have h1 := told_out ⟨#[]⟩ a
  rw [none_append, told_none, none_append] at h1
  rw [← h1, ← told_out, told_close]

theorem strip_size (s : ByteArray) : (stripS s).size ≤ s.size := by
  unfold stripS
  split
  · rw [ByteArray.size_extract]; omega
  · omega

theorem out_size (s : ByteArray) : (outS ⟨#[]⟩ s).size ≤ s.size := by
  unfold outS
  rw [if_pos waits_none, none_append]
  unfold toldS
  split
  · show 0 ≤ _; omega
  · exact strip_size s

theorem own_many (A B : Option Addr) (n c m d : Nat) (w : World) (h : 100 < n ∨ 100 < m) (hn : n ≤ 9223372036854775807) (hm : m ≤ 9223372036854775807) : Calls Try.prog 5 #[.slice A n c, .slice B m d] w (Gives (.bool true) w) := by
  apply Gives.of
  by_cases h1 : 100 < n
  · have hI : (100 : Int) < (n : Int) := by omega
    have hd : decide ((100 : Int) < (n : Int)) = true := decide_eq_true hI
    go_enter Try.func5, Try.ntmps5
    go_wp2_with fail
    go_at_call 9
    refine (new_any w).mono ?_
    rintro e w1 ⟨q, hq, rfl, _, hb⟩
    have HB := Lib.hid hb
    clear hb
    go_wp2_with (go_at_call 8; (first | (with_reducible refine (later_call _ (awake_any _)).mono ?_) | (with_reducible refine (call_later (awake_any _)).mono ?_)); rintro e w' ⟨rfl, x, rfl⟩)
    go_ret
    exact ⟨rfl, later_below' _ HB.out⟩
  · have h2 : 100 < m := by omega
    have hI : ¬ (100 : Int) < (n : Int) := by omega
    have hd : decide ((100 : Int) < (n : Int)) = false := decide_eq_false hI
    have hI2 : (100 : Int) < (m : Int) := by omega
    have hd2 : decide ((100 : Int) < (m : Int)) = true := decide_eq_true hI2
    go_enter Try.func5, Try.ntmps5
    go_wp2_with fail
    go_at_call 9
    refine (new_any w).mono ?_
    rintro e w1 ⟨q, hq, rfl, _, hb⟩
    have HB := Lib.hid hb
    clear hb
    go_wp2_with (go_at_call 8; (first | (with_reducible refine (later_call _ (awake_any _)).mono ?_) | (with_reducible refine (call_later (awake_any _)).mono ?_)); rintro e w' ⟨rfl, x, rfl⟩)
    go_ret
    exact ⟨rfl, later_below' _ HB.out⟩

set_option maxHeartbeats 4000000 in
theorem own_any (A B : Option Addr) (c d : Nat) (s t : ByteArray) (w : World) (hs : s.size ≤ 100) (ht : t.size ≤ 100) (hA : Txt w w.heap.size A s.size c s) (hB : Txt w w.heap.size B t.size d t) : Calls Try.prog 5 #[.slice A s.size c, .slice B t.size d] w (Gives (.bool true) w) := by
  apply Gives.of
  obtain ⟨i0, hi, hz0, hz1, hz2⟩ := info_parts u8_info
  have HA := Lib.hid hA
  have HBt := Lib.hid hB
  have hIa := hA.le
  have hIb := hB.le
  have hI : ¬ (100 : Int) < (s.size : Int) := by omega
  have hd : decide ((100 : Int) < (s.size : Int)) = false := decide_eq_false hI
  have hI2 : ¬ (100 : Int) < (t.size : Int) := by omega
  have hd2 : decide ((100 : Int) < (t.size : Int)) = false := decide_eq_false hI2
  obtain ⟨u1, hu1⟩ : ∃ u, outS ⟨#[]⟩ s = u := ⟨_, rfl⟩
  obtain ⟨u2, hu2⟩ : ∃ u, outS s t = u := ⟨_, rfl⟩
  have hzu : u1.size ≤ 100 := by rw [← hu1]; have := out_size s; omega
  obtain ⟨u3, hu3⟩ : ∃ u, markB.extract 0 (heldN (s ++ t)) = u := ⟨_, rfl⟩
  have htwo : u1 ++ u2 ++ u3 = stripS (s ++ t) := by rw [← hu1, ← hu2, ← hu3]; exact told_two s t
  have HU3 := Lib.hid hu3
  have HU1 := Lib.hid hu1
  have HU2 := Lib.hid hu2
  have HTWO := Lib.hid htwo
  clear hA hB hu1 hu2 hu3 htwo
  go_enter Try.func5, Try.ntmps5
  go_wp2_with fail
  go_at_call 9
  refine (new_any w).mono ?_
  rintro e w1 ⟨q, hq, rfl, hst, hb⟩
  have HB1 := Lib.hid hb
  have HS1 := Lib.hid hst
  have hlt1 : q < w1.heap.size := hst.lt
  clear hb hst
  have HO := Lib.hid (Own.built w1 5)
  have HSR := Lib.hid (((HA.out.below HB1.out).below ((Below.refl w.heap.size w1).alloc HB1.out.size (.cells #[] 5))).src (P := Try.prog) (tx := 31) Try.underlying31)
  go_wp2_with (at_builtin; refine wpList_append_text rfl (.tmp 32) (.tmp 33) _ _ rfl 5 i0 _ Try.underlying31 hi hz0 hz1 hz2 rfl rfl HO.out rfl HSR.out (by simp) (by omega) ?_; intro A2 c2 w2 ho2 hg2 _h2)
  have ho2' : Own w2 w1.heap.size A2 s.size c2 s := by rw [none_append, Nat.zero_add] at ho2; exact ho2
  have hst2 : StBox w2 q ⟨#[]⟩ false := (HS1.out.alloc _).grown hg2 (by simp; omega)
  have HB2 : Hid (Below w.heap.size w w2) := Lib.hid ((HB1.out.alloc HB1.out.size _).grown hg2 (by have := HB1.out.size; simp; omega) (fun g hg => by simp at hg; have := HB1.out.size; omega))
  have hz12 : w1.heap.size < w2.heap.size := by have := hg2.size; simp at this; omega
  clear ho2 hg2
  go_at_call 10
  refine (feed_is ho2'.txt hst2 (by omega) HU1.out (none_append s)).mono ?_
  rintro e w3 ⟨A3, c3, rfl, ho3, hg3, hst3⟩
  have HB3 := Lib.hid (HB2.out.grown hg3 HB2.out.size (fun g hg => by injection hg with hg; omega))
  have HO2 : Hid (Own w3 w1.heap.size A2 s.size c2 s) := Lib.hid (ho2'.grown hg3 (fun a ha hc => by have := (ho2'.lt ha).1; injection hc with hc; omega))
  have HA2 : Hid (∀ a, A2 = some a → w1.heap.size ≤ a.block ∧ a.block < w2.heap.size) := Lib.hid (fun a ha => ho2'.lt ha)
  have HO3 := Lib.hid ho3
  have HS3 := Lib.hid hst3
  have hcv3 : (convert 31 9 (.slice A3 u1.size c3)).run Try.prog w3 = .ok (.string u1) w3 := ho3.txt.str _ _ _ Try.underlying31 Try.underlying5 Try.underlying9
  clear ho2' hst2 hg3 ho3 hst3
  go_wp2_with fail
  go_loopw [42] (fun i (wr : World) => ∃ k : Nat, k ≤ s.size ∧ i = .int .i64 k ∧ w3.grownBy wr (A2.map (·.block)) ∧ Wri wr A2 s.size) (fun i _ => s.size - (intOf i).toNat)
  case atStart => exact ⟨0, by omega, rfl, grown_refl _ _, HO2.out.wri⟩
  case round =>
    obtain ⟨k, hk, rfl, hgr, hwr⟩ := hrel
    have HGR := Lib.hid hgr
    have HWR := Lib.hid hwr
    clear hgr hwr
    by_cases hks : k < s.size
    · have hkd : decide (k < s.size) = true := decide_eq_true hks
      have hkI : (k : Int) < (s.size : Int) := by omega
      obtain ⟨g, hgA, hlt, hc⟩ := HWR.out (by omega)
      subst hgA
      obtain ⟨⟨v, hv⟩, hf⟩ := hc k hks
      clear hc
      go_wp2_with fail
      exact ⟨⟨k + 1, by omega, by go_num, HGR.out.trans' (grown_set _ _ _ _), HWR.out.set hks _⟩, by simp [intOf]; omega⟩
    · have hkd : decide (k < s.size) = false := decide_eq_false hks
      have hkI : ¬ (k : Int) < (s.size : Int) := by omega
      have hne3 : ∀ a, A3 = some a → some a.block ≠ A2.map (·.block) := fun a ha hc => by
        have h1 := (HO3.out.lt ha).1
        cases A2 with
        | none => simp at hc
        | some a2 =>
          have h2 := (HA2.out a2 rfl).2
          simp at hc
          omega
      have ho3 : Own wr w2.heap.size A3 u1.size c3 u1 := HO3.out.grown HGR.out hne3
      have hst3 : StBox wr q s false := HS3.out.grown HGR.out (fun hc => by
        cases A2 with
        | none => simp at hc
        | some a2 =>
          have h2 := (HA2.out a2 rfl).1
          simp at hc
          omega)
      have HB4 := Lib.hid (HB3.out.grown HGR.out HB3.out.size (fun g hg => by
        cases A2 with
        | none => simp at hg
        | some a2 =>
          have h2 := (HA2.out a2 rfl).1
          have := HB1.out.size
          simp at hg
          omega))
      have hcv4 : (convert 31 9 (.slice A3 u1.size c3)).run Try.prog wr = .ok (.string u1) wr := ho3.txt.str _ _ _ Try.underlying31 Try.underlying5 Try.underlying9
      have HO4 := Lib.hid ho3
      have HS4 := Lib.hid hst3
      have hqr : q < wr.heap.size := hst3.lt
      have hw1 := HB1.out.size
      clear ho3 hst3 hne3
      go_wp2_with fail
      obtain ⟨wo, rfl⟩ : ∃ wo : World, wo = wr := ⟨_, rfl⟩
      go_loopw [58] (fun i (wr : World) => ∃ k : Nat, k ≤ u1.size ∧ i = .int .i64 k ∧ wo.grownBy wr (A3.map (·.block)) ∧ Wri wr A3 u1.size) (fun i _ => u1.size - (intOf i).toNat)
      case atStart => exact ⟨0, by omega, rfl, grown_refl _ _, HO4.out.wri⟩
      case round =>
        obtain ⟨k, hk, rfl, hgr, hwr⟩ := hrel
        have HGR2 := Lib.hid hgr
        have HWR2 := Lib.hid hwr
        clear hgr hwr
        by_cases hks : k < u1.size
        · have hkd : decide (k < u1.size) = true := decide_eq_true hks
          have hkI : (k : Int) < (u1.size : Int) := by omega
          obtain ⟨g, hgA, hlt, hc⟩ := HWR2.out (by omega)
          subst hgA
          obtain ⟨⟨v, hv⟩, hf⟩ := hc k hks
          clear hc
          go_wp2_with fail
          exact ⟨⟨k + 1, by omega, by go_num, HGR2.out.trans' (grown_set _ _ _ _), HWR2.out.set hks _⟩, by simp [intOf]; omega⟩
        · have hkd : decide (k < u1.size) = false := decide_eq_false hks
          have hkI : ¬ (k : Int) < (u1.size : Int) := by omega
          have hst5 : StBox wr q s false := HS4.out.grown HGR2.out (fun hc => by
            cases A3 with
            | none => simp at hc
            | some a3 =>
              have h2 := (HO3.out.lt rfl).1
              simp at hc
              omega)
          have HB5 := Lib.hid (HB4.out.grown HGR2.out HB4.out.size (fun g hg => by
            cases A3 with
            | none => simp at hg
            | some a3 =>
              have h2 := (HO3.out.lt rfl).1
              simp at hg
              omega))
          have HTB := Lib.hid (HBt.out.below HB5.out)
          have htwo := HTWO.out
          have hsum : u1.size + u2.size + u3.size ≤ 9223372036854775807 := by
            rw [← ByteArray.size_append, ← ByteArray.size_append, htwo]
            have := strip_size (s ++ t)
            rw [ByteArray.size_append] at this
            omega
          have hsum1 : u1.size + u2.size ≤ 9223372036854775807 := by omega
          have hN : heldN (s ++ t) ≤ 3 := by unfold heldN; split <;> (first | (rename_i hw; have := hw.2; omega) | omega)
          have hmx : (s ++ t).size ≤ maxLen := by rw [ByteArray.size_append]; unfold maxLen; omega
          have HK1 : Hid (∀ W, Calls Try.prog 7 #[.string (s ++ t)] W (Gives (.tuple #[.string (stripS (s ++ t)), .int .i64 (hadN (s ++ t))]) W)) := Lib.hid (fun W => strip_ref _ W hmx)
          have HS5 := Lib.hid hst5
          have hqr5 : q < wr.heap.size := hst5.lt
          have HN := Lib.hid hN
          clear hst5 hmx hN
          go_wp2_with fail
          go_region_with (first | (go_at_call 10; refine (feed_is (u := u2) (w := wr.drew) (HTB.out.more HB5.out.size) HS5.out (by omega) HU2.out rfl).mono ?_; rintro e w6 ⟨A6, c6, rfl, ho6, hg6, hst6⟩; have HO6 := Lib.hid ho6; have HG6 := Lib.hid hg6; have HS6 := Lib.hid hst6; have hcv6 : (convert 31 9 (.slice A6 u2.size c6)).run Try.prog w6 = .ok (.string u2) w6 := ho6.txt.str _ _ _ Try.underlying31 Try.underlying5 Try.underlying9; clear ho6 hg6 hst6) | (go_at_call 15; refine (close_any (heldN (s ++ t)) q _ _ _ w6 HS6.out HN.out).mono ?_; rintro e w7 ⟨A7, c7, rfl, ho7, hg7, _h7⟩; have hcv7 : (convert 31 9 (.slice A7 (heldN (s ++ t)) c7)).run Try.prog w7 = .ok (.string u3) w7 := HU3.out ▸ ho7.txt.str _ _ _ Try.underlying31 Try.underlying5 Try.underlying9; have hcv67 : (convert 31 9 (.slice A6 u2.size c6)).run Try.prog w7 = .ok (.string u2) w7 := (HO6.out.grown hg7 (fun a ha hc => by have h1 : wr.heap.size ≤ a.block := (HO6.out.lt ha).1; injection hc with hc; omega)).txt.str _ _ _ Try.underlying31 Try.underlying5 Try.underlying9; have HB7 : Hid (Below w.heap.size w w7) := Lib.hid (((HB5.out.drew).grown HG6.out HB5.out.size (fun g hg => by injection hg with hg; omega)).grown hg7 (Nat.le_trans HB5.out.size HG6.out.size) (fun g hg => by injection hg with hg; omega)); clear ho7 hg7 _h7))
          all_goals
            have hcA : (convert 31 9 (.slice A s.size c)).run Try.prog w7 = .ok (.string s) w7 := (HA.out.below HB7.out).str _ _ _ Try.underlying31 Try.underlying5 Try.underlying9
            have hcB : (convert 31 9 (.slice B t.size d)).run Try.prog w7 = .ok (.string t) w7 := (HBt.out.below HB7.out).str _ _ _ Try.underlying31 Try.underlying5 Try.underlying9
            go_wp2_with (first | (go_at_call 7; (first | (with_reducible refine (later_call _ (HK1.out _)).mono ?_) | (with_reducible refine (call_later (HK1.out _)).mono ?_)); rintro e w' ⟨rfl, x, rfl⟩) | (go_at_call 8; (first | (with_reducible refine (later_call _ (awake_any _)).mono ?_) | (with_reducible refine (call_later (awake_any _)).mono ?_)); rintro e w' ⟨rfl, x, rfl⟩))
            go_ret
            exact ⟨rfl, (by (repeat (first | (with_reducible exact HB7.out) | (with_reducible refine later_below' _ ?_))))⟩

theorem own_all (A B : Option Addr) (c d : Nat) (s t : ByteArray) (w : World) (hA : Txt w w.heap.size A s.size c s) (hB : Txt w w.heap.size B t.size d t) (hc : c ≤ 140737488351232) (hd : d ≤ 140737488351232) : Calls Try.prog 5 #[.slice A s.size c, .slice B t.size d] w (Gives (.bool true) w) := by
  by_cases h : 100 < s.size ∨ 100 < t.size
  · exact own_many A B s.size c t.size d w h (by have := hA.le; omega) (by have := hB.le; omega)
  · exact own_any A B c d s t w (by omega) (by omega) hA hB

set_option maxRecDepth 100000 in
theorem bomOwn_lifted (os : Os) (started : os.Started) (H : Type) (enc : TypeId × Value → H) :
    ReturnsInHanded {} Try.checked os 5 .any (Rows.bomOwnSpec.pre6 enc Try.prog Try.f5 Rows.bomOwnRow.domain false) (Rows.bomOwnSpec.post enc Try.prog Try.f5 false true false false) := by
  refine law_lift (C := Try.checked) (tb := 4) Try.own Try.laidOut started (by kernel_rfl) Try.func5
    (ChangeSpec.witness6 (enc := enc) (C := Try.checked) false ⟨#[], #[.slice none 0 0, .slice none 0 0], []⟩ 8 (by kernel_rfl) (by kernel_rfl) (by kernel_rfl) (by kernel_rfl))
    rfl Try.underlying4 (by intro t ht; have ht' : t ∈ [31, 31] := ht; simp at ht'; rcases ht' with rfl <;> exact ⟨by kernel_rfl, of_decide_eq_true (by kernel_rfl)⟩) rfl
    (fun ds h => match ds, h with | [_, _], _ => rfl) ?_
  intro W base args ds ps hh
  obtain ⟨v, v', d, d', p, p', rfl, ⟨hv, h0, hw⟩, ⟨hv', h0', hw'⟩⟩ := weigh_two Try.params5 hh
  obtain ⟨A, c, s, rfl, hs, hc⟩ := open_bytes hv h0 hw
  obtain ⟨B, e, t, rfl, ht, he⟩ := open_bytes hv' h0' hw'
  exact own_all A B c e s t W hs ht hc he

theorem bomOwn_holds : Rows.BomOwnSaid :=
  OpenClaim.holds_of_wide 5 Try.f5 rfl rfl rfl rfl rfl rfl rfl ⟨rfl, rfl, rfl, rfl, rfl⟩ rfl rfl rfl rfl rfl (by kernel_rfl) Try.func5 (by kernel_rfl)
    (of_decide_eq_true (by kernel_rfl)) (by unfold Func.isWrapper; first | (rw [if_pos (by decide +kernel)]; kernel_rfl) | (rw [if_neg (by decide +kernel)]; exact ⟨rfl, rfl⟩))
    (fun os started H enc _ => bomOwn_lifted os started H enc)
#print axioms bomOwn_holds

end Go.Proofs.Ytnmcbilnebfcfaa
