/-
  Walks: the library's sort, copy and join in these texts' words; a text's pieces at places.
-/
import Derived.Test.YtmfhnmdgcjlnpaaRows
import Derived.Test.YtmfhnmdgcjlnpaaCtH
import Derived.Test.YtmfhnmdgcjlnpaaCtSh
import Derived.Test.YtmfhnmdgcjlnpaaCtR
import Derived.Sort.OwnSortedInts
import Derived.Laws.MakeOwn
import Derived.Lib.Hide
import Derived.StillTailTactics
namespace Go.Proofs.Ytmfhnmdgcjlnpaa
open Go.RowKit

def srt (L : List Int) : List Int := L.mergeSort fun x y => decide (x ≤ y)
theorem srt_len (L : List Int) : (srt L).length = L.length := by unfold srt; simp

theorem sort_any (b : Nat) (v : Value) (L : List Int) (w : World) (h : OwnI w b v L) (hl : L.length < 100000000) :
    Calls Try.prog 22 #[v] w (fun e w' => e = .returned (.tuple #[]) ∧ OwnI w' b v (srt L) ∧ w.grownBy w' v.ownBlock) := by
  have h' := h
  rcases h.2 with ⟨rfl, hn⟩ | ⟨g, cap, cur, rfl, h4, h5, h6, h7, h8, h9⟩
  · obtain rfl : L = [] := List.length_eq_zero_iff.1 hn
    refine (Sh.slices_Sort_int_none none 0 w).mono ?_
    rintro e w' ⟨rfl, rfl⟩
    exact ⟨rfl, by rw [show srt [] = [] from List.length_eq_zero_iff.1 (srt_len [])]; exact World.ownsRow_nil _ _ _ _, grown_refl _ _⟩
  · have hH : Go.Sort.Holds (Value.int .i64) w g 0 L.toArray := by
      intro j hj
      have hj' : j < L.length := by simpa using hj
      constructor
      · rw [Nat.zero_add, h'.cellAt j (by omega), intC_get, List.getElem?_eq_getElem hj']
        simp [hj']
      · rw [Nat.zero_add]; exact h'.frozenAt j
    refine (Sh.slices_Sort_int g 0 cap L w hH (Array.getElem?_eq_some_iff.1 h5).1 (by omega)).mono ?_
    rintro e w' ⟨rfl, n, os, rfl⟩
    refine ⟨rfl, ?_, Go.grownBy_sortedI _⟩
    have := Go.ownsRow_sortedI (n := n) (os := os) (ss := L) (ts := srt L) (srt_len L) h4 h5 h6 h7 h8
    unfold OwnI
    rw [srt_len]
    exact this

theorem ints_form {w : World} {v : Value} {L : List Int} (h : Ints w v L) (hl : 0 < L.length) : ∃ b off c, v = .slice (some ⟨b, off, none⟩) L.length c ∧ L.length ≤ c ∧ c ≤ maxLen ∧ b < w.heap.size ∧ ∀ j, j < L.length → w.cell? ⟨b, off + j, none⟩ = some (.int .i64 (L.getD j 0)) := by
  obtain ⟨A, c, rfl, h1, h2, h3⟩ := h
  obtain ⟨⟨b, off, sp⟩, rfl, hc0⟩ := h3 0 _ (List.getElem?_eq_getElem hl)
  have hspot : sp = none := by simpa [Addr.add] using World.cell?_spot hc0
  subst hspot
  refine ⟨b, off, c, rfl, h1, h2, ?_, fun j hj => ?_⟩
  · exact World.block_lt_of_cell? w (⟨b, off, none⟩ : Addr) (show w.cell? ⟨b, off, none⟩ = some _ by simpa [Addr.add] using hc0)
  · obtain ⟨a', e, hc⟩ := h3 j _ (List.getElem?_eq_getElem hj)
    injection e with e
    subst e
    have : (⟨b, off, none⟩ : Addr).add j = ⟨b, off + j, none⟩ := by unfold Addr.add; split <;> simp_all
    rw [this] at hc
    simpa [List.getD, hj] using hc

theorem copy_any (v : Value) (L : List Int) (w : World) (h : Ints w v L) (hl : L.length < 100000000) :
    Calls Try.prog 21 #[v] w (fun e w' => ∃ v', e = .returned v' ∧ OwnI w' w.heap.size v' L ∧ Below w.heap.size w w') := by
  by_cases h0 : 0 < L.length
  · obtain ⟨b, off, c, rfl, h1, h2, _, h3⟩ := ints_form h h0
    refine (Sh.slices_Clone_int b off L.length c L w (Nat.le_refl _) (by omega) h3).mono ?_
    rintro e w' ⟨v', rfl, ho, _, hb⟩
    rw [List.take_length] at ho
    exact ⟨v', rfl, ho, hb⟩
  · obtain rfl : L = [] := List.length_eq_zero_iff.1 (by omega)
    obtain ⟨A, c, rfl, h1, h2, h3⟩ := h
    cases A with
    | none =>
      refine (Sh.slices_Clone_int_nil _ c w).mono ?_
      rintro e w' ⟨rfl, rfl⟩
      exact ⟨_, rfl, World.ownsRow_nil _ _ _ _, Below.refl _ _⟩
    | some a =>
      refine (Sh.slices_Clone_int_zero a c w).mono ?_
      rintro e w' ⟨v', rfl, ho, _, hb⟩
      exact ⟨v', rfl, ho, hb⟩

theorem toList_append (a b : ByteArray) : (a ++ b).data.toList = a.data.toList ++ b.data.toList := by
  simp
theorem join_cat (L : List ByteArray) : Lib.join (L.map (·.data.toList)) [] = (catB L).data.toList := by
  induction L with
  | nil => rfl
  | cons s L ih =>
    cases L with
    | nil => simp [Lib.join, catB, append_none]
    | cons t L =>
      rw [show catB (s :: t :: L) = s ++ catB (t :: L) from rfl, toList_append, ← ih]
      simp [Lib.join]

theorem join_any (v : Value) (L : List ByteArray) (w : World) (h : Strs w v L) (hl : L.length ≤ 140737488355328) (hs : (catB L).size ≤ 140737488355328) :
    Calls Try.prog 24 #[v, .string ⟨#[]⟩] w (Gives (.string (catB L)) w) := by
  have e1 : (⟨#[]⟩ : ByteArray).data.toList = [] := rfl
  have e2 : (⟨(Lib.join (L.map (·.data.toList)) []).toArray⟩ : ByteArray) = catB L := by rw [join_cat]
  by_cases h0 : 0 < L.length
  · obtain ⟨A, c, rfl, h1, h2, h3⟩ := h
    obtain ⟨⟨b, off, sp⟩, rfl, hc0⟩ := h3 0 _ (List.getElem?_eq_getElem h0)
    have hspot : sp = none := by simpa [Addr.add] using World.cell?_spot hc0
    subst hspot
    have hb : b < w.heap.size := World.block_lt_of_cell? w (⟨b, off, none⟩ : Addr) (show w.cell? ⟨b, off, none⟩ = some _ by simpa [Addr.add] using hc0)
    refine (Sh.strings_Join b off c L ⟨#[]⟩ w ?_ hb hl h1 ?_).mono ?_
    · intro j x hx
      obtain ⟨a', e, hc⟩ := h3 j x hx
      injection e with e
      subst e
      have : (⟨b, off, none⟩ : Addr).add j = ⟨b, off + j, none⟩ := by unfold Addr.add; split <;> simp_all
      rw [this] at hc
      exact hc
    · rw [e1, join_cat]
      simpa using hs
    · rintro e w' ⟨rfl, hb⟩
      rw [e1, e2]
      exact ⟨rfl, hb⟩
  · obtain rfl : L = [] := List.length_eq_zero_iff.1 (by omega)
    obtain ⟨A, c, rfl, h1, h2, h3⟩ := h
    refine (Sh.strings_Join_none A c ⟨#[]⟩ w).mono ?_
    rintro e w' ⟨rfl, rfl⟩
    exact ⟨rfl, Below.refl _ _⟩

theorem joinP_any (v : Value) (L : List ByteArray) (w : World) (h : Strs w v L) (hl : L.length ≤ 140737488355328) (hs : (catB L).size ≤ 140737488355328) :
    Calls Try.prog 13 #[v] w (Gives (.string (catB L)) w) := by
  apply Gives.of
  have HJ := Lib.hid (join_any v L w h hl hs)
  clear h
  go_enter Try.func13, Try.ntmps13
  go_wp2_with ((go_at_call 24; (first | (with_reducible refine (later_call _ (HJ.out)).mono ?_) | (with_reducible refine (call_later (HJ.out)).mono ?_)); rintro e w' ⟨rfl, x, rfl⟩))
  go_ret
  exact ⟨rfl, x.below⟩

theorem own_some {w : World} {b n c : Nat} {A : Option Addr} {L : List Int} (h : OwnI w b (.slice A n c) L) (hl : 0 < L.length) : ∃ a, A = some a := by
  obtain ⟨A', c', e, _, _, h3⟩ := h.ints
  injection e with e1 e2 e3
  subst e1
  obtain ⟨a', e, hc⟩ := h3 0 _ (List.getElem?_eq_getElem hl)
  exact ⟨a', e⟩

theorem make_strs (n : Nat) (hn : n ≤ 1000) : ∃ cs : Array Value, cs.size = (n + 1) * 1 ∧ ∀ W : World, (Instr.makeSlice 24 (.int .i64 0) (.int .i64 ((n : Int) + 1))).run Try.prog W = .ok (.slice (some ⟨W.heap.size, 0, none⟩) 0 (n + 1)) (W.alloc (.cells cs 9)) := by
  obtain ⟨i0, hi, hz0, hz1, hz2⟩ := info_parts str_info
  refine ⟨madeCells (Value.string ⟨#[]⟩).cells (((n : Int) + 1).toNat * i0.size), ?_, fun W => ?_⟩
  · have e : ((n : Int) + 1).toNat = n + 1 := by omega
    rw [e, hz1]
    exact size_madeCells _ _
  · have := run_makeSlice (P := Try.prog) W 24 9 i0 _ Try.underlying24 hi hz0 .i64 .i64 0 ((n : Int) + 1) (Int.le_refl _) (by omega) (by rw [hz1]; omega) (by rw [hz2]; omega) (by omega)
    have e : ((n : Int) + 1).toNat = n + 1 := by omega
    rw [this, e]
    rfl

set_option maxHeartbeats 2000000 in
theorem at_any (s : ByteArray) (v : Value) (ps : List Int) (w : World) (h : Ints w v ps) (hs : s.size ≤ 200) (hp : ps.length ≤ 40) :
    Calls Try.prog 9 #[.string s, v] w (fun e w' => ∃ v', e = .returned v' ∧ OwnS w' w.heap.size v' (cutAt s (heldS s ps)) ∧ Below w.heap.size w w') := by
  have HC := Lib.hid (copy_any v ps w h (by omega))
  obtain ⟨cs, hcs, hmk⟩ := make_strs ps.length (by omega)
  have HCS := Lib.hid hcs
  clear h hcs
  go_enter Try.func9, Try.ntmps9
  go_wp2_with (first
    | (go_at_call 21; refine HC.out.mono ?_; rintro e w1 ⟨v1, rfl, ho1, hb1⟩; have HS := Lib.hid (sort_any w.heap.size v1 ps w1 ho1 (by omega)); have HO1 := Lib.hid ho1; have HB1 := Lib.hid hb1; obtain ⟨A1, c1, rfl, hc1, hc2⟩ := owns_len ho1; clear ho1 hb1)
    | (go_at_call 22; refine HS.out.mono ?_; rintro e w2 ⟨rfl, ho2, hg2⟩; have HB2 := Lib.hid (HB1.out.trans (below_grown hg2 HB1.out.size (fun g hg => (HO1.out.lt g hg).1))); have HO2 := Lib.hid ho2; clear ho2 hg2))
  have hM : OwnS (w2.alloc (.cells cs 9)) w2.heap.size (.slice (some ⟨w2.heap.size, 0, none⟩) 0 (ps.length + 1)) [] := World.ownsRow_made w2 cs (ps.length + 1) (Nat.le_refl _) (by unfold maxLen; omega) HCS.out
  have HM := Lib.hid hM
  clear hM HC HS hmk
  have HL := Lib.hid (heldS_len s ps)
  have HR := Lib.hid (heldS_range s ps)
  have HO : Hid (∀ j, j < ps.length → bord (heldS s ps) j ≤ bord (heldS s ps) (j + 1)) := Lib.hid (by
    intro j hj
    rw [bord_succ _ _ (by rw [heldS_len]; exact hj)]
    cases j with
    | zero => exact (heldS_range s ps _ (List.getElem_mem _)).1
    | succ j =>
      rw [bord_succ _ _ (by rw [heldS_len]; omega)]
      exact List.pairwise_iff_getElem.1 (heldS_sorted s ps) _ _ _ _ (by omega))
  have HBR : Hid (∀ j, j ≤ ps.length → 0 ≤ bord (heldS s ps) j ∧ bord (heldS s ps) j ≤ (s.size : Int)) := Lib.hid (by
    intro j hj
    cases j with
    | zero => rw [bord_zero]; omega
    | succ j =>
      rw [bord_succ _ _ (by rw [heldS_len]; omega)]
      have := heldS_range s ps _ (List.getElem_mem (l := heldS s ps) (n := j) (by rw [heldS_len]; omega))
      omega)
  have HX : Hid (∀ j x, (srt ps)[j]? = some x → bord (heldS s ps) (j + 1) = held x s.size) := Lib.hid (by
    intro j x hx
    have hj : j < ps.length := by have := (List.getElem?_eq_some_iff.1 hx).1; rwa [srt_len] at this
    rw [bord_succ _ _ (by rw [heldS_len]; exact hj)]
    unfold heldS
    rw [List.getElem_map]
    unfold srt at hx
    rw [(List.getElem?_eq_some_iff.1 hx).2])
  go_loopw [6, 7, 9, 10, 21] (fun p f _ _ i (wr : World) => ∃ k : Nat, k ≤ ps.length ∧ i = .int .i64 k ∧ OwnS wr w2.heap.size p (cutF s (bord (heldS s ps)) k) ∧ f = .int .i64 (bord (heldS s ps) k) ∧ Below w2.heap.size w2 wr) (fun _ _ _ _ i _ => ps.length - (intOf i).toNat)
  case atStart => exact ⟨0, by omega, rfl, HM.out, rfl, (Below.refl _ _).alloc (Nat.le_refl _) _⟩
  case round =>
    obtain ⟨k, hk, rfl, ho, rfl, hb⟩ := hrel
    have HP := Lib.hid ho
    have HB := Lib.hid hb
    clear ho hb
    by_cases c1 : k < ps.length
    · have i1 : (k : Int) < (ps.length : Int) := by omega
      obtain ⟨x, hx⟩ : ∃ x, (srt ps)[k]? = some x := ⟨_, List.getElem?_eq_getElem (by rw [srt_len]; exact c1)⟩
      obtain ⟨a1, rfl⟩ := own_some HO2.out (by rw [srt_len]; omega)
      have ha : wr.cell? (a1.add k) = some (.int .i64 x) := own_int (owns_later HO2.out HB.out) k x hx
      have hbx := HX.out k x hx
      have hmm := held_minmax x s.size (by omega)
      have hb0 := HBR.out k (by omega)
      have hb1 := HBR.out (k + 1) (by omega)
      have hbm := HO.out k c1
      rw [hbx] at hb1 hbm
      have hlo : 0 ≤ bord (heldS s ps) k := hb0.1
      have hup : held x s.size ≤ (s.size : Int) := hb1.2
      have HBX := Lib.hid hbx
      clear hbx hx hb0 hb1
      go_wp2_with (at_builtin; refine append_str rfl (.tmp 30) (.tmp 35) rfl w2.heap.size u6 _ _ rfl rfl HP.out (by rw [cutF_len]; omega) HB.out.size ?_; intro A2 p2 w3 ho3 hb3 _ _; have HO3 := Lib.hid ho3; have HB3 := Lib.hid hb3; clear ho3 hb3)
      go_roundw
      case rel => exact ⟨k + 1, by omega, by go_num, by rw [cutF_succ, HBX.out]; exact HO3.out, congrArg _ HBX.out.symm, HB.out.trans HB3.out⟩
      case measure => simp [intOf]; omega
    · obtain rfl : k = ps.length := by omega
      have i1 : ¬ (ps.length : Int) < (ps.length : Int) := by omega
      have hb0 := HBR.out ps.length (Nat.le_refl _)
      have hlo : 0 ≤ bord (heldS s ps) ps.length := hb0.1
      have hup : bord (heldS s ps) ps.length ≤ (s.size : Int) := hb0.2
      clear hb0
      go_wp2_with (at_builtin; refine append_str rfl (.tmp 39) (.tmp 43) rfl w2.heap.size u6 _ _ rfl rfl HP.out (by rw [cutF_len]; omega) HB.out.size ?_; intro A2 p2 w3 ho3 hb3 _ _; have HO3 := Lib.hid ho3; have HB3 := Lib.hid hb3; clear ho3 hb3)
      refine bodyPost_ret (v := _) (by simp [results, Try.results9]; rfl) rfl ?_
      refine ⟨_, rfl, ?_, below_next HB2.out (Nat.le_refl _) (HB.out.trans HB3.out)⟩
      have := HO3.out
      unfold cutAt
      rw [HL.out]
      exact owns_less this HB2.out.size

end Go.Proofs.Ytmfhnmdgcjlnpaa
