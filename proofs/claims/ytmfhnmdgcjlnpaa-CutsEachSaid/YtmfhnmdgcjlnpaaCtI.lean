/-
  Walks: the iterator of all ways.
-/
import Derived.Test.YtmfhnmdgcjlnpaaRows
import Derived.Test.YtmfhnmdgcjlnpaaRng
import Derived.Test.YtmfhnmdgcjlnpaaCtW
import Derived.Lib.Hide
import Derived.RangeFuncNested
import Derived.RangeFuncBound
import Derived.RangeFuncCalls
import Derived.RangeFuncLeaves
import Derived.Shelf.Abstract
import Derived.Shelf.RegionOpen
import Derived.WalkKit
import Derived.OwnWalkIn
import Derived.TacticsInMore
import Derived.LoopNIn
import Derived.LoopIn
namespace Go.Proofs.Ytmfhnmdgcjlnpaa
open Go.RowKit Go.Shelf
attribute [local go_sem] Oper.semAt_some

theorem keeps_new {w w' : World} (hb : Below w.heap.size w w') (B : Nat) : Keeps w w' (fun k => B ≤ k) := ⟨hb.os, hb.tape, hb.output, hb.size, fun i hi _ => hb.block i hi⟩
theorem Stab.below {α : Type} {B : Nat} {J : α → World → Prop} (h : Stab B J) {i : α} {W W' : World} (hj : J i W) (hb : Below W.heap.size W W') : J i W' := h i W W' hj (keeps_new hb B)

/-- How many ways. -/
def manyW (n : Int) : Nat := if n < 0 then 0 else if n > 16 then 0 else 2 ^ (n.toNat - 1)
theorem manyW_eq (n : Int) : cntN n = (manyW n : Int) := by
  unfold cntN manyW
  split
  · rfl
  · split
    · rfl
    · simp
theorem manyW_le (n : Int) : manyW n ≤ 32768 := by
  unfold manyW
  split
  · omega
  · split
    · omega
    · have : 2 ^ (n.toNat - 1) ≤ 2 ^ 15 := Nat.pow_le_pow_right (by omega) (by omega)
      omega
/-- What a round is handed: the places of its way. -/
def GivW (b : Nat) (n : Int) (i : Nat) (v : Value) (W : World) : Prop := OwnI W b v (wayL i (n.toNat - 1))

set_option maxHeartbeats 2000000 in
theorem ways1_iter (n : Int) (q m : Nat) (S : Nat → Prop) (w : World) (hq : Box w q 3 #[.int .i64 n]) (hS : ¬ S q) (hm : 3 ≤ m) :
    Iter Fence.wide m Try.prog 26 #[.pointer (some ⟨q, 0, none⟩)] (manyW n) (GivW w.heap.size n) S w := by
  intro l J Jx W hW hl1 hl2 hJ hJx hY h0
  have hqW : Box W q 3 #[.int .i64 n] := hq.keeps hW hS
  have q0 : W.cell? ⟨q, 0, none⟩ = some (.int .i64 n) := hqW.cell 0
  have hC := count_any n W
  rw [manyW_eq] at hC
  have HC := Lib.hid hC
  have hlt := hq.lt
  clear hC
  have hE : cntE n = 0 ∨ (¬ cntE n = 0 ∧ manyW n = 0) := by
    unfold cntE manyW
    split
    · exact .inr ⟨by omega, rfl⟩
    · split
      · exact .inr ⟨by omega, rfl⟩
      · exact .inl rfl
  have h1 : 1 ≤ m := by omega
  rcases hE with hE | ⟨hE, hz⟩
  · have e1 : (cntE n != 0) = false := by rw [hE]; rfl
    clear hE
    refine callsIn_of_wp Try.func26 rfl trivial ?_ rfl
    simp only [Try.ntmps26, List.size_toArray, List.length_cons, List.length_nil, Nat.reduceAdd, Nat.reduceSub, Array.replicate_succ, Array.replicate_zero, List.push_toArray, List.append_toArray, List.nil_append, List.cons_append]
    gi_wp2_with (refine ⟨trivial, ?_⟩; gi_at_call 17; refine (callsIn_wide.2 HC.out).mono ?_; rintro e w1 ⟨rfl, hb1⟩)
    have h01 := hJ.below h0 hb1
    have hs1 := hb1.size
    have hq1 : Box w1 q 3 #[.int .i64 n] := hqW.kept (hb1.block _ hqW.lt)
    have HS1 := Lib.hid hs1
    have hml := manyW_le n
    clear HC q0 hb1 hs1
    gi_loopw [5, 14] (fun _ i (wr : World) => ∃ k : Nat, k ≤ manyW n ∧ i = .int .i64 k ∧ J k wr ∧ W.heap.size ≤ wr.heap.size ∧ Box wr q 3 #[.int .i64 n]) (fun _ i _ => manyW n - (intOf i).toNat)
    case atStart => exact ⟨0, by omega, rfl, h01, HS1.out, hq1⟩
    case round =>
      obtain ⟨k, hk, rfl, hj, hsz, hbx⟩ := hrel
      by_cases c1 : k < manyW n
      · have i1 : (k : Int) < (manyW n : Int) := by omega
        have q0 : wr.cell? ⟨q, 0, none⟩ = some (.int .i64 n) := hbx.cell 0
        have hn0 : n = ((n.toNat : Nat) : Int) := by
          have : 0 ≤ n := by
            apply Classical.byContradiction; intro hc
            have : manyW n = 0 := by unfold manyW; rw [if_pos (by omega)]
            omega
          omega
        have hn1 : n.toNat ≤ 16 := by
          apply Classical.byContradiction; intro hc
          have : manyW n = 0 := by unfold manyW; rw [if_neg (by omega), if_pos (by omega)]
          omega
        have hw := way_any n.toNat k wr hn1 (by omega)
        rw [← hn0] at hw
        have HW := Lib.hid hw
        have HBX := Lib.hid hbx
        clear hw hn0
        gi_wp2_with (refine ⟨trivial, ?_⟩; gi_at_call 27; refine (callsIn_wide.2 HW.out).mono ?_; rintro e w2 ⟨v2, rfl, ho2, hb2⟩; obtain ⟨fn, tmps, assign, body, hy, hR⟩ := hY k v2 w2 c1 (hJ.below hj hb2) (Nat.le_trans hsz hb2.size) (owns_less ho2 (by have := hW.size; omega)); have HO2 := Lib.hid ho2; have HB2 := Lib.hid hb2; clear ho2 hb2)
        refine hR.mono ?_
        rintro e W3 (⟨rfl, hj3, hk3⟩ | ⟨rfl, hjx3, _⟩)
        · have hbx3 : Box W3 q 3 #[.int .i64 n] := (HBX.out.below HB2.out HBX.out.lt).keeps hk3 (by
            rintro (h | h | h)
            · exact hS h
            · omega
            · have := (HO2.out.lt q h).1
              have := hW.size
              omega)
          have hs3 := hk3.size
          have hs2 := HB2.out.size
          gi_wp2
          go_roundw
          case rel => exact ⟨k + 1, by omega, by go_num, hj3, by omega, hbx3⟩
          case measure => simp [intOf]; omega
        · gi_wp2
          refine bodyPost_ret (results_none rfl _ _ _) rfl ?_
          exact ⟨⟨_, rfl⟩, .inr ⟨k + 1, by omega, by omega, hjx3⟩⟩
      · obtain rfl : k = manyW n := by omega
        have i1 : ¬ (manyW n : Int) < (manyW n : Int) := by omega
        gi_wp2
        go_end0
        exact ⟨⟨_, rfl⟩, .inl hj⟩
  · have e1 : (cntE n != 0) = true := by simp; exact hE
    clear hE
    refine callsIn_of_wp Try.func26 rfl trivial ?_ rfl
    simp only [Try.ntmps26, List.size_toArray, List.length_cons, List.length_nil, Nat.reduceAdd, Nat.reduceSub, Array.replicate_succ, Array.replicate_zero, List.push_toArray, List.append_toArray, List.nil_append, List.cons_append]
    gi_wp2_with (refine ⟨trivial, ?_⟩; gi_at_call 17; refine (callsIn_wide.2 HC.out).mono ?_; rintro e w1 ⟨rfl, hb1⟩)
    refine bodyPost_ret (results_none rfl _ _ _) rfl ?_
    exact ⟨⟨_, rfl⟩, .inl (by rw [hz]; exact hJ.below h0 hb1)⟩

end Go.Proofs.Ytmfhnmdgcjlnpaa
