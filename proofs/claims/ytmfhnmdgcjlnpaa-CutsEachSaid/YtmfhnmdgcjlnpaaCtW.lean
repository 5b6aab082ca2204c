/-
  Walks: the places of the i-th way to cut; how many ways.
-/
import Derived.Test.YtmfhnmdgcjlnpaaRows
import Derived.Test.YtmfhnmdgcjlnpaaApp
import Derived.Lib.Hide
import Derived.Lib.RabinKarpLaws
namespace Go.Proofs.Ytmfhnmdgcjlnpaa
open Go.RowKit

/-- The places of the i-th way, up to the k-th. -/
def wayL (i : Nat) (k : Nat) : List Int := (List.range k).filterMap fun (j : Nat) => if i / 2 ^ j % 2 = 1 then some ((j : Int) + 1) else none
theorem wayL_zero (i : Nat) : wayL i 0 = [] := rfl
theorem wayL_yes (i k : Nat) (h : i / 2 ^ k % 2 = 1) : wayL i (k + 1) = wayL i k ++ [((k : Int) + 1)] := by
  unfold wayL
  rw [List.range_succ, List.filterMap_append]
  simp [h]
theorem wayL_no (i k : Nat) (h : ¬ i / 2 ^ k % 2 = 1) : wayL i (k + 1) = wayL i k := by
  unfold wayL
  rw [List.range_succ, List.filterMap_append]
  simp [h]
theorem wayL_len (i k : Nat) : (wayL i k).length ≤ k := by
  induction k with
  | zero => exact Nat.le_refl _
  | succ k ih =>
    by_cases h : i / 2 ^ k % 2 = 1
    · rw [wayL_yes i k h, List.length_append]; simp; exact ih
    · rw [wayL_no i k h]; omega

set_option maxHeartbeats 2000000 in
theorem refWay_any (n i : Nat) (w : World) (hn : n ≤ 16) (hi : i ≤ 32768) :
    Calls Try.prog 19 #[.int .i64 n, .int .i64 i] w (fun e w' => ∃ v', e = .returned v' ∧ OwnI w' w.heap.size v' (wayL i (n - 1)) ∧ Below w.heap.size w w') := by
  have HN := Lib.hid hn
  clear hn
  go_enter Try.func19, Try.ntmps19
  go_wp2
  go_loopw [1, 5, 6] (fun i' v k (wr : World) => ∃ m : Nat, k = .int .i64 ((m : Int) + 1) ∧ i' = .int .i64 ((i / 2 ^ m : Nat) : Int) ∧ m ≤ n - 1 ∧ OwnI wr w.heap.size v (wayL i m) ∧ Below w.heap.size w wr) (fun _ _ k _ => n - (intOf k).toNat)
  case atStart => exact ⟨0, rfl, by simp, by omega, World.ownsRow_nil _ _ _ _, Below.refl _ _⟩
  case round =>
    obtain ⟨m, rfl, rfl, hm, ho, hb⟩ := hrel
    have HO := Lib.hid ho
    have HB := Lib.hid hb
    have hdn := Nat.div_le_self i (2 ^ m)
    clear ho hb
    by_cases c1 : m + 1 < n
    · have i1 : ((m : Int) + 1) < (n : Int) := by omega
      obtain ⟨q, hq⟩ : ∃ q, i / 2 ^ m = q := ⟨_, rfl⟩
      have hd2 : i / 2 ^ (m + 1) = q / 2 := by rw [Nat.pow_succ, ← Nat.div_div_eq_div_mul, hq]
      have HD := Lib.hid hd2
      rw [hq] at hdn ⊢
      have HQ := Lib.hid hq
      clear hd2 hq
      have hle := wayL_len i m
      have hn16 := HN.out
      by_cases c2 : q % 2 = 1
      · have e2 : ((q : Int) % 2 == 1) = true := by simp; omega
        go_wp2_with (at_builtin; refine append_int rfl (.tmp 15) (.tmp 17) rfl w.heap.size u5 _ _ rfl rfl HO.out (by omega) HB.out.size ?_; intro A2 p2 w3 ho3 hb3 _ _; have HO3 := Lib.hid ho3; have HB3 := Lib.hid hb3; clear ho3 hb3)
        go_roundw
        case rel => exact ⟨m + 1, by go_num, by rw [HD.out]; go_num, by omega, by rw [wayL_yes i m (by rw [HQ.out]; exact c2)]; exact HO3.out, HB.out.trans HB3.out⟩
        case measure => simp [intOf]; omega
      · have e2 : ((q : Int) % 2 == 1) = false := by simp; omega
        go_wp2
        go_roundw
        case rel => exact ⟨m + 1, by go_num, by rw [HD.out]; go_num, by omega, by rw [wayL_no i m (by rw [HQ.out]; exact c2)]; exact HO.out, HB.out⟩
        case measure => simp [intOf]; omega
    · have i1 : ¬ ((m : Int) + 1) < (n : Int) := by omega
      obtain rfl : m = n - 1 := by omega
      go_wp2
      refine bodyPost_ret (v := u5) (by simp [results, Try.results19]) rfl ?_
      exact ⟨_, rfl, HO.out, HB.out⟩

theorem bit_at (i m : Nat) (hi : i ≤ 32768) : bits BinOp.and IntKind.i64 ((i : Int) / 2 ^ m) 1 = ((i / 2 ^ m % 2 : Nat) : Int) := by
  have h := Go.Proofs.and_one (i / 2 ^ m) (by have := Nat.div_le_self i (2 ^ m); omega)
  rw [Int.natCast_ediv, Int.natCast_pow] at h
  exact h

set_option maxHeartbeats 2000000 in
theorem way_any (n i : Nat) (w : World) (hn : n ≤ 16) (hi : i ≤ 32768) :
    Calls Try.prog 27 #[.int .i64 n, .int .i64 i] w (fun e w' => ∃ v', e = .returned v' ∧ OwnI w' w.heap.size v' (wayL i (n - 1)) ∧ Below w.heap.size w w') := by
  have HN := Lib.hid hn
  clear hn
  go_enter Try.func27, Try.ntmps27
  go_wp2
  go_loopw [5, 6] (fun v k (wr : World) => ∃ m : Nat, k = .int .i64 ((m : Int) + 1) ∧ m ≤ n - 1 ∧ OwnI wr w.heap.size v (wayL i m) ∧ Below w.heap.size w wr) (fun _ k _ => n - (intOf k).toNat)
  case atStart => exact ⟨0, rfl, by omega, World.ownsRow_nil _ _ _ _, Below.refl _ _⟩
  case round =>
    obtain ⟨m, rfl, hm, ho, hb⟩ := hrel
    have HO := Lib.hid ho
    have HB := Lib.hid hb
    clear ho hb
    by_cases c1 : m + 1 < n
    · have i1 : ((m : Int) + 1) < (n : Int) := by omega
      have hle := wayL_len i m
      have hn16 := HN.out
      by_cases c2 : i / 2 ^ m % 2 = 1
      · have e2 : bits BinOp.and IntKind.i64 ((i : Int) / 2 ^ m) 1 = 1 := by rw [bit_at i m hi, c2]; rfl
        have C2 := Lib.hid c2
        clear c2
        go_wp2_with (at_builtin; refine append_int rfl (.tmp 18) (.tmp 20) rfl w.heap.size u5 _ _ rfl rfl HO.out (by omega) HB.out.size ?_; intro A2 p2 w3 ho3 hb3 _ _; have HO3 := Lib.hid ho3; have HB3 := Lib.hid hb3; clear ho3 hb3)
        go_roundw
        case rel => exact ⟨m + 1, by go_num, by omega, by rw [wayL_yes i m C2.out]; exact HO3.out, HB.out.trans HB3.out⟩
        case measure => simp [intOf]; omega
      · have e2 : bits BinOp.and IntKind.i64 ((i : Int) / 2 ^ m) 1 = 0 := by rw [bit_at i m hi]; omega
        have C2 := Lib.hid c2
        clear c2
        go_wp2
        go_roundw
        case rel => exact ⟨m + 1, by go_num, by omega, by rw [wayL_no i m C2.out]; exact HO.out, HB.out⟩
        case measure => simp [intOf]; omega
    · have i1 : ¬ ((m : Int) + 1) < (n : Int) := by omega
      obtain rfl : m = n - 1 := by omega
      go_wp2
      refine bodyPost_ret (v := u5) (by simp [results, Try.results27]) rfl ?_
      exact ⟨_, rfl, HO.out, HB.out⟩

/-- How many ways; the error's number. -/
def cntN (n : Int) : Int := if n < 0 then 0 else if n > 16 then 0 else 2 ^ (n.toNat - 1)
def cntE (n : Int) : Int := if n < 0 then 22 else if n > 16 then 26 else 0

theorem refCount_any (n : Int) (w : World) : Calls Try.prog 16 #[.int .i64 n] w (Gives (.tuple #[.int .i64 (cntN n), .int .i64 (cntE n)]) w) := by
  apply Gives.of
  by_cases h1 : n < 0
  · have e1 : cntN n = 0 := if_pos h1
    have e2 : cntE n = 22 := if_pos h1
    rw [e1, e2]
    clear e1 e2
    go_enter Try.func16, Try.ntmps16
    go_wp2
    refine bodyPost_ret (v := .tuple #[.int .i64 0, .int .i64 22]) (by simp [results, Try.results16]) rfl ⟨rfl, Below.refl _ _⟩
  · by_cases h2 : n > 16
    · have e1 : cntN n = 0 := by unfold cntN; rw [if_neg h1, if_pos h2]
      have e2 : cntE n = 26 := by unfold cntE; rw [if_neg h1, if_pos h2]
      rw [e1, e2]
      clear e1 e2
      go_enter Try.func16, Try.ntmps16
      go_wp2
      refine bodyPost_ret (v := .tuple #[.int .i64 0, .int .i64 26]) (by simp [results, Try.results16]) rfl ⟨rfl, Below.refl _ _⟩
    · have e1 : cntN n = ((2 ^ (n.toNat - 1) : Nat) : Int) := by unfold cntN; rw [if_neg h1, if_neg h2]; simp
      have e2 : cntE n = 0 := by unfold cntE; rw [if_neg h1, if_neg h2]
      obtain ⟨z, hz⟩ : ∃ z, 2 ^ (n.toNat - 1) = z := ⟨_, rfl⟩
      have HZ := Lib.hid hz
      rw [e1, e2, hz]
      clear e1 e2 hz
      go_enter Try.func16, Try.ntmps16
      go_wp2
      go_loopw [4, 5] (fun q k (wr : World) => ∃ m : Nat, k = .int .i64 ((m : Int) + 1) ∧ q = .int .i64 ((2 ^ m : Nat) : Int) ∧ m ≤ n.toNat - 1 ∧ wr = w) (fun _ k _ => n.toNat - (intOf k).toNat)
      case atStart => exact ⟨0, rfl, rfl, by omega, rfl⟩
      case round =>
        obtain ⟨m, rfl, rfl, hm, rfl⟩ := hrel
        by_cases c1 : (m : Int) + 1 < n
        · have hp : 2 ^ m ≤ 2 ^ 16 := Nat.pow_le_pow_right (by omega) (by omega)
          have hp2 : 2 ^ (m + 1) = 2 ^ m * 2 := Nat.pow_succ ..
          obtain ⟨z, hz⟩ : ∃ z, 2 ^ m = z := ⟨_, rfl⟩
          rw [hz] at hp hp2 ⊢
          have HP := Lib.hid hp2
          clear hp2 hz
          go_wp2
          go_roundw
          case rel => exact ⟨m + 1, by go_num, by rw [HP.out]; go_num, by omega, (by first | trivial | rfl)⟩
          case measure => simp [intOf]; omega
        · obtain rfl : m = n.toNat - 1 := by omega
          rw [HZ.out]
          go_wp2
          refine bodyPost_ret (v := .tuple #[.int .i64 (z : Int), .int .i64 0]) (by simp [results, Try.results16]) rfl ⟨rfl, Below.refl _ _⟩

theorem count_any (n : Int) (w : World) : Calls Try.prog 17 #[.int .i64 n] w (Gives (.tuple #[.int .i64 (cntN n), .int .i64 (cntE n)]) w) := by
  apply Gives.of
  by_cases h1 : n < 0
  · have e1 : cntN n = 0 := if_pos h1
    have e2 : cntE n = 22 := if_pos h1
    rw [e1, e2]
    clear e1 e2
    go_enter Try.func17, Try.ntmps17
    go_wp2
    refine bodyPost_ret (v := .tuple #[.int .i64 0, .int .i64 22]) (by simp [results, Try.results17]) rfl ⟨rfl, Below.refl _ _⟩
  · by_cases h2 : n > 16
    · have e1 : cntN n = 0 := by unfold cntN; rw [if_neg h1, if_pos h2]
      have e2 : cntE n = 26 := by unfold cntE; rw [if_neg h1, if_pos h2]
      rw [e1, e2]
      clear e1 e2
      go_enter Try.func17, Try.ntmps17
      go_wp2
      refine bodyPost_ret (v := .tuple #[.int .i64 0, .int .i64 26]) (by simp [results, Try.results17]) rfl ⟨rfl, Below.refl _ _⟩
    · have hk : n = 0 ∨ n = 1 ∨ n = 2 ∨ n = 3 ∨ n = 4 ∨ n = 5 ∨ n = 6 ∨ n = 7 ∨ n = 8 ∨ n = 9 ∨ n = 10 ∨ n = 11 ∨ n = 12 ∨ n = 13 ∨ n = 14 ∨ n = 15 ∨ n = 16 := by omega
      clear h1 h2
      rcases hk with rfl | rfl | rfl | rfl | rfl | rfl | rfl | rfl | rfl | rfl | rfl | rfl | rfl | rfl | rfl | rfl | rfl <;>
      · go_enter Try.func17, Try.ntmps17
        go_wp2
        refine bodyPost_ret (v := .tuple #[.int .i64 (cntN _), .int .i64 (cntE _)]) (by simp [results, Try.results17]; decide +kernel) rfl ⟨rfl, Below.refl _ _⟩

end Go.Proofs.Ytmfhnmdgcjlnpaa
