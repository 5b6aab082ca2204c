/-
  The law ScanRuns returns true for every dialect and text. Conditions: none.
-/
import Derived.Test.YtmolcpfbbhmabaaRows
import Derived.Test.YtmolcpfbbhmabaaOpenD
import Derived.Test.YtmolcpfbbhmabaaScanW
import Derived.Test.YtmolcpfbbhmabaaScanU
namespace Go.Proofs.Ytmolcpfbbhmabaa
open Go.ChangeShapes Go.WideShapes Go.ChangeAt Go.RowKit Go.Joins

set_option maxHeartbeats 8000000 in
theorem runs_any (p q : Nat) (n : Int) (s : ByteArray) (w : World) (hp : p < 256) (hq : q < 256) (hs : s.size ≤ 9223372036854775807) : Calls Try.prog 5 #[.agg #[.int .u8 p, .int .u8 q, .int .i64 n], .string s] w (Gives (.bool true) w) := by
  apply Gives.of
  have hcell := fun (W : World) (x : Later W) => x.cell
  have hfrozen := fun (W : World) (x : Later W) => x.frozen
  have hset := set_same
  have HF := Lib.hid (fun W => ref_any p q n W hp hq)
  have HA := Lib.hid awake_any
  by_cases hlen : 300 < s.size
  · have l1 : decide (300 < s.size) = true := decide_eq_true hlen
    have l2 : (300 : Int) < (s.size : Int) := by omega
    have l3 : decide ((300 : Int) < (s.size : Int)) = true := decide_eq_true l2
    go_enter Try.func5, Try.ntmps5
    go_wp2_with (first | (go_at_call 9; (first | (with_reducible refine (later_call _ (HA.out _)).mono ?_) | (with_reducible refine (call_later (HA.out _)).mono ?_)); rintro e w' ⟨rfl, x, rfl⟩))
    go_ret
    refine ⟨rfl, ?_⟩
    (repeat (first | (with_reducible exact Below.refl _ _) | (with_reducible refine later_below _ ?_) | (with_reducible refine alloc_below ?_ _) | (with_reducible refine Below.drew ?_) | (refine Below.setCell ?_ (by first | exact Nat.le_refl _ | (simp; done) | (simp; omega) | omega) _)))
  have l1 : decide (300 < s.size) = false := decide_eq_false hlen
  have l2 : ¬ (300 : Int) < (s.size : Int) := by omega
  have l3 : decide ((300 : Int) < (s.size : Int)) = false := decide_eq_false l2
  obtain ⟨r, hr⟩ : ∃ r, okB p q n = r := ⟨_, rfl⟩
  have HR := Lib.hid (fun W => hr ▸ right_any p q n W)
  cases r with
  | false =>
    clear hr
    go_enter Try.func5, Try.ntmps5
    go_wp2_with (first | (go_at_call 8; (first | (with_reducible refine (later_call _ (HF.out _)).mono ?_) | (with_reducible refine (call_later (HF.out _)).mono ?_)); rintro e w' ⟨rfl, x, rfl⟩) | (go_at_call 7; (first | (with_reducible refine (later_call _ (HR.out _)).mono ?_) | (with_reducible refine (call_later (HR.out _)).mono ?_)); rintro e w' ⟨rfl, x, rfl⟩) | (go_at_call 9; (first | (with_reducible refine (later_call _ (HA.out _)).mono ?_) | (with_reducible refine (call_later (HA.out _)).mono ?_)); rintro e w' ⟨rfl, x, rfl⟩))
    go_ret
    refine ⟨rfl, ?_⟩
    (repeat (first | (with_reducible exact Below.refl _ _) | (with_reducible refine later_below _ ?_) | (with_reducible refine alloc_below ?_ _) | (with_reducible refine Below.drew ?_) | (refine Below.setCell ?_ (by first | exact Nat.le_refl _ | (simp; done) | (simp; omega) | omega) _)))
  | true =>
    have HC := Lib.hid (fun W => run_any p q n s W hr (by omega))
    have HOK := Lib.hid hr
    clear hr
    go_enter Try.func5, Try.ntmps5
    go_upto_region 3 with (first | (go_at_call 8; (first | (with_reducible refine (later_call _ (HF.out _)).mono ?_) | (with_reducible refine (call_later (HF.out _)).mono ?_)); rintro e w' ⟨rfl, x1, rfl⟩; have hz1 : w.heap.size < x1.w.heap.size := (by have := x1.size; simp at this ⊢; omega)) | (go_at_call 7; (first | (with_reducible refine (later_call _ (HR.out _)).mono ?_) | (with_reducible refine (call_later (HR.out _)).mono ?_)); rintro e w' ⟨rfl, x2, rfl⟩; have hz2 : w.heap.size < x2.w.heap.size := (by have := x2.size; simp at this ⊢; omega)))
    go_wp2_with fail
    go_at_call 15
    refine (HC.out _).mono ?_
    rintro e w1 ⟨k, kind, at_, v, hsays, rfl, hown, hb⟩
    have hsz1 := hb.size
    have hI : RInv w w.heap.size w1.heap.size #[.int .u8 p, .int .u8 q, .int .i64 n] #[.int .i64 kind, .int .i64 at_] (w.heap.size + 1) v k (evs p q n s k) (w1.alloc (.cells #[.int .i64 kind, .int .i64 at_] 47)) :=
      ⟨owns_less (hown.alloc _) (by omega), ((((Box.new w _ _).below x2.below (by simp))).below hb (by omega)).alloc _, Box.new _ _ _, ((show Below w.heap.size w x2.w from by (repeat (first | (with_reducible exact Below.refl _ _) | (with_reducible refine later_below _ ?_) | (with_reducible refine alloc_below ?_ _) | (with_reducible refine Below.drew ?_) | (refine Below.setCell ?_ (by first | exact Nat.le_refl _ | (simp; done) | (simp; omega) | omega) _)))).trans (hb.mono (by omega))).alloc (by omega) _⟩
    obtain ⟨A, cap, rfl, hcap1, hcap2⟩ := owns_len hown
    have HG : 0 < k → ∃ g, A = some ⟨g, 0, none⟩ := fun h => by
      obtain ⟨g, cap', h', _⟩ := owns_slice hown h
      injection h' with h'
      exact ⟨g, h'⟩
    have HS := Lib.hid hsays
    have HI := Lib.hid hI
    clear hsays hI hown hb
    go_wp2_with fail
    go_loopw [7, 8] (fun st i (wr : World) => ∃ i0 m : Nat, i0 ≤ s.size + 1 ∧ st = .int .i64 m ∧ i = .int .i64 i0 ∧ m ≤ 6 ∧ (i0 ≤ s.size → m = stA p q n s i0) ∧ okTo p q n s i0 ∧ RInv w w.heap.size w1.heap.size #[.int .u8 p, .int .u8 q, .int .i64 n] #[.int .i64 kind, .int .i64 at_] (w.heap.size + 1) (.slice A k cap) k (evs p q n s k) wr) (fun _ i _ => s.size + 1 - (intOf i).toNat)
    case atStart => exact ⟨0, 0, by omega, rfl, rfl, by omega, fun _ => rfl, fun j hj => by omega, HI.out⟩
    case round =>
      obtain ⟨i0, m, hi0, rfl, rfl, hm6, hm, hto, hI⟩ := hrel
      have hbox := hI.2.2.1
      have hlt6 := hbox.lt
      have hlt2 := hI.2.1.lt
      have g0 : wr.cell? ⟨w1.heap.size, 0, none⟩ = some (.int .i64 kind) := hbox.cell 0
      have g1 : wr.cell? ⟨w1.heap.size, 1, none⟩ = some (.int .i64 at_) := hbox.cell 1
      by_cases hend : i0 ≤ s.size
      · have b1 : decide (i0 ≤ s.size) = true := decide_eq_true hend
        have b2 : (i0 : Int) ≤ (s.size : Int) := by omega
        have b3 : decide ((i0 : Int) ≤ (s.size : Int)) = true := decide_eq_true b2
        obtain rfl := hm hend
        obtain ⟨o, ho⟩ : ∃ o, atV p q n s i0 = o := ⟨_, rfl⟩
        obtain ⟨cb, hcb⟩ : ∃ cb, decide (i0 < s.size) = cb := ⟨_, rfl⟩
        have hcb' : decide ((i0 : Int) < (s.size : Int)) = cb := by rw [← hcb]; exact decide_eq_decide.2 (by omega)
        have q0 : wr.cell? ⟨w.heap.size, 0, none⟩ = some (.int .u8 p) := hI.2.1.cell 0
        have q1 : wr.cell? ⟨w.heap.size, 1, none⟩ = some (.int .u8 q) := hI.2.1.cell 1
        have q2 : wr.cell? ⟨w.heap.size, 2, none⟩ = some (.int .i64 n) := hI.2.1.cell 2
        have HJ := Lib.hid hI
        have HT := Lib.hid hto
        have HO := Lib.hid ho
        clear hI hto hm ho hm6
        go_upto_if 36 with (fail)
        go_cut [7, 10] (fun z7 z10 wx => ∃ m' : Nat, z7 = .int .i64 m' ∧ m' ≤ 6 ∧ (i0 + 1 ≤ s.size → m' = stA p q n s (i0 + 1)) ∧ z10 = .int .i64 o.er ∧ Box wx wr.heap.size 35 #[.int .i64 (n01 o.ev.be), .int .i64 (n01 o.ev.ad), .int .i64 (n01 o.ev.fi), .int .i64 (n01 o.ev.li), .int .i64 (n01 o.ev.re), .int .i64 o.ev.by_] ∧ Below wr.heap.size wr wx)
        case first =>
          cases cb with
          | true =>
            have hi : i0 < s.size := of_decide_eq_true hcb
            have hi1 : (i0 : Int) < (s.size : Int) := by omega
            have hi2 : (0 : Int) ≤ (i0 : Int) := by omega
            have hby := byt_eq s i0 hi
            have hwr2 : IntKind.i64.wrap (byt s i0) = byt s i0 := by have := byt_range s i0; rw [IntKind.wrap_i64]; omega
            have hbr := byt_range s i0
            have hwr : wrap64 (byt s i0) = byt s i0 := by unfold wrap64; omega
            have ho2 : stepV p q n (stA p q n s i0) (bytN s i0) = o := by have h := HO.out; unfold atV at h; rw [if_pos hi] at h; exact h
            have HQ := Lib.hid (show ∀ W, Calls Try.prog 11 #[.agg #[.int .i64 p, .int .i64 q, .int .i64 n], .int .i64 (stA p q n s i0), .int .i64 (byt s i0)] W (Gives (.tuple #[.agg #[.int .i64 (n01 o.ev.be), .int .i64 (n01 o.ev.ad), .int .i64 (n01 o.ev.fi), .int .i64 (n01 o.ev.li), .int .i64 (n01 o.ev.re), .int .i64 o.ev.by_], .int .i64 o.to_, .int .i64 o.er]) W) from fun W => by rw [← bytN_is]; exact ho2 ▸ rstep_any p q _ _ n W (sta_le p q n s i0) HOK.out)
            have hst : stA p q n s (i0 + 1) = o.to_ := by rw [← ho2]; rfl
            have HST := Lib.hid hst
            have hto6 : o.to_ ≤ 6 := by rw [← ho2]; exact step_to _ _ _ _ _
            clear ho2 hst hbr
            go_upto_region 11 with (fail)
            refine at_world ?_
            intro W0 hW
            have hb9 : Box W0.drew wr.heap.size 35 #[.int .i64 0, .int .i64 0, .int .i64 0, .int .i64 0, .int .i64 0, .int .i64 0] := by rw [← hW]; exact Box.new _ _ _
            have hbW : Below wr.heap.size wr W0.drew := by rw [← hW]; exact Below.drew ((Below.refl _ _).alloc (Nat.le_refl _) _)
            have HW9 : wr.heap.size < W0.drew.heap.size := hb9.lt
            have HW2 : w.heap.size < W0.drew.heap.size := by omega
            have v0 : W0.drew.cell? ⟨w.heap.size, 0, none⟩ = some (.int .u8 p) := (hbW.cell (p := ⟨w.heap.size, 0, none⟩) hlt2).trans q0
            have v1 : W0.drew.cell? ⟨w.heap.size, 1, none⟩ = some (.int .u8 q) := (hbW.cell (p := ⟨w.heap.size, 1, none⟩) hlt2).trans q1
            have v2 : W0.drew.cell? ⟨w.heap.size, 2, none⟩ = some (.int .i64 n) := (hbW.cell (p := ⟨w.heap.size, 2, none⟩) hlt2).trans q2
            clear hW
            go_region_with (first | (go_at_call 8; (first | (with_reducible refine (later_call _ (HF.out _)).mono ?_) | (with_reducible refine (call_later (HF.out _)).mono ?_)); rintro e w' ⟨rfl, x, rfl⟩; have y'0 : x.w.cell? ⟨wr.heap.size, 0, none⟩ = some (.int .i64 0) := ((x.cell _ _ HW9).trans (hb9.cell 0)); have f'0 : x.w.frozen? ⟨wr.heap.size, 0, none⟩ = false := ((x.frozen _ _ HW9).trans (hb9.frozen 0)); have y'1 : x.w.cell? ⟨wr.heap.size, 1, none⟩ = some (.int .i64 0) := ((x.cell _ _ HW9).trans (hb9.cell 1)); have f'1 : x.w.frozen? ⟨wr.heap.size, 1, none⟩ = false := ((x.frozen _ _ HW9).trans (hb9.frozen 1)); have y'2 : x.w.cell? ⟨wr.heap.size, 2, none⟩ = some (.int .i64 0) := ((x.cell _ _ HW9).trans (hb9.cell 2)); have f'2 : x.w.frozen? ⟨wr.heap.size, 2, none⟩ = false := ((x.frozen _ _ HW9).trans (hb9.frozen 2)); have y'3 : x.w.cell? ⟨wr.heap.size, 3, none⟩ = some (.int .i64 0) := ((x.cell _ _ HW9).trans (hb9.cell 3)); have f'3 : x.w.frozen? ⟨wr.heap.size, 3, none⟩ = false := ((x.frozen _ _ HW9).trans (hb9.frozen 3)); have y'4 : x.w.cell? ⟨wr.heap.size, 4, none⟩ = some (.int .i64 0) := ((x.cell _ _ HW9).trans (hb9.cell 4)); have f'4 : x.w.frozen? ⟨wr.heap.size, 4, none⟩ = false := ((x.frozen _ _ HW9).trans (hb9.frozen 4)); have y'5 : x.w.cell? ⟨wr.heap.size, 5, none⟩ = some (.int .i64 0) := ((x.cell _ _ HW9).trans (hb9.cell 5)); have f'5 : x.w.frozen? ⟨wr.heap.size, 5, none⟩ = false := ((x.frozen _ _ HW9).trans (hb9.frozen 5))) | (go_at_call 11; (first | (with_reducible refine (later_call _ (HQ.out _)).mono ?_) | (with_reducible refine (call_later (HQ.out _)).mono ?_)); rintro e w' ⟨rfl, x, rfl⟩; have y'0 : x.w.cell? ⟨wr.heap.size, 0, none⟩ = some (.int .i64 0) := ((x.cell _ _ HW9).trans (hb9.cell 0)); have f'0 : x.w.frozen? ⟨wr.heap.size, 0, none⟩ = false := ((x.frozen _ _ HW9).trans (hb9.frozen 0)); have y'1 : x.w.cell? ⟨wr.heap.size, 1, none⟩ = some (.int .i64 0) := ((x.cell _ _ HW9).trans (hb9.cell 1)); have f'1 : x.w.frozen? ⟨wr.heap.size, 1, none⟩ = false := ((x.frozen _ _ HW9).trans (hb9.frozen 1)); have y'2 : x.w.cell? ⟨wr.heap.size, 2, none⟩ = some (.int .i64 0) := ((x.cell _ _ HW9).trans (hb9.cell 2)); have f'2 : x.w.frozen? ⟨wr.heap.size, 2, none⟩ = false := ((x.frozen _ _ HW9).trans (hb9.frozen 2)); have y'3 : x.w.cell? ⟨wr.heap.size, 3, none⟩ = some (.int .i64 0) := ((x.cell _ _ HW9).trans (hb9.cell 3)); have f'3 : x.w.frozen? ⟨wr.heap.size, 3, none⟩ = false := ((x.frozen _ _ HW9).trans (hb9.frozen 3)); have y'4 : x.w.cell? ⟨wr.heap.size, 4, none⟩ = some (.int .i64 0) := ((x.cell _ _ HW9).trans (hb9.cell 4)); have f'4 : x.w.frozen? ⟨wr.heap.size, 4, none⟩ = false := ((x.frozen _ _ HW9).trans (hb9.frozen 4)); have y'5 : x.w.cell? ⟨wr.heap.size, 5, none⟩ = some (.int .i64 0) := ((x.cell _ _ HW9).trans (hb9.cell 5)); have f'5 : x.w.frozen? ⟨wr.heap.size, 5, none⟩ = false := ((x.frozen _ _ HW9).trans (hb9.frozen 5))))
            all_goals
              go_wp2_with fail
              go_meet
              exact ⟨o.to_, rfl, hto6, fun _ => HST.out.symm, rfl, box_six (hb9.below x.below HW9) _ _ _ _ _ _, Below.setCell (Below.setCell (Below.setCell (Below.setCell (Below.setCell (Below.setCell (hbW.trans (x.below.mono (Nat.le_of_lt HW9))) (Nat.le_refl _) _) (Nat.le_refl _) _) (Nat.le_refl _) _) (Nat.le_refl _) _) (Nat.le_refl _) _) (Nat.le_refl _) _⟩
          | false =>
            have hi : ¬ i0 < s.size := of_decide_eq_false hcb
            have ho2 : closeV (stA p q n s i0) = o := by have h := HO.out; unfold atV at h; rw [if_neg hi] at h; exact h
            have HQ := Lib.hid (show ∀ W, Calls Try.prog 14 #[.int .i64 (stA p q n s i0)] W (Gives (.tuple #[.agg #[.int .i64 (n01 o.ev.be), .int .i64 (n01 o.ev.ad), .int .i64 (n01 o.ev.fi), .int .i64 (n01 o.ev.li), .int .i64 (n01 o.ev.re), .int .i64 o.ev.by_], .int .i64 o.er]) W) from fun W => by have h := rclose_any _ W (sta_le p q n s i0); unfold closeR at h; rw [ho2] at h; exact h)
            clear ho2
            go_wp2_with ((go_at_call 14; (first | (with_reducible refine (later_call _ (HQ.out _)).mono ?_) | (with_reducible refine (call_later (HQ.out _)).mono ?_)); rintro e w' ⟨rfl, x, rfl⟩))
            go_meet
            refine ⟨stA p q n s i0, rfl, sta_le _ _ _ _ _, (fun h => absurd h (by omega)), rfl, ?_, ?_⟩
            · exact box_six (show Box x.w wr.heap.size 35 #[.int .i64 0, .int .i64 0, .int .i64 0, .int .i64 0, .int .i64 0, .int .i64 0] from (Box.new wr _ _).below x.below (by simp)) _ _ _ _ _ _
            · (repeat (first | (with_reducible exact Below.refl _ _) | (with_reducible refine later_below _ ?_) | (with_reducible refine alloc_below ?_ _) | (with_reducible refine Below.drew ?_) | (refine Below.setCell ?_ (by first | exact Nat.le_refl _ | (simp; done) | (simp; omega) | omega) _)))
        case rest =>
          obtain ⟨m', rfl, hm6', hm', rfl, hbx, hbb⟩ := hcut
          have hI' := HJ.out.go hbb
          by_cases hz : o.er = 0
          · have hk : i0 < k := says_more HS.out hend HT.out (by rw [HO.out]; exact hz)
            have z1 : ((o.er : Int) != 0) = false := by simp [hz]
            have z2 : decide ((o.er : Int) = 0) = true := decide_eq_true (by omega)
            have z3 : ((o.er : Int) == 0) = true := by simp [hz]
            have k1 : (i0 : Int) < (k : Int) := by omega
            have k2 : (0 : Int) ≤ (i0 : Int) := by omega
            have k3 : ¬ (k : Int) ≤ (i0 : Int) := by omega
            have k4 : decide ((k : Int) ≤ (i0 : Int)) = false := decide_eq_false k3
            have k5 : decide (k ≤ i0) = false := decide_eq_false (by omega)
            have HZ := Lib.hid hz
            have HBB := Lib.hid hbb
            have HX := Lib.hid hbx
            have HI' := Lib.hid hI'
            have HL := Lib.hid (show ∀ W, Calls Try.prog 12 #[.agg #[.bool o.ev.be, .bool o.ev.ad, .bool o.ev.fi, .bool o.ev.li, .bool o.ev.re, .int .u8 o.ev.by_]] W (Gives (.agg #[.int .i64 (n01 o.ev.be), .int .i64 (n01 o.ev.ad), .int .i64 (n01 o.ev.fi), .int .i64 (n01 o.ev.li), .int .i64 (n01 o.ev.re), .int .i64 o.ev.by_]) W) from fun W => lref_any o.ev W (by rw [← HO.out]; exact atv_by _ _ _ _ _))
            obtain ⟨g, rfl⟩ := HG (by omega)
            clear hz hbb hbx hI'
            go_upto_region 15 with (fail)
            refine at_world ?_
            intro W0 hW
            have hb9 : Box W0 wr.heap.size 35 #[.int .i64 (n01 o.ev.be), .int .i64 (n01 o.ev.ad), .int .i64 (n01 o.ev.fi), .int .i64 (n01 o.ev.li), .int .i64 (n01 o.ev.re), .int .i64 o.ev.by_] := by rw [← hW]; exact HX.out
            have hown : W0.ownsRow (w.heap.size + 1) 30 6 (.slice (some ⟨g, 0, none⟩) k cap) k (evsC (evs p q n s k)) := by rw [← hW]; exact HI'.out.1
            have hge : (evs p q n s k)[i0]? = some o.ev := by rw [evs_get _ _ _ _ _ _ hk, HO.out]
            have hgl : g < W0.heap.size := (hown.lt g rfl).2
            have hBW : Below wr.heap.size wr W0 := by rw [← hW]; exact HBB.out
            have c0 : ∀ y : Later W0, y.w.cell? ⟨g, i0 * 6, none⟩ = some (.bool o.ev.be) := fun y => (y.below.cell (p := ⟨g, i0 * 6 + 0, none⟩) hgl).trans (own_cell hown i0 0 o.ev _ hge hk (by omega) rfl)
            have c1 : ∀ y : Later W0, y.w.cell? ⟨g, i0 * 6 + 1, none⟩ = some (.bool o.ev.ad) := fun y => (y.below.cell (p := ⟨g, i0 * 6 + 1, none⟩) hgl).trans (own_cell hown i0 1 o.ev _ hge hk (by omega) rfl)
            have c2 : ∀ y : Later W0, y.w.cell? ⟨g, i0 * 6 + 2, none⟩ = some (.bool o.ev.fi) := fun y => (y.below.cell (p := ⟨g, i0 * 6 + 2, none⟩) hgl).trans (own_cell hown i0 2 o.ev _ hge hk (by omega) rfl)
            have c3 : ∀ y : Later W0, y.w.cell? ⟨g, i0 * 6 + 3, none⟩ = some (.bool o.ev.li) := fun y => (y.below.cell (p := ⟨g, i0 * 6 + 3, none⟩) hgl).trans (own_cell hown i0 3 o.ev _ hge hk (by omega) rfl)
            have c4 : ∀ y : Later W0, y.w.cell? ⟨g, i0 * 6 + 4, none⟩ = some (.bool o.ev.re) := fun y => (y.below.cell (p := ⟨g, i0 * 6 + 4, none⟩) hgl).trans (own_cell hown i0 4 o.ev _ hge hk (by omega) rfl)
            have c5 : ∀ y : Later W0, y.w.cell? ⟨g, i0 * 6 + 5, none⟩ = some (.int .u8 o.ev.by_) := fun y => (y.below.cell (p := ⟨g, i0 * 6 + 5, none⟩) hgl).trans (own_cell hown i0 5 o.ev _ hge hk (by omega) rfl)
            have d0 : ∀ y : Later W0, y.w.cell? ⟨wr.heap.size, 0, none⟩ = some (.int .i64 (n01 o.ev.be)) := fun y => (y.below.cell (p := ⟨wr.heap.size, 0, none⟩) hb9.lt).trans (hb9.cell 0)
            have d1 : ∀ y : Later W0, y.w.cell? ⟨wr.heap.size, 1, none⟩ = some (.int .i64 (n01 o.ev.ad)) := fun y => (y.below.cell (p := ⟨wr.heap.size, 1, none⟩) hb9.lt).trans (hb9.cell 1)
            have d2 : ∀ y : Later W0, y.w.cell? ⟨wr.heap.size, 2, none⟩ = some (.int .i64 (n01 o.ev.fi)) := fun y => (y.below.cell (p := ⟨wr.heap.size, 2, none⟩) hb9.lt).trans (hb9.cell 2)
            have d3 : ∀ y : Later W0, y.w.cell? ⟨wr.heap.size, 3, none⟩ = some (.int .i64 (n01 o.ev.li)) := fun y => (y.below.cell (p := ⟨wr.heap.size, 3, none⟩) hb9.lt).trans (hb9.cell 3)
            have d4 : ∀ y : Later W0, y.w.cell? ⟨wr.heap.size, 4, none⟩ = some (.int .i64 (n01 o.ev.re)) := fun y => (y.below.cell (p := ⟨wr.heap.size, 4, none⟩) hb9.lt).trans (hb9.cell 4)
            have d5 : ∀ y : Later W0, y.w.cell? ⟨wr.heap.size, 5, none⟩ = some (.int .i64 o.ev.by_) := fun y => (y.below.cell (p := ⟨wr.heap.size, 5, none⟩) hb9.lt).trans (hb9.cell 5)
            have c0' : W0.cell? ⟨g, i0 * 6, none⟩ = some (.bool o.ev.be) := own_cell hown i0 0 o.ev _ hge hk (by omega) rfl
            have c1' : W0.cell? ⟨g, i0 * 6 + 1, none⟩ = some (.bool o.ev.ad) := own_cell hown i0 1 o.ev _ hge hk (by omega) rfl
            have c2' : W0.cell? ⟨g, i0 * 6 + 2, none⟩ = some (.bool o.ev.fi) := own_cell hown i0 2 o.ev _ hge hk (by omega) rfl
            have c3' : W0.cell? ⟨g, i0 * 6 + 3, none⟩ = some (.bool o.ev.li) := own_cell hown i0 3 o.ev _ hge hk (by omega) rfl
            have c4' : W0.cell? ⟨g, i0 * 6 + 4, none⟩ = some (.bool o.ev.re) := own_cell hown i0 4 o.ev _ hge hk (by omega) rfl
            have c5' : W0.cell? ⟨g, i0 * 6 + 5, none⟩ = some (.int .u8 o.ev.by_) := own_cell hown i0 5 o.ev _ hge hk (by omega) rfl
            have d0' : W0.cell? ⟨wr.heap.size, 0, none⟩ = some (.int .i64 (n01 o.ev.be)) := hb9.cell 0
            have d1' : W0.cell? ⟨wr.heap.size, 1, none⟩ = some (.int .i64 (n01 o.ev.ad)) := hb9.cell 1
            have d2' : W0.cell? ⟨wr.heap.size, 2, none⟩ = some (.int .i64 (n01 o.ev.fi)) := hb9.cell 2
            have d3' : W0.cell? ⟨wr.heap.size, 3, none⟩ = some (.int .i64 (n01 o.ev.li)) := hb9.cell 3
            have d4' : W0.cell? ⟨wr.heap.size, 4, none⟩ = some (.int .i64 (n01 o.ev.re)) := hb9.cell 4
            have d5' : W0.cell? ⟨wr.heap.size, 5, none⟩ = some (.int .i64 o.ev.by_) := hb9.cell 5
            have HBW := Lib.hid hBW
            have HT' := Lib.hid HT.out
            clear hW hb9 hown hge hBW
            refine wp_region_later_lit (by kernel_rfl) (by kernel_rfl) ?_
            repeat (go_big_quiet_step (first | (go_at_call 12; exact later_call _ (HL.out _))))
            refine wpQuiet_nil ?_
            rintro w' ⟨y, rfl⟩
            go_wp2_with fail
            go_roundw
            case rel =>
              refine ⟨i0 + 1, m', by omega, rfl, by go_num, hm6', hm', ?_, HJ.out.go (later_below' y HBW.out)⟩
              intro j hj
              by_cases e : j = i0
              · rw [e, HO.out]; exact HZ.out
              · exact HT'.out j (by omega)
            case measure => simp [intOf]; omega
          · obtain ⟨e1, e2, e3⟩ := says_stop HS.out hend HT.out (by rw [HO.out]; exact hz)
            rw [HO.out] at e2
            subst e1 e2 e3
            have z1 : ((o.er : Int) != 0) = true := by simp [hz]
            have z2 : decide ((o.er : Int) = 0) = false := decide_eq_false (by omega)
            have z3 : ((o.er : Int) == 0) = false := by simp [hz]
            have g0' := hI'.2.2.1.cell 0
            have g1' := hI'.2.2.1.cell 1
            have hBB := hI'.2.2.2
            have HBB := Lib.hid hBB
            clear hI' hbx hbb hBB hz g0 g1
            go_wp2_with ((go_at_call 9; (first | (with_reducible refine (later_call _ (HA.out _)).mono ?_) | (with_reducible refine (call_later (HA.out _)).mono ?_)); rintro e w' ⟨rfl, x, rfl⟩))
            go_ret
            refine ⟨rfl, ?_⟩
            exact later_below' _ HBB.out
      · obtain rfl : i0 = s.size + 1 := by omega
        have b1 : decide (s.size + 1 ≤ s.size) = false := decide_eq_false (by omega)
        have b2 : ¬ ((s.size + 1 : Nat) : Int) ≤ (s.size : Int) := by omega
        have b2' : ¬ ((s.size : Int) + 1) ≤ (s.size : Int) := by omega
        have b3 : decide (((s.size + 1 : Nat) : Int) ≤ (s.size : Int)) = false := decide_eq_false b2
        have b3' : decide (((s.size : Int) + 1) ≤ (s.size : Int)) = false := decide_eq_false b2'
        obtain ⟨e1, e2, e3⟩ := says_end HS.out hto
        subst e1 e2 e3
        have HBB := Lib.hid hI.2.2.2
        clear hI hbox
        go_wp2_with ((go_at_call 9; (first | (with_reducible refine (later_call _ (HA.out _)).mono ?_) | (with_reducible refine (call_later (HA.out _)).mono ?_)); rintro e w' ⟨rfl, x, rfl⟩))
        go_ret
        refine ⟨rfl, ?_⟩
        exact later_below' _ HBB.out

set_option maxRecDepth 100000 in
theorem scanRuns_lifted (os : Os) (started : os.Started) (H : Type) (enc : TypeId × Value → H) :
    ReturnsInHanded {} Try.checked os 5 .any (Rows.scanRunsSpec.pre6 enc Try.prog Try.f5 Rows.scanRunsRow.domain false) (Rows.scanRunsSpec.post enc Try.prog Try.f5 false true false false) := by
  refine law_lift (C := Try.checked) (tb := 4) Try.own Try.laidOut started (by kernel_rfl) Try.func5
    (ChangeSpec.witness6 (enc := enc) (C := Try.checked) false ⟨#[], #[.agg #[.int .u8 0, .int .u8 0, .int .i64 0], .string ⟨#[]⟩], []⟩ 8 (by kernel_rfl) (by kernel_rfl) (by kernel_rfl) (by kernel_rfl))
    rfl Try.underlying4 (by intro t ht; have ht' : t ∈ [23, 9] := ht; simp at ht'; rcases ht' with rfl | rfl <;> exact ⟨by kernel_rfl, of_decide_eq_true (by kernel_rfl)⟩) rfl
    (fun ds h => match ds, h with | [_, _], _ => rfl) ?_
  intro W base args ds ps hh
  obtain ⟨v, v', d, d', p, p', rfl, hv, hv', h0, h0'⟩ := handed_two Try.params5 hh
  obtain ⟨a, b, n, ha, hb, rfl⟩ := open_dialect hv h0
  obtain ⟨s, rfl, hs⟩ := open_text hv' h0'
  exact runs_any a b n s W ha hb (by unfold maxLen at hs; omega)

theorem scanRuns_holds : Rows.ScanRunsSaid :=
  OpenClaim.holds_of_wide 5 Try.f5 rfl rfl rfl rfl rfl rfl rfl ⟨rfl, rfl, rfl, rfl, rfl⟩ rfl rfl rfl rfl rfl (by kernel_rfl) Try.func5 (by kernel_rfl)
    (of_decide_eq_true (by kernel_rfl)) (by unfold Func.isWrapper; first | (rw [if_pos (by decide +kernel)]; kernel_rfl) | (rw [if_neg (by decide +kernel)]; exact ⟨rfl, rfl⟩))
    (fun os started H enc _ => scanRuns_lifted os started H enc)
#print axioms scanRuns_holds

end Go.Proofs.Ytmolcpfbbhmabaa
