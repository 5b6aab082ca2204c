/-
  The law ScanEither returns true for every dialect and text. Conditions: none.
-/
import Derived.Test.YtmolcpfbbhmabaaRows
import Derived.Test.YtmolcpfbbhmabaaOpenD
import Derived.Test.YtmolcpfbbhmabaaScanW
namespace Go.Proofs.Ytmolcpfbbhmabaa
open Go.ChangeShapes Go.WideShapes Go.ChangeAt Go.RowKit Go.Joins

theorem ok_three {p q : Nat} {n : Int} (h : okB p q n = true) : okB p q 3 = true := by
  unfold okB at h ⊢
  simp at h ⊢
  exact ⟨h.1, h.2.1, h.2.2.1⟩

theorem either_says {p q : Nat} {n : Int} {s : ByteArray} {k at_ : Nat} (h : RunSays p q n s k 0 at_) : k = s.size + 1 ∧ at_ = 0 ∧ okTo p q 3 s (s.size + 1) ∧ evs p q 3 s (s.size + 1) = evs p q n s (s.size + 1) := by
  obtain ⟨_, hto, ⟨_, h2, h3, _⟩ | ⟨rfl, _, rfl⟩⟩ := h
  · exact absurd h3.symm h2
  · have key := either_ev p q n s hto
    refine ⟨rfl, rfl, fun j hj => by rw [key j (by omega)]; exact hto j hj, ?_⟩
    unfold evs
    refine List.map_congr_left (fun i hi => ?_)
    rw [key i (by have := List.mem_range.1 hi; omega)]

/-- What stands while the two runs' events are looked at. -/
def EInv (w : World) (b0 : Nat) (v v' : Value) (k : Nat) (L : List Ev) (wr : World) : Prop :=
  wr.ownsRow b0 30 6 v k (evsC L) ∧ wr.ownsRow b0 30 6 v' k (evsC L) ∧ Below w.heap.size w wr
theorem EInv.go {w : World} {b0 : Nat} {v v' : Value} {k : Nat} {L : List Ev} {wr wx : World} (h : EInv w b0 v v' k L wr) (hb : Below wr.heap.size wr wx) : EInv w b0 v v' k L wx :=
  ⟨h.1.kept (grown_below hb none) (by cases v.ownBlock <;> simp), h.2.1.kept (grown_below hb none) (by cases v'.ownBlock <;> simp), h.2.2.trans (hb.mono h.2.2.size)⟩

set_option maxHeartbeats 8000000 in
theorem either_any (p q : Nat) (n : Int) (s : ByteArray) (w : World) (hp : p < 256) (hq : q < 256) (hs : s.size ≤ 9223372036854775807) : Calls Try.prog 6 #[.agg #[.int .u8 p, .int .u8 q, .int .i64 n], .string s] w (Gives (.bool true) w) := by
  apply Gives.of
  have hcell := fun (W : World) (x : Later W) => x.cell
  have hfrozen := fun (W : World) (x : Later W) => x.frozen
  have hset := set_same
  have HF := Lib.hid (fun W => ref_any p q n W hp hq)
  have HA := Lib.hid awake_any
  by_cases hlen : 300 < s.size
  · have l1 : decide (300 < s.size) = true := decide_eq_true hlen
    have l2 : (300 : Int) < (s.size : Int) := by omega
    have l3 : decide ((300 : Int) < (s.size : Int)) = true := decide_eq_true l2
    go_enter Try.func6, Try.ntmps6
    go_wp2_with (first | (go_at_call 9; (first | (with_reducible refine (later_call _ (HA.out _)).mono ?_) | (with_reducible refine (call_later (HA.out _)).mono ?_)); rintro e w' ⟨rfl, x, rfl⟩))
    go_ret
    refine ⟨rfl, ?_⟩
    (repeat (first | (with_reducible exact Below.refl _ _) | (with_reducible refine later_below _ ?_) | (with_reducible refine alloc_below ?_ _) | (with_reducible refine Below.drew ?_) | (refine Below.setCell ?_ (by first | exact Nat.le_refl _ | (simp; done) | (simp; omega) | omega) _)))
  have l1 : decide (300 < s.size) = false := decide_eq_false hlen
  have l2 : ¬ (300 : Int) < (s.size : Int) := by omega
  have l3 : decide ((300 : Int) < (s.size : Int)) = false := decide_eq_false l2
  obtain ⟨r, hr⟩ : ∃ r, okB p q n = r := ⟨_, rfl⟩
  have HR := Lib.hid (fun W => hr ▸ right_any p q n W)
  cases r with
  | false =>
    clear hr
    go_enter Try.func6, Try.ntmps6
    go_wp2_with (first | (go_at_call 8; (first | (with_reducible refine (later_call _ (HF.out _)).mono ?_) | (with_reducible refine (call_later (HF.out _)).mono ?_)); rintro e w' ⟨rfl, x, rfl⟩) | (go_at_call 7; (first | (with_reducible refine (later_call _ (HR.out _)).mono ?_) | (with_reducible refine (call_later (HR.out _)).mono ?_)); rintro e w' ⟨rfl, x, rfl⟩) | (go_at_call 9; (first | (with_reducible refine (later_call _ (HA.out _)).mono ?_) | (with_reducible refine (call_later (HA.out _)).mono ?_)); rintro e w' ⟨rfl, x, rfl⟩))
    go_ret
    refine ⟨rfl, ?_⟩
    (repeat (first | (with_reducible exact Below.refl _ _) | (with_reducible refine later_below _ ?_) | (with_reducible refine alloc_below ?_ _) | (with_reducible refine Below.drew ?_) | (refine Below.setCell ?_ (by first | exact Nat.le_refl _ | (simp; done) | (simp; omega) | omega) _)))
  | true =>
    have HC := Lib.hid (fun W => run_any p q n s W hr (by omega))
    have HC3 := Lib.hid (fun W => run_any p q 3 s W (ok_three hr) (by omega))
    clear hr
    go_enter Try.func6, Try.ntmps6
    go_upto_region 3 with (first | (go_at_call 8; (first | (with_reducible refine (later_call _ (HF.out _)).mono ?_) | (with_reducible refine (call_later (HF.out _)).mono ?_)); rintro e w' ⟨rfl, x1, rfl⟩; have hz1 : w.heap.size < x1.w.heap.size := (by have := x1.size; simp at this ⊢; omega)) | (go_at_call 7; (first | (with_reducible refine (later_call _ (HR.out _)).mono ?_) | (with_reducible refine (call_later (HR.out _)).mono ?_)); rintro e w' ⟨rfl, x2, rfl⟩; have hz2 : w.heap.size < x2.w.heap.size := (by have := x2.size; simp at this ⊢; omega)))
    go_wp2_with fail
    go_at_call 15
    refine (HC.out _).mono ?_
    rintro e w1 ⟨k, kind, at_, v, hsays, rfl, hown, hb⟩
    have hsz1 := hb.size
    have hb1 : Below w.heap.size w w1 := (show Below w.heap.size w x2.w from by (repeat (first | (with_reducible exact Below.refl _ _) | (with_reducible refine later_below _ ?_) | (with_reducible refine alloc_below ?_ _) | (with_reducible refine Below.drew ?_) | (refine Below.setCell ?_ (by first | exact Nat.le_refl _ | (simp; done) | (simp; omega) | omega) _)))).trans (hb.mono (by omega))
    have hbd : Box w1 w.heap.size 23 #[.int .u8 p, .int .u8 q, .int .i64 n] := ((Box.new w _ _).below x2.below (by simp)).below hb (by omega)
    have hown1 := owns_less hown (show w.heap.size + 1 ≤ _ by omega)
    clear hown hb
    by_cases hz : kind = 0
    · subst hz
      obtain ⟨rfl, rfl, hto3, hev⟩ := either_says hsays
      have HS3 := Lib.hid hto3
      have HEV := Lib.hid hev
      obtain ⟨g, cap, rfl, hg0, hg1, hcap1, hcap2⟩ := owns_slice hown1 (by omega)
      have HO1 := Lib.hid hown1
      have HB1 := Lib.hid hb1
      have HD1 := Lib.hid hbd
      clear hsays hto3 hev hown1 hb1 hbd
      go_upto_region 4 with (fail)
      refine at_world ?_
      intro W0 hW
      have hBF : Box W0 w1.heap.size 47 #[.int .i64 0, .int .i64 0] := by rw [← hW]; exact Box.new _ _ _
      have hBD : Box W0 w.heap.size 23 #[.int .u8 p, .int .u8 q, .int .i64 n] := by rw [← hW]; exact HD1.out.alloc _
      have hOW : W0.ownsRow (w.heap.size + 1) 30 6 (.slice (some ⟨g, 0, none⟩) (s.size + 1) cap) (s.size + 1) (evsC (evs p q n s (s.size + 1))) := by rw [← hW]; exact HO1.out.alloc _
      have hBB : Below w.heap.size w W0 := by rw [← hW]; exact HB1.out.alloc HB1.out.size _
      have f0 := hBF.cell 0
      have f1 := hBF.cell 1
      have d0 := hBD.cell 0
      have d1 := hBD.cell 1
      have d2 := hBD.cell 2
      have d3 := hBD.frozen 2
      have HBD := Lib.hid hBD
      have HOW := Lib.hid hOW
      have HBB := Lib.hid hBB
      clear hW hBF hBD hOW hBB
      go_upto_region 7 with (fail)
      refine at_world ?_
      intro W1 hW
      have hBD1 : Box W1 w.heap.size 23 #[.int .u8 p, .int .u8 q, .int .i64 3] := by rw [← hW]; exact HBD.out.set 2 _
      have hOW1 : W1.ownsRow (w.heap.size + 1) 30 6 (.slice (some ⟨g, 0, none⟩) (s.size + 1) cap) (s.size + 1) (evsC (evs p q n s (s.size + 1))) := by rw [← hW]; exact HOW.out.kept (grown_set _ _ _ _) (.inr (fun hc => by injection hc with hc; simp at hc; omega))
      have hBB1 : Below w.heap.size w W1 := by rw [← hW]; exact Below.setCell HBB.out (Nat.le_refl _) _
      have e0 := hBD1.cell 0
      have e1 := hBD1.cell 1
      have e2 := hBD1.cell 2
      have hlW1 := hBD1.lt
      have HOW1 := Lib.hid hOW1
      have HBB1 := Lib.hid hBB1
      clear hW hBD1 hOW1 hBB1 f0 f1 d0 d1 d2 d3
      go_wp2_with fail
      go_at_call 15
      refine (HC3.out _).mono ?_
      rintro e w2 ⟨k2, kind2, at2, v2, hsays2, rfl, hown2, hb2⟩
      obtain ⟨rfl, rfl, rfl⟩ := says_end hsays2 HS3.out
      rw [HEV.out] at hown2
      have hown2' := owns_less hown2 (show w.heap.size + 1 ≤ _ by omega)
      obtain ⟨g', cap', rfl, hg0', hg1', hcap1', hcap2'⟩ := owns_slice hown2' (by omega)
      have hsz2 := hb2.size
      have HE := Lib.hid (show EInv w (w.heap.size + 1) (.slice (some ⟨g, 0, none⟩) (s.size + 1) cap) (.slice (some ⟨g', 0, none⟩) (s.size + 1) cap') (s.size + 1) (evs p q n s (s.size + 1)) w2 from
        ⟨HOW1.out.kept (grown_below hb2 none) (by simp [Value.ownBlock]), hown2', HBB1.out.trans (hb2.mono HBB1.out.size)⟩)
      clear hsays2 hown2 hown2' hb2
      go_wp2_with fail
      go_loopw [49] (fun i (wr : World) => ∃ i0 : Nat, i0 ≤ s.size + 1 ∧ i = .int .i64 i0 ∧ EInv w (w.heap.size + 1) (.slice (some ⟨g, 0, none⟩) (s.size + 1) cap) (.slice (some ⟨g', 0, none⟩) (s.size + 1) cap') (s.size + 1) (evs p q n s (s.size + 1)) wr) (fun i _ => s.size + 1 - (intOf i).toNat)
      case atStart => exact ⟨0, by omega, rfl, HE.out.go (by (repeat (first | (with_reducible exact Below.refl _ _) | (with_reducible refine later_below _ ?_) | (with_reducible refine alloc_below ?_ _) | (with_reducible refine Below.drew ?_) | (refine Below.setCell ?_ (by first | exact Nat.le_refl _ | (simp; done) | (simp; omega) | omega) _))))⟩
      case round =>
        obtain ⟨i0, hi0, rfl, hI⟩ := hrel
        by_cases ci : i0 < s.size + 1
        · have b1 : decide (i0 < s.size + 1) = true := decide_eq_true ci
          have b2 : (i0 : Int) < (s.size : Int) + 1 := by omega
          have b3 : decide ((i0 : Int) < (s.size : Int) + 1) = true := decide_eq_true b2
          have b4 : (0 : Int) ≤ (i0 : Int) := by omega
          obtain ⟨o, ho⟩ : ∃ o, (atV p q n s i0).ev = o := ⟨_, rfl⟩
          have HJ := Lib.hid hI
          have HO := Lib.hid ho
          clear hI ho
          go_upto_region 13 with (fail)
          refine at_world ?_
          intro W2 hW
          have hJ2 : EInv w (w.heap.size + 1) (.slice (some ⟨g, 0, none⟩) (s.size + 1) cap) (.slice (some ⟨g', 0, none⟩) (s.size + 1) cap') (s.size + 1) (evs p q n s (s.size + 1)) W2 := by rw [← hW]; exact HJ.out
          have hge : (evs p q n s (s.size + 1))[i0]? = some o := by rw [evs_get _ _ _ _ _ _ ci, HO.out]
          have hgl : g < W2.heap.size := (hJ2.1.lt g rfl).2
          have hgl' : g' < W2.heap.size := (hJ2.2.1.lt g' rfl).2
          have c0' : W2.cell? ⟨g, i0 * 6, none⟩ = some (.bool o.be) := own_cell hJ2.1 i0 0 o _ hge ci (by omega) rfl
          have c0 : ∀ y : Later W2, y.w.cell? ⟨g, i0 * 6, none⟩ = some (.bool o.be) := fun y => (y.below.cell (p := ⟨g, i0 * 6, none⟩) hgl).trans c0'
          have c1' : W2.cell? ⟨g, i0 * 6 + 1, none⟩ = some (.bool o.ad) := own_cell hJ2.1 i0 1 o _ hge ci (by omega) rfl
          have c1 : ∀ y : Later W2, y.w.cell? ⟨g, i0 * 6 + 1, none⟩ = some (.bool o.ad) := fun y => (y.below.cell (p := ⟨g, i0 * 6 + 1, none⟩) hgl).trans c1'
          have c2' : W2.cell? ⟨g, i0 * 6 + 2, none⟩ = some (.bool o.fi) := own_cell hJ2.1 i0 2 o _ hge ci (by omega) rfl
          have c2 : ∀ y : Later W2, y.w.cell? ⟨g, i0 * 6 + 2, none⟩ = some (.bool o.fi) := fun y => (y.below.cell (p := ⟨g, i0 * 6 + 2, none⟩) hgl).trans c2'
          have c3' : W2.cell? ⟨g, i0 * 6 + 3, none⟩ = some (.bool o.li) := own_cell hJ2.1 i0 3 o _ hge ci (by omega) rfl
          have c3 : ∀ y : Later W2, y.w.cell? ⟨g, i0 * 6 + 3, none⟩ = some (.bool o.li) := fun y => (y.below.cell (p := ⟨g, i0 * 6 + 3, none⟩) hgl).trans c3'
          have c4' : W2.cell? ⟨g, i0 * 6 + 4, none⟩ = some (.bool o.re) := own_cell hJ2.1 i0 4 o _ hge ci (by omega) rfl
          have c4 : ∀ y : Later W2, y.w.cell? ⟨g, i0 * 6 + 4, none⟩ = some (.bool o.re) := fun y => (y.below.cell (p := ⟨g, i0 * 6 + 4, none⟩) hgl).trans c4'
          have c5' : W2.cell? ⟨g, i0 * 6 + 5, none⟩ = some (.int .u8 o.by_) := own_cell hJ2.1 i0 5 o _ hge ci (by omega) rfl
          have c5 : ∀ y : Later W2, y.w.cell? ⟨g, i0 * 6 + 5, none⟩ = some (.int .u8 o.by_) := fun y => (y.below.cell (p := ⟨g, i0 * 6 + 5, none⟩) hgl).trans c5'
          have d0' : W2.cell? ⟨g', i0 * 6, none⟩ = some (.bool o.be) := own_cell hJ2.2.1 i0 0 o _ hge ci (by omega) rfl
          have d0 : ∀ y : Later W2, y.w.cell? ⟨g', i0 * 6, none⟩ = some (.bool o.be) := fun y => (y.below.cell (p := ⟨g', i0 * 6, none⟩) hgl').trans d0'
          have d1' : W2.cell? ⟨g', i0 * 6 + 1, none⟩ = some (.bool o.ad) := own_cell hJ2.2.1 i0 1 o _ hge ci (by omega) rfl
          have d1 : ∀ y : Later W2, y.w.cell? ⟨g', i0 * 6 + 1, none⟩ = some (.bool o.ad) := fun y => (y.below.cell (p := ⟨g', i0 * 6 + 1, none⟩) hgl').trans d1'
          have d2' : W2.cell? ⟨g', i0 * 6 + 2, none⟩ = some (.bool o.fi) := own_cell hJ2.2.1 i0 2 o _ hge ci (by omega) rfl
          have d2 : ∀ y : Later W2, y.w.cell? ⟨g', i0 * 6 + 2, none⟩ = some (.bool o.fi) := fun y => (y.below.cell (p := ⟨g', i0 * 6 + 2, none⟩) hgl').trans d2'
          have d3' : W2.cell? ⟨g', i0 * 6 + 3, none⟩ = some (.bool o.li) := own_cell hJ2.2.1 i0 3 o _ hge ci (by omega) rfl
          have d3 : ∀ y : Later W2, y.w.cell? ⟨g', i0 * 6 + 3, none⟩ = some (.bool o.li) := fun y => (y.below.cell (p := ⟨g', i0 * 6 + 3, none⟩) hgl').trans d3'
          have d4' : W2.cell? ⟨g', i0 * 6 + 4, none⟩ = some (.bool o.re) := own_cell hJ2.2.1 i0 4 o _ hge ci (by omega) rfl
          have d4 : ∀ y : Later W2, y.w.cell? ⟨g', i0 * 6 + 4, none⟩ = some (.bool o.re) := fun y => (y.below.cell (p := ⟨g', i0 * 6 + 4, none⟩) hgl').trans d4'
          have d5' : W2.cell? ⟨g', i0 * 6 + 5, none⟩ = some (.int .u8 o.by_) := own_cell hJ2.2.1 i0 5 o _ hge ci (by omega) rfl
          have d5 : ∀ y : Later W2, y.w.cell? ⟨g', i0 * 6 + 5, none⟩ = some (.int .u8 o.by_) := fun y => (y.below.cell (p := ⟨g', i0 * 6 + 5, none⟩) hgl').trans d5'
          have HJ2 := Lib.hid hJ2
          clear hW hJ2 hge
          refine wp_region_later_lit (by kernel_rfl) (by kernel_rfl) ?_
          repeat (go_big_quiet_step (fail))
          refine wpQuiet_nil ?_
          rintro w' ⟨y, rfl⟩
          go_wp2_with fail
          go_roundw
          case rel => exact ⟨i0 + 1, by omega, by go_num, HJ2.out.go y.below⟩
          case measure => simp [intOf]; omega
        · have b1 : decide (i0 < s.size + 1) = false := decide_eq_false ci
          have b2 : ¬ (i0 : Int) < (s.size : Int) + 1 := by omega
          have b3 : decide ((i0 : Int) < (s.size : Int) + 1) = false := decide_eq_false b2
          have HBBr := Lib.hid hI.2.2
          clear hI
          go_wp2_with ((go_at_call 9; (first | (with_reducible refine (later_call _ (HA.out _)).mono ?_) | (with_reducible refine (call_later (HA.out _)).mono ?_)); rintro e w' ⟨rfl, x, rfl⟩))
          go_ret
          refine ⟨rfl, ?_⟩
          exact later_below' _ HBBr.out
    · have z1 : ((kind : Int) != 0) = true := by simp [hz]
      have z2 : decide ((kind : Int) = 0) = false := decide_eq_false (by omega)
      have z3 : ((kind : Int) == 0) = false := by simp [hz]
      have HB1 := Lib.hid hb1
      clear hsays hown1 hb1 hbd hz
      go_wp2_with ((go_at_call 9; (first | (with_reducible refine (later_call _ (HA.out _)).mono ?_) | (with_reducible refine (call_later (HA.out _)).mono ?_)); rintro e w' ⟨rfl, x, rfl⟩))
      go_ret
      refine ⟨rfl, ?_⟩
      exact later_below' _ (HB1.out.alloc HB1.out.size _) (Nat.le_refl _)

set_option maxRecDepth 100000 in
theorem scanEither_lifted (os : Os) (started : os.Started) (H : Type) (enc : TypeId × Value → H) :
    ReturnsInHanded {} Try.checked os 6 .any (Rows.scanEitherSpec.pre6 enc Try.prog Try.f6 Rows.scanEitherRow.domain false) (Rows.scanEitherSpec.post enc Try.prog Try.f6 false true false false) := by
  refine law_lift (C := Try.checked) (tb := 4) Try.own Try.laidOut started (by kernel_rfl) Try.func6
    (ChangeSpec.witness6 (enc := enc) (C := Try.checked) false ⟨#[], #[.agg #[.int .u8 0, .int .u8 0, .int .i64 0], .string ⟨#[]⟩], []⟩ 8 (by kernel_rfl) (by kernel_rfl) (by kernel_rfl) (by kernel_rfl))
    rfl Try.underlying4 (by intro t ht; have ht' : t ∈ [23, 9] := ht; simp at ht'; rcases ht' with rfl | rfl <;> exact ⟨by kernel_rfl, of_decide_eq_true (by kernel_rfl)⟩) rfl
    (fun ds h => match ds, h with | [_, _], _ => rfl) ?_
  intro W base args ds ps hh
  obtain ⟨v, v', d, d', p, p', rfl, hv, hv', h0, h0'⟩ := handed_two Try.params6 hh
  obtain ⟨a, b, n, ha, hb, rfl⟩ := open_dialect hv h0
  obtain ⟨s, rfl, hs⟩ := open_text hv' h0'
  exact either_any a b n s W ha hb (by unfold maxLen at hs; omega)

theorem scanEither_holds : Rows.ScanEitherSaid :=
  OpenClaim.holds_of_wide 6 Try.f6 rfl rfl rfl rfl rfl rfl rfl ⟨rfl, rfl, rfl, rfl, rfl⟩ rfl rfl rfl rfl rfl (by kernel_rfl) Try.func6 (by kernel_rfl)
    (of_decide_eq_true (by kernel_rfl)) (by unfold Func.isWrapper; first | (rw [if_pos (by decide +kernel)]; kernel_rfl) | (rw [if_neg (by decide +kernel)]; exact ⟨rfl, rfl⟩))
    (fun os started H enc _ => scanEither_lifted os started H enc)
#print axioms scanEither_holds

end Go.Proofs.Ytmolcpfbbhmabaa
