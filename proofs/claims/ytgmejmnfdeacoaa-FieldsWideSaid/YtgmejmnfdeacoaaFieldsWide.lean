/-
  The law FieldsWide returns true for every list of events. Conditions: none.
-/
import Derived.Test.YtgmejmnfdeacoaaRows
import Derived.Test.YtgmejmnfdeacoaaOpenE
import Derived.Test.YtgmejmnfdeacoaaFldL
namespace Go.Proofs.Ytgmejmnfdeacoaa
open Go.ChangeShapes Go.WideShapes Go.ChangeAt Go.RowKit Go.Joins

theorem wide_many (A : Option Addr) (n c : Nat) (w : World) (h : 150 < n) (hm : n ≤ 9223372036854775807) : Calls Try.prog 3 #[.slice A n c] w (Gives (.bool true) w) := by
  apply Gives.of
  have hI : (150 : Int) < (n : Int) := by omega
  have hd : decide ((150 : Int) < (n : Int)) = true := decide_eq_true hI
  have HN := Lib.hid (new_ok wideL w (by decide))
  have HA := Lib.hid awake_any
  go_enter Try.func3, Try.ntmps3
  go_wp2_with (first | (go_at_call 6; refine HN.out.mono ?_; rintro e w1 ⟨q, hq, rfl, _, hb0⟩; have HB0 := Lib.hid hb0; clear hb0) | (go_at_call 7; (first | (with_reducible refine (later_call _ (HA.out _)).mono ?_) | (with_reducible refine (call_later (HA.out _)).mono ?_)); rintro e w' ⟨rfl, x, rfl⟩))
  go_ret
  exact ⟨rfl, later_below' _ HB0.out⟩

set_option maxHeartbeats 2000000 in
theorem wide_any (A : Option Addr) (n c : Nat) (E : Nat → Ev) (w : World) (h : ¬ 150 < n) (hc : n ≤ c) (hm : c ≤ maxLen) (hE : EvsAt w A n E) : Calls Try.prog 3 #[.slice A n c] w (Gives (.bool true) w) := by
  apply Gives.of
  unfold maxLen at hm
  have hI : ¬ (150 : Int) < (n : Int) := by omega
  have hd : decide ((150 : Int) < (n : Int)) = false := decide_eq_false hI
  have HN := Lib.hid (new_ok wideL w (by decide))
  have HA := Lib.hid awake_any
  have HE := Lib.hid hE
  clear hE
  go_enter Try.func3, Try.ntmps3
  go_wp2_with (go_at_call 6; refine HN.out.mono ?_; rintro e w1 ⟨q, hq, rfl, h0, hb0⟩; have H0 := Lib.hid h0; have HB0 := Lib.hid hb0; clear h0 hb0)
  go_loopw [37] (fun i (wr : World) => ∃ k : Nat, k ≤ n ∧ i = .int .i64 k ∧ Below w.heap.size w wr ∧ ∃ A c v mm, MBox wr q A c v wideL mm ∧ Sz mm (5 * k) ∧ mm.st = 0) (fun i _ => n - (intOf i).toNat)
  case atStart => exact ⟨0, by omega, rfl, HB0.out, none, 0, _, mkr0, H0.out, Sz.zero _, rfl⟩
  case round =>
    obtain ⟨k, hk, rfl, hb, Ak, ck, vk, mm, hM, hS, hst⟩ := hrel
    have HB := Lib.hid hb
    have HM := Lib.hid hM
    have HS := Lib.hid hS
    have HST := Lib.hid hst
    clear hb hM hS hst
    by_cases hkn : k < n
    · obtain ⟨ad, rfl, hb6, hcells⟩ := (HE.out.below HB.out) k hkn
      obtain ⟨e0, he0⟩ : ∃ e, E k = e := ⟨_, rfl⟩
      rw [he0] at hb6 hcells
      obtain ⟨be, ad', fi, li, re, b⟩ := e0
      have kI : (k : Int) < (n : Int) := by omega
      have kd : decide (k < n) = true := decide_eq_true hkn
      have x0 : wr.cell? (ad.add (k * 6)) = some (.bool be) := hcells 0 _ rfl
      have x1 : wr.cell? (ad.add (k * 6 + 1)) = some (.bool ad') := hcells 1 _ rfl
      have y1 : wr.cell? ⟨(ad.add (k * 6)).block, (ad.add (k * 6)).off + 1, none⟩ = some (.bool ad') := by rw [show (⟨(ad.add (k * 6)).block, (ad.add (k * 6)).off + 1, none⟩ : Addr) = (ad.add (k * 6)).add 1 from rfl, add_add']; exact x1
      have x2 : wr.cell? (ad.add (k * 6 + 2)) = some (.bool fi) := hcells 2 _ rfl
      have y2 : wr.cell? ⟨(ad.add (k * 6)).block, (ad.add (k * 6)).off + 2, none⟩ = some (.bool fi) := by rw [show (⟨(ad.add (k * 6)).block, (ad.add (k * 6)).off + 2, none⟩ : Addr) = (ad.add (k * 6)).add 2 from rfl, add_add']; exact x2
      have x3 : wr.cell? (ad.add (k * 6 + 3)) = some (.bool li) := hcells 3 _ rfl
      have y3 : wr.cell? ⟨(ad.add (k * 6)).block, (ad.add (k * 6)).off + 3, none⟩ = some (.bool li) := by rw [show (⟨(ad.add (k * 6)).block, (ad.add (k * 6)).off + 3, none⟩ : Addr) = (ad.add (k * 6)).add 3 from rfl, add_add']; exact x3
      have x4 : wr.cell? (ad.add (k * 6 + 4)) = some (.bool re) := hcells 4 _ rfl
      have y4 : wr.cell? ⟨(ad.add (k * 6)).block, (ad.add (k * 6)).off + 4, none⟩ = some (.bool re) := by rw [show (⟨(ad.add (k * 6)).block, (ad.add (k * 6)).off + 4, none⟩ : Addr) = (ad.add (k * 6)).add 4 from rfl, add_add']; exact x4
      have x5 : wr.cell? (ad.add (k * 6 + 5)) = some (.int .u8 b) := hcells 5 _ rfl
      have y5 : wr.cell? ⟨(ad.add (k * 6)).block, (ad.add (k * 6)).off + 5, none⟩ = some (.int .u8 b) := by rw [show (⟨(ad.add (k * 6)).block, (ad.add (k * 6)).off + 5, none⟩ : Addr) = (ad.add (k * 6)).add 5 from rfl, add_add']; exact x5
      clear hcells
      go_wp2_with fail
      have HM1 := Lib.hid (HM.out.below ((Below.refl _ _).alloc (Nat.le_refl _) (.cells #[.bool be, .bool ad', .bool fi, .bool li, .bool re, .int .u8 b] 31)))
      go_at_call 8
      refine (take_any q ck Ak vk wideL mm be ad' fi li re b _ HM1.out hb6 (HS.out.mono (by omega))).mono ?_
      rintro e w2 ⟨A2, c2, v2, r2, hM2, hG2, rfl, _, _, _⟩
      have hst := take_wide (e := ⟨be, ad', fi, li, re, b⟩) HST.out HS.out (by omega)
      have hst' : (((takeV wideL mm ⟨be, ad', fi, li, re, b⟩).1.st : Nat) : Int) = 0 := by omega
      rw [hst']
      have HM2 := Lib.hid hM2
      have HS2 := Lib.hid (take_sz (l := wideL) (e := ⟨be, ad', fi, li, re, b⟩) HS.out)
      have HB2 := Lib.hid ((HB.out.alloc HB.out.size (.cells #[.bool be, .bool ad', .bool fi, .bool li, .bool re, .int .u8 b] 31)).trans (hG2.low HM1.out hq))
      have HST2 := Lib.hid hst
      clear hM2 hG2 hst hst'
      go_wp2_with fail
      go_roundw
      case rel => exact ⟨k + 1, by omega, by go_num, HB2.out, A2, c2, v2, _, HM2.out, HS2.out.mono (by omega), HST2.out⟩
      case measure => simp [intOf]; omega
    · obtain rfl : k = n := by omega
      have kI : ¬ (k : Int) < (k : Int) := by omega
      have kd : decide (k < k) = false := decide_eq_false (by omega)
      have hst' : ((mm.st : Nat) : Int) = 0 := by have := HST.out; omega
      go_wp2_with (first | (go_at_call 9; refine (stopped_any q ck Ak vk wideL mm wr HM.out).mono ?_; rintro e w' ⟨rfl, rfl⟩) | (go_at_call 7; (first | (with_reducible refine (later_call _ (HA.out _)).mono ?_) | (with_reducible refine (call_later (HA.out _)).mono ?_)); rintro e w' ⟨rfl, x, rfl⟩))
      go_ret
      exact ⟨rfl, later_below' _ HB.out⟩

theorem wide_all (A : Option Addr) (n c : Nat) (E : Nat → Ev) (w : World) (hc : n ≤ c) (hm : c ≤ maxLen) (hE : EvsAt w A n E) : Calls Try.prog 3 #[.slice A n c] w (Gives (.bool true) w) := by
  by_cases h : 150 < n
  · exact wide_many A n c w h (by unfold maxLen at hm; omega)
  · exact wide_any A n c E w h hc hm hE

set_option maxRecDepth 100000 in
theorem fieldsWide_lifted (os : Os) (started : os.Started) (H : Type) (enc : TypeId × Value → H) :
    ReturnsInHanded {} Try.checked os 3 .any (Rows.fieldsWideSpec.pre6 enc Try.prog Try.f3 Rows.fieldsWideRow.domain false) (Rows.fieldsWideSpec.post enc Try.prog Try.f3 false true false false) := by
  refine law_lift (C := Try.checked) (tb := 4) Try.own Try.laidOut started (by kernel_rfl) Try.func3
    (ChangeSpec.witness6 (enc := enc) (C := Try.checked) false ⟨#[], #[.slice none 0 0], []⟩ 8 (by kernel_rfl) (by kernel_rfl) (by kernel_rfl) (by kernel_rfl))
    rfl Try.underlying4 (by intro t ht; have ht' : t ∈ [22] := ht; simp at ht'; subst ht'; exact ⟨by kernel_rfl, of_decide_eq_true (by kernel_rfl)⟩) rfl
    (fun ds h => match ds, h with | [_], _ => rfl) ?_
  intro W base args ds ps hh
  obtain ⟨v, d, p, rfl, hv, h0⟩ := handed_one Try.params3 hh
  obtain ⟨A, n, c, E, rfl, hc, hm, hE⟩ := open_events hv h0
  exact wide_all A n c E W hc hm hE

theorem fieldsWide_holds : Rows.FieldsWideSaid :=
  OpenClaim.holds_of_wide 3 Try.f3 rfl rfl rfl rfl rfl rfl rfl ⟨rfl, rfl, rfl, rfl, rfl⟩ rfl rfl rfl rfl rfl (by kernel_rfl) Try.func3 (by kernel_rfl)
    (of_decide_eq_true (by kernel_rfl)) (by unfold Func.isWrapper; first | (rw [if_pos (by decide +kernel)]; kernel_rfl) | (rw [if_neg (by decide +kernel)]; exact ⟨rfl, rfl⟩))
    (fun os started H enc _ => fieldsWide_lifted os started H enc)
#print axioms fieldsWide_holds

end Go.Proofs.Ytgmejmnfdeacoaa
