/-
  The law FieldsStops returns true for all limits and all lists of events. Conditions: none.
-/
import Derived.Test.YtgmejmnfdeacoaaRows
import Derived.Test.YtgmejmnfdeacoaaOpenE
import Derived.Test.YtgmejmnfdeacoaaOpenL
import Derived.Test.YtgmejmnfdeacoaaFldL
import Derived.Test.YtgmejmnfdeacoaaSame
namespace Go.Proofs.Ytgmejmnfdeacoaa
open Go.ChangeShapes Go.WideShapes Go.ChangeAt Go.RowKit Go.Joins

theorem stops_away (a b c : Int) (u : Bool) (A B : Option Addr) (n cn m cm : Nat) (w : World) (h : fitsB a b c = false ∨ 150 < n ∨ 150 < m) (hn : n ≤ 9223372036854775807) (hm : m ≤ 9223372036854775807) :
    Calls Try.prog 4 #[.agg #[.int .i64 a, .int .i64 b, .int .i64 c, .bool u], .slice A n cn, .slice B m cm] w (Gives (.bool true) w) := by
  apply Gives.of
  have hcell := fun (W : World) (x : Later W) => x.cell
  have HA := Lib.hid awake_any
  cases hf : fitsB a b c
  · have HN := Lib.hid (fun W => new_no ⟨a, b, c, u⟩ W hf)
    have HF := Lib.hid hf
    clear hf h
    by_cases h1 : 150 < n
    · have d1 : decide ((150 : Int) < (n : Int)) = true := decide_eq_true (by omega)
      go_enter Try.func4, Try.ntmps4
      go_wp2_with (first | (go_at_call 6; (first | (with_reducible refine (later_call _ (HN.out _)).mono ?_) | (with_reducible refine (call_later (HN.out _)).mono ?_)); rintro e w' ⟨rfl, x, rfl⟩) | (go_at_call 7; (first | (with_reducible refine (later_call _ (HA.out _)).mono ?_) | (with_reducible refine (call_later (HA.out _)).mono ?_)); rintro e w' ⟨rfl, x, rfl⟩))
      go_ret
      refine ⟨rfl, ?_⟩
      (repeat (first | (with_reducible exact Below.refl _ _) | (with_reducible refine later_below _ ?_) | (with_reducible refine alloc_below ?_ _) | (with_reducible refine Below.drew ?_) | (refine Below.setCell ?_ (by first | exact Nat.le_refl _ | (simp; done) | (simp; omega) | omega) _)))
    · have d1 : decide ((150 : Int) < (n : Int)) = false := decide_eq_false (by omega)
      by_cases h2 : 150 < m
      · have d2 : decide ((150 : Int) < (m : Int)) = true := decide_eq_true (by omega)
        go_enter Try.func4, Try.ntmps4
        go_wp2_with (first | (go_at_call 6; (first | (with_reducible refine (later_call _ (HN.out _)).mono ?_) | (with_reducible refine (call_later (HN.out _)).mono ?_)); rintro e w' ⟨rfl, x, rfl⟩) | (go_at_call 7; (first | (with_reducible refine (later_call _ (HA.out _)).mono ?_) | (with_reducible refine (call_later (HA.out _)).mono ?_)); rintro e w' ⟨rfl, x, rfl⟩))
        go_ret
        refine ⟨rfl, ?_⟩
        (repeat (first | (with_reducible exact Below.refl _ _) | (with_reducible refine later_below _ ?_) | (with_reducible refine alloc_below ?_ _) | (with_reducible refine Below.drew ?_) | (refine Below.setCell ?_ (by first | exact Nat.le_refl _ | (simp; done) | (simp; omega) | omega) _)))
      · have d2 : decide ((150 : Int) < (m : Int)) = false := decide_eq_false (by omega)
        go_enter Try.func4, Try.ntmps4
        go_wp2_with (first | (go_at_call 6; (first | (with_reducible refine (later_call _ (HN.out _)).mono ?_) | (with_reducible refine (call_later (HN.out _)).mono ?_)); rintro e w' ⟨rfl, x, rfl⟩) | (go_at_call 7; (first | (with_reducible refine (later_call _ (HA.out _)).mono ?_) | (with_reducible refine (call_later (HA.out _)).mono ?_)); rintro e w' ⟨rfl, x, rfl⟩))
        go_ret
        refine ⟨rfl, ?_⟩
        (repeat (first | (with_reducible exact Below.refl _ _) | (with_reducible refine later_below _ ?_) | (with_reducible refine alloc_below ?_ _) | (with_reducible refine Below.drew ?_) | (refine Below.setCell ?_ (by first | exact Nat.le_refl _ | (simp; done) | (simp; omega) | omega) _)))
  · have HN := Lib.hid (fun W => new_ok ⟨a, b, c, u⟩ W hf)
    have h' : 150 < n ∨ 150 < m := by rcases h with h | h | h; · rw [hf] at h; cases h
                                      · exact .inl h
                                      · exact .inr h
    have HF := Lib.hid hf
    clear hf h
    by_cases h1 : 150 < n
    · have d1 : decide ((150 : Int) < (n : Int)) = true := decide_eq_true (by omega)
      clear h'
      go_enter Try.func4, Try.ntmps4
      go_wp2_with (first | (go_at_call 6; refine (HN.out _).mono ?_; rintro e w1 ⟨q, hq, rfl, _, hb0⟩; have HB0 := Lib.hid hb0; clear hb0) | (go_at_call 7; (first | (with_reducible refine (later_call _ (HA.out _)).mono ?_) | (with_reducible refine (call_later (HA.out _)).mono ?_)); rintro e w' ⟨rfl, x, rfl⟩))
      go_ret
      exact ⟨rfl, later_below' _ (((Below.refl _ _).alloc (Nat.le_refl _) _).trans (HB0.out.mono (by simp)))⟩
    · have d1 : decide ((150 : Int) < (n : Int)) = false := decide_eq_false (by omega)
      have d2 : decide ((150 : Int) < (m : Int)) = true := decide_eq_true (by omega)
      clear h'
      go_enter Try.func4, Try.ntmps4
      go_wp2_with (first | (go_at_call 6; refine (HN.out _).mono ?_; rintro e w1 ⟨q, hq, rfl, _, hb0⟩; have HB0 := Lib.hid hb0; clear hb0) | (go_at_call 7; (first | (with_reducible refine (later_call _ (HA.out _)).mono ?_) | (with_reducible refine (call_later (HA.out _)).mono ?_)); rintro e w' ⟨rfl, x, rfl⟩))
      go_ret
      exact ⟨rfl, later_below' _ (((Below.refl _ _).alloc (Nat.le_refl _) _).trans (HB0.out.mono (by simp)))⟩

/-- What stands while more events come. -/
def SInv (w : World) (q : Nat) (l : Lim) (mm : Mkr) (B0 : Nat) (r : Value) (wr : World) : Prop :=
  Below w.heap.size w wr ∧ ∃ A c v, MBox wr q A c v l mm ∧ OwnS wr B0 r mm.rc ∧ ∀ g, r.ownBlock = some g → ¬ feet q A v g
theorem SInv.take {w wr w1 w2 : World} {q : Nat} {l : Lim} {mm : Mkr} {B0 : Nat} {r : Value} {A A2 : Option Addr} {v v2 : Value} {c c2 : Nat} (hq : w.heap.size ≤ q) (hb : Below w.heap.size w wr) (hM : MBox wr q A c v l mm) (hr : OwnS wr B0 r mm.rc) (hd : ∀ g, r.ownBlock = some g → ¬ feet q A v g)
    (h1 : Below wr.heap.size wr w1) (hM2 : MBox w2 q A2 c2 v2 l mm) (hG : Goes w1 w2 q A v A2 v2) : SInv w q l mm B0 r w2 := by
  refine ⟨(hb.trans (h1.mono hb.size)).trans (hG.low (hM.below h1) hq), A2, c2, v2, hM2, ?_, ?_⟩
  · exact owns_keeps (owns_keeps hr (keeps_below h1 (fun _ => False)) (fun _ _ => id)) hG.1 hd
  · intro g hg hf
    rcases hG.2 g hf with h | h
    · exact hd g hg h
    · have := (hr.lt g hg).2
      have := h1.size
      omega

set_option maxHeartbeats 4000000 in
theorem stops_main (a b c : Int) (u : Bool) (A B : Option Addr) (n cn m cm : Nat) (E F : Nat → Ev) (w : World) (hf : fitsB a b c = true) (h1 : ¬ 150 < n) (h2 : ¬ 150 < m) (hn : n ≤ cn) (hn' : cn ≤ maxLen) (hm : m ≤ cm) (hm' : cm ≤ maxLen) (hE : EvsAt w A n E) (hF : EvsAt w B m F) :
    Calls Try.prog 4 #[.agg #[.int .i64 a, .int .i64 b, .int .i64 c, .bool u], .slice A n cn, .slice B m cm] w (Gives (.bool true) w) := by
  apply Gives.of
  unfold maxLen at hn' hm'
  have HA := Lib.hid awake_any
  have HN := Lib.hid (fun W => new_ok ⟨a, b, c, u⟩ W hf)
  have HE := Lib.hid hE
  have HF := Lib.hid hF
  obtain ⟨l, hl⟩ : ∃ l, (⟨a, b, c, u⟩ : Lim) = l := ⟨_, rfl⟩
  have HL := Lib.hid hl
  have d1 : decide ((150 : Int) < (n : Int)) = false := decide_eq_false (by omega)
  have d2 : decide ((150 : Int) < (m : Int)) = false := decide_eq_false (by omega)
  clear hf hE hF hl
  go_enter Try.func4, Try.ntmps4
  go_wp2_with (go_at_call 6; refine (HN.out _).mono ?_; rintro e w1 ⟨q, hq, rfl, h0, hb0⟩; rw [HL.out] at h0; have H0 := Lib.hid h0; have HB0 := Lib.hid (((Below.refl _ _).alloc (Nat.le_refl _) _).trans (hb0.mono (by simp))); clear h0 hb0)
  have hqw : w.heap.size ≤ q := by simp at hq; omega
  go_loopw [47] (fun i (wr : World) => ∃ k : Nat, k ≤ n ∧ i = .int .i64 k ∧ Below w.heap.size w wr ∧ ∃ A c v mm, MBox wr q A c v l mm ∧ Sz mm (5 * k)) (fun i _ => n - (intOf i).toNat)
  case atStart => exact ⟨0, by omega, rfl, HB0.out, none, 0, _, mkr0, H0.out, Sz.zero _⟩
  case round =>
    obtain ⟨k, hk, rfl, hb, Ak, ck, vk, mm, hM, hS⟩ := hrel
    have HB := Lib.hid hb
    have HM := Lib.hid hM
    have HS := Lib.hid hS
    clear hb hM hS
    by_cases hkn : k < n
    · obtain ⟨ad, rfl, hb6, hcells⟩ := (HE.out.below HB.out) k hkn
      obtain ⟨e0, he0⟩ : ∃ e, E k = e := ⟨_, rfl⟩
      rw [he0] at hb6 hcells
      obtain ⟨be, ad', fi, li, re, b⟩ := e0
      have kI : (k : Int) < (n : Int) := by omega
      have kd : decide (k < n) = true := decide_eq_true hkn
      (have x0 : wr.cell? (ad.add (k * 6)) = some (.bool be) := hcells 0 _ rfl; have x1 : wr.cell? (ad.add (k * 6 + 1)) = some (.bool ad') := hcells 1 _ rfl; have y1 : wr.cell? ⟨(ad.add (k * 6)).block, (ad.add (k * 6)).off + 1, none⟩ = some (.bool ad') := (by rw [show (⟨(ad.add (k * 6)).block, (ad.add (k * 6)).off + 1, none⟩ : Addr) = (ad.add (k * 6)).add 1 from rfl, add_add']; exact x1); have x2 : wr.cell? (ad.add (k * 6 + 2)) = some (.bool fi) := hcells 2 _ rfl; have y2 : wr.cell? ⟨(ad.add (k * 6)).block, (ad.add (k * 6)).off + 2, none⟩ = some (.bool fi) := (by rw [show (⟨(ad.add (k * 6)).block, (ad.add (k * 6)).off + 2, none⟩ : Addr) = (ad.add (k * 6)).add 2 from rfl, add_add']; exact x2); have x3 : wr.cell? (ad.add (k * 6 + 3)) = some (.bool li) := hcells 3 _ rfl; have y3 : wr.cell? ⟨(ad.add (k * 6)).block, (ad.add (k * 6)).off + 3, none⟩ = some (.bool li) := (by rw [show (⟨(ad.add (k * 6)).block, (ad.add (k * 6)).off + 3, none⟩ : Addr) = (ad.add (k * 6)).add 3 from rfl, add_add']; exact x3); have x4 : wr.cell? (ad.add (k * 6 + 4)) = some (.bool re) := hcells 4 _ rfl; have y4 : wr.cell? ⟨(ad.add (k * 6)).block, (ad.add (k * 6)).off + 4, none⟩ = some (.bool re) := (by rw [show (⟨(ad.add (k * 6)).block, (ad.add (k * 6)).off + 4, none⟩ : Addr) = (ad.add (k * 6)).add 4 from rfl, add_add']; exact x4); have x5 : wr.cell? (ad.add (k * 6 + 5)) = some (.int .u8 b) := hcells 5 _ rfl; have y5 : wr.cell? ⟨(ad.add (k * 6)).block, (ad.add (k * 6)).off + 5, none⟩ = some (.int .u8 b) := (by rw [show (⟨(ad.add (k * 6)).block, (ad.add (k * 6)).off + 5, none⟩ : Addr) = (ad.add (k * 6)).add 5 from rfl, add_add']; exact x5))
      clear hcells
      go_wp2_with fail
      have HM1 := Lib.hid (HM.out.below ((Below.refl _ _).alloc (Nat.le_refl _) (.cells #[.bool be, .bool ad', .bool fi, .bool li, .bool re, .int .u8 b] 31)))
      go_at_call 8
      refine (take_any q ck Ak vk l mm be ad' fi li re b _ HM1.out hb6 (HS.out.mono (by omega))).mono ?_
      rintro e w2 ⟨A2, c2, v2, r2, hM2, hG2, rfl, _, _, _⟩
      have HM2 := Lib.hid hM2
      have HS2 := Lib.hid (take_sz (l := l) (e := ⟨be, ad', fi, li, re, b⟩) HS.out)
      have HB2 := Lib.hid ((HB.out.alloc HB.out.size (.cells #[.bool be, .bool ad', .bool fi, .bool li, .bool re, .int .u8 b] 31)).trans (hG2.low HM1.out hqw))
      clear hM2 hG2
      go_wp2_with fail
      go_roundw
      case rel => exact ⟨k + 1, by omega, by go_num, HB2.out, A2, c2, v2, _, HM2.out, HS2.out.mono (by omega)⟩
      case measure => simp [intOf]; omega
    · obtain rfl : k = n := by omega
      have kI : ¬ (k : Int) < (k : Int) := by omega
      have kd : decide (k < k) = false := decide_eq_false (by omega)
      have HST := Lib.hid (stopped_any q ck Ak vk l mm wr HM.out)
      by_cases hst : mm.st = 0
      · have z1 : ((mm.st : Int) == 0) = true := by simp [hst]
        have z2 : decide ((mm.st : Int) = 0) = true := decide_eq_true (by omega)
        clear hst
        go_wp2_with (first | (go_at_call 9; refine HST.out.mono ?_; rintro e w' ⟨rfl, rfl⟩) | (go_at_call 7; (first | (with_reducible refine (later_call _ (HA.out _)).mono ?_) | (with_reducible refine (call_later (HA.out _)).mono ?_)); rintro e w' ⟨rfl, x, rfl⟩))
        go_ret
        exact ⟨rfl, later_below' _ HB.out⟩
      · have z1 : ((mm.st : Int) == 0) = false := by simp [hst]
        have z2 : decide ((mm.st : Int) = 0) = false := decide_eq_false (by omega)
        have HZ := Lib.hid hst
        clear hst
        go_wp2_with (go_at_call 9; refine HST.out.mono ?_; rintro e w' ⟨rfl, rfl⟩)
        go_at_call 10
        refine (open_any q ck Ak vk l mm _ HM.out (by have := HS.out.2.1; omega)).mono ?_
        rintro e w2 ⟨r, rfl, hr, hb2⟩
        have hM2 := HM.out.below hb2
        have HI := Lib.hid (show SInv w q l mm w.heap.size r w2 from ⟨HB.out.trans (hb2.mono HB.out.size), Ak, ck, vk, hM2, owns_less hr HB.out.size, fun g hg hf' => by have := (hr.lt g hg).1; have := (HM.out.feet_lt g hf').2; omega⟩)
        have HM2 := Lib.hid hM2
        clear hM2 hr hb2
        go_wp2_with (first | (go_at_call 9; refine (stopped_any q ck Ak vk l mm _ HM2.out).mono ?_; rintro e w' ⟨rfl, rfl⟩) | (go_at_call 11; refine (count_any q ck Ak vk l mm _ HM2.out).mono ?_; rintro e w' ⟨rfl, rfl⟩) | (go_at_call 12; refine (begun_any q ck Ak vk l mm _ HM2.out).mono ?_; rintro e w' ⟨rfl, rfl⟩))
        have HE0 : Hid (EvsAt w B m F) := HF
        clear HM2
        go_loopw [72] (fun i (wr : World) => ∃ j : Nat, j ≤ m ∧ i = .int .i64 j ∧ SInv w q l mm w.heap.size r wr) (fun i _ => m - (intOf i).toNat)
        case atStart => exact ⟨0, by omega, rfl, HI.out⟩
        case round =>
          obtain ⟨j, hj, rfl, hb, Aj, cj, vj, hM, hr, hd⟩ := hrel
          have HBj := Lib.hid hb
          have HMj := Lib.hid hM
          have HRj := Lib.hid hr
          have HDj := Lib.hid hd
          clear hb hM hr hd
          by_cases hjm : j < m
          · obtain ⟨ad, rfl, hb6, hcells⟩ := (HE0.out.below HBj.out) j hjm
            obtain ⟨e0, he0⟩ : ∃ e, F j = e := ⟨_, rfl⟩
            rw [he0] at hb6 hcells
            obtain ⟨be, ad', fi, li, re, b⟩ := e0
            have jI : (j : Int) < (m : Int) := by omega
            have jd : decide (j < m) = true := decide_eq_true hjm
            (have x0 : wr.cell? (ad.add (j * 6)) = some (.bool be) := hcells 0 _ rfl; have x1 : wr.cell? (ad.add (j * 6 + 1)) = some (.bool ad') := hcells 1 _ rfl; have y1 : wr.cell? ⟨(ad.add (j * 6)).block, (ad.add (j * 6)).off + 1, none⟩ = some (.bool ad') := (by rw [show (⟨(ad.add (j * 6)).block, (ad.add (j * 6)).off + 1, none⟩ : Addr) = (ad.add (j * 6)).add 1 from rfl, add_add']; exact x1); have x2 : wr.cell? (ad.add (j * 6 + 2)) = some (.bool fi) := hcells 2 _ rfl; have y2 : wr.cell? ⟨(ad.add (j * 6)).block, (ad.add (j * 6)).off + 2, none⟩ = some (.bool fi) := (by rw [show (⟨(ad.add (j * 6)).block, (ad.add (j * 6)).off + 2, none⟩ : Addr) = (ad.add (j * 6)).add 2 from rfl, add_add']; exact x2); have x3 : wr.cell? (ad.add (j * 6 + 3)) = some (.bool li) := hcells 3 _ rfl; have y3 : wr.cell? ⟨(ad.add (j * 6)).block, (ad.add (j * 6)).off + 3, none⟩ = some (.bool li) := (by rw [show (⟨(ad.add (j * 6)).block, (ad.add (j * 6)).off + 3, none⟩ : Addr) = (ad.add (j * 6)).add 3 from rfl, add_add']; exact x3); have x4 : wr.cell? (ad.add (j * 6 + 4)) = some (.bool re) := hcells 4 _ rfl; have y4 : wr.cell? ⟨(ad.add (j * 6)).block, (ad.add (j * 6)).off + 4, none⟩ = some (.bool re) := (by rw [show (⟨(ad.add (j * 6)).block, (ad.add (j * 6)).off + 4, none⟩ : Addr) = (ad.add (j * 6)).add 4 from rfl, add_add']; exact x4); have x5 : wr.cell? (ad.add (j * 6 + 5)) = some (.int .u8 b) := hcells 5 _ rfl; have y5 : wr.cell? ⟨(ad.add (j * 6)).block, (ad.add (j * 6)).off + 5, none⟩ = some (.int .u8 b) := (by rw [show (⟨(ad.add (j * 6)).block, (ad.add (j * 6)).off + 5, none⟩ : Addr) = (ad.add (j * 6)).add 5 from rfl, add_add']; exact x5))
            clear hcells
            go_wp2_with fail
            have hB1 : Below wr.heap.size wr (wr.alloc (.cells #[.bool be, .bool ad', .bool fi, .bool li, .bool re, .int .u8 b] 31)) := (Below.refl _ _).alloc (Nat.le_refl _) _
            have HM1 := Lib.hid (HMj.out.below hB1)
            go_at_call 8
            refine (take_quiet HM1.out hb6 (HS.out.mono (by omega)) (take_stopped HZ.out)).mono ?_
            rintro e w2 ⟨A2, c2, v2, hM2, hG2, rfl⟩
            have HI2 := Lib.hid (SInv.take hqw HBj.out HMj.out HRj.out HDj.out hB1 hM2 hG2)
            clear hM2 hG2 hB1
            go_wp2_with fail
            go_roundw
            case rel => exact ⟨j + 1, by omega, by go_num, HI2.out⟩
            case measure => simp [intOf]; omega
          · obtain rfl : j = m := by omega
            have jI : ¬ (j : Int) < (j : Int) := by omega
            have jd : decide (j < j) = false := decide_eq_false (by omega)
            go_wp2_with fail
            go_at_call 10
            refine (open_any q cj Aj vj l mm _ HMj.out (by have := HS.out.2.1; omega)).mono ?_
            rintro e w3 ⟨r3, rfl, hr3, hb3⟩
            have HM3 := Lib.hid (HMj.out.below hb3)
            have HB3 := Lib.hid (HBj.out.trans (hb3.mono HBj.out.size))
            have hsame := fun W (hW : Below w3.heap.size w3 W) => same_any r r3 mm.rc mm.rc W ((HRj.out.strs.below hb3).below hW) (hr3.strs.below hW)
            simp only [decide_true] at hsame
            have HSM := Lib.hid hsame
            clear hsame hr3 hb3
            go_wp2_with (first | (go_at_call 13; refine (call_later (HSM.out _ (Below.refl _ _))).mono ?_; rintro e w' ⟨rfl, x, rfl⟩; have HX := Lib.hid (HM3.out.below x.below)) | (go_at_call 11; refine (count_any q cj Aj vj l mm _ HX.out).mono ?_; rintro e w' ⟨rfl, rfl⟩) | (go_at_call 12; refine (begun_any q cj Aj vj l mm _ HX.out).mono ?_; rintro e w' ⟨rfl, rfl⟩) | (go_at_call 7; (first | (with_reducible refine (later_call _ (HA.out _)).mono ?_) | (with_reducible refine (call_later (HA.out _)).mono ?_)); rintro e w' ⟨rfl, x, rfl⟩))
            go_ret
            refine ⟨rfl, ?_⟩
            (repeat (first | (with_reducible exact HB3.out) | (with_reducible refine later_below' _ ?_)))

theorem stops_all (a b c : Int) (u : Bool) (A B : Option Addr) (n cn m cm : Nat) (E F : Nat → Ev) (w : World) (hn : n ≤ cn) (hn' : cn ≤ maxLen) (hm : m ≤ cm) (hm' : cm ≤ maxLen) (hE : EvsAt w A n E) (hF : EvsAt w B m F) :
    Calls Try.prog 4 #[.agg #[.int .i64 a, .int .i64 b, .int .i64 c, .bool u], .slice A n cn, .slice B m cm] w (Gives (.bool true) w) := by
  by_cases h : fitsB a b c = false ∨ 150 < n ∨ 150 < m
  · exact stops_away a b c u A B n cn m cm w h (by unfold maxLen at hn'; omega) (by unfold maxLen at hm'; omega)
  · have h1 : fitsB a b c = true := by cases hf : fitsB a b c; · exact absurd (.inl hf) h
                                       · rfl
    exact stops_main a b c u A B n cn m cm E F w h1 (fun h' => h (.inr (.inl h'))) (fun h' => h (.inr (.inr h'))) hn hn' hm hm' hE hF

set_option maxRecDepth 100000 in
theorem fieldsStops_lifted (os : Os) (started : os.Started) (H : Type) (enc : TypeId × Value → H) :
    ReturnsInHanded {} Try.checked os 4 .any (Rows.fieldsStopsSpec.pre6 enc Try.prog Try.f4 Rows.fieldsStopsRow.domain false) (Rows.fieldsStopsSpec.post enc Try.prog Try.f4 false true false false) := by
  refine law_lift (C := Try.checked) (tb := 4) Try.own Try.laidOut started (by kernel_rfl) Try.func4
    (ChangeSpec.witness6 (enc := enc) (C := Try.checked) false ⟨#[], #[.agg #[.int .i64 0, .int .i64 0, .int .i64 0, .bool false], .slice none 0 0, .slice none 0 0], []⟩ 8 (by kernel_rfl) (by kernel_rfl) (by kernel_rfl) (by kernel_rfl))
    rfl Try.underlying4 (by intro t ht; have ht' : t ∈ [28, 22, 22] := ht; simp at ht'; rcases ht' with rfl | rfl <;> exact ⟨by kernel_rfl, of_decide_eq_true (by kernel_rfl)⟩) rfl
    (fun ds h => match ds, h with | [_, _, _], _ => rfl) ?_
  intro W base args ds ps hh
  obtain ⟨v, v', v'', d, d', d'', p, p', p'', rfl, ⟨hv, hv', hv''⟩, h0, h0', h0''⟩ := handed_three Try.params4 hh
  obtain ⟨a, b, c, u, _, _, _, rfl⟩ := open_limits hv h0
  obtain ⟨A, n, cn, E, rfl, hc, hm, hE⟩ := open_events hv' h0'
  obtain ⟨B, m, cm, F, rfl, hc', hm', hF⟩ := open_events hv'' h0''
  exact stops_all a b c u A B n cn m cm E F W hc hm hc' hm' hE hF

theorem fieldsStops_holds : Rows.FieldsStopsSaid :=
  OpenClaim.holds_of_wide 4 Try.f4 rfl rfl rfl rfl rfl rfl rfl ⟨rfl, rfl, rfl, rfl, rfl⟩ rfl rfl rfl rfl rfl (by kernel_rfl) Try.func4 (by kernel_rfl)
    (of_decide_eq_true (by kernel_rfl)) (by unfold Func.isWrapper; first | (rw [if_pos (by decide +kernel)]; kernel_rfl) | (rw [if_neg (by decide +kernel)]; exact ⟨rfl, rfl⟩))
    (fun os started H enc _ => fieldsStops_lifted os started H enc)
#print axioms fieldsStops_holds

end Go.Proofs.Ytgmejmnfdeacoaa
