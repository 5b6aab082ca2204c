/-
  Walks: the document's example on makers.
-/
import Derived.Test.YtgmejmnfdeacoaaRows
import Derived.Test.YtgmejmnfdeacoaaFldO
namespace Go.Proofs.Ytgmejmnfdeacoaa
open Go.RowKit

/-- What lies below a maker stands as it stood. -/
theorem Goes.low {w1 w2 : World} {q c B : Nat} {A A' : Option Addr} {v v' : Value} {l : Lim} {m : Mkr} (hG : Goes w1 w2 q A v A' v') (h : MBox w1 q A c v l m) (hB : B ≤ q) : Below B w1 w2 :=
  hG.1.toBelow (by have := h.lt; omega) (fun k hk hf => by have := (h.feet_lt k hf).1; omega)

/-- Take, where no record is handed out. -/
theorem take_quiet {q c : Nat} {A : Option Addr} {v : Value} {l : Lim} {m m' : Mkr} {be ad fi li re : Bool} {b : Nat} {w : World} (h : MBox w q A c v l m) (hb : b < 256) (hs : Sz m 1000000) (he : takeV l m ⟨be, ad, fi, li, re, b⟩ = (m', none)) :
    Calls Try.prog 8 #[.pointer (some ⟨q, 0, none⟩), .agg #[.bool be, .bool ad, .bool fi, .bool li, .bool re, .int .u8 b]] w (fun en w' => ∃ A' c' v', MBox w' q A' c' v' l m' ∧ Goes w w' q A v A' v' ∧ en = .returned (.tuple #[.slice none 0 0, .bool false, .int .i64 m'.st])) := by
  refine (take_any q c A v l m be ad fi li re b w h hb hs).mono ?_
  rintro en w' ⟨A', c', v', r, hM, hG, rfl, _, _, hr⟩
  rw [he] at hM hr ⊢
  rw [hr rfl]
  exact ⟨A', c', v', hM, hG, rfl⟩

def exL : Lim := ⟨2, 1, 1, false⟩
def ex1 : Mkr := ⟨⟨#[97]⟩, [], 1, 0, 0, 0⟩
def ex2 : Mkr := ⟨⟨#[97, 98]⟩, [], 1, 0, 0, 0⟩
def ex3 : Mkr := ⟨⟨#[97, 98]⟩, [], 1, 0, 0, 7⟩
theorem ex_one : takeV exL mkr0 ⟨true, true, false, false, false, 97⟩ = (ex1, none) := by kernel_rfl
theorem ex_two : takeV exL ex1 ⟨false, true, false, false, false, 98⟩ = (ex2, none) := by kernel_rfl
theorem ex_three : takeV exL ex2 ⟨false, true, false, false, false, 99⟩ = (ex3, none) := by kernel_rfl
theorem ex_sz (m : Mkr) (h : m = ex1 ∨ m = ex2 ∨ m = ex3) : Sz m 1000000 := by
  rcases h with rfl | rfl | rfl <;> exact ⟨by decide, by decide, by decide, by decide, by decide⟩

set_option maxHeartbeats 4000000 in
theorem awake_any (w : World) : Calls Try.prog 7 #[] w (Gives (.bool true) w) := by
  apply Gives.of
  have HN := Lib.hid (new_ok exL w (by decide))
  go_enter Try.func7, Try.ntmps7
  go_wp2_with (go_at_call 6; refine HN.out.mono ?_; rintro e w1 ⟨q, hq, rfl, h0, hb0⟩; have H0 := Lib.hid h0; have HB0 := Lib.hid hb0; clear h0 hb0)
  go_at_call 8
  refine (take_quiet (b := 97) H0.out (by omega) (Sz.zero _) ex_one).mono ?_
  rintro e w2 ⟨A2, c2, v2, h2, hg2, rfl⟩
  have H2 := Lib.hid h2
  have HB2 := Lib.hid (HB0.out.trans (hg2.low H0.out hq))
  clear h2 hg2
  go_wp2_with fail
  go_at_call 8
  refine (take_quiet (b := 98) H2.out (by omega) (ex_sz _ (.inl rfl)) ex_two).mono ?_
  rintro e w3 ⟨A3, c3, v3, h3, hg3, rfl⟩
  have H3 := Lib.hid h3
  have HB3 := Lib.hid (HB2.out.trans (hg3.low H2.out hq))
  clear h3 hg3
  go_wp2_with fail
  go_at_call 8
  refine (take_quiet (b := 99) H3.out (by omega) (ex_sz _ (.inr (.inl rfl))) ex_three).mono ?_
  rintro e w4 ⟨A4, c4, v4, h4, hg4, rfl⟩
  have H4 := Lib.hid h4
  have HB4 := Lib.hid (HB3.out.trans (hg4.low H3.out hq))
  clear h4 hg4
  go_wp2_with fail
  go_at_call 10
  refine (open_any q c4 A4 v4 exL ex3 w4 H4.out (by decide)).mono ?_
  rintro e w5 ⟨r, rfl, _, hb5⟩
  have H5 := Lib.hid (H4.out.below hb5)
  have HB5 := Lib.hid (HB4.out.trans (hb5.mono HB4.out.size))
  clear hb5
  have e1 : ex2.st = 0 := rfl
  have e2 : ex3.st = 7 := rfl
  have e3 : ex3.fd = ⟨#[97, 98]⟩ := rfl
  have e4 : ex3.bg = 1 := rfl
  go_wp2_with (go_at_call 12; refine (begun_any q c4 A4 v4 exL ex3 w5 H5.out).mono ?_; rintro e w6 ⟨rfl, rfl⟩)
  go_ret
  exact ⟨rfl, HB5.out⟩

end Go.Proofs.Ytgmejmnfdeacoaa
