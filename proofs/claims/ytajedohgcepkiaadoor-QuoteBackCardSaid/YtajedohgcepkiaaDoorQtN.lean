/-
  Walks: the field that a text is, by the program.
-/
import Derived.Test.YtajedohgcepkiaaDoorRows
import Derived.Test.YtajedohgcepkiaaDoorQtP
namespace Go.Proofs.YtajedohgcepkiaaDoor
open Go.RowKit Qt

/-- The field of which a text could be the quoting; is it. -/
def scB (x : UInt8) (s : ByteArray) : ByteArray := ⟨(sc x (s.data.toList.drop 1)).toArray⟩
def fitB (x : UInt8) (s : ByteArray) : Bool := decide (quoB x (scB x s) = s)
theorem scB_list (x : UInt8) (s : ByteArray) : (scB x s).data.toList = sc x (s.data.toList.drop 1) := by unfold scB; rfl
theorem fit_iff {x : UInt8} {s : ByteArray} {t : List UInt8} (h : s.data.toList = x :: t) : fitB x s = true ↔ ∃ m, t = m ++ [x] ∧ m.length = (unp x m).length + (unp x m).count x := by
  unfold fitB
  rw [decide_eq_true_iff, fits_iff]
  constructor
  · intro e
    have := congrArg (fun a : ByteArray => a.data.toList) e
    simp only [quoB_list, scB_list, h, List.drop_succ_cons, List.drop_zero] at this
    exact this
  · intro e
    refine of_lists ?_
    rw [quoB_list, scB_list, h]
    exact e
theorem size_list (s : ByteArray) : s.data.toList.length = s.size := by rw [Array.length_toList, ByteArray.size_data]
theorem inner_list {x y : UInt8} {s : ByteArray} {m : List UInt8} (h : s.data.toList = x :: (m ++ [y])) : (s.extract 1 (s.size - 1)).data.toList = m := by
  rw [ByteArray.data_extract, Array.toList_extract, h]
  have hz : s.size = m.length + 2 := by rw [← size_list, h]; simp
  rw [hz]
  simp [List.extract]
theorem ends_of {x : UInt8} {s : List UInt8} (h : Lib.hasSuffix s [x] = true) : ∃ r, s = r ++ [x] := by
  unfold Lib.hasSuffix at h
  obtain ⟨r, hr⟩ := List.isSuffixOf_iff_suffix.1 h
  exact ⟨r, hr.symm⟩
theorem ends_not {x : UInt8} {r s : List UInt8} (h : s = r ++ [x]) : Lib.hasSuffix s [x] = true := by
  unfold Lib.hasSuffix
  exact List.isSuffixOf_iff_suffix.2 ⟨r, h.symm⟩

def unqT (x : UInt8) (s : ByteArray) : Value := if fitB x s = true then .tuple #[.string (scB x s), .bool true] else .tuple #[.string ⟨#[]⟩, .bool false]

set_option maxHeartbeats 2000000 in
theorem unquoted_any (p q : Nat) (n : Int) (s : ByteArray) (t : List UInt8) (w : World) (hM : MaxL w) (hs : s.size ≤ 1000000) (hq : q < 256) (hl : s.data.toList = toB q :: t) :
    Calls Tryd.prog 27 #[.agg #[.int .u8 p, .int .u8 q, .int .i64 n], .string s] w (Gives (unqT (toB q) s) w) := by
  apply Gives.of
  have hcell := fun (W : World) (x : Later W) => x.cell
  have HQ := Lib.hid (fun W => quotes_any p q n W hq)
  have HS := Lib.hid (fun W => suf_one (toB q) s W hs)
  have hf := fit_iff hl
  have hz0 : s.size = t.length + 1 := by rw [← size_list, hl]; simp
  have hd3 : (⟨#[toB q]⟩ : ByteArray).size = 1 := rfl
  have hd4 : (⟨#[toB q, toB q]⟩ : ByteArray).size = 2 := rfl
  clear hq
  by_cases c1 : s.size < 2
  · have hn : fitB (toB q) s = false := by
      cases h : fitB (toB q) s
      · rfl
      · obtain ⟨m, hm, _⟩ := hf.1 h
        rw [hm] at hz0
        simp at hz0
        omega
    unfold unqT
    rw [hn, if_neg Bool.false_ne_true]
    have k1 : (s.size : Int) < 2 := by omega
    have k2 : decide ((s.size : Int) < 2) = true := decide_eq_true k1
    clear hf hz0 hn hl
    go_enter Tryd.func27, Tryd.ntmps27
    go_wp2_with (first | (go_at_call 22; (first | (with_reducible refine (later_call _ (HQ.out _)).mono ?_) | (with_reducible refine (call_later (HQ.out _)).mono ?_)); rintro e w' ⟨rfl, x, rfl⟩) | (go_at_call 40; (first | (with_reducible refine (later_call _ (HS.out _)).mono ?_) | (with_reducible refine (call_later (HS.out _)).mono ?_)); rintro e w' ⟨rfl, x, rfl⟩))
    refine bodyPost_ret (v := .tuple #[.string ⟨#[]⟩, .bool false]) (by simp (maxDischargeDepth := 8) [results, Tryd.results27, go_sem]) rfl ⟨rfl, ?_⟩
    (repeat (first | (with_reducible exact Below.refl _ _) | (with_reducible refine later_below _ ?_) | (with_reducible refine alloc_below ?_ _) | (with_reducible refine Below.drew ?_) | (refine Below.setCell ?_ (by first | exact Nat.le_refl _ | (simp; done) | (simp; omega) | omega) _)))
  · have k1 : ¬ (s.size : Int) < 2 := by omega
    have k2 : decide ((s.size : Int) < 2) = false := decide_eq_false k1
    cases c2 : Lib.hasSuffix s.data.toList [toB q]
    · have hn : fitB (toB q) s = false := by
        cases h : fitB (toB q) s
        · rfl
        · obtain ⟨m, hm, _⟩ := hf.1 h
          rw [ends_not (r := toB q :: m) (by rw [hl, hm]; rfl)] at c2
          cases c2
      unfold unqT
      rw [hn, if_neg Bool.false_ne_true]
      rw [c2] at HS
      clear hf hz0 hn hl c2
      go_enter Tryd.func27, Tryd.ntmps27
      go_wp2_with (first | (go_at_call 22; (first | (with_reducible refine (later_call _ (HQ.out _)).mono ?_) | (with_reducible refine (call_later (HQ.out _)).mono ?_)); rintro e w' ⟨rfl, x, rfl⟩) | (go_at_call 40; (first | (with_reducible refine (later_call _ (HS.out _)).mono ?_) | (with_reducible refine (call_later (HS.out _)).mono ?_)); rintro e w' ⟨rfl, x, rfl⟩))
      refine bodyPost_ret (v := .tuple #[.string ⟨#[]⟩, .bool false]) (by simp (maxDischargeDepth := 8) [results, Tryd.results27, go_sem]) rfl ⟨rfl, ?_⟩
      (repeat (first | (with_reducible exact Below.refl _ _) | (with_reducible refine later_below _ ?_) | (with_reducible refine alloc_below ?_ _) | (with_reducible refine Below.drew ?_) | (refine Below.setCell ?_ (by first | exact Nat.le_refl _ | (simp; done) | (simp; omega) | omega) _)))
    · obtain ⟨r, hr⟩ := ends_of c2
      rw [c2] at HS
      clear c2
      obtain ⟨m, hm⟩ : ∃ m, t = m ++ [toB q] := by
        rw [hl] at hr
        cases r with
        | nil =>
          simp at hr
          rw [hr] at hz0
          simp at hz0
          omega
        | cons a r =>
          simp only [List.cons_append, List.cons.injEq] at hr
          exact ⟨r, hr.2⟩
      have hin := inner_list (s := s) (m := m) (y := toB q) (by rw [hl, hm])
      have hzm : s.size = m.length + 2 := by rw [hz0, hm]; simp
      have hxi : (s.extract 1 (s.size - 1)).size = m.length := by rw [← size_list, hin]
      have hu := (unp_len (toB q) m).1
      have hul : (unpB (toB q) (s.extract 1 (s.size - 1))).data.toList = unp (toB q) m := by rw [unpB_list, hin]
      have huz : (unpB (toB q) (s.extract 1 (s.size - 1))).size = (unp (toB q) m).length := by rw [← size_list, hul]
      have hule : (unp (toB q) m).length ≤ m.length := unp_le _ _
      have HR := Lib.hid (fun W (h : MaxL W) => repl_two (toB q) (s.extract 1 (s.size - 1)) W h (by omega))
      have HC := Lib.hid (fun W => count_one (toB q) (unpB (toB q) (s.extract 1 (s.size - 1))) W)
      rw [hul] at HC
      have hex : (s.size : Int) - 1 = ((s.size - 1 : Nat) : Int) := by omega
      have hw1 : wrap64 ((s.size : Int) - 1) = ((s.size - 1 : Nat) : Int) := by unfold wrap64; omega
      have hfi : fitB (toB q) s = decide (m.length = (unp (toB q) m).length + (unp (toB q) m).count (toB q)) := by
        cases h : fitB (toB q) s
        · refine (decide_eq_false fun e => ?_).symm
          rw [hf.2 ⟨m, hm, e⟩] at h
          cases h
        · obtain ⟨m', hm', e⟩ := hf.1 h
          rw [hm] at hm'
          simp only [List.append_cancel_right_eq] at hm'
          subst hm'
          exact (decide_eq_true e).symm
      have hsame : m.length = (unp (toB q) m).length + (unp (toB q) m).count (toB q) → unpB (toB q) (s.extract 1 (s.size - 1)) = scB (toB q) s := fun e => of_lists (by
        rw [hul, scB_list, hl, hm]
        exact (fits_same _ _ e).symm)
      unfold unqT
      rw [hfi]
      clear hfi hf hl hr hin hul hm
      generalize unpB (toB q) (s.extract 1 (s.size - 1)) = u at HR HC huz hsame
      generalize (unp (toB q) m).count (toB q) = c at HC hsame hu ⊢
      generalize (unp (toB q) m).length = ul at huz hsame hu hule ⊢
      generalize m.length = ml at hzm hxi hsame hu hule ⊢
      have hsub : wrap64 ((ml : Int) - (ul : Int)) = (ml : Int) - ul := by unfold wrap64; omega
      have hb1 : (0 : Int) ≤ 1 := by omega
      have hb2 : (1 : Int) ≤ ((s.size - 1 : Nat) : Int) := by omega
      have hb3 : ((s.size - 1 : Nat) : Int) ≤ (s.size : Int) := by omega
      by_cases e : ml = ul + c
      · rw [decide_eq_true e, if_pos rfl, ← hsame e]
        have k3 : ((ml : Int) - (ul : Int) != (c : Int)) = false := by simp; omega
        have HX := Lib.hid (And.intro hu (And.intro hule (And.intro hzm (And.intro hz0 e))))
        clear hsame hu hule hzm hz0 e hex
        go_enter Tryd.func27, Tryd.ntmps27
        go_wp2_with (first | (go_at_call 22; (first | (with_reducible refine (later_call _ (HQ.out _)).mono ?_) | (with_reducible refine (call_later (HQ.out _)).mono ?_)); rintro e w' ⟨rfl, x, rfl⟩) | (go_at_call 40; (first | (with_reducible refine (later_call _ (HS.out _)).mono ?_) | (with_reducible refine (call_later (HS.out _)).mono ?_)); rintro e w' ⟨rfl, x, rfl⟩) | (go_at_call 23; (first | (with_reducible refine (later_call _ (HR.out _ (by (repeat (first | assumption | (with_reducible refine MaxL.later _ ?_) | (with_reducible refine MaxL.alloc ?_ _) | (with_reducible refine MaxL.drew ?_)))))).mono ?_) | (with_reducible refine (call_later (HR.out _ (by (repeat (first | assumption | (with_reducible refine MaxL.later _ ?_) | (with_reducible refine MaxL.alloc ?_ _) | (with_reducible refine MaxL.drew ?_)))))).mono ?_)); rintro e w' ⟨rfl, x, rfl⟩) | (go_at_call 25; (first | (with_reducible refine (later_call _ (HC.out _)).mono ?_) | (with_reducible refine (call_later (HC.out _)).mono ?_)); rintro e w' ⟨rfl, x, rfl⟩))
        refine bodyPost_ret (v := .tuple #[.string u, .bool true]) (by simp (maxDischargeDepth := 8) [results, Tryd.results27, go_sem]) rfl ⟨rfl, ?_⟩
        (repeat (first | (with_reducible exact Below.refl _ _) | (with_reducible refine later_below _ ?_) | (with_reducible refine alloc_below ?_ _) | (with_reducible refine Below.drew ?_) | (refine Below.setCell ?_ (by first | exact Nat.le_refl _ | (simp; done) | (simp; omega) | omega) _)))
      · rw [decide_eq_false e, if_neg Bool.false_ne_true]
        have k3 : ((ml : Int) - (ul : Int) != (c : Int)) = true := by simp; omega
        have HX := Lib.hid (And.intro hu (And.intro hule (And.intro hzm (And.intro hz0 e))))
        clear hsame hu hule hzm hz0 e hex
        go_enter Tryd.func27, Tryd.ntmps27
        go_wp2_with (first | (go_at_call 22; (first | (with_reducible refine (later_call _ (HQ.out _)).mono ?_) | (with_reducible refine (call_later (HQ.out _)).mono ?_)); rintro e w' ⟨rfl, x, rfl⟩) | (go_at_call 40; (first | (with_reducible refine (later_call _ (HS.out _)).mono ?_) | (with_reducible refine (call_later (HS.out _)).mono ?_)); rintro e w' ⟨rfl, x, rfl⟩) | (go_at_call 23; (first | (with_reducible refine (later_call _ (HR.out _ (by (repeat (first | assumption | (with_reducible refine MaxL.later _ ?_) | (with_reducible refine MaxL.alloc ?_ _) | (with_reducible refine MaxL.drew ?_)))))).mono ?_) | (with_reducible refine (call_later (HR.out _ (by (repeat (first | assumption | (with_reducible refine MaxL.later _ ?_) | (with_reducible refine MaxL.alloc ?_ _) | (with_reducible refine MaxL.drew ?_)))))).mono ?_)); rintro e w' ⟨rfl, x, rfl⟩) | (go_at_call 25; (first | (with_reducible refine (later_call _ (HC.out _)).mono ?_) | (with_reducible refine (call_later (HC.out _)).mono ?_)); rintro e w' ⟨rfl, x, rfl⟩))
        refine bodyPost_ret (v := .tuple #[.string ⟨#[]⟩, .bool false]) (by simp (maxDischargeDepth := 8) [results, Tryd.results27, go_sem]) rfl ⟨rfl, ?_⟩
        (repeat (first | (with_reducible exact Below.refl _ _) | (with_reducible refine later_below _ ?_) | (with_reducible refine alloc_below ?_ _) | (with_reducible refine Below.drew ?_) | (refine Below.setCell ?_ (by first | exact Nat.le_refl _ | (simp; done) | (simp; omega) | omega) _)))

/-- Which field a text is, whether it is quoted, the error. -/
def begB (x : UInt8) (s : ByteArray) : Bool := Lib.hasPrefix s.data.toList [x]
theorem beg_yes {x : UInt8} {s : ByteArray} (h : begB x s = true) : ∃ t, s.data.toList = x :: t := by
  unfold begB Lib.hasPrefix at h
  obtain ⟨t, ht⟩ := List.isPrefixOf_iff_prefix.1 h
  exact ⟨t, ht.symm⟩
def unqV (p q : Nat) (s : ByteArray) : ByteArray × Bool × Nat :=
  if begB (toB q) s = true then (if fitB (toB q) s = true then (scB (toB q) s, true, 0) else (⟨#[]⟩, false, 4)) else if whyN p q s false false = 0 then (s, false, 0) else (⟨#[]⟩, false, 23)
def unqP (v : ByteArray × Bool × Nat) : Value := .tuple #[.string v.1, .bool v.2.1, .int .i64 v.2.2]

set_option maxHeartbeats 2000000 in
theorem unquote_any (p q : Nat) (n : Int) (s : ByteArray) (w : World) (hM : MaxL w) (hs : s.size ≤ 1000000) (hp : p < 256) (hq : q < 256) :
    Calls Tryd.prog 16 #[.agg #[.int .u8 p, .int .u8 q, .int .i64 n], .string s] w (Gives (unqP (unqV p q s)) w) := by
  apply Gives.of
  have hcell := fun (W : World) (x : Later W) => x.cell
  have HQ := Lib.hid (fun W => quotes_any p q n W hq)
  have HP : Hid (∀ W, Calls Tryd.prog 26 #[.string s, .string ⟨#[toB q]⟩] W (Gives (.bool (begB (toB q) s)) W)) := Lib.hid (fun W => pre_one (toB q) s W)
  have HN := Lib.hid (fun W => need_any p q n s false false W hs hp hq)
  unfold unqV unqP
  cases c1 : begB (toB q) s
  · rw [if_neg Bool.false_ne_true]
    rw [c1] at HP
    clear c1 hs hp hq
    by_cases h : whyN p q s false false = 0
    · rw [decide_eq_false (show ¬ whyN p q s false false ≠ 0 from fun c => c h)] at HN
      rw [if_pos h]
      clear h
      go_enter Tryd.func16, Tryd.ntmps16
      go_wp2_with (first | (go_at_call 22; (first | (with_reducible refine (later_call _ (HQ.out _)).mono ?_) | (with_reducible refine (call_later (HQ.out _)).mono ?_)); rintro e w' ⟨rfl, x, rfl⟩) | (go_at_call 26; (first | (with_reducible refine (later_call _ (HP.out _)).mono ?_) | (with_reducible refine (call_later (HP.out _)).mono ?_)); rintro e w' ⟨rfl, x, rfl⟩) | (go_at_call 24; (first | (with_reducible refine (later_call _ (HN.out _)).mono ?_) | (with_reducible refine (call_later (HN.out _)).mono ?_)); rintro e w' ⟨rfl, x, rfl⟩))
      refine bodyPost_ret (v := .tuple #[.string s, .bool false, .int .i64 0]) (by simp (maxDischargeDepth := 8) [results, Tryd.results16, go_sem]) rfl ⟨rfl, ?_⟩
      (repeat (first | (with_reducible exact Below.refl _ _) | (with_reducible refine later_below _ ?_) | (with_reducible refine alloc_below ?_ _) | (with_reducible refine Below.drew ?_) | (refine Below.setCell ?_ (by first | exact Nat.le_refl _ | (simp; done) | (simp; omega) | omega) _)))
    · rw [decide_eq_true h] at HN
      rw [if_neg h]
      clear h
      go_enter Tryd.func16, Tryd.ntmps16
      go_wp2_with (first | (go_at_call 22; (first | (with_reducible refine (later_call _ (HQ.out _)).mono ?_) | (with_reducible refine (call_later (HQ.out _)).mono ?_)); rintro e w' ⟨rfl, x, rfl⟩) | (go_at_call 26; (first | (with_reducible refine (later_call _ (HP.out _)).mono ?_) | (with_reducible refine (call_later (HP.out _)).mono ?_)); rintro e w' ⟨rfl, x, rfl⟩) | (go_at_call 24; (first | (with_reducible refine (later_call _ (HN.out _)).mono ?_) | (with_reducible refine (call_later (HN.out _)).mono ?_)); rintro e w' ⟨rfl, x, rfl⟩))
      refine bodyPost_ret (v := .tuple #[.string ⟨#[]⟩, .bool false, .int .i64 23]) (by simp (maxDischargeDepth := 8) [results, Tryd.results16, go_sem]) rfl ⟨rfl, ?_⟩
      (repeat (first | (with_reducible exact Below.refl _ _) | (with_reducible refine later_below _ ?_) | (with_reducible refine alloc_below ?_ _) | (with_reducible refine Below.drew ?_) | (refine Below.setCell ?_ (by first | exact Nat.le_refl _ | (simp; done) | (simp; omega) | omega) _)))
  · rw [if_pos rfl]
    rw [c1] at HP
    obtain ⟨t, ht⟩ := beg_yes c1
    have HU := Lib.hid (fun W (h : MaxL W) => unquoted_any p q n s t W h hs hq ht)
    unfold unqT at HU
    clear c1 hs hp hq ht
    cases c2 : fitB (toB q) s
    · rw [c2, if_neg Bool.false_ne_true] at HU
      rw [if_neg Bool.false_ne_true]
      clear c2
      go_enter Tryd.func16, Tryd.ntmps16
      go_wp2_with (first | (go_at_call 22; (first | (with_reducible refine (later_call _ (HQ.out _)).mono ?_) | (with_reducible refine (call_later (HQ.out _)).mono ?_)); rintro e w' ⟨rfl, x, rfl⟩) | (go_at_call 26; (first | (with_reducible refine (later_call _ (HP.out _)).mono ?_) | (with_reducible refine (call_later (HP.out _)).mono ?_)); rintro e w' ⟨rfl, x, rfl⟩) | (go_at_call 27; (first | (with_reducible refine (later_call _ (HU.out _ (by (repeat (first | assumption | (with_reducible refine MaxL.later _ ?_) | (with_reducible refine MaxL.alloc ?_ _) | (with_reducible refine MaxL.drew ?_)))))).mono ?_) | (with_reducible refine (call_later (HU.out _ (by (repeat (first | assumption | (with_reducible refine MaxL.later _ ?_) | (with_reducible refine MaxL.alloc ?_ _) | (with_reducible refine MaxL.drew ?_)))))).mono ?_)); rintro e w' ⟨rfl, x, rfl⟩))
      refine bodyPost_ret (v := .tuple #[.string ⟨#[]⟩, .bool false, .int .i64 4]) (by simp (maxDischargeDepth := 8) [results, Tryd.results16, go_sem]) rfl ⟨rfl, ?_⟩
      (repeat (first | (with_reducible exact Below.refl _ _) | (with_reducible refine later_below _ ?_) | (with_reducible refine alloc_below ?_ _) | (with_reducible refine Below.drew ?_) | (refine Below.setCell ?_ (by first | exact Nat.le_refl _ | (simp; done) | (simp; omega) | omega) _)))
    · rw [c2, if_pos rfl] at HU
      rw [if_pos rfl]
      clear c2
      go_enter Tryd.func16, Tryd.ntmps16
      go_wp2_with (first | (go_at_call 22; (first | (with_reducible refine (later_call _ (HQ.out _)).mono ?_) | (with_reducible refine (call_later (HQ.out _)).mono ?_)); rintro e w' ⟨rfl, x, rfl⟩) | (go_at_call 26; (first | (with_reducible refine (later_call _ (HP.out _)).mono ?_) | (with_reducible refine (call_later (HP.out _)).mono ?_)); rintro e w' ⟨rfl, x, rfl⟩) | (go_at_call 27; (first | (with_reducible refine (later_call _ (HU.out _ (by (repeat (first | assumption | (with_reducible refine MaxL.later _ ?_) | (with_reducible refine MaxL.alloc ?_ _) | (with_reducible refine MaxL.drew ?_)))))).mono ?_) | (with_reducible refine (call_later (HU.out _ (by (repeat (first | assumption | (with_reducible refine MaxL.later _ ?_) | (with_reducible refine MaxL.alloc ?_ _) | (with_reducible refine MaxL.drew ?_)))))).mono ?_)); rintro e w' ⟨rfl, x, rfl⟩))
      refine bodyPost_ret (v := .tuple #[.string (scB (toB q) s), .bool true, .int .i64 0]) (by simp (maxDischargeDepth := 8) [results, Tryd.results16, go_sem]) rfl ⟨rfl, ?_⟩
      (repeat (first | (with_reducible exact Below.refl _ _) | (with_reducible refine later_below _ ?_) | (with_reducible refine alloc_below ?_ _) | (with_reducible refine Below.drew ?_) | (refine Below.setCell ?_ (by first | exact Nat.le_refl _ | (simp; done) | (simp; omega) | omega) _)))

end Go.Proofs.YtajedohgcepkiaaDoor
