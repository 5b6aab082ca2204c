/-
  Walks: the program's parser takes what stands at a place.
-/
import Derived.Test.YtdkdbmiafnadmaaRows
import Derived.Test.YtdkdbmiafnadmaaPar
namespace Go.Proofs.Ytdkdbmiafnadmaa
open Go.RowKit

/-- What stands at a place comes to; the states of UTF-8 and of the scanner then. -/
def lookO (p q : Nat) (n sq : Int) (st : Nat) (s : ByteArray) (a : Nat) : Out :=
  if a < s.size then (if Utf.okI sq (bytN s a) = false then ⟨ev0, 0, 3⟩ else stepV p q n st (bytN s a)) else if sq = 0 then closeV st else ⟨ev0, 0, 12⟩
def lookQ (sq : Int) (s : ByteArray) (a : Nat) : Int := if a < s.size then Utf.nxI sq (bytN s a) else sq
def lookS (p q : Nat) (n : Int) (st : Nat) (s : ByteArray) (a : Nat) : Nat := if a < s.size then (stepV p q n st (bytN s a)).to_ else st

set_option maxHeartbeats 2000000 in
theorem look_any (o p q m : Nat) (n sq : Int) (st : Nat) (s : ByteArray) (a : Nat) (w : World) (h : PB w o p q n sq st m) (hsq : 0 ≤ sq ∧ sq ≤ 7) (hst : st ≤ 6) (hok : okB p q n = true) (ha : a ≤ s.size) :
    Calls Try.prog 39 #[.pointer (some ⟨o, 0, none⟩), .string s, .int .i64 a] w (fun e w' => e = .returned (.tuple #[evP (lookO p q n sq st s a).ev, .int .i64 (lookO p q n sq st s a).er]) ∧ w.grownBy w' (some o) ∧ ((lookO p q n sq st s a).er = 0 → PB w' o p q n (lookQ sq s a) (lookS p q n st s a) m)) := by
  have hlt := h.lt
  by_cases hlt1 : a < s.size
  · have HC : Hid (∀ W, PB W o p q n sq st m → Calls Try.prog 53 #[.pointer (some ⟨o, 0, none⟩), .int .u8 (bytN s a)] W (fun e w' => e = .returned (.tuple #[.agg #[.bool (lookO p q n sq st s a).ev.be, .bool (lookO p q n sq st s a).ev.ad, .bool (lookO p q n sq st s a).ev.fi, .bool (lookO p q n sq st s a).ev.li, .bool (lookO p q n sq st s a).ev.re, .int .u8 (lookO p q n sq st s a).ev.by_], .int .i64 (lookO p q n sq st s a).er]) ∧ W.grownBy w' (some o) ∧ ((lookO p q n sq st s a).er = 0 → PB w' o p q n (lookQ sq s a) (lookS p q n st s a) m))) := Lib.hid (by
      intro W hW
      unfold lookO lookQ lookS
      rw [if_pos hlt1, if_pos hlt1, if_pos hlt1]
      cases hu : Utf.okI sq (bytN s a)
      · rw [if_pos rfl]
        refine (step_no o p q m _ n sq st W hW (bytN_lt s a) hsq hu).mono ?_
        rintro e w' ⟨rfl, hb⟩
        exact ⟨rfl, grown_below hb _, fun h => by cases h⟩
      · rw [if_neg (by simp)]
        refine (step_yes o p q m _ n sq st W hW (bytN_lt s a) hsq hst hok hu).mono ?_
        rintro e w' ⟨rfl, hp, hg⟩
        exact ⟨rfl, hg, fun _ => hp⟩)
    generalize lookQ sq s a = sq' at HC ⊢
    generalize lookS p q n st s a = st' at HC ⊢
    generalize lookO p q n sq st s a = c at HC ⊢
    have HA := Lib.hid (h.alloc (.cells #[.bool false, .bool false, .bool false, .bool false, .bool false, .int .u8 0] 87))
    have b1 : (((s[a]'hlt1).toNat : Nat) : Int) = (bytN s a : Int) := by rw [bytN_is]; exact byt_eq s a hlt1
    have j0 : decide ((a : Int) = (s.size : Int)) = false := decide_eq_false (by omega)
    have j1 : ((a : Int) == (s.size : Int)) = false := by simp; omega
    have i1 : (a : Int) < (s.size : Int) := by omega
    clear h hsq hst hok ha
    go_enter Try.func39, Try.ntmps39
    go_wp2_with (go_at_call 53; refine (HC.out _ HA.out).mono ?_; rintro e w2 ⟨rfl, hg2, hp2⟩; have he2 : Box w2 w.heap.size 87 #[.bool false, .bool false, .bool false, .bool false, .bool false, .int .u8 0] := (Box.new w _ _).grown hg2 (by simp; omega); have t0 : w2.cell? ⟨w.heap.size, 0, none⟩ = some (.bool false) := he2.cell 0; have t1 : w2.cell? ⟨w.heap.size, 1, none⟩ = some (.bool false) := he2.cell 1; have t2 : w2.cell? ⟨w.heap.size, 2, none⟩ = some (.bool false) := he2.cell 2; have t3 : w2.cell? ⟨w.heap.size, 3, none⟩ = some (.bool false) := he2.cell 3; have t4 : w2.cell? ⟨w.heap.size, 4, none⟩ = some (.bool false) := he2.cell 4; have t5 : w2.cell? ⟨w.heap.size, 5, none⟩ = some (.int .u8 0) := he2.cell 5; have tf := he2.frozen; have HE2 := Lib.hid he2; have HG2 := Lib.hid hg2; have HP2 := Lib.hid hp2; clear hg2 hp2 he2)
    have hne : ¬ o = w.heap.size := by omega
    have hE := box_six HE2.out (.bool c.ev.be) (.bool c.ev.ad) (.bool c.ev.fi) (.bool c.ev.li) (.bool c.ev.re) (.int .u8 c.ev.by_)
    have hG := grown_sixth w o (grown_trans (grown_below ((Below.refl _ _).alloc (Nat.le_refl _) _) _) HG2.out) (.bool c.ev.be) (.bool c.ev.ad) (.bool c.ev.fi) (.bool c.ev.li) (.bool c.ev.re) (.int .u8 c.ev.by_)
    have hP := fun h => ((((((HP2.out h).far (p := ⟨w.heap.size, 0, none⟩) hne (.bool c.ev.be)).far (p := ⟨w.heap.size, 1, none⟩) hne (.bool c.ev.ad)).far (p := ⟨w.heap.size, 2, none⟩) hne (.bool c.ev.fi)).far (p := ⟨w.heap.size, 3, none⟩) hne (.bool c.ev.li)).far (p := ⟨w.heap.size, 4, none⟩) hne (.bool c.ev.re)).far (p := ⟨w.heap.size, 5, none⟩) hne (.int .u8 c.ev.by_)
    clear HE2 HG2 HP2 t0 t1 t2 t3 t4 t5 tf
    generalize ((((((w2.setCell ⟨w.heap.size, 0, none⟩ (.bool c.ev.be)).setCell ⟨w.heap.size, 1, none⟩ (.bool c.ev.ad)).setCell ⟨w.heap.size, 2, none⟩ (.bool c.ev.fi)).setCell ⟨w.heap.size, 3, none⟩ (.bool c.ev.li)).setCell ⟨w.heap.size, 4, none⟩ (.bool c.ev.re)).setCell ⟨w.heap.size, 5, none⟩ (.int .u8 c.ev.by_)) = W8 at hP hE hG ⊢
    have e0 : W8.cell? ⟨w.heap.size, 0, none⟩ = some (.bool c.ev.be) := hE.cell 0
    have e1 : W8.cell? ⟨w.heap.size, 1, none⟩ = some (.bool c.ev.ad) := hE.cell 1
    have e2 : W8.cell? ⟨w.heap.size, 2, none⟩ = some (.bool c.ev.fi) := hE.cell 2
    have e3 : W8.cell? ⟨w.heap.size, 3, none⟩ = some (.bool c.ev.li) := hE.cell 3
    have e4 : W8.cell? ⟨w.heap.size, 4, none⟩ = some (.bool c.ev.re) := hE.cell 4
    have e5 : W8.cell? ⟨w.heap.size, 5, none⟩ = some (.int .u8 c.ev.by_) := hE.cell 5
    refine bodyPost_ret (v := .tuple #[evP c.ev, .int .i64 c.er]) (by simp (maxDischargeDepth := 8) [results, Try.results39, go_sem, evP, e0, e1, e2, e3, e4, e5]) rfl ⟨rfl, ?_⟩
    exact ⟨hG, hP⟩
  · have HC : Hid (∀ W, PB W o p q n sq st m → Calls Try.prog 52 #[.pointer (some ⟨o, 0, none⟩)] W (fun e w' => e = .returned (.tuple #[.agg #[.bool (lookO p q n sq st s a).ev.be, .bool (lookO p q n sq st s a).ev.ad, .bool (lookO p q n sq st s a).ev.fi, .bool (lookO p q n sq st s a).ev.li, .bool (lookO p q n sq st s a).ev.re, .int .u8 (lookO p q n sq st s a).ev.by_], .int .i64 (lookO p q n sq st s a).er]) ∧ W.grownBy w' (some o) ∧ ((lookO p q n sq st s a).er = 0 → PB w' o p q n (lookQ sq s a) (lookS p q n st s a) m))) := Lib.hid (by
      intro W hW
      unfold lookO lookQ lookS
      rw [if_neg hlt1, if_neg hlt1, if_neg hlt1]
      by_cases hz : sq = 0
      · rw [if_pos hz]
        subst hz
        refine (atEnd_ok o p q m n st W hW hst).mono ?_
        rintro e w' ⟨rfl, hb⟩
        exact ⟨rfl, grown_below hb _, fun _ => hW.below hb hW.lt⟩
      · rw [if_neg hz]
        refine (atEnd_cut o p q m n sq st W hW hz).mono ?_
        rintro e w' ⟨rfl, hb⟩
        exact ⟨rfl, grown_below hb _, fun h => by cases h⟩)
    generalize lookQ sq s a = sq' at HC ⊢
    generalize lookS p q n st s a = st' at HC ⊢
    generalize lookO p q n sq st s a = c at HC ⊢
    have HA := Lib.hid (h.alloc (.cells #[.bool false, .bool false, .bool false, .bool false, .bool false, .int .u8 0] 87))
    have j0 : decide ((a : Int) = (s.size : Int)) = true := decide_eq_true (by omega)
    have j1 : ((a : Int) == (s.size : Int)) = true := by simp; omega
    clear h hsq hst hok ha hlt1
    go_enter Try.func39, Try.ntmps39
    go_wp2_with (go_at_call 52; refine (HC.out _ HA.out).mono ?_; rintro e w2 ⟨rfl, hg2, hp2⟩; have he2 : Box w2 w.heap.size 87 #[.bool false, .bool false, .bool false, .bool false, .bool false, .int .u8 0] := (Box.new w _ _).grown hg2 (by simp; omega); have t0 : w2.cell? ⟨w.heap.size, 0, none⟩ = some (.bool false) := he2.cell 0; have t1 : w2.cell? ⟨w.heap.size, 1, none⟩ = some (.bool false) := he2.cell 1; have t2 : w2.cell? ⟨w.heap.size, 2, none⟩ = some (.bool false) := he2.cell 2; have t3 : w2.cell? ⟨w.heap.size, 3, none⟩ = some (.bool false) := he2.cell 3; have t4 : w2.cell? ⟨w.heap.size, 4, none⟩ = some (.bool false) := he2.cell 4; have t5 : w2.cell? ⟨w.heap.size, 5, none⟩ = some (.int .u8 0) := he2.cell 5; have tf := he2.frozen; have HE2 := Lib.hid he2; have HG2 := Lib.hid hg2; have HP2 := Lib.hid hp2; clear hg2 hp2 he2)
    have hne : ¬ o = w.heap.size := by omega
    have hE := box_six HE2.out (.bool c.ev.be) (.bool c.ev.ad) (.bool c.ev.fi) (.bool c.ev.li) (.bool c.ev.re) (.int .u8 c.ev.by_)
    have hG := grown_sixth w o (grown_trans (grown_below ((Below.refl _ _).alloc (Nat.le_refl _) _) _) HG2.out) (.bool c.ev.be) (.bool c.ev.ad) (.bool c.ev.fi) (.bool c.ev.li) (.bool c.ev.re) (.int .u8 c.ev.by_)
    have hP := fun h => ((((((HP2.out h).far (p := ⟨w.heap.size, 0, none⟩) hne (.bool c.ev.be)).far (p := ⟨w.heap.size, 1, none⟩) hne (.bool c.ev.ad)).far (p := ⟨w.heap.size, 2, none⟩) hne (.bool c.ev.fi)).far (p := ⟨w.heap.size, 3, none⟩) hne (.bool c.ev.li)).far (p := ⟨w.heap.size, 4, none⟩) hne (.bool c.ev.re)).far (p := ⟨w.heap.size, 5, none⟩) hne (.int .u8 c.ev.by_)
    clear HE2 HG2 HP2 t0 t1 t2 t3 t4 t5 tf
    generalize ((((((w2.setCell ⟨w.heap.size, 0, none⟩ (.bool c.ev.be)).setCell ⟨w.heap.size, 1, none⟩ (.bool c.ev.ad)).setCell ⟨w.heap.size, 2, none⟩ (.bool c.ev.fi)).setCell ⟨w.heap.size, 3, none⟩ (.bool c.ev.li)).setCell ⟨w.heap.size, 4, none⟩ (.bool c.ev.re)).setCell ⟨w.heap.size, 5, none⟩ (.int .u8 c.ev.by_)) = W8 at hP hE hG ⊢
    have e0 : W8.cell? ⟨w.heap.size, 0, none⟩ = some (.bool c.ev.be) := hE.cell 0
    have e1 : W8.cell? ⟨w.heap.size, 1, none⟩ = some (.bool c.ev.ad) := hE.cell 1
    have e2 : W8.cell? ⟨w.heap.size, 2, none⟩ = some (.bool c.ev.fi) := hE.cell 2
    have e3 : W8.cell? ⟨w.heap.size, 3, none⟩ = some (.bool c.ev.li) := hE.cell 3
    have e4 : W8.cell? ⟨w.heap.size, 4, none⟩ = some (.bool c.ev.re) := hE.cell 4
    have e5 : W8.cell? ⟨w.heap.size, 5, none⟩ = some (.int .u8 c.ev.by_) := hE.cell 5
    refine bodyPost_ret (v := .tuple #[evP c.ev, .int .i64 c.er]) (by simp (maxDischargeDepth := 8) [results, Try.results39, go_sem, evP, e0, e1, e2, e3, e4, e5]) rfl ⟨rfl, ?_⟩
    exact ⟨hG, hP⟩

/-- The parser took what stands at a place. -/
def TakP (w : World) (o p q m : Nat) (n : Int) (A : Option Addr) (v : Value) (l : Lim) (mr : Mkr) (sq' : Int) (st' : Nat) (c : Out) (e : Ending) (w' : World) : Prop :=
  (c.er ≠ 0 → e = .returned (.tuple #[.slice none 0 0, .bool false, .int .i64 c.er]) ∧ w.grownBy w' (some o)) ∧
  (c.er = 0 → ∃ A' c' v' r, PB w' o p q n sq' st' m ∧ MBox w' m A' c' v' l (takeV l mr c.ev).1 ∧ Keeps w w' (fun k => k = o ∨ feet m A v k) ∧ (∀ k, feet m A' v' k → feet m A v k ∨ w.heap.size ≤ k) ∧
    e = .returned (.tuple #[r, .bool (takeV l mr c.ev).2.isSome, .int .i64 (takeV l mr c.ev).1.st]) ∧ OwnS w' (m + 1) r ((takeV l mr c.ev).2.getD []) ∧ ∀ g, r.ownBlock = some g → (feet m A v g ∨ w.heap.size ≤ g) ∧ ¬ feet m A' v' g)

set_option maxHeartbeats 4000000 in
theorem tak_any (o p q m cA : Nat) (n sq : Int) (st : Nat) (s : ByteArray) (a : Nat) (A : Option Addr) (v : Value) (l : Lim) (mr : Mkr) (w : World) (h : PB w o p q n sq st m) (hM : MBox w m A cA v l mr) (hF : ¬ feet m A v o) (hz : Sz mr 1000000) (hsq : 0 ≤ sq ∧ sq ≤ 7) (hst : st ≤ 6) (hok : okB p q n = true) (ha : a ≤ s.size) (hby : (lookO p q n sq st s a).ev.by_ < 256) :
    Calls Try.prog 28 #[.pointer (some ⟨o, 0, none⟩), .string s, .int .i64 a] w (TakP w o p q m n A v l mr (lookQ sq s a) (lookS p q n st s a) (lookO p q n sq st s a)) := by
  have HL := look_any o p q m n sq st s a w h hsq hst hok ha
  unfold evP at HL
  have hlt := h.lt
  generalize lookQ sq s a = sq' at HL ⊢
  generalize lookS p q n st s a = st' at HL ⊢
  generalize lookO p q n sq st s a = c at HL hby ⊢
  have HL := Lib.hid HL
  have HM := Lib.hid hM
  have HF := Lib.hid hF
  have HZ := Lib.hid hz
  clear h hM hF hz hsq hst hok ha
  by_cases he : c.er = 0
  · have z1 : ((c.er : Int) != 0) = false := by simp [he]
    have z2 : decide ((c.er : Int) = 0) = true := decide_eq_true (by omega)
    have HE := Lib.hid he
    clear he
    go_enter Try.func28, Try.ntmps28
    go_upto_region 4 with (go_at_call 39; refine HL.out.mono ?_; rintro e w2 ⟨rfl, hg2, hp2⟩; have HG2 := Lib.hid hg2; have HP2 := Lib.hid hp2; clear hg2 hp2)
    have hp2 := HP2.out HE.out
    have hlt2 := hp2.lt
    have hE := Box.new w2 87 #[.bool c.ev.be, .bool c.ev.ad, .bool c.ev.fi, .bool c.ev.li, .bool c.ev.re, .int .u8 c.ev.by_]
    have hB : Below w2.heap.size w2 (w2.alloc (.cells #[.bool c.ev.be, .bool c.ev.ad, .bool c.ev.fi, .bool c.ev.li, .bool c.ev.re, .int .u8 c.ev.by_] 87)) := (Below.refl _ _).alloc (Nat.le_refl _) _
    generalize (w2.alloc (.cells #[.bool c.ev.be, .bool c.ev.ad, .bool c.ev.fi, .bool c.ev.li, .bool c.ev.re, .int .u8 c.ev.by_] 87)) = W3 at hE hB ⊢
    have hp3 := hp2.below hB hlt2
    have hk3 : Keeps w W3 (fun k => k = o) := ((Keeps.refl w _).grown HG2.out (fun g hg => by injection hg with hg; exact .inl hg.symm)).below hB
    have hm3 : MBox W3 m A cA v l mr := HM.out.keeps hk3 (fun i hi hc => HF.out (hc ▸ hi))
    have e5 : W3.cell? ⟨o, 5, none⟩ = some (.pointer (some ⟨m, 0, none⟩)) := hp3.cell 5
    have e0 : W3.cell? ⟨w2.heap.size, 0, none⟩ = some (.bool c.ev.be) := hE.cell 0
    have e1 : W3.cell? ⟨w2.heap.size, 1, none⟩ = some (.bool c.ev.ad) := hE.cell 1
    have e2 : W3.cell? ⟨w2.heap.size, 2, none⟩ = some (.bool c.ev.fi) := hE.cell 2
    have e3 : W3.cell? ⟨w2.heap.size, 3, none⟩ = some (.bool c.ev.li) := hE.cell 3
    have e4 : W3.cell? ⟨w2.heap.size, 4, none⟩ = some (.bool c.ev.re) := hE.cell 4
    have e6 : W3.cell? ⟨w2.heap.size, 5, none⟩ = some (.int .u8 c.ev.by_) := hE.cell 5
    have f5 : W3.drew.cell? ⟨o, 5, none⟩ = some (.pointer (some ⟨m, 0, none⟩)) := e5
    have f0 : W3.drew.cell? ⟨w2.heap.size, 0, none⟩ = some (.bool c.ev.be) := e0
    have f1 : W3.drew.cell? ⟨w2.heap.size, 1, none⟩ = some (.bool c.ev.ad) := e1
    have f2 : W3.drew.cell? ⟨w2.heap.size, 2, none⟩ = some (.bool c.ev.fi) := e2
    have f3 : W3.drew.cell? ⟨w2.heap.size, 3, none⟩ = some (.bool c.ev.li) := e3
    have f4 : W3.drew.cell? ⟨w2.heap.size, 4, none⟩ = some (.bool c.ev.re) := e4
    have f6 : W3.drew.cell? ⟨w2.heap.size, 5, none⟩ = some (.int .u8 c.ev.by_) := e6
    have HT : Hid (Calls Try.prog 40 #[.pointer (some ⟨m, 0, none⟩), .agg #[.bool c.ev.be, .bool c.ev.ad, .bool c.ev.fi, .bool c.ev.li, .bool c.ev.re, .int .u8 c.ev.by_]] W3.drew (TakePost W3.drew m A v l mr c.ev)) := Lib.hid (take_any m cA A v l mr c.ev.be c.ev.ad c.ev.fi c.ev.li c.ev.re c.ev.by_ W3.drew (hm3.below (Below.refl _ _).drew) hby HZ.out)
    have HP3 := Lib.hid hp3
    have HK3 := Lib.hid hk3
    have HS3 := Lib.hid (show w.heap.size ≤ W3.heap.size from Nat.le_trans HG2.out.size hB.size)
    clear hp2 hE hB hp3 hk3 hm3
    go_region_with (go_at_call 40; refine HT.out.mono ?_; rintro e w4 ⟨A', c', v', r, hm4, hg4, rfl, ho4, hr4, _⟩; have HM4 := Lib.hid hm4; have HG4 := Lib.hid hg4; have HO4 := Lib.hid ho4; have HR4 := Lib.hid hr4; clear hm4 hg4 ho4 hr4)
    all_goals
      go_wp2_with fail
      refine bodyPost_ret (v := .tuple #[r, .bool (takeV l mr c.ev).2.isSome, .int .i64 (takeV l mr c.ev).1.st]) (by simp [results, Try.results28, go_sem]) rfl ?_
      refine ⟨fun hc => absurd HE.out hc, fun _ => ⟨A', c', v', r, HP3.out.drew.keeps HG4.out.1 HF.out, HM4.out, ?_, fun k hk => ?_, rfl, HO4.out, fun g hg => ?_⟩⟩
      · exact (HK3.out.mono (fun _ _ h => .inl h)).drew.trans HG4.out.1 (fun _ _ h => .inr h)
      · exact (HG4.out.2 k hk).imp id (fun h => Nat.le_trans HS3.out h)
      · exact ⟨(HR4.out g hg).1.imp id (fun h => Nat.le_trans HS3.out h), (HR4.out g hg).2⟩
  · have z1 : ((c.er : Int) != 0) = true := by simp [he]
    have z2 : decide ((c.er : Int) = 0) = false := decide_eq_false (by omega)
    have HE := Lib.hid he
    clear he
    go_enter Try.func28, Try.ntmps28
    go_wp2_with (go_at_call 39; refine HL.out.mono ?_; rintro e w2 ⟨rfl, hg2, hp2⟩; have HG2 := Lib.hid hg2; clear hg2 hp2)
    refine bodyPost_ret (v := .tuple #[.slice none 0 0, .bool false, .int .i64 c.er]) (by simp [results, Try.results28]) rfl ?_
    exact ⟨fun _ => ⟨rfl, grown_trans HG2.out (grown_below (by (repeat (first | (with_reducible exact Below.refl _ _) | (with_reducible refine later_below _ ?_) | (with_reducible refine alloc_below ?_ _) | (with_reducible refine Below.drew ?_) | (refine Below.setCell ?_ (by first | exact Nat.le_refl _ | (simp; done) | (simp; omega) | omega) _)))) _)⟩, fun hc => absurd hc HE.out⟩

end Go.Proofs.Ytdkdbmiafnadmaa
