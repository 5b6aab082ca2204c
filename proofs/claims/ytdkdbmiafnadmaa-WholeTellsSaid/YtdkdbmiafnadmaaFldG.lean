/-
  Walks: the program's maker, an event; what it tells of itself.
-/
import Derived.Test.YtdkdbmiafnadmaaRows
import Derived.Test.YtdkdbmiafnadmaaFldP
import Derived.Deep.DeepCutAuto
namespace Go.Proofs.Ytdkdbmiafnadmaa
open Go.RowKit

theorem MPost.after {w1 wx w2 : World} {q : Nat} {A A1 : Option Addr} {v v1 : Value} {l : Lim} {m2 : Mkr} (hG : Goes w1 wx q A v A1 v1) (h : MPost wx q A1 v1 l m2 w2) : MPost w1 q A v l m2 w2 := by
  obtain ⟨A2, c2, v2, hM, hG2⟩ := h
  exact ⟨A2, c2, v2, hM, hG.trans hG2⟩
theorem MPost.from_alloc {w w2 : World} {q : Nat} {A : Option Addr} {v : Value} {l : Lim} {m2 : Mkr} {o : Obj} (h : MPost (w.alloc o) q A v l m2 w2) : MPost w q A v l m2 w2 := by
  obtain ⟨A2, c2, v2, hM, hG2⟩ := h
  exact ⟨A2, c2, v2, hM, ((Goes.refl _ _ _ _).below ((Below.refl _ _).alloc (Nat.le_refl _) _)).trans hG2⟩
/-- A box that was made just ahead stands while the maker goes on. -/
theorem box_goes {w wx : World} {q c : Nat} {A A1 : Option Addr} {v v1 : Value} {l : Lim} {m : Mkr} {t : TypeId} {cs : Array Value} (h : MBox w q A c v l m) (hG : Goes (w.alloc (.cells cs t)) wx q A v A1 v1) : Box wx w.heap.size t cs :=
  (Box.new w t cs).keeps hG.1 (fun hf => by have := (h.feet_lt _ hf).2; omega)

theorem gather_one {l : Lim} {m : Mkr} {e : Ev} {o : Mkr × Nat} (h : onV e.be m (beginV l m) = o) (ho : o.2 ≠ 0) : gatherV l m e = o := by unfold gatherV; rw [h, then_no ho]
theorem gather_two {l : Lim} {m : Mkr} {e : Ev} {o o2 : Mkr × Nat} (h : onV e.be m (beginV l m) = o) (ho : o.2 = 0) (h2 : onV e.ad o.1 (addV l o.1 e.by_) = o2) (ho2 : o2.2 ≠ 0) : gatherV l m e = o2 := by unfold gatherV; rw [h, then_ok ho, h2, then_no ho2]
theorem gather_three {l : Lim} {m : Mkr} {e : Ev} {o o2 o3 : Mkr × Nat} (h : onV e.be m (beginV l m) = o) (ho : o.2 = 0) (h2 : onV e.ad o.1 (addV l o.1 e.by_) = o2) (ho2 : o2.2 = 0) (h3 : onV e.fi o2.1 (fieldV l o2.1) = o3) (ho3 : o3.2 ≠ 0) : gatherV l m e = o3 := by unfold gatherV; rw [h, then_ok ho, h2, then_ok ho2, h3, then_no ho3]
theorem gather_four {l : Lim} {m : Mkr} {e : Ev} {o o2 o3 : Mkr × Nat} (h : onV e.be m (beginV l m) = o) (ho : o.2 = 0) (h2 : onV e.ad o.1 (addV l o.1 e.by_) = o2) (ho2 : o2.2 = 0) (h3 : onV e.fi o2.1 (fieldV l o2.1) = o3) (ho3 : o3.2 = 0) : gatherV l m e = onV e.li o3.1 (lineV l o3.1) := by unfold gatherV; rw [h, then_ok ho, h2, then_ok ho2, h3, then_ok ho3]

set_option maxHeartbeats 4000000 in
theorem gather_any (q c : Nat) (A : Option Addr) (v : Value) (l : Lim) (m : Mkr) (be ad fi li re : Bool) (b : Nat) (w : World) (h : MBox w q A c v l m) (hb : b < 256) (hs : Sz m 1000000) :
    Calls Try.prog 54 #[.pointer (some ⟨q, 0, none⟩), .agg #[.bool be, .bool ad, .bool fi, .bool li, .bool re, .int .u8 b]] w (fun en w' => en = .returned (.int .i64 (gatherV l m ⟨be, ad, fi, li, re, b⟩).2) ∧ MPost w q A v l (gatherV l m ⟨be, ad, fi, li, re, b⟩).1 w') := by
  obtain ⟨o1, ho1⟩ : ∃ o, onV be m (beginV l m) = o := ⟨_, rfl⟩
  obtain ⟨o2, ho2⟩ : ∃ o, onV ad o1.1 (addV l o1.1 b) = o := ⟨_, rfl⟩
  obtain ⟨o3, ho3⟩ : ∃ o, onV fi o2.1 (fieldV l o2.1) = o := ⟨_, rfl⟩
  have s1 : Sz o1.1 1000001 := ho1 ▸ on_sz hs (begin_sz hs)
  have s2 : Sz o2.1 1000002 := ho2 ▸ on_sz s1 (add_sz s1)
  have s3 : Sz o3.1 1000003 := ho3 ▸ on_sz s2 (put_sz s2)
  have H1 := Lib.hid ho1
  have H2 := Lib.hid ho2
  have H3 := Lib.hid ho3
  have HM := Lib.hid h
  have HS := Lib.hid (And.intro hs (And.intro s1 (And.intro s2 s3)))
  have HA := Lib.hid (h.below ((Below.refl _ _).alloc (Nat.le_refl _) (.cells #[.bool be, .bool ad, .bool fi, .bool li, .bool re, .int .u8 b] 87)))
  clear ho1 ho2 ho3 hs s1 s2 s3 h
  go_enter Try.func54, Try.ntmps54
  go_upto_if 9 with (fail)
  go_cut [5] (fun z5 wx => o1.2 = 0 ∧ MPost (w.alloc (.cells #[.bool be, .bool ad, .bool fi, .bool li, .bool re, .int .u8 b] 87)) q A v l o1.1 wx)
  case first =>
    cases be
    · go_wp2_with fail
      go_meet
      have e := H1.out
      unfold onV at e
      simp at e
      subst e
      exact ⟨rfl, A, c, v, HA.out, Goes.refl _ _ _ _⟩
    · have e : beginV l m = o1 := H1.out
      have HC := begin_any q c A v l m _ HA.out (by have := HS.out.1.2.2.1; omega)
      rw [e] at HC
      have HC' := Lib.hid HC
      clear e HC
      by_cases hz : o1.2 = 0
      · have z1 : ((o1.2 : Int) != 0) = false := by simp [hz]
        have z2 : decide ((o1.2 : Int) = 0) = true := decide_eq_true (by omega)
        have HZ := Lib.hid hz
        clear hz
        go_wp2_with (go_at_call 61; refine (HC'.out).mono ?_; rintro en w2 ⟨rfl, hP⟩; have HP := Lib.hid hP; clear hP)
        go_meet
        exact ⟨HZ.out, HP.out⟩
      · have z1 : ((o1.2 : Int) != 0) = true := by simp [hz]
        have z2 : decide ((o1.2 : Int) = 0) = false := decide_eq_false (by omega)
        have HZ := Lib.hid hz
        clear hz
        go_wp2_with (go_at_call 61; refine (HC'.out).mono ?_; rintro en w2 ⟨rfl, hP⟩; have HP := Lib.hid hP; clear hP)
        go_ret
        rw [gather_one (e := ⟨true, ad, fi, li, re, b⟩) H1.out HZ.out]
        exact ⟨rfl, HP.out.from_alloc⟩
  case rest =>
    obtain ⟨z1, A1, c1, v1, hM1, hG1⟩ := hcut
    have hE1 := box_goes HM.out hG1
    have hlt1 := hE1.lt
    have e10 : wc.cell? ⟨w.heap.size, 1, none⟩ = some (.bool ad) := hE1.cell 1
    have e15 : wc.cell? ⟨w.heap.size, 5, none⟩ = some (.int .u8 b) := hE1.cell 5
    have HM1 := Lib.hid hM1
    have HG1 := Lib.hid hG1
    have HZ1 := Lib.hid z1
    clear hE1 hM1 hG1 z1
    go_upto_if 16 with (fail)
    go_cut [6] (fun z6 wx => o2.2 = 0 ∧ MPost (w.alloc (.cells #[.bool be, .bool ad, .bool fi, .bool li, .bool re, .int .u8 b] 87)) q A v l o2.1 wx)
    case first =>
      cases ad
      · go_wp2_with fail
        go_meet
        have e := H2.out
        unfold onV at e
        simp at e
        subst e
        exact ⟨rfl, A1, c1, v1, HM1.out, HG1.out⟩
      · have e : addV l o1.1 b = o2 := H2.out
        have HC := add_any q c1 b A1 v1 l o1.1 _ HM1.out hb (by have := HS.out.2.1.1; omega)
        rw [e] at HC
        have HC' := Lib.hid HC
        clear e HC
        by_cases hz : o2.2 = 0
        · have z1 : ((o2.2 : Int) != 0) = false := by simp [hz]
          have z2 : decide ((o2.2 : Int) = 0) = true := decide_eq_true (by omega)
          have HZ := Lib.hid hz
          clear hz
          go_wp2_with (go_at_call 62; refine (HC'.out).mono ?_; rintro en w2 ⟨rfl, hP⟩; have HP := Lib.hid hP; clear hP)
          go_meet
          exact ⟨HZ.out, HP.out.after HG1.out⟩
        · have z1 : ((o2.2 : Int) != 0) = true := by simp [hz]
          have z2 : decide ((o2.2 : Int) = 0) = false := decide_eq_false (by omega)
          have HZ := Lib.hid hz
          clear hz
          go_wp2_with (go_at_call 62; refine (HC'.out).mono ?_; rintro en w2 ⟨rfl, hP⟩; have HP := Lib.hid hP; clear hP)
          go_ret
          rw [gather_two (e := ⟨be, true, fi, li, re, b⟩) H1.out HZ1.out H2.out HZ.out]
          exact ⟨rfl, (HP.out.after HG1.out).from_alloc⟩
    case rest =>
      obtain ⟨z2, A2, c2, v2, hM2, hG2⟩ := hcut
      clear e10 e15 hlt1
      have hE2 := box_goes HM.out hG2
      have hlt2 := hE2.lt
      have e20 : wc.cell? ⟨w.heap.size, 2, none⟩ = some (.bool fi) := hE2.cell 2
      have e25 : wc.cell? ⟨w.heap.size, 5, none⟩ = some (.int .u8 b) := hE2.cell 5
      have HM2 := Lib.hid hM2
      have HG2 := Lib.hid hG2
      have HZ2 := Lib.hid z2
      clear hE2 hM2 hG2 z2
      go_upto_if 25 with (fail)
      go_cut [7] (fun z7 wx => o3.2 = 0 ∧ MPost (w.alloc (.cells #[.bool be, .bool ad, .bool fi, .bool li, .bool re, .int .u8 b] 87)) q A v l o3.1 wx)
      case first =>
        cases fi
        · go_wp2_with fail
          go_meet
          have e := H3.out
          unfold onV at e
          simp at e
          subst e
          exact ⟨rfl, A2, c2, v2, HM2.out, HG2.out⟩
        · have e : fieldV l o2.1 = o3 := H3.out
          have HC := endField_any q c2 A2 v2 l o2.1 _ HM2.out (by have := HS.out.2.2.1.2.1; omega)
          rw [e] at HC
          have HC' := Lib.hid HC
          clear e HC
          by_cases hz : o3.2 = 0
          · have z1 : ((o3.2 : Int) != 0) = false := by simp [hz]
            have z2 : decide ((o3.2 : Int) = 0) = true := decide_eq_true (by omega)
            have HZ := Lib.hid hz
            clear hz
            go_wp2_with (go_at_call 63; refine (HC'.out).mono ?_; rintro en w2 ⟨rfl, hP⟩; have HP := Lib.hid hP; clear hP)
            go_meet
            exact ⟨HZ.out, HP.out.after HG2.out⟩
          · have z1 : ((o3.2 : Int) != 0) = true := by simp [hz]
            have z2 : decide ((o3.2 : Int) = 0) = false := decide_eq_false (by omega)
            have HZ := Lib.hid hz
            clear hz
            go_wp2_with (go_at_call 63; refine (HC'.out).mono ?_; rintro en w2 ⟨rfl, hP⟩; have HP := Lib.hid hP; clear hP)
            go_ret
            rw [gather_three (e := ⟨be, ad, true, li, re, b⟩) H1.out HZ1.out H2.out HZ2.out H3.out HZ.out]
            exact ⟨rfl, (HP.out.after HG2.out).from_alloc⟩
      case rest =>
        obtain ⟨z3, A3, c3, v3, hM3, hG3⟩ := hcut
        clear e20 e25 hlt2
        have hE3 := box_goes HM.out hG3
        have hlt3 := hE3.lt
        have e30 : wc.cell? ⟨w.heap.size, 3, none⟩ = some (.bool li) := hE3.cell 3
        have e35 : wc.cell? ⟨w.heap.size, 5, none⟩ = some (.int .u8 b) := hE3.cell 5
        have HM3 := Lib.hid hM3
        have HG3 := Lib.hid hG3
        have HZ3 := Lib.hid z3
        clear hE3 hM3 hG3 z3
        have e : ∀ c : Bool, gatherV l m ⟨be, ad, fi, c, re, b⟩ = onV c o3.1 (lineV l o3.1) := fun c => gather_four (e := ⟨be, ad, fi, c, re, b⟩) H1.out HZ1.out H2.out HZ2.out H3.out HZ3.out
        have HE := Lib.hid e
        clear e
        cases li
        · go_wp2_with fail
          go_ret
          rw [HE.out]
          exact ⟨rfl, MPost.from_alloc ⟨A3, c3, v3, HM3.out, HG3.out⟩⟩
        · have HC' := Lib.hid (endLine_any q c3 A3 v3 l o3.1 _ HM3.out (by have := HS.out.2.2.2.2.1; omega))
          go_wp2_with (go_at_call 64; refine (HC'.out).mono ?_; rintro en w2 ⟨rfl, hP⟩; have HP := Lib.hid hP; clear hP)
          go_ret
          rw [HE.out]
          exact ⟨rfl, (HP.out.after HG3.out).from_alloc⟩

theorem MBox.cleared {w : World} {q c : Nat} {A : Option Addr} {v : Value} {l : Lim} {m : Mkr} (h : MBox w q A c v l m) : MBox (w.setCell ⟨q, 5, none⟩ (.slice none 0 0)) q A c (.slice none 0 0) l ⟨m.fd, [], m.bg, m.ct, m.wd, m.st⟩ := by
  obtain ⟨h1, h2, h3, h4⟩ := h
  refine ⟨h1.set 5 _, ?_, World.ownsRow_nil _ _ _ _, fun a ha hc => by cases hc⟩
  exact h2.grown (grown_set _ _ _ _) (fun a ha hc => by have := h2.lt ha; injection hc with hc; omega)

set_option maxHeartbeats 1000000 in
theorem hand_any (q c : Nat) (A : Option Addr) (v : Value) (l : Lim) (m : Mkr) (w : World) (h : MBox w q A c v l m) (hs : Sz m 2000000) :
    Calls Try.prog 55 #[.pointer (some ⟨q, 0, none⟩)] w (fun e w' => e = .returned v ∧ MBox w' q A c (.slice none 0 0) l (handV m) ∧ w.grownBy w' (some q)) := by
  have hlt := h.lt
  obtain ⟨Ar, cap, rfl, hr1, hr2⟩ := h.rec_len
  have q5 : w.cell? ⟨q, 5, none⟩ = some (.slice Ar m.rc.length cap) := h.cell 5
  have q7 : w.cell? ⟨q, 7, none⟩ = some (.int .i64 m.ct) := h.cell 7
  have q8 : w.cell? ⟨q, 8, none⟩ = some (.int .i64 m.wd) := h.cell 8
  have qf := h.1.frozen
  have hw : wrap64 ((m.ct : Int) + 1) = m.ct + 1 := by have := hs.2.2.2.1; unfold wrap64; omega
  have H := Lib.hid h
  clear h
  by_cases hz : m.ct = 0
  · have d1 : ((m.ct : Int) == 0) = true := by simp; omega
    have d2 : decide ((m.ct : Int) = 0) = true := decide_eq_true (by omega)
    have e : handV m = ⟨m.fd, [], m.bg, m.ct + 1, m.rc.length, m.st⟩ := by unfold handV; rw [if_pos hz]
    rw [e]
    go_enter Try.func55, Try.ntmps55
    go_wp2_with fail
    go_ret
    refine ⟨rfl, ?_, grown_trans (grown_trans (grown_set _ _ _ _) (grown_set _ _ _ _)) (grown_set _ _ _ _)⟩
    exact (H.out.cleared.scalar 8 (.int .i64 m.rc.length) ⟨m.fd, [], m.bg, m.ct, m.rc.length, m.st⟩ rfl rfl rfl).scalar 7 (.int .i64 1) ⟨m.fd, [], m.bg, m.ct + 1, m.rc.length, m.st⟩ rfl rfl (by simp [mcells, hz])
  · have d1 : ((m.ct : Int) == 0) = false := by simp; omega
    have d2 : decide ((m.ct : Int) = 0) = false := decide_eq_false (by omega)
    have e : handV m = ⟨m.fd, [], m.bg, m.ct + 1, m.wd, m.st⟩ := by unfold handV; rw [if_neg hz]
    rw [e]
    go_enter Try.func55, Try.ntmps55
    go_wp2_with fail
    go_ret
    refine ⟨rfl, ?_, grown_trans (grown_set _ _ _ _) (grown_set _ _ _ _)⟩
    exact H.out.cleared.scalar 7 (.int .i64 (m.ct + 1)) ⟨m.fd, [], m.bg, m.ct + 1, m.wd, m.st⟩ rfl rfl rfl

def TakePost (w : World) (q : Nat) (A : Option Addr) (v : Value) (l : Lim) (m : Mkr) (e : Ev) (en : Ending) (w' : World) : Prop :=
  ∃ A' c' v' r, MBox w' q A' c' v' l (takeV l m e).1 ∧ Goes w w' q A v A' v' ∧ en = .returned (.tuple #[r, .bool (takeV l m e).2.isSome, .int .i64 (takeV l m e).1.st]) ∧
    OwnS w' (q + 1) r ((takeV l m e).2.getD []) ∧ (∀ g, r.ownBlock = some g → (feet q A v g ∨ w.heap.size ≤ g) ∧ ¬ feet q A' v' g) ∧ ((takeV l m e).2 = none → r = .slice none 0 0)

theorem take_none {l : Lim} {m : Mkr} {e : Ev} (h : ¬ ((midV l m e).st = 0 ∧ e.re = true)) : takeV l m e = (midV l m e, none) := by unfold takeV; rw [if_neg h]
theorem take_some {l : Lim} {m : Mkr} {e : Ev} (h : (midV l m e).st = 0 ∧ e.re = true) : takeV l m e = (handV (midV l m e), some (midV l m e).rc) := by unfold takeV; rw [if_pos h]
theorem mid_sz {l : Lim} {m : Mkr} {e : Ev} {n : Nat} (h : Sz m n) : Sz (midV l m e) (n + 4) := by
  unfold midV
  split
  · exact gather_sz (l := l) (e := e) h
  · exact h.mono (by omega)

set_option maxHeartbeats 4000000 in
theorem take_any (q c : Nat) (A : Option Addr) (v : Value) (l : Lim) (m : Mkr) (be ad fi li re : Bool) (b : Nat) (w : World) (h : MBox w q A c v l m) (hb : b < 256) (hs : Sz m 1000000) :
    Calls Try.prog 40 #[.pointer (some ⟨q, 0, none⟩), .agg #[.bool be, .bool ad, .bool fi, .bool li, .bool re, .int .u8 b]] w (TakePost w q A v l m ⟨be, ad, fi, li, re, b⟩) := by
  have hcell := fun (W : World) (x : Later W) => x.cell
  obtain ⟨m1, hm1⟩ : ∃ o, midV l m ⟨be, ad, fi, li, re, b⟩ = o := ⟨_, rfl⟩
  have s1 : Sz m1 1000004 := hm1 ▸ mid_sz hs
  have H1 := Lib.hid hm1
  have HM := Lib.hid h
  have HS := Lib.hid (And.intro hs s1)
  have hA := h.below ((Below.refl _ _).alloc (Nat.le_refl _) (.cells #[.bool be, .bool ad, .bool fi, .bool li, .bool re, .int .u8 b] 87))
  have hlt := h.lt
  have q9 : w.cell? ⟨q, 9, none⟩ = some (.int .i64 m.st) := h.cell 9
  have HA := Lib.hid hA
  clear hm1 hs s1 h hA
  go_enter Try.func40, Try.ntmps40
  go_upto_if 11 with (fail)
  go_cut [] (fun wx => MPost (w.alloc (.cells #[.bool be, .bool ad, .bool fi, .bool li, .bool re, .int .u8 b] 87)) q A v l m1 wx)
  case first =>
    by_cases hz : m.st = 0
    · have z1 : ((m.st : Int) == 0) = true := by simp [hz]
      have z2 : decide ((m.st : Int) = 0) = true := decide_eq_true (by omega)
      have e : m1 = stopV (gatherV l m ⟨be, ad, fi, li, re, b⟩).1 (gatherV l m ⟨be, ad, fi, li, re, b⟩).2 := by rw [← H1.out]; unfold midV; rw [if_pos hz]
      have HE := Lib.hid e
      have HC := Lib.hid (gather_any q c A v l m be ad fi li re b _ HA.out hb HS.out.1)
      clear e hz
      go_wp2_with (go_at_call 54; refine (HC.out).mono ?_; rintro en w2 ⟨rfl, A2, c2, v2, hM, hG⟩; have k9 : w2.cell? ⟨q, 9, none⟩ = some (.int .i64 _) := hM.cell 9; have kf : w2.frozen? ⟨q, 9, none⟩ = false := hM.1.frozen 9; have HP := Lib.hid hM; have HG := Lib.hid hG; clear hM hG)
      go_meet
      rw [HE.out]
      exact ⟨A2, c2, v2, HP.out.scalar 9 _ (stopV _ _) rfl rfl rfl, HG.out.1.set q 9 _ (.inl (.inl rfl)), HG.out.2⟩
    · have z1 : ((m.st : Int) == 0) = false := by simp [hz]
      have z2 : decide ((m.st : Int) = 0) = false := decide_eq_false (by omega)
      have e : m1 = m := by rw [← H1.out]; unfold midV; rw [if_neg hz]
      subst e
      go_wp2_with fail
      go_meet
      exact ⟨A, c, v, HA.out, Goes.refl _ _ _ _⟩
  case rest =>
    obtain ⟨A1, c1, v1, hM, hG⟩ := hcut
    have hE := box_goes HM.out hG
    have hltE := hE.lt
    have hlt1 := hM.lt
    have e4 : wc.cell? ⟨w.heap.size, 4, none⟩ = some (.bool re) := hE.cell 4
    have k9 : wc.cell? ⟨q, 9, none⟩ = some (.int .i64 m1.st) := hM.cell 9
    have HP := Lib.hid hM
    have hG' : Goes w wc q A v A1 v1 := ((Goes.refl _ _ _ _).below ((Below.refl _ _).alloc (Nat.le_refl _) _)).trans hG
    have HG := Lib.hid hG'
    clear hM hG hG' hE q9
    by_cases hz : m1.st = 0
    · have z1 : ((m1.st : Int) != 0) = false := by simp [hz]
      have z2 : decide ((m1.st : Int) = 0) = true := decide_eq_true (by omega)
      have HZ := Lib.hid hz
      clear hz
      cases re
      · go_wp2_with fail
        refine wp_region_later_lit (by kernel_rfl) (by kernel_rfl) ?_
        repeat (go_big_quiet_step (fail))
        refine wpQuiet_nil ?_
        rintro w' ⟨y, rfl⟩
        go_wp2_with fail
        refine bodyPost_ret (v := .tuple #[.slice none 0 0, .bool false, .int .i64 m1.st]) (by simp [results, Try.results40]) rfl ?_
        have e := take_none (l := l) (m := m) (e := ⟨be, ad, fi, li, false, b⟩) (by simp)
        rw [H1.out] at e
        unfold TakePost
        rw [e]
        exact ⟨A1, c1, v1, .slice none 0 0, HP.out.below y.below, HG.out.below y.below, rfl, World.ownsRow_nil _ _ _ _, fun g hg => (by cases hg), fun _ => rfl⟩
      · have HC := Lib.hid (hand_any q c1 A1 v1 l m1 _ HP.out (HS.out.2.mono (by omega)))
        go_wp2_with (go_at_call 55; refine (HC.out).mono ?_; rintro en w2 ⟨rfl, hM2, hg2⟩; have HM2 := Lib.hid hM2; have HG2 := Lib.hid hg2; clear hM2 hg2)
        refine bodyPost_ret (v := .tuple #[v1, .bool true, .int .i64 0]) (by simp [results, Try.results40]) rfl ?_
        have e := take_some (l := l) (m := m) (e := ⟨be, ad, fi, li, true, b⟩) ⟨by rw [H1.out]; exact HZ.out, rfl⟩
        rw [H1.out] at e
        unfold TakePost
        rw [e]
        have hst : ((handV m1).st : Int) = 0 := by have := HZ.out; show (m1.st : Int) = 0; omega
        refine ⟨A1, c1, .slice none 0 0, v1, HM2.out, HG.out.trans ⟨(Keeps.refl _ _).grown HG2.out (fun g hg => by injection hg with hg; exact .inl (.inl hg.symm)), fun k hk => ?_⟩, (by simp only [hst]; rfl), ?_, fun g hg => ⟨HG.out.2 g (.inr (.inr hg)), ?_⟩, fun h => by cases h⟩
        · rcases hk with hk | hk | hk
          · exact .inl (.inl hk)
          · exact .inl (.inr (.inl hk))
          · cases hk
        · exact HP.out.2.2.1.kept HG2.out (by cases e : v1.ownBlock with | none => exact .inl rfl | some g => exact .inr (fun hc => HP.out.ne_rec (hc.symm.trans e.symm)))
        · intro hk
          rcases hk with hk | ⟨a, ha, hk⟩ | hk
          · subst hk; exact HP.out.ne_rec hg.symm
          · exact HP.out.2.2.2 a ha (by rw [hg, hk])
          · cases hk
    · have z1 : ((m1.st : Int) != 0) = true := by simp [hz]
      have z2 : decide ((m1.st : Int) = 0) = false := decide_eq_false (by omega)
      have HZ := Lib.hid hz
      clear hz
      go_wp2_with fail
      refine wp_region_later_lit (by kernel_rfl) (by kernel_rfl) ?_
      repeat (go_big_quiet_step (fail))
      refine wpQuiet_nil ?_
      rintro w' ⟨y, rfl⟩
      go_wp2_with fail
      refine bodyPost_ret (v := .tuple #[.slice none 0 0, .bool false, .int .i64 m1.st]) (by simp [results, Try.results40]) rfl ?_
      have e := take_none (l := l) (m := m) (e := ⟨be, ad, fi, li, re, b⟩) (by rw [H1.out]; exact fun h => HZ.out h.1)
      rw [H1.out] at e
      unfold TakePost
      rw [e]
      exact ⟨A1, c1, v1, .slice none 0 0, HP.out.below y.below, HG.out.below y.below, rfl, World.ownsRow_nil _ _ _ _, fun g hg => (by cases hg), fun _ => rfl⟩

end Go.Proofs.Ytdkdbmiafnadmaa
