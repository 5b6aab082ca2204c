/-
  Walks: the document's reader: a line.
-/
import Derived.Test.YtajedohgcepkiaaDoorRows
import Derived.Test.YtajedohgcepkiaaDoorRdL
namespace Go.Proofs.YtajedohgcepkiaaDoor
open Go.RowKit

/-- A line was read, or a fault is told, or all is read. -/
def LinePost (o p q : Nat) (n : Int) (l : Lim) (s : ByteArray) (x : Rd) (w : World) (e : Ending) (w' : World) : Prop :=
  ∃ x' b, e = .returned (.bool b) ∧ RdIn w' o p q n l s x' ∧ Below o w w' ∧ ((Idle p q n l s x' ∧ x.i < x'.i) ∨ Dead p q n l s x' ∨ (Done p q n l s x' ∧ x'.i = s.size))
/-- A number in a cell. -/
def cellNat (w : World) (o i : Nat) : Nat := match w.cell? ⟨o, i, none⟩ with
  | some (.int _ n) => n.toNat
  | _ => 0
section
variable {l : Lim} {m : Mkr} {e : Ev}
theorem begin_bg (h : (m.bg : Int) ≤ l.rs) : ((beginV l m).1.bg : Int) ≤ l.rs := by
  unfold beginV
  split
  · exact h
  · simp only []
    omega
theorem add_bg (b : Nat) : (addV l m b).1.bg = m.bg := by unfold addV; split <;> rfl
theorem on_bg {c : Bool} {o : Mkr × Nat} (h : o.1.bg = m.bg) : (onV c m o).1.bg = m.bg := by unfold onV; split; exact h; rfl
theorem then_bg {o : Mkr × Nat} {f : Mkr → Mkr × Nat} (h : (f o.1).1.bg = o.1.bg) : (thenV o f).1.bg = o.1.bg := by unfold thenV; split; exact h; rfl
theorem gather_bg (h : (m.bg : Int) ≤ l.rs) : ((gatherV l m e).1.bg : Int) ≤ l.rs := by
  unfold gatherV
  rw [then_bg]
  · unfold onV
    split
    · exact begin_bg h
    · exact h
  · refine (then_bg ?_).trans (on_bg (add_bg _))
    refine (then_bg ?_).trans (on_bg rfl)
    exact on_bg rfl
theorem take_bg (h : (m.bg : Int) ≤ l.rs) : ((takeV l m e).1.bg : Int) ≤ l.rs := by
  have hm : ((midV l m e).bg : Int) ≤ l.rs := by
    unfold midV
    split
    · exact gather_bg h
    · exact h
  unfold takeV
  split <;> exact hm
theorem step_bg {p q : Nat} {n : Int} {x : MS} {b i : Nat} (h : (x.mr.bg : Int) ≤ l.rs) : ((stepM p q n l x b i).mr.bg : Int) ≤ l.rs := by
  unfold stepM takeM
  split
  · exact h
  · split
    · exact h
    · split
      · exact take_bg h
      · exact h
theorem run_bg {p q : Nat} {n : Int} {s : ByteArray} (h : 0 ≤ l.rs) : ∀ i, ((runM p q n l s i).mr.bg : Int) ≤ l.rs
  | 0 => h
  | i + 1 => step_bg (run_bg h i)
theorem At.bg_le {p q : Nat} {n : Int} {s : ByteArray} {x : Rd} {f : ByteArray} {st : Nat} (h : At p q n l s x f st) (hl : 0 ≤ l.rs) (hst : st ≠ 0) : (x.bg : Int) ≤ l.rs := by
  have h1 := run_bg (p := p) (q := q) (n := n) (s := s) hl x.i
  rw [h.run] at h1
  simp only [if_neg hst, Nat.sub_zero] at h1
  exact h1
end
theorem wraps (i : Nat) (h : i ≤ 1000000) : wrap64 (i : Int) = i ∧ wrap64 ((i : Int) + 1) = i + 1 ∧ wrap64 ((i : Int) + 1 - 1) = i ∧ wrap64 ((i : Int) + 2) = i + 2 ∧ wrap64 ((i : Int) + 2 - 1) = i + 1 := by
  unfold wrap64
  omega
theorem meas_lt {W W' : World} {o i j k : Nat} (a : W.cell? ⟨o, 8, none⟩ = some (.int .i64 ((j : Int) + 1))) (b : W'.cell? ⟨o, 8, none⟩ = some (.int .i64 (i : Int))) (h1 : i ≤ j) (h2 : j < k) : k - cellNat W o 8 < k - cellNat W' o 8 := by
  unfold cellNat
  rw [a, b]
  show k - ((j : Int) + 1).toNat < k - (i : Int).toNat
  omega
theorem RdIn.cell8C {w : World} {o p q : Nat} {n : Int} {l : Lim} {s f : ByteArray} {x : Rd} (h : RdIn w o p q n l s (recR x f)) : w.cell? ⟨o, 8, none⟩ = some (.int .i64 x.i) := by
  obtain ⟨vc, vr, ve, vs, h⟩ := h
  exact h.cell 8
theorem RdIn.cell8 {w : World} {o p q : Nat} {n : Int} {l : Lim} {s : ByteArray} {x : Rd} (h : RdIn w o p q n l s x) : w.cell? ⟨o, 8, none⟩ = some (.int .i64 x.i) := by
  obtain ⟨vc, vr, ve, vs, h⟩ := h
  exact h.cell 8

set_option maxRecDepth 100000 in
set_option maxHeartbeats 8000000 in
theorem line_any (o p q : Nat) (n : Int) (l : Lim) (s : ByteArray) (x : Rd) (w : World) (h : RdIn w o p q n l s x) (hs : s.size ≤ 1000000) (hok : okB p q n = true) (hfl : 1 ≤ l.fl) (hfs : 1 ≤ l.fs) (hI : Idle p q n l s x) (hi : x.i < s.size) (h10 : bytN s x.i ≠ 10) (h13 : bytN s x.i ≠ 13) :
    Calls Tryd.prog 45 #[.pointer (some ⟨o, 0, none⟩)] w (LinePost o p q n l s x w) := by
  have hcell := fun (W : World) (x : Later W) => x.cell
  have H := Lib.hid h
  obtain ⟨hD9, hA9⟩ := hI.start hfl hfs hi h10 h13
  have hbg6 : x.bg ≤ 1000000 := by have := hI.bd; omega
  have HOK := Lib.hid (okB_spec hok)
  have HK := Lib.hid hok
  have HFS := Lib.hid hfs
  have HIB := Lib.hid hI
  obtain ⟨vc, vr, ve, vs, h1⟩ := h
  have q5 : w.cell? ⟨o, 5, none⟩ = some (.int .i64 l.rs) := h1.cell 5
  have q8 : w.cell? ⟨o, 8, none⟩ = some (.int .i64 x.i) := h1.cell 8
  have q9 : w.cell? ⟨o, 9, none⟩ = some (.int .i64 x.bg) := h1.cell 9
  have hlt := h1.lt
  have H1 := Lib.hid h1
  clear h1 hfs hfl h10 h13 hi hok hI
  by_cases hr : (x.bg : Int) = l.rs
  · have d1 : ((x.bg : Int) == l.rs) = true := by simp [hr]
    have d2 : decide ((x.bg : Int) = l.rs) = true := decide_eq_true hr
    have HD := Lib.hid (hD9 hr)
    have HW := Lib.hid (fun y : Later w => wrong_any o p q n l s x 9 x.i y.w (H.out.below y.below))
    clear hD9 hA9 hr
    go_enter Tryd.func45, Tryd.ntmps45
    go_wp2_with fail
    refine wp_region_later_lit (by kernel_rfl) (by kernel_rfl) ?_
    repeat (go_big_quiet_step (fail))
    refine wpQuiet_nil ?_
    rintro w' ⟨y, rfl⟩
    go_wp2_with (go_at_call 55; refine (HW.out y).mono ?_; rintro e w3 ⟨rfl, hR3, hB3⟩; have H3 := Lib.hid hR3; have HB3 := Lib.hid ((y.below.mono (Nat.le_of_lt hlt)).trans hB3); clear hR3 hB3)
    go_ret
    exact ⟨_, _, rfl, H3.out, HB3.out, .inr (.inl HD.out)⟩
  · have d1 : ((x.bg : Int) == l.rs) = false := by simp [hr]
    have d2 : decide ((x.bg : Int) = l.rs) = false := decide_eq_false hr
    have HA := Lib.hid (hA9 hr)
    have hw : wrap64 ((x.bg : Int) + 1) = x.bg + 1 := by unfold wrap64; omega
    have hfrozen := fun (W : World) (x : Later W) => x.frozen
    have qf : w.frozen? ⟨o, 9, none⟩ = false := H1.out.1.frozen 9
    clear hD9 hA9 hr
    go_enter Tryd.func45, Tryd.ntmps45
    go_wp2_with fail
    refine wp_region_later_lit (by kernel_rfl) (by kernel_rfl) ?_
    repeat (go_big_quiet_step (fail))
    refine wpQuiet_nil ?_
    rintro w' ⟨y, rfl⟩
    go_wp2_with fail
    have h4 := (H1.out.below y.below).scalar 9 (.int .i64 ((x.bg : Int) + 1)) (bgR x) ⟨rfl, rfl, rfl⟩ rfl
    have hb4 : Below o w (y.w.setCell ⟨o, 9, none⟩ (.int .i64 ((x.bg : Int) + 1))) := (y.below.mono (Nat.le_of_lt hlt)).trans (below_set _ _ _ _)
    clear q5 q8 q9 qf
    generalize y.w.setCell ⟨o, 9, none⟩ (.int .i64 ((x.bg : Int) + 1)) = W4 at h4 hb4 ⊢
    have H4 := Lib.hid (show RdIn W4 o p q n l s (bgR x) from ⟨_, _, _, _, h4⟩)
    have HB4 := Lib.hid hb4
    clear h4 hb4 hw d1 d2 hbg6
    go_loopw [3, 4] (fun _ _ (wr : World) => ∃ x' st', RdIn wr o p q n l s x' ∧ At p q n l s x' ⟨#[]⟩ st' ∧ (st' = 0 ∨ st' = 1) ∧ x.i ≤ x'.i ∧ Below o w wr) (fun _ _ wr => s.size - cellNat wr o 8)
    case atStart => exact ⟨bgR x, 0, H4.out, HA.out, .inl rfl, Nat.le_refl _, HB4.out⟩
    case round =>
      obtain ⟨x', st', hR, hAt, hst', hle, hb⟩ := hrel
      have HR := Lib.hid hR
      have HT := Lib.hid hAt
      have HB := Lib.hid hb
      have HLE := Lib.hid hle
      have HST := Lib.hid hst'
      have hi6 : x'.i ≤ s.size := hAt.i
      obtain ⟨vc1, vr1, ve1, vs1, h1⟩ := hR
      have q0 : wr.cell? ⟨o, 0, none⟩ = some (.int .i64 p) := h1.cell 0
      have q1 : wr.cell? ⟨o, 1, none⟩ = some (.int .i64 q) := h1.cell 1
      have q8 : wr.cell? ⟨o, 8, none⟩ = some (.int .i64 x'.i) := h1.cell 8
      have qf : wr.frozen? ⟨o, 8, none⟩ = false := h1.1.frozen 8
      have hlt1 := h1.lt
      have HI := Lib.hid (fun (b : Nat) (y : Later wr) => is_any o p q n l s x' b y.w (HR.out.below y.below) hs)
      have H5 := Lib.hid h1
      clear hAt hle hb h1 hst'
      obtain ⟨bq, hbq⟩ : ∃ b, isB s x'.i q = b := ⟨_, rfl⟩
      have HQQ : Hid (∀ y : Later wr, Calls Tryd.prog 42 #[.pointer (some ⟨o, 0, none⟩), .int .i64 q] y.w (Gives (.bool bq) y.w)) := Lib.hid (fun y => hbq ▸ HI.out q y)
      have HBQ := Lib.hid hbq
      clear hbq
      go_upto_if 35 with (go_at_call 42; refine (call_later (HQQ.out ⟨wr, Below.refl _ _⟩)).mono ?_; rintro e w' ⟨rfl, y1, rfl⟩)
      go_cut [3, 4] (fun z3 z4 wx => ∃ x2 f ok, z3 = .string f ∧ z4 = .bool ok ∧ RdIn wx o p q n l s x2 ∧ Below o wr wx ∧ (ok = true → x'.i ≤ x2.i ∧ (∃ st, (st = 0 ∨ st = 1 ∨ st = 2 ∨ st = 4) ∧ At p q n l s x2 f st) ∧ (x2.i = s.size ∨ (x2.i < s.size ∧ (bytN s x2.i = p ∨ bytN s x2.i = 10 ∨ bytN s x2.i = 13)))) ∧ (ok = false → Dead p q n l s x2))
      case first =>
        cases bq
        · have hnq : ¬ (x'.i < s.size ∧ bytN s x'.i = q) := fun hc => by have := (isB_is _ _ _).2 hc; rw [HBQ.out] at this; cases this
          have HC := Lib.hid (bare_any o p q n l s x' st' y1.w (HR.out.below y1.below) hs HFS.out HT.out HST.out hnq)
          clear hnq
          go_wp2_with (go_at_call 57; refine HC.out.mono ?_; rintro e w3 ⟨x2, f, ok, rfl, hR2, hB2, hT2, hF2⟩; have H2 := Lib.hid hR2; have HB2 := Lib.hid ((y1.below.mono (Nat.le_of_lt hlt1)).trans hB2); have HT2 := Lib.hid hT2; have HF2 := Lib.hid hF2; clear hR2 hB2 hT2 hF2)
          go_meet
          exact ⟨x2, f, ok, rfl, rfl, H2.out, HB2.out, HT2.out, HF2.out⟩
        · obtain ⟨c0, cq⟩ := (isB_is _ _ _).1 HBQ.out
          have hw : wrap64 ((x'.i : Int) + 1) = x'.i + 1 := by unfold wrap64; omega
          have h6 := (H5.out.below y1.below).scalar 8 (.int .i64 ((x'.i : Int) + 1)) (goR x' (x'.i + 1)) ⟨rfl, rfl, rfl⟩ rfl
          have k8 := y1.below.cell (p := ⟨o, 8, none⟩) hlt1
          have kf := y1.below.frozen (p := ⟨o, 8, none⟩) hlt1
          have HC := Lib.hid (quoted_any o p q n l s (goR x' (x'.i + 1)) _ ⟨_, _, _, _, h6⟩ hs (HT.out.open_ HST.out c0 cq))
          clear c0 cq h6
          go_wp2_with (go_at_call 56; refine HC.out.mono ?_; rintro e w3 ⟨x2, f, ok, rfl, hR2, hB2, hT2, hF2⟩; have H2 := Lib.hid hR2; have HB2 := Lib.hid (((y1.below.mono (Nat.le_of_lt hlt1)).trans (below_set _ _ _ _)).trans hB2); have HT2 := Lib.hid hT2; have HF2 := Lib.hid hF2; clear hR2 hB2 hT2 hF2)
          go_meet
          exact ⟨x2, f, ok, rfl, rfl, H2.out, HB2.out, fun e => ⟨Nat.le_trans (Nat.le_succ _) (HT2.out e).1, (HT2.out e).2⟩, HF2.out⟩
      case rest =>
        obtain ⟨x2, f, ok, rfl, rfl, hR2, hB2, hT2, hF2⟩ := hcut
        have HB2 := Lib.hid (HB.out.trans hB2)
        clear hB2
        cases ok
        · have HF2 := Lib.hid (hF2 rfl)
          have H2 := Lib.hid hR2
          clear hF2 hT2 hR2
          go_wp2_with fail
          go_ret
          exact ⟨x2, false, rfl, H2.out, HB2.out, .inr (.inl HF2.out)⟩
        · obtain ⟨hle2, ⟨st, hst2, hA2⟩, hpl⟩ := hT2 rfl
          have hi2 : x2.i ≤ s.size := hA2.i
          have hrc2 : x2.rc.length ≤ 1000000 := by have := hA2.bd.1; omega
          have hrs2 : x2.rs.length ≤ 1000000 := by have := hA2.bd.2.1; omega
          have HLE2 := Lib.hid (Nat.le_trans HLE.out hle2)
          have HLM := Lib.hid hle2
          have HST2 := Lib.hid hst2
          have HA2 := Lib.hid hA2
          have HPL := Lib.hid hpl
          obtain ⟨vc, vr, ve, vs, h2⟩ := hR2
          have k10 : wc.cell? ⟨o, 10, none⟩ = some vc := h2.cell 10
          have hlt2 := h2.lt
          have HE := Lib.hid (h2.below ((Below.refl _ _).alloc (Nat.le_refl _) (.cells #[.string f] 9)))
          obtain ⟨i0, hi0, hz0, hz1, hz2⟩ := info_parts str_info
          have HBA := Lib.hid (HB2.out.trans ((Below.refl o wc).alloc (Nat.le_of_lt hlt2) (.cells #[.string f] 9)))
          have Q8 := Lib.hid q8
          clear hT2 hF2 hle2 hst2 hA2 hpl h2 q0 q1 q8 qf
          go_upto_region 12 with (at_builtin; refine wpList_append_own_at _ rfl (.tmp 59) (.tmp 61) 49 rfl (o + 1) 9 i0 _ 1 _ Tryd.underlying49 hi0 hz0 hz1 hz2 rfl (by omega) vc x2.rc.length _ rfl HE.out.2.1 ⟨wc.heap.size, 0, none⟩ 1 1 [.string f] rfl rfl (cell_one_new wc _ _) (by intro u hu; simp at hu; subst hu; rfl) (by unfold maxLen; omega) (by omega) (by simp; omega) ?_; intro v4 w4 ho4 hg4 _hn4 hat4; obtain ⟨A4, p4, rfl, _hp⟩ := owns_len ho4; have H5 := Lib.hid (HE.out.onRec (f := f) ho4 hg4 hat4); have KE := HE.out.1.grown hg4 (ne_some HE.out.2.1 (Nat.lt_succ_self _)); have j10 : w4.cell? ⟨o, 10, none⟩ = some vc := KE.cell 10; have jf := KE.frozen; have HB4 := Lib.hid (HBA.out.grown hg4 (by simp; omega) (fun g hg => by have := HE.out.2.1.lt g hg; omega)); clear ho4 hat4 _hn4 hg4)
          have h5 := H5.out
          have hb5 := HB4.out.trans (below_set _ _ 10 (.slice A4 (x2.rc.length + 1) p4))
          clear H5 HB4 KE j10 jf HE HBA k10 hlt2
          generalize w4.setCell ⟨o, 10, none⟩ (.slice A4 (x2.rc.length + 1) p4) = W5 at h5 hb5 ⊢
          have H5 := Lib.hid h5
          have HB5 := Lib.hid hb5
          have HR5 := Lib.hid (show RdIn W5 o p q n l s (recR x2 f) from ⟨_, _, _, _, h5⟩)
          have k0 : W5.cell? ⟨o, 0, none⟩ = some (.int .i64 p) := h5.cell 0
          have k4 : W5.cell? ⟨o, 4, none⟩ = some (.int .i64 l.fl) := h5.cell 4
          have k6 : W5.cell? ⟨o, 6, none⟩ = some (.int .i64 (n01 l.un)) := h5.cell 6
          have k7 : W5.cell? ⟨o, 7, none⟩ = some (.string s) := h5.cell 7
          have k8 : W5.cell? ⟨o, 8, none⟩ = some (.int .i64 x2.i) := h5.cell 8
          have k10 : W5.cell? ⟨o, 10, none⟩ = some (.slice A4 (x2.rc.length + 1) p4) := h5.cell 10
          have kf5 : W5.frozen? ⟨o, 8, none⟩ = false := h5.1.frozen 8
          have hlt5 := h5.lt
          have HI5 := Lib.hid (fun (b : Nat) (y : Later W5) => is_any o p q n l s (recR x2 f) b y.w (HR5.out.below y.below) hs)
          clear h5 hb5
          rcases HPL.out with he | ⟨hc, hbyte⟩
          · have ip : isB s x2.i p = false := Bool.eq_false_iff.2 (fun hc => by have := ((isB_is _ _ _).1 hc).1; omega)
            have HP : Hid (∀ y : Later W5, Calls Tryd.prog 42 #[.pointer (some ⟨o, 0, none⟩), .int .i64 p] y.w (Gives (.bool false) y.w)) := Lib.hid (fun y => ip ▸ HI5.out p y)
            have j0 : decide ((x2.i : Int) = (s.size : Int)) = true := decide_eq_true (by omega)
            have j1 : ((x2.i : Int) == (s.size : Int)) = true := by simp; omega
            have hst : st = 1 ∨ st = 2 ∨ st = 4 := by
              rcases HST2.out with e | e | e | e
              · have := (HA2.out.z0 e).2.2.2.2.1; omega
              · exact .inl e
              · exact .inr (.inl e)
              · exact .inr (.inr e)
            obtain ⟨t1, t2⟩ := HA2.out.finish hst he
            have HEI := Lib.hid he
            have T1 := Lib.hid t1
            have T2 := Lib.hid t2
            clear ip he hst t1 t2 k4 k6 k0 hi2
            by_cases hw : widthB l (recR x2 f) = true
            · have HD := Lib.hid (T1.out hw)
              have HW : Hid (∀ W, RdIn W o p q n l s (recR x2 f) → Calls Tryd.prog 58 #[.pointer (some ⟨o, 0, none⟩), .int .i64 x2.i] W (fun e w' => e = .returned (.bool false) ∧ RdIn w' o p q n l s (wrongV (recR x2 f) 10 x2.i) ∧ Below o W w')) := Lib.hid (fun W hW => by have h := width_any o p q n l s x2.i (recR x2 f) W hW; unfold widthV at h; rw [if_pos hw] at h; exact h)
              have k0 : W5.cell? ⟨o, 0, none⟩ = some (.int .i64 p) := H5.out.cell 0
              clear hw
              go_wp2_with (go_at_call 42; refine (call_later (HP.out ⟨W5, Below.refl _ _⟩)).mono ?_; rintro e w' ⟨rfl, y1, rfl⟩)
              refine wp_region_anch y1 (by kernel_rfl) (by kernel_rfl) ?_
              repeat (go_big_quiet_step (fail))
              refine wpQuiet_nil ?_
              rintro w' ⟨y2, rfl⟩
              go_wp2_with (go_at_call 58; refine (HW.out _ (HR5.out.below y2.below)).mono ?_; rintro e w3 ⟨rfl, hR3, hB3⟩; have H3 := Lib.hid hR3; have HB3 := Lib.hid ((HB5.out.trans (y2.below.mono (Nat.le_of_lt hlt5))).trans hB3); clear hR3 hB3)
              go_ret
              exact ⟨_, _, rfl, H3.out, HB3.out, .inr (.inl HD.out)⟩
            · have HD := Lib.hid (T2.out (by simpa using hw))
              have HW : Hid (∀ W, RdIn W o p q n l s (recR x2 f) → Calls Tryd.prog 58 #[.pointer (some ⟨o, 0, none⟩), .int .i64 x2.i] W (fun e w' => e = .returned (.bool true) ∧ RdIn w' o p q n l s (recR x2 f) ∧ Below o W w')) := Lib.hid (fun W hW => by have h := width_any o p q n l s x2.i (recR x2 f) W hW; unfold widthV at h; rw [if_neg hw] at h; exact h)
              have k0 : W5.cell? ⟨o, 0, none⟩ = some (.int .i64 p) := H5.out.cell 0
              have HWH := Lib.hid (fun W hW => whole_any o p q n l s x2.i (recR x2 f) W hW hrs2 (by have : x2.rs.length = x2.en.length := HA2.out.len; show x2.en.length ≤ 1000000; omega))
              clear hw
              go_wp2_with (go_at_call 42; refine (call_later (HP.out ⟨W5, Below.refl _ _⟩)).mono ?_; rintro e w' ⟨rfl, y1, rfl⟩)
              refine wp_region_anch y1 (by kernel_rfl) (by kernel_rfl) ?_
              repeat (go_big_quiet_step (fail))
              refine wpQuiet_nil ?_
              rintro w' ⟨y2, rfl⟩
              go_wp2_with (first | (go_at_call 58; refine (HW.out _ (HR5.out.below y2.below)).mono ?_; rintro e w3 ⟨rfl, hR3, hB3⟩; have a8 : w3.cell? ⟨o, 8, none⟩ = some (.int .i64 x2.i) := (hR3.cell8 : _); have H3 := Lib.hid hR3; have HB3 := Lib.hid ((HB5.out.trans (y2.below.mono (Nat.le_of_lt hlt5))).trans hB3); clear hR3 hB3) | (go_at_call 59; refine (HWH.out _ H3.out).mono ?_; rintro e w4 ⟨rfl, hR4, hB4⟩; have H4 := Lib.hid hR4; have HB4 := Lib.hid (HB3.out.trans hB4); clear hR4 hB4))
              go_ret
              exact ⟨_, _, rfl, H4.out, HB4.out, .inr (.inr ⟨HD.out, HEI.out⟩)⟩
          · have j0 : decide ((x2.i : Int) = (s.size : Int)) = false := decide_eq_false (by omega)
            have j1 : ((x2.i : Int) == (s.size : Int)) = false := by simp; omega
            by_cases hp : bytN s x2.i = p
            · have ip : isB s x2.i p = true := (isB_is _ _ _).2 ⟨hc, hp⟩
              have HP : Hid (∀ y : Later W5, Calls Tryd.prog 42 #[.pointer (some ⟨o, 0, none⟩), .int .i64 p] y.w (Gives (.bool true) y.w)) := Lib.hid (fun y => ip ▸ HI5.out p y)
              obtain ⟨t1, t2, t3⟩ := HA2.out.delim HK.out HFS.out HST2.out hc hp
              have T1 := Lib.hid t1
              have T2 := Lib.hid t2
              have T3 := Lib.hid t3
              have HC := Lib.hid hc
              clear ip hp t1 t2 t3 hbyte hc
              by_cases hf : (x2.rc.length : Int) + 1 = l.fl
              · have e1 : decide ((x2.rc.length : Int) + 1 = l.fl) = true := decide_eq_true hf
                have e2 : ((x2.rc.length : Int) + 1 == l.fl) = true := by simp [hf]
                have HD := Lib.hid (T1.out hf)
                have HWR := Lib.hid (fun W hW => wrong_any o p q n l s (recR x2 f) 8 x2.i W hW)
                clear hf
                go_wp2_with (go_at_call 42; refine (call_later (HP.out ⟨W5, Below.refl _ _⟩)).mono ?_; rintro e w' ⟨rfl, y1, rfl⟩)
                refine wp_region_anch y1 (by kernel_rfl) (by kernel_rfl) ?_
                repeat (go_big_quiet_step (fail))
                refine wpQuiet_nil ?_
                rintro w' ⟨y2, rfl⟩
                go_wp2_with (go_at_call 55; refine (HWR.out _ (HR5.out.below y2.below)).mono ?_; rintro e w3 ⟨rfl, hR3, hB3⟩; have H3 := Lib.hid hR3; have HB3 := Lib.hid ((HB5.out.trans (y2.below.mono (Nat.le_of_lt hlt5))).trans hB3); clear hR3 hB3)
                go_ret
                exact ⟨_, _, rfl, H3.out, HB3.out, .inr (.inl HD.out)⟩
              · have e1 : decide ((x2.rc.length : Int) + 1 = l.fl) = false := decide_eq_false hf
                have e2 : ((x2.rc.length : Int) + 1 == l.fl) = false := by simp [hf]
                have HNF := Lib.hid hf
                obtain ⟨Ar, cr, rfl, hr1, hr2⟩ := H5.out.tab_len
                have k11 : W5.cell? ⟨o, 11, none⟩ = some (.slice Ar x2.rs.length cr) := H5.out.cell 11
                clear hf
                cases hu : l.un
                · rw [hu] at k6
                  have k6' : W5.cell? ⟨o, 6, none⟩ = some (.int .i64 0) := k6
                  have hF : fldC l x2 = false := by unfold fldC; simp [hu]
                  clear k6
                  have HD := Lib.hid (T3.out HNF.out hF)
                  have hw : wrap64 ((x2.i : Int) + 1) = x2.i + 1 := by unfold wrap64; omega
                  clear hF hu
                  go_wp2_with (go_at_call 42; refine (call_later (HP.out ⟨W5, Below.refl _ _⟩)).mono ?_; rintro e w' ⟨rfl, y1, rfl⟩)
                  refine wp_region_anch y1 (by kernel_rfl) (by kernel_rfl) ?_
                  repeat (go_big_quiet_step (fail))
                  refine wpQuiet_nil ?_
                  rintro w' ⟨y2, rfl⟩
                  go_wp2_with fail
                  refine wp_region_anch y2 (by kernel_rfl) (by kernel_rfl) ?_
                  repeat (go_big_quiet_step (fail))
                  refine wpQuiet_nil ?_
                  rintro w' ⟨y3, rfl⟩
                  obtain ⟨vc3, vr3, ve3, vs3, h6⟩ := HR5.out.below y3.below
                  have a8 : y3.w.cell? ⟨o, 8, none⟩ = some (.int .i64 x2.i) := h6.cell 8
                  have h7 := h6.scalar 8 (.int .i64 ((x2.i : Int) + 1)) (goR (recR x2 f) (x2.i + 1)) ⟨rfl, rfl, rfl⟩ rfl
                  have b8 : (y3.w.setCell ⟨o, 8, none⟩ (.int .i64 ((x2.i : Int) + 1))).cell? ⟨o, 8, none⟩ = some (.int .i64 ((x2.i : Int) + 1)) := h7.cell 8
                  have H6 := Lib.hid h6
                  have B8 := Lib.hid b8
                  have HB6 := Lib.hid (HB5.out.trans (y3.below.mono (Nat.le_of_lt hlt5)))
                  clear h6 h7 b8
                  clear e1 e2 j0 j1 hrc2 hrs2 hr1 hr2 hi6 hi2 hs hlt hlt1
                  go_wp2_with fail
                  go_roundw
                  case rel => exact ⟨goR (recR x2 f) (x2.i + 1), 1, ⟨_, _, _, _, H6.out.scalar 8 _ _ ⟨rfl, rfl, rfl⟩ rfl⟩, HD.out, .inr rfl, Nat.le_succ_of_le HLE2.out, HB6.out.trans (below_set _ _ _ _)⟩
                  case measure => exact meas_lt B8.out Q8.out HLM.out HC.out
                · rw [hu] at k6
                  have k6' : W5.cell? ⟨o, 6, none⟩ = some (.int .i64 1) := k6
                  clear k6
                  by_cases c0 : 0 < x2.rs.length
                  · obtain ⟨g, B, cb, rfl, hg, hcg, hb1, hb2⟩ := H5.out.first c0
                    have hcg' : W5.cell? ⟨g, 0, none⟩ = some (.slice B (headN x2) cb) := hcg
                    have k0' : decide ((0 : Int) < (x2.rs.length : Int)) = true := decide_eq_true (by omega)
                    have i0' : (0 : Int) < (x2.rs.length : Int) := by omega
                    clear hcg
                    by_cases c1 : x2.rc.length + 1 = headN x2
                    · have f1 : decide ((x2.rc.length : Int) + 1 = (headN x2 : Int)) = true := decide_eq_true (by omega)
                      have f2 : ((x2.rc.length : Int) + 1 == (headN x2 : Int)) = true := by simp; omega
                      have hF : fldC l x2 = true := by unfold fldC; simp [hu, c0, c1]
                      have HD := Lib.hid (T2.out HNF.out hF)
                      have HWR := Lib.hid (fun W hW => wrong_any o p q n l s (recR x2 f) 10 x2.i W hW)
                      clear c1 hF hu
                      go_wp2_with (go_at_call 42; refine (call_later (HP.out ⟨W5, Below.refl _ _⟩)).mono ?_; rintro e w' ⟨rfl, y1, rfl⟩)
                      refine wp_region_anch y1 (by kernel_rfl) (by kernel_rfl) ?_
                      repeat (go_big_quiet_step (fail))
                      refine wpQuiet_nil ?_
                      rintro w' ⟨y2, rfl⟩
                      go_wp2_with fail
                      refine wp_region_anch y2 (by kernel_rfl) (by kernel_rfl) ?_
                      repeat (go_big_quiet_step (fail))
                      refine wpQuiet_nil ?_
                      rintro w' ⟨y3, rfl⟩
                      go_wp2_with (go_at_call 55; refine (HWR.out _ (HR5.out.below y3.below)).mono ?_; rintro e w3 ⟨rfl, hR3, hB3⟩; have H3 := Lib.hid hR3; have HB3 := Lib.hid ((HB5.out.trans (y3.below.mono (Nat.le_of_lt hlt5))).trans hB3); clear hR3 hB3)
                      go_ret
                      exact ⟨_, _, rfl, H3.out, HB3.out, .inr (.inl HD.out)⟩
                    · have f1 : decide ((x2.rc.length : Int) + 1 = (headN x2 : Int)) = false := decide_eq_false (by omega)
                      have f2 : ((x2.rc.length : Int) + 1 == (headN x2 : Int)) = false := by simp; omega
                      have hF : fldC l x2 = false := by unfold fldC; simp [c1]
                      have HD := Lib.hid (T3.out HNF.out hF)
                      have hw : wrap64 ((x2.i : Int) + 1) = x2.i + 1 := by unfold wrap64; omega
                      clear hF hu c1
                      go_wp2_with (go_at_call 42; refine (call_later (HP.out ⟨W5, Below.refl _ _⟩)).mono ?_; rintro e w' ⟨rfl, y1, rfl⟩)
                      refine wp_region_anch y1 (by kernel_rfl) (by kernel_rfl) ?_
                      repeat (go_big_quiet_step (fail))
                      refine wpQuiet_nil ?_
                      rintro w' ⟨y2, rfl⟩
                      go_wp2_with fail
                      refine wp_region_anch y2 (by kernel_rfl) (by kernel_rfl) ?_
                      repeat (go_big_quiet_step (fail))
                      refine wpQuiet_nil ?_
                      rintro w' ⟨y3, rfl⟩
                      obtain ⟨vc3, vr3, ve3, vs3, h6⟩ := HR5.out.below y3.below
                      have a8 : y3.w.cell? ⟨o, 8, none⟩ = some (.int .i64 x2.i) := h6.cell 8
                      have h7 := h6.scalar 8 (.int .i64 ((x2.i : Int) + 1)) (goR (recR x2 f) (x2.i + 1)) ⟨rfl, rfl, rfl⟩ rfl
                      have b8 : (y3.w.setCell ⟨o, 8, none⟩ (.int .i64 ((x2.i : Int) + 1))).cell? ⟨o, 8, none⟩ = some (.int .i64 ((x2.i : Int) + 1)) := h7.cell 8
                      have H6 := Lib.hid h6
                      have B8 := Lib.hid b8
                      have HB6 := Lib.hid (HB5.out.trans (y3.below.mono (Nat.le_of_lt hlt5)))
                      clear h6 h7 b8
                      clear e1 e2 j0 j1 hrc2 hrs2 hr1 hr2 hi6 hi2 hs hlt hlt1 f1 f2 k0' i0' hb1 hb2 c0 hg
                      go_wp2_with fail
                      go_roundw
                      case rel => exact ⟨goR (recR x2 f) (x2.i + 1), 1, ⟨_, _, _, _, H6.out.scalar 8 _ _ ⟨rfl, rfl, rfl⟩ rfl⟩, HD.out, .inr rfl, Nat.le_succ_of_le HLE2.out, HB6.out.trans (below_set _ _ _ _)⟩
                      case measure => exact meas_lt B8.out Q8.out HLM.out HC.out
                  · have k0' : decide ((0 : Int) < (x2.rs.length : Int)) = false := decide_eq_false (by omega)
                    have hF : fldC l x2 = false := by unfold fldC; simp [c0]
                    have HD := Lib.hid (T3.out HNF.out hF)
                    have hw : wrap64 ((x2.i : Int) + 1) = x2.i + 1 := by unfold wrap64; omega
                    clear hF hu
                    go_wp2_with (go_at_call 42; refine (call_later (HP.out ⟨W5, Below.refl _ _⟩)).mono ?_; rintro e w' ⟨rfl, y1, rfl⟩)
                    refine wp_region_anch y1 (by kernel_rfl) (by kernel_rfl) ?_
                    repeat (go_big_quiet_step (fail))
                    refine wpQuiet_nil ?_
                    rintro w' ⟨y2, rfl⟩
                    go_wp2_with fail
                    refine wp_region_anch y2 (by kernel_rfl) (by kernel_rfl) ?_
                    repeat (go_big_quiet_step (fail))
                    refine wpQuiet_nil ?_
                    rintro w' ⟨y3, rfl⟩
                    obtain ⟨vc3, vr3, ve3, vs3, h6⟩ := HR5.out.below y3.below
                    have a8 : y3.w.cell? ⟨o, 8, none⟩ = some (.int .i64 x2.i) := h6.cell 8
                    have h7 := h6.scalar 8 (.int .i64 ((x2.i : Int) + 1)) (goR (recR x2 f) (x2.i + 1)) ⟨rfl, rfl, rfl⟩ rfl
                    have b8 : (y3.w.setCell ⟨o, 8, none⟩ (.int .i64 ((x2.i : Int) + 1))).cell? ⟨o, 8, none⟩ = some (.int .i64 ((x2.i : Int) + 1)) := h7.cell 8
                    have H6 := Lib.hid h6
                    have B8 := Lib.hid b8
                    have HB6 := Lib.hid (HB5.out.trans (y3.below.mono (Nat.le_of_lt hlt5)))
                    clear h6 h7 b8
                    clear e1 e2 j0 j1 hrc2 hrs2 hr1 hr2 hi6 hi2 hs hlt hlt1 k0' c0
                    go_wp2_with fail
                    go_roundw
                    case rel => exact ⟨goR (recR x2 f) (x2.i + 1), 1, ⟨_, _, _, _, H6.out.scalar 8 _ _ ⟨rfl, rfl, rfl⟩ rfl⟩, HD.out, .inr rfl, Nat.le_succ_of_le HLE2.out, HB6.out.trans (below_set _ _ _ _)⟩
                    case measure => exact meas_lt B8.out Q8.out HLM.out HC.out
            · have hne : bytN s x2.i ≠ p := hp
              have hb2 : bytN s x2.i = 10 ∨ bytN s x2.i = 13 := hbyte.elim (fun e => absurd e hp) id
              have hst : st = 1 ∨ st = 2 ∨ st = 4 := by
                rcases HST2.out with e | e | e | e
                · have := (HA2.out.z0 e).2.2.2.2.2; omega
                · exact .inl e
                · exact .inr (.inl e)
                · exact .inr (.inr e)
              have ip : isB s x2.i p = false := Bool.eq_false_iff.2 (fun hc => hp ((isB_is _ _ _).1 hc).2)
              have HP : Hid (∀ y : Later W5, Calls Tryd.prog 42 #[.pointer (some ⟨o, 0, none⟩), .int .i64 p] y.w (Gives (.bool false) y.w)) := Lib.hid (fun y => ip ▸ HI5.out p y)
              have HC := Lib.hid hc
              have HSS := Lib.hid hst
              have HBG := Lib.hid (show ((recR x2 f).bg : Int) ≤ l.rs from HA2.out.bg_le (by have := HIB.out.bg; omega) (by have := HSS.out; omega))
              clear ip hp hbyte hne hst k10 k6 k4 hc
              rcases hb2 with hb | hb
              · have HI10 := Lib.hid ((isB_is s x2.i 10).2 ⟨HC.out, hb⟩)
                obtain ⟨t1, t2, t3⟩ := HA2.out.lf HK.out HSS.out HC.out hb HBG.out
                have T1 := Lib.hid t1
                have T2 := Lib.hid t2
                have T3 := Lib.hid t3
                clear t1 t2 t3 hb
                by_cases hn : n = 2
                · have HD := Lib.hid (T1.out hn)
                  have HN := Lib.hid hn
                  clear hn
                  have HF : Hid (∀ W, RdIn W o p q n l s (recR x2 f) → Calls Tryd.prog 43 #[.pointer (some ⟨o, 0, none⟩)] W (fun e w' => e = .returned (.int .i64 0) ∧ RdIn w' o p q n l s (wrongV (recR x2 f) 6 x2.i) ∧ Below o W w')) := Lib.hid (fun W hW => by have h := feed_any o p q n l s (recR x2 f) W hW hs; unfold feedV at h; rw [show isB s (recR x2 f).i 10 = true from HI10.out] at h; rw [if_pos rfl, if_pos HN.out] at h; exact h)
                  go_wp2_with (go_at_call 42; refine (call_later (HP.out ⟨W5, Below.refl _ _⟩)).mono ?_; rintro e w' ⟨rfl, y1, rfl⟩)
                  refine wp_region_anch y1 (by kernel_rfl) (by kernel_rfl) ?_
                  repeat (go_big_quiet_step (fail))
                  refine wpQuiet_nil ?_
                  rintro w' ⟨y2, rfl⟩
                  clear j0 j1 hrc2 hrs2 hi6 hi2 hs hlt hlt1
                  go_wp2_with (first | (go_at_call 43; refine (HF.out _ (HR5.out.below y2.below)).mono ?_; rintro e w3 ⟨rfl, hR3, hB3⟩; have H3 := Lib.hid hR3; have HB3 := Lib.hid ((HB5.out.trans (y2.below.mono (Nat.le_of_lt hlt5))).trans hB3); clear hR3 hB3))
                  go_ret
                  exact ⟨_, _, rfl, H3.out, HB3.out, .inr (.inl HD.out)⟩
                · have HN := Lib.hid hn
                  clear hn
                  have HF : Hid (∀ W, RdIn W o p q n l s (recR x2 f) → Calls Tryd.prog 43 #[.pointer (some ⟨o, 0, none⟩)] W (fun e w' => e = .returned (.int .i64 1) ∧ RdIn w' o p q n l s (recR x2 f) ∧ Below o W w')) := Lib.hid (fun W hW => by have h := feed_any o p q n l s (recR x2 f) W hW hs; unfold feedV at h; rw [show isB s (recR x2 f).i 10 = true from HI10.out] at h; rw [if_pos rfl, if_neg HN.out] at h; exact h)
                  by_cases hw : widthB l (recR x2 f) = true
                  · have HWB := Lib.hid hw
                    have HD := Lib.hid (T2.out HN.out hw)
                    clear hw
                    have HW : Hid (∀ W, RdIn W o p q n l s (recR x2 f) → Calls Tryd.prog 58 #[.pointer (some ⟨o, 0, none⟩), .int .i64 x2.i] W (fun e w' => e = .returned (.bool false) ∧ RdIn w' o p q n l s (wrongV (recR x2 f) 10 x2.i) ∧ Below o W w')) := Lib.hid (fun W hW => by have h := width_any o p q n l s x2.i (recR x2 f) W hW; unfold widthV at h; rw [if_pos HWB.out] at h; exact h)
                    go_wp2_with (go_at_call 42; refine (call_later (HP.out ⟨W5, Below.refl _ _⟩)).mono ?_; rintro e w' ⟨rfl, y1, rfl⟩)
                    refine wp_region_anch y1 (by kernel_rfl) (by kernel_rfl) ?_
                    repeat (go_big_quiet_step (fail))
                    refine wpQuiet_nil ?_
                    rintro w' ⟨y2, rfl⟩
                    clear j0 j1 hrc2 hrs2 hi6 hi2 hs hlt hlt1
                    go_wp2_with (first | (go_at_call 43; refine (HF.out _ (HR5.out.below y2.below)).mono ?_; rintro e w3 ⟨rfl, hR3, hB3⟩; have a38 : w3.cell? ⟨o, 8, none⟩ = some (.int .i64 x2.i) := hR3.cell8C; have H3 := Lib.hid hR3; have HB3 := Lib.hid ((HB5.out.trans (y2.below.mono (Nat.le_of_lt hlt5))).trans hB3); clear hR3 hB3) | (go_at_call 58; refine (HW.out _ H3.out).mono ?_; rintro e w4 ⟨rfl, hR4, hB4⟩; have H4 := Lib.hid hR4; have HB4 := Lib.hid (HB3.out.trans hB4); clear hR4 hB4))
                    go_ret
                    exact ⟨_, _, rfl, H4.out, HB4.out, .inr (.inl HD.out)⟩
                  · have HWB := Lib.hid hw
                    have HD := Lib.hid (T3.out HN.out (by simpa using hw))
                    clear hw
                    have HW : Hid (∀ W, RdIn W o p q n l s (recR x2 f) → Calls Tryd.prog 58 #[.pointer (some ⟨o, 0, none⟩), .int .i64 x2.i] W (fun e w' => e = .returned (.bool true) ∧ RdIn w' o p q n l s (recR x2 f) ∧ Below o W w')) := Lib.hid (fun W hW => by have h := width_any o p q n l s x2.i (recR x2 f) W hW; unfold widthV at h; rw [if_neg HWB.out] at h; exact h)
                    have HWH := Lib.hid (fun W hW => whole_any o p q n l s x2.i (recR x2 f) W hW hrs2 (by have : x2.rs.length = x2.en.length := HA2.out.len; show x2.en.length ≤ 1000000; omega))
                    have WW := Lib.hid (wraps x2.i (by omega))
                    go_wp2_with (go_at_call 42; refine (call_later (HP.out ⟨W5, Below.refl _ _⟩)).mono ?_; rintro e w' ⟨rfl, y1, rfl⟩)
                    refine wp_region_anch y1 (by kernel_rfl) (by kernel_rfl) ?_
                    repeat (go_big_quiet_step (fail))
                    refine wpQuiet_nil ?_
                    rintro w' ⟨y2, rfl⟩
                    clear j0 j1 hrc2 hrs2 hi6 hi2 hs hlt hlt1
                    obtain ⟨w0, w1, w2, _, _⟩ := WW.out
                    go_wp2_with (first | (go_at_call 43; refine (HF.out _ (HR5.out.below y2.below)).mono ?_; rintro e w3 ⟨rfl, hR3, hB3⟩; have a38 : w3.cell? ⟨o, 8, none⟩ = some (.int .i64 x2.i) := hR3.cell8C; have H3 := Lib.hid hR3; have HB3 := Lib.hid ((HB5.out.trans (y2.below.mono (Nat.le_of_lt hlt5))).trans hB3); clear hR3 hB3) | (go_at_call 58; refine (HW.out _ H3.out).mono ?_; rintro e w4 ⟨rfl, hR4, hB4⟩; have a48 : w4.cell? ⟨o, 8, none⟩ = some (.int .i64 x2.i) := hR4.cell8C; have H4 := Lib.hid hR4; have HB4 := Lib.hid (HB3.out.trans hB4); clear hR4 hB4) | (go_at_call 59; refine (HWH.out _ H4.out).mono ?_; rintro e w5 ⟨rfl, ⟨vc5, vr5, ve5, vs5, hR5⟩, hB5⟩; have a58 : w5.cell? ⟨o, 8, none⟩ = some (.int .i64 x2.i) := hR5.cell 8; have af5 := hR5.1.frozen 8; have H6 := Lib.hid hR5; have HB6 := Lib.hid (HB4.out.trans hB5); clear hR5 hB5))
                    go_ret
                    exact ⟨goR (wholeV x2.i (recR x2 f)) (x2.i + 1), _, rfl, ⟨_, _, _, _, H6.out.scalar 8 _ _ ⟨rfl, rfl, rfl⟩ rfl⟩, HB6.out.trans (below_set _ _ _ _), .inl ⟨HD.out, Nat.lt_succ_of_le HLE2.out⟩⟩
              · have HI10 : Hid (isB s x2.i 10 = false) := Lib.hid (Bool.eq_false_iff.2 (fun hc => by have := ((isB_is _ _ _).1 hc).2; omega))
                obtain ⟨t1, t2, t3⟩ := HA2.out.cr HK.out HSS.out HC.out hb HBG.out
                have T1 := Lib.hid t1
                have T2 := Lib.hid t2
                have T3 := Lib.hid t3
                clear t1 t2 t3 hb
                by_cases hn : n = 1
                · have HN := Lib.hid hn
                  have HD := Lib.hid (T1.out hn)
                  clear hn
                  have HF : Hid (∀ W, RdIn W o p q n l s (recR x2 f) → Calls Tryd.prog 43 #[.pointer (some ⟨o, 0, none⟩)] W (fun e w' => e = .returned (.int .i64 0) ∧ RdIn w' o p q n l s (wrongV (recR x2 f) 6 x2.i) ∧ Below o W w')) := Lib.hid (fun W hW => by have h := feed_any o p q n l s (recR x2 f) W hW hs; unfold feedV at h; rw [show isB s (recR x2 f).i 10 = false from HI10.out] at h; rw [if_neg (by simp), if_pos HN.out] at h; exact h)
                  go_wp2_with (go_at_call 42; refine (call_later (HP.out ⟨W5, Below.refl _ _⟩)).mono ?_; rintro e w' ⟨rfl, y1, rfl⟩)
                  refine wp_region_anch y1 (by kernel_rfl) (by kernel_rfl) ?_
                  repeat (go_big_quiet_step (fail))
                  refine wpQuiet_nil ?_
                  rintro w' ⟨y2, rfl⟩
                  clear j0 j1 hrc2 hrs2 hi6 hi2 hs hlt hlt1
                  go_wp2_with (first | (go_at_call 43; refine (HF.out _ (HR5.out.below y2.below)).mono ?_; rintro e w3 ⟨rfl, hR3, hB3⟩; have H3 := Lib.hid hR3; have HB3 := Lib.hid ((HB5.out.trans (y2.below.mono (Nat.le_of_lt hlt5))).trans hB3); clear hR3 hB3))
                  go_ret
                  exact ⟨_, _, rfl, H3.out, HB3.out, .inr (.inl HD.out)⟩
                · have HN := Lib.hid hn
                  clear hn
                  have HF : Hid (∀ W, RdIn W o p q n l s (recR x2 f) → Calls Tryd.prog 43 #[.pointer (some ⟨o, 0, none⟩)] W (fun e w' => e = .returned (.int .i64 2) ∧ RdIn w' o p q n l s (recR x2 f) ∧ Below o W w')) := Lib.hid (fun W hW => by have h := feed_any o p q n l s (recR x2 f) W hW hs; unfold feedV at h; rw [show isB s (recR x2 f).i 10 = false from HI10.out] at h; rw [if_neg (by simp), if_neg HN.out] at h; exact h)
                  by_cases hw : widthB l (recR x2 f) = true
                  · have HWB := Lib.hid hw
                    have HD := Lib.hid (T2.out HN.out hw)
                    clear hw
                    have HW : Hid (∀ W, RdIn W o p q n l s (recR x2 f) → Calls Tryd.prog 58 #[.pointer (some ⟨o, 0, none⟩), .int .i64 x2.i] W (fun e w' => e = .returned (.bool false) ∧ RdIn w' o p q n l s (wrongV (recR x2 f) 10 x2.i) ∧ Below o W w')) := Lib.hid (fun W hW => by have h := width_any o p q n l s x2.i (recR x2 f) W hW; unfold widthV at h; rw [if_pos HWB.out] at h; exact h)
                    go_wp2_with (go_at_call 42; refine (call_later (HP.out ⟨W5, Below.refl _ _⟩)).mono ?_; rintro e w' ⟨rfl, y1, rfl⟩)
                    refine wp_region_anch y1 (by kernel_rfl) (by kernel_rfl) ?_
                    repeat (go_big_quiet_step (fail))
                    refine wpQuiet_nil ?_
                    rintro w' ⟨y2, rfl⟩
                    clear j0 j1 hrc2 hrs2 hi6 hi2 hs hlt hlt1
                    go_wp2_with (first | (go_at_call 43; refine (HF.out _ (HR5.out.below y2.below)).mono ?_; rintro e w3 ⟨rfl, hR3, hB3⟩; have a38 : w3.cell? ⟨o, 8, none⟩ = some (.int .i64 x2.i) := hR3.cell8C; have H3 := Lib.hid hR3; have HB3 := Lib.hid ((HB5.out.trans (y2.below.mono (Nat.le_of_lt hlt5))).trans hB3); clear hR3 hB3) | (go_at_call 58; refine (HW.out _ H3.out).mono ?_; rintro e w4 ⟨rfl, hR4, hB4⟩; have H4 := Lib.hid hR4; have HB4 := Lib.hid (HB3.out.trans hB4); clear hR4 hB4))
                    go_ret
                    exact ⟨_, _, rfl, H4.out, HB4.out, .inr (.inl HD.out)⟩
                  · have HWB := Lib.hid hw
                    obtain ⟨u1, u2⟩ := T3.out HN.out (by simpa using hw)
                    clear hw
                    have HW : Hid (∀ W, RdIn W o p q n l s (recR x2 f) → Calls Tryd.prog 58 #[.pointer (some ⟨o, 0, none⟩), .int .i64 x2.i] W (fun e w' => e = .returned (.bool true) ∧ RdIn w' o p q n l s (recR x2 f) ∧ Below o W w')) := Lib.hid (fun W hW => by have h := width_any o p q n l s x2.i (recR x2 f) W hW; unfold widthV at h; rw [if_neg HWB.out] at h; exact h)
                    obtain ⟨b2, hb2⟩ : ∃ b, isB s (x2.i + 1) 10 = b := ⟨_, rfl⟩
                    have HB2T := Lib.hid hb2
                    cases b2
                    · have HD := Lib.hid (u2 hb2)
                      clear u1 u2 hb2
                      have HS : Hid (∀ W, RdIn W o p q n l s (recR x2 f) → Calls Tryd.prog 44 #[.pointer (some ⟨o, 0, none⟩)] W (fun e w' => e = .returned (.bool false) ∧ RdIn w' o p q n l s (wrongV (recR x2 f) 6 (x2.i + 1)) ∧ Below o W w')) := Lib.hid (fun W hW => by have h := second_any o p q n l s (recR x2 f) W hW hs hi2; unfold secondV at h; rw [show isB s ((recR x2 f).i + 1) 10 = false from HB2T.out] at h; exact h)
                      go_wp2_with (go_at_call 42; refine (call_later (HP.out ⟨W5, Below.refl _ _⟩)).mono ?_; rintro e w' ⟨rfl, y1, rfl⟩)
                      refine wp_region_anch y1 (by kernel_rfl) (by kernel_rfl) ?_
                      repeat (go_big_quiet_step (fail))
                      refine wpQuiet_nil ?_
                      rintro w' ⟨y2, rfl⟩
                      clear j0 j1 hrc2 hrs2 hi6 hi2 hs hlt hlt1
                      go_wp2_with (first | (go_at_call 43; refine (HF.out _ (HR5.out.below y2.below)).mono ?_; rintro e w3 ⟨rfl, hR3, hB3⟩; have a38 : w3.cell? ⟨o, 8, none⟩ = some (.int .i64 x2.i) := hR3.cell8C; have H3 := Lib.hid hR3; have HB3 := Lib.hid ((HB5.out.trans (y2.below.mono (Nat.le_of_lt hlt5))).trans hB3); clear hR3 hB3) | (go_at_call 58; refine (HW.out _ H3.out).mono ?_; rintro e w4 ⟨rfl, hR4, hB4⟩; have a48 : w4.cell? ⟨o, 8, none⟩ = some (.int .i64 x2.i) := hR4.cell8C; have H4 := Lib.hid hR4; have HB4 := Lib.hid (HB3.out.trans hB4); clear hR4 hB4) | (go_at_call 44; refine (HS.out _ H4.out).mono ?_; rintro e w5 ⟨rfl, hR5, hB5⟩; have H5 := Lib.hid hR5; have HB5 := Lib.hid (HB4.out.trans hB5); clear hR5 hB5))
                      go_ret
                      exact ⟨_, _, rfl, H5.out, HB5.out, .inr (.inl HD.out)⟩
                    · have HD := Lib.hid (u1 hb2)
                      clear u1 u2 hb2
                      have HS : Hid (∀ W, RdIn W o p q n l s (recR x2 f) → Calls Tryd.prog 44 #[.pointer (some ⟨o, 0, none⟩)] W (fun e w' => e = .returned (.bool true) ∧ RdIn w' o p q n l s (recR x2 f) ∧ Below o W w')) := Lib.hid (fun W hW => by have h := second_any o p q n l s (recR x2 f) W hW hs hi2; unfold secondV at h; rw [show isB s ((recR x2 f).i + 1) 10 = true from HB2T.out] at h; exact h)
                      have HWH := Lib.hid (fun W hW => whole_any o p q n l s (x2.i + 1) (recR x2 f) W hW hrs2 (by have : x2.rs.length = x2.en.length := HA2.out.len; show x2.en.length ≤ 1000000; omega))
                      have WW := Lib.hid (wraps x2.i (by omega))
                      go_wp2_with (go_at_call 42; refine (call_later (HP.out ⟨W5, Below.refl _ _⟩)).mono ?_; rintro e w' ⟨rfl, y1, rfl⟩)
                      refine wp_region_anch y1 (by kernel_rfl) (by kernel_rfl) ?_
                      repeat (go_big_quiet_step (fail))
                      refine wpQuiet_nil ?_
                      rintro w' ⟨y2, rfl⟩
                      clear j0 j1 hrc2 hrs2 hi6 hi2 hs hlt hlt1
                      obtain ⟨_, w1, _, w3, w4⟩ := WW.out
                      go_wp2_with (first | (go_at_call 43; refine (HF.out _ (HR5.out.below y2.below)).mono ?_; rintro e w3 ⟨rfl, hR3, hB3⟩; have a38 : w3.cell? ⟨o, 8, none⟩ = some (.int .i64 x2.i) := hR3.cell8C; have H3 := Lib.hid hR3; have HB3 := Lib.hid ((HB5.out.trans (y2.below.mono (Nat.le_of_lt hlt5))).trans hB3); clear hR3 hB3) | (go_at_call 58; refine (HW.out _ H3.out).mono ?_; rintro e w4 ⟨rfl, hR4, hB4⟩; have a48 : w4.cell? ⟨o, 8, none⟩ = some (.int .i64 x2.i) := hR4.cell8C; have H4 := Lib.hid hR4; have HB4 := Lib.hid (HB3.out.trans hB4); clear hR4 hB4) | (go_at_call 44; refine (HS.out _ H4.out).mono ?_; rintro e w5 ⟨rfl, hR5, hB5⟩; have a58 : w5.cell? ⟨o, 8, none⟩ = some (.int .i64 x2.i) := hR5.cell8C; have H5 := Lib.hid hR5; have HB5 := Lib.hid (HB4.out.trans hB5); clear hR5 hB5) | (go_at_call 59; refine (HWH.out _ H5.out).mono ?_; rintro e w6 ⟨rfl, ⟨vc5, vr5, ve5, vs5, hR5⟩, hB5⟩; have a58 : w6.cell? ⟨o, 8, none⟩ = some (.int .i64 x2.i) := hR5.cell 8; have af5 := hR5.1.frozen 8; have H6 := Lib.hid hR5; have HB6 := Lib.hid (HB5.out.trans hB5); clear hR5 hB5))
                      go_ret
                      exact ⟨goR (wholeV (x2.i + 1) (recR x2 f)) (x2.i + 2), _, rfl, ⟨_, _, _, _, H6.out.scalar 8 _ _ ⟨rfl, rfl, rfl⟩ rfl⟩, HB6.out.trans (below_set _ _ _ _), .inl ⟨HD.out, Nat.lt_succ_of_le (Nat.le_succ_of_le HLE2.out)⟩⟩

end Go.Proofs.YtajedohgcepkiaaDoor
