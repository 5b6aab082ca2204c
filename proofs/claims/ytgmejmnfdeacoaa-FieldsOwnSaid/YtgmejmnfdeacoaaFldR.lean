/-
  Walks: the document's maker, where nothing is an error.
-/
import Derived.Test.YtgmejmnfdeacoaaRows
import Derived.Test.YtgmejmnfdeacoaaFldG
namespace Go.Proofs.Ytgmejmnfdeacoaa
open Go.RowKit

def rcells (m : Mkr) (v : Value) : Array Value := #[.int .i64 1000, .int .i64 1000, .int .i64 1000, .int .i64 0, .string m.fd, v, .int .i64 m.bg, .int .i64 m.ct, .int .i64 m.wd, .int .i64 m.st]
/-- The document's maker at block p; v: its record. -/
def RBox (w : World) (p : Nat) (v : Value) (m : Mkr) : Prop := Box w p 47 (rcells m v) ∧ OwnS w (p + 1) v m.rc

section
variable {w w' : World} {p : Nat} {v : Value} {m : Mkr}
theorem RBox.lt (h : RBox w p v m) : p < w.heap.size := h.1.lt
theorem RBox.cell (h : RBox w p v m) (i : Nat) : w.cell? ⟨p, i, none⟩ = (rcells m v)[i]? := h.1.cell i
theorem RBox.feet_lt (h : RBox w p v m) (k : Nat) (hk : feet p none v k) : p ≤ k ∧ k < w.heap.size := by
  rcases hk with rfl | ⟨a, ha, rfl⟩ | hv
  · exact ⟨Nat.le_refl _, h.1.lt⟩
  · cases ha
  · have := h.2.lt k hv; omega
theorem RBox.keeps {S : Nat → Prop} (h : RBox w p v m) (k : Keeps w w' S) (hS : ∀ i, feet p none v i → ¬ S i) : RBox w' p v m :=
  ⟨h.1.keeps k (hS p (.inl rfl)), owns_keeps h.2 k (fun g hg => hS g (.inr (.inr hg)))⟩
theorem RBox.below (h : RBox w p v m) (hb : Below w.heap.size w w') : RBox w' p v m := h.keeps (keeps_below hb (fun _ => False)) (fun _ _ => id)
theorem RBox.ne_rec (h : RBox w p v m) : some p ≠ v.ownBlock := fun hc => by have := h.2.lt p hc.symm; omega
theorem RBox.rec_len (h : RBox w p v m) : ∃ A' cap, v = .slice A' m.rc.length cap ∧ m.rc.length ≤ cap ∧ cap ≤ 9223372036854775807 := owns_len h.2
theorem RBox.scalar (h : RBox w p v m) (i : Nat) (u : Value) (m' : Mkr) (hr : m'.rc = m.rc) (hc : (rcells m v).setIfInBounds i u = rcells m' v) : RBox (w.setCell ⟨p, i, none⟩ u) p v m' := by
  obtain ⟨h1, h3⟩ := h
  refine ⟨?_, ?_⟩
  · have := h1.set i u
    rw [hc] at this
    exact this
  · rw [hr]; exact h3.kept (grown_set _ _ _ _) (by cases e : v.ownBlock with | none => exact .inl rfl | some g => exact .inr (fun hc => by injection hc with hc; have := h3.lt g e; omega))
theorem RBox.goes_set (_h : RBox w p v m) (i : Nat) (u : Value) : Goes w (w.setCell ⟨p, i, none⟩ u) p none v none v := ⟨(Keeps.refl _ _).set p i u (.inl (.inl rfl)), fun _ h => .inl h⟩
theorem RBox.cleared (h : RBox w p v m) : RBox (w.setCell ⟨p, 5, none⟩ (.slice none 0 0)) p (.slice none 0 0) ⟨m.fd, [], m.bg, m.ct, m.wd, m.st⟩ := ⟨h.1.set 5 _, World.ownsRow_nil _ _ _ _⟩
end
theorem RBox.onRec {w1 w2 : World} {p : Nat} {v v2 : Value} {m : Mkr} {s : ByteArray} (H : RBox w1 p v m) (ho : w2.ownsRow (p + 1) 9 1 v2 (m.rc.length + 1) (strC m.rc ++ [.string s])) (hg : w1.grownBy w2 v.ownBlock) (hat : v2.ownBlock = v.ownBlock ∨ v2.ownBlock = some w1.heap.size) :
    RBox (w2.setCell ⟨p, 5, none⟩ v2) p v2 ⟨m.fd, m.rc ++ [s], m.bg, m.ct, m.wd, m.st⟩ ∧ Goes w1 (w2.setCell ⟨p, 5, none⟩ v2) p none v none v2 := by
  have hq := H.ne_rec
  obtain ⟨h1, h4⟩ := H
  have ho' : OwnS w2 (p + 1) v2 (m.rc ++ [s]) := by
    show w2.ownsRow (p + 1) 9 1 v2 (m.rc ++ [s]).length (strC (m.rc ++ [s]))
    rw [List.length_append, strC_snoc]
    exact ho
  refine ⟨⟨(h1.grown hg hq).set 5 _, ?_⟩, ?_, ?_⟩
  · exact ho'.kept (grown_set _ _ _ _) (by cases e : v2.ownBlock with | none => exact .inl rfl | some g => exact .inr (fun hc => by injection hc with hc; have := ho'.lt g e; omega))
  · exact ((Keeps.refl _ _).grown hg (fun g hg' => .inl (.inr (.inr hg')))).set p 5 _ (.inl (.inl rfl))
  · intro k hk
    rcases hk with hk | ⟨a, ha, hk⟩ | hk
    · exact .inl (.inl hk)
    · cases ha
    · rcases hat with e | e
      · exact .inl (.inr (.inr (e ▸ hk)))
      · rw [e] at hk; injection hk with hk; exact .inr (by omega)

def RPost (w : World) (p : Nat) (v : Value) (m' : Mkr) (w' : World) : Prop := ∃ v', RBox w' p v' m' ∧ Goes w w' p none v none v'
theorem RPost.after {w1 wx w2 : World} {p : Nat} {v v1 : Value} {m2 : Mkr} (hG : Goes w1 wx p none v none v1) (h : RPost wx p v1 m2 w2) : RPost w1 p v m2 w2 := by
  obtain ⟨v2, hM, hG2⟩ := h
  exact ⟨v2, hM, hG.trans hG2⟩
theorem rbox_goes {w wx : World} {p : Nat} {v v1 : Value} {m : Mkr} {t : TypeId} {cs : Array Value} (h : RBox w p v m) (hG : Goes (w.alloc (.cells cs t)) wx p none v none v1) : Box wx w.heap.size t cs :=
  (Box.new w t cs).keeps hG.1 (fun hf => by have := (h.feet_lt _ hf).2; omega)

set_option maxHeartbeats 1000000 in
theorem rput_any (p : Nat) (v : Value) (m : Mkr) (w : World) (h : RBox w p v m) (hs : m.rc.length ≤ 2000000) :
    Calls Try.prog 21 #[.pointer (some ⟨p, 0, none⟩)] w (fun e w' => e = .returned (.tuple #[]) ∧ RPost w p v (putV m) w') := by
  have hlt := h.lt
  obtain ⟨i0, hi, hz0, hz1, hz2⟩ := info_parts str_info
  have q4 : w.cell? ⟨p, 4, none⟩ = some (.string m.fd) := h.cell 4
  have q5 : w.cell? ⟨p, 5, none⟩ = some v := h.cell 5
  have H := Lib.hid h
  have HA := Lib.hid (h.below ((Below.refl _ _).drew.alloc (by simp) (.cells #[.string m.fd] 9)))
  clear h
  go_enter Try.func21, Try.ntmps21
  go_wp2_with fail
  go_region_law (refine step_append_lies _ rfl (.tmp 6) (.tmp 11) 32 rfl (p + 1) 9 i0 _ 1 _ Try.underlying32 hi hz0 hz1 hz2 rfl (by omega) v m.rc.length _ rfl HA.out.2 ⟨w.heap.size, 0, none⟩ 1 1 [.string m.fd] rfl rfl (cell_one_new w.drew _ _) (by intro u hu; simp at hu; subst hu; rfl) (by omega) (by unfold maxLen; omega) (by omega) (by simp; omega) _ rfl ?_; intro g2 p2 w2 ho2 hg2 hat _hlt2; have H3 := Lib.hid (HA.out.onRec ho2 hg2 (hat.elim (fun h => .inl h.symm) (fun h => .inr (by rw [h]; rfl)))); have KB := HA.out.1.grown hg2 HA.out.ne_rec; have k5 : w2.cell? ⟨p, 5, none⟩ = some v := KB.cell 5; have kf := KB.frozen 5; clear ho2 hat)
  all_goals
    obtain ⟨h3, h4⟩ := H3.out
    clear H3
    generalize w2.setCell ⟨p, 5, none⟩ (.slice (some ⟨g2, 0, none⟩) (m.rc.length + 1) p2) = w3 at h3 h4 ⊢
    have H3 := Lib.hid h3
    have H4 := Lib.hid h4
    have k4 : w3.cell? ⟨p, 4, none⟩ = some (.string m.fd) := h3.cell 4
    have kf4 : w3.frozen? ⟨p, 4, none⟩ = false := h3.1.frozen 4
    clear h3 h4 KB k5 kf hg2
    go_wp2_with fail
    refine bodyPost_end (v := .tuple #[]) (by simp [results, Try.results21]) rfl ?_
    exact ⟨rfl, _, H3.out.scalar 4 (.string ⟨#[]⟩) (putV m) rfl rfl, (((Goes.refl _ _ _ _).below ((Below.refl _ _).drew.alloc (by simp) (.cells #[.string m.fd] 9))).trans H4.out).trans (H3.out.goes_set 4 _)⟩

def mB (m : Mkr) (c : Bool) : Mkr := (onV c m (beginV wideL m)).1
def mA (m : Mkr) (c : Bool) (b : Nat) : Mkr := (onV c m (addV wideL m b)).1
def mP (m : Mkr) (c : Bool) : Mkr := if c then putV m else m

theorem gather_wide1 {m : Mkr} {e : Ev} (h : Sz m 900) : (gatherV wideL m e).1 = mP (mP (mA (mB m e.be) e.ad e.by_) e.fi) e.li := by
  have hz : ∀ {c : Bool} {m : Mkr} {o : Mkr × Nat}, o.2 = 0 → (onV c m o).2 = 0 := by intro c m o ho; unfold onV; split <;> simp [ho]
  have h1 := on_sz (c := e.be) h (begin_sz (l := wideL) h)
  have e1 : (onV e.be m (beginV wideL m)).2 = 0 := hz (by unfold beginV wideL; rw [if_neg]; have := h.2.2.1; simp only []; omega)
  have m1 : (onV e.be m (beginV wideL m)).1 = mB m e.be := rfl
  unfold gatherV
  rw [then_ok e1]
  rw [m1] at h1 ⊢
  have h2 := on_sz (c := e.ad) h1 (add_sz (l := wideL) (b := e.by_) h1)
  have e2 : (onV e.ad (mB m e.be) (addV wideL (mB m e.be) e.by_)).2 = 0 := hz (by unfold addV wideL; rw [if_neg]; have := h1.1; simp only []; omega)
  have m2 : (onV e.ad (mB m e.be) (addV wideL (mB m e.be) e.by_)).1 = mA (mB m e.be) e.ad e.by_ := rfl
  rw [then_ok e2]
  rw [m2] at h2 ⊢
  have e3 : (onV e.fi (mA (mB m e.be) e.ad e.by_) (fieldV wideL (mA (mB m e.be) e.ad e.by_))).2 = 0 := hz (by unfold fieldV wideL; simp only []; rw [if_neg (by have := h2.2.1; omega), if_neg (by simp [must])])
  have m3 : (onV e.fi (mA (mB m e.be) e.ad e.by_) (fieldV wideL (mA (mB m e.be) e.ad e.by_))).1 = mP (mA (mB m e.be) e.ad e.by_) e.fi := by unfold onV mP; split <;> rfl
  rw [then_ok e3, m3]
  unfold onV mP
  split <;> rfl

theorem mp_sz {m : Mkr} {c : Bool} {n : Nat} (h : Sz m n) : Sz (mP m c) (n + 1) := by
  unfold mP
  split
  · exact put_sz h
  · exact h.mono (by omega)

theorem mB_st (m : Mkr) (c : Bool) : (mB m c).st = m.st := by unfold mB onV beginV; split <;> (try split) <;> rfl
theorem mA_st (m : Mkr) (c : Bool) (b : Nat) : (mA m c b).st = m.st := by unfold mA onV addV; split <;> (try split) <;> rfl
theorem mP_st (m : Mkr) (c : Bool) : (mP m c).st = m.st := by unfold mP; split <;> rfl
theorem stop_same {m : Mkr} (h : m.st = 0) : stopV m 0 = m := by unfold stopV; rw [← h]

def RTakePost (w : World) (p : Nat) (v : Value) (m : Mkr) (e : Ev) (en : Ending) (w' : World) : Prop :=
  ∃ v' r, RBox w' p v' (takeV wideL m e).1 ∧ Goes w w' p none v none v' ∧ en = .returned (.tuple #[r, .int .i64 (n01 (takeV wideL m e).2.isSome)]) ∧
    OwnS w' (p + 1) r ((takeV wideL m e).2.getD []) ∧ (∀ g, r.ownBlock = some g → (feet p none v g ∨ w.heap.size ≤ g) ∧ ¬ feet p none v' g)

set_option maxRecDepth 100000 in
set_option maxHeartbeats 4000000 in
theorem rtake_any (p : Nat) (v : Value) (m : Mkr) (be ad fi li re : Bool) (b : Nat) (w : World) (h : RBox w p v m) (hb : b < 256) (hs : Sz m 900) (h0 : m.st = 0) :
    Calls Try.prog 15 #[.pointer (some ⟨p, 0, none⟩), .agg #[.int .i64 (n01 be), .int .i64 (n01 ad), .int .i64 (n01 fi), .int .i64 (n01 li), .int .i64 (n01 re), .int .i64 b]] w (RTakePost w p v m ⟨be, ad, fi, li, re, b⟩) := by
  obtain ⟨m1, hm1⟩ : ∃ o, mB m be = o := ⟨_, rfl⟩
  obtain ⟨m2, hm2⟩ : ∃ o, mA m1 ad b = o := ⟨_, rfl⟩
  obtain ⟨m3, hm3⟩ : ∃ o, mP m2 fi = o := ⟨_, rfl⟩
  obtain ⟨m4, hm4⟩ : ∃ o, mP m3 li = o := ⟨_, rfl⟩
  have s1 : Sz m1 901 := hm1 ▸ on_sz hs (begin_sz hs)
  have s2 : Sz m2 902 := hm2 ▸ on_sz s1 (add_sz s1)
  have s3 : Sz m3 903 := hm3 ▸ mp_sz s2
  have s4 : Sz m4 904 := hm4 ▸ mp_sz s3
  have hmid : midV wideL m ⟨be, ad, fi, li, re, b⟩ = stopV m4 0 := by
    rw [mid_wide h0 hs (Nat.le_refl _), gather_wide1 hs, ← hm4, ← hm3, ← hm2, ← hm1]
  have h40 : m4.st = 0 := by rw [← hm4, mP_st, ← hm3, mP_st, ← hm2, mA_st, ← hm1, mB_st, h0]
  rw [stop_same h40] at hmid
  have H40 := Lib.hid h40
  have HMID := Lib.hid hmid
  have H1 := Lib.hid hm1
  have H2 := Lib.hid hm2
  have H3 := Lib.hid hm3
  have H4 := Lib.hid hm4
  have HM := Lib.hid h
  have HS := Lib.hid (And.intro hs (And.intro s1 (And.intro s2 (And.intro s3 s4))))
  have HA := Lib.hid (h.below ((Below.refl _ _).alloc (Nat.le_refl _) (.cells #[.int .i64 (n01 be), .int .i64 (n01 ad), .int .i64 (n01 fi), .int .i64 (n01 li), .int .i64 (n01 re), .int .i64 b] 51)))
  have hlt := h.lt
  have q9 : w.cell? ⟨p, 9, none⟩ = some (.int .i64 0) := by rw [h.cell 9]; show some (Value.int .i64 m.st) = _; rw [h0]; rfl
  have n1 : n01 true = 1 := rfl
  have n0 : n01 false = 0 := rfl
  clear h hs s1 s2 s3 s4 hm1 hm2 hm3 hm4 hmid h40
  go_enter Try.func15, Try.ntmps15
  go_upto_if 15 with (fail)
  go_cut [] (fun wx => RPost (w.alloc (.cells #[.int .i64 (n01 be), .int .i64 (n01 ad), .int .i64 (n01 fi), .int .i64 (n01 li), .int .i64 (n01 re), .int .i64 b] 51)) p v m1 wx)
  case first =>
    cases be
    · go_wp2_with fail
      go_meet
      have e := H1.out
      unfold mB onV at e
      simp at e
      subst e
      exact ⟨v, HA.out, Goes.refl _ _ _ _⟩
    · have hw : wrap64 ((m.bg : Int) + 1) = m.bg + 1 := by have := HS.out.1.2.2.1; unfold wrap64; omega
      have hbg := HS.out.1.2.2.1
      have z1 : ((m.bg : Int) == 1000) = false := beq_eq_false_iff_ne.2 (by omega)
      have z2 : decide ((m.bg : Int) = 1000) = false := decide_eq_false (by omega)
      have e : m1 = ⟨m.fd, m.rc, m.bg + 1, m.ct, m.wd, m.st⟩ := by rw [← H1.out]; show (beginV wideL m).1 = _; unfold beginV; rw [if_neg (by simp only [wideL]; omega)]
      subst e
      generalize hw1 : w.alloc (.cells #[.int .i64 (n01 true), .int .i64 (n01 ad), .int .i64 (n01 fi), .int .i64 (n01 li), .int .i64 (n01 re), .int .i64 b] 51) = w1 at HA ⊢
      have hcell := fun (W : World) (x : Later W) => x.cell
      have hlt1 := HA.out.lt
      have k2 : w1.cell? ⟨p, 2, none⟩ = some (.int .i64 1000) := HA.out.cell 2
      have k6 : w1.cell? ⟨p, 6, none⟩ = some (.int .i64 m.bg) := HA.out.cell 6
      go_wp2_with fail
      refine wp_region_later_lit (by kernel_rfl) (by kernel_rfl) ?_
      repeat (go_big_quiet_step (fail))
      refine wpQuiet_nil ?_
      rintro w' ⟨y, rfl⟩
      have HY := Lib.hid (HA.out.below y.below)
      have y6 : y.w.cell? ⟨p, 6, none⟩ = some (.int .i64 m.bg) := HY.out.cell 6
      have yf := HY.out.1.frozen 6
      go_wp2_with fail
      go_meet
      rw [hw1]
      exact ⟨v, HY.out.scalar 6 _ _ rfl rfl, ((Goes.refl _ _ _ _).below y.below).trans (HY.out.goes_set 6 _)⟩
  case rest =>
    obtain ⟨v1, hM1, hG1⟩ := hcut
    have hE := rbox_goes HM.out hG1
    have hlt1 := hE.lt
    have e1 : wc.cell? ⟨w.heap.size, 1, none⟩ = some (.int .i64 (n01 ad)) := hE.cell 1
    have e5 : wc.cell? ⟨w.heap.size, 5, none⟩ = some (.int .i64 b) := hE.cell 5
    have HM1 := Lib.hid hM1
    have HG1 := Lib.hid hG1
    clear hE hM1 hG1 q9 HA
    go_upto_if 38 with (fail)
    go_cut [] (fun wx => RPost (w.alloc (.cells #[.int .i64 (n01 be), .int .i64 (n01 ad), .int .i64 (n01 fi), .int .i64 (n01 li), .int .i64 (n01 re), .int .i64 b] 51)) p v m2 wx)
    case first =>
      cases ad
      · go_wp2_with fail
        go_meet
        have e := H2.out
        unfold mA onV at e
        simp at e
        subst e
        exact ⟨v1, HM1.out, HG1.out⟩
      · have e : m2 = ⟨m1.fd ++ ⟨#[UInt8.ofNat b]⟩, m1.rc, m1.bg, m1.ct, m1.wd, m1.st⟩ := by rw [← H2.out]; show (addV wideL m1 b).1 = _; unfold addV; rw [if_neg (by have := HS.out.2.1.1; simp only [wideL]; omega)]
        subst e
        have hsz := HS.out.2.1.1
        have z1 : ((m1.fd.size : Int) == 1000) = false := beq_eq_false_iff_ne.2 (by omega)
        have z2 : decide ((m1.fd.size : Int) = 1000) = false := decide_eq_false (by omega)
        have hcell := fun (W : World) (x : Later W) => x.cell
        have hltp := HM1.out.lt
        have k0 : wc.cell? ⟨p, 0, none⟩ = some (.int .i64 1000) := HM1.out.cell 0
        have k4 : wc.cell? ⟨p, 4, none⟩ = some (.string m1.fd) := HM1.out.cell 4
        go_wp2_with fail
        refine wp_region_later_lit (by kernel_rfl) (by kernel_rfl) ?_
        repeat (go_big_quiet_step (fail))
        refine wpQuiet_nil ?_
        rintro w' ⟨y, rfl⟩
        have hb0 := y.below
        generalize y.w = W0 at hb0 ⊢
        have HY := Lib.hid (HM1.out.below hb0)
        have y4 : W0.cell? ⟨p, 4, none⟩ = some (.string m1.fd) := HY.out.cell 4
        have y5 : W0.cell? ⟨w.heap.size, 5, none⟩ = some (.int .i64 b) := (hb0.cell (p := ⟨w.heap.size, 5, none⟩) hlt1).trans e5
        have yf := HY.out.1.frozen 4
        have hltW := HY.out.lt
        have hlt2 : w.heap.size < W0.heap.size := Nat.lt_of_lt_of_le hlt1 hb0.size
        have hwr : IntKind.u8.wrap (b : Int) = b := by unfold IntKind.wrap; simp [IntKind.bits, IntKind.signed]; omega
        have hcv : (convert 54 9 (.slice (some ⟨W0.heap.size, 0, none⟩) 1 1)).run Try.prog (W0.alloc (.cells #[.int .u8 b] 5)).drew = .ok (.string ⟨#[UInt8.ofNat b]⟩) (W0.alloc (.cells #[.int .u8 b] 5)).drew := convert_oneI W0.drew 54 9 5 Try.underlying54 Try.underlying5 Try.underlying9 b (UInt8.ofNat b) (by simp; omega)
        go_wp2_with fail
        go_region
        go_wp2_with fail
        go_meet
        have hb1 : Below (W0.setCell ⟨p, 4, none⟩ (.string (m1.fd ++ ⟨#[UInt8.ofNat b]⟩))).heap.size (W0.setCell ⟨p, 4, none⟩ (.string (m1.fd ++ ⟨#[UInt8.ofNat b]⟩))) ((W0.setCell ⟨p, 4, none⟩ (.string (m1.fd ++ ⟨#[UInt8.ofNat b]⟩))).alloc (.cells #[.int .u8 b] 5)).drew := ((Below.refl _ _).alloc (Nat.le_refl _) _).drew
        exact ⟨v1, (HY.out.scalar 4 _ ⟨m1.fd ++ ⟨#[UInt8.ofNat b]⟩, m1.rc, m1.bg, m1.ct, m1.wd, m1.st⟩ rfl rfl).below hb1, HG1.out.trans ((((Goes.refl _ _ _ _).below hb0).trans (HY.out.goes_set 4 _)).below hb1)⟩
    case rest =>
      obtain ⟨v2, hM2, hG2⟩ := hcut
      have hE := rbox_goes HM.out hG2
      have hlt2 := hE.lt
      have hltp2 := hM2.lt
      have e2 : wc.cell? ⟨w.heap.size, 2, none⟩ = some (.int .i64 (n01 fi)) := hE.cell 2
      have k3 : wc.cell? ⟨p, 3, none⟩ = some (.int .i64 0) := hM2.cell 3
      have HM2 := Lib.hid hM2
      have HG2 := Lib.hid hG2
      clear hE hM2 hG2 e1 e5 hlt1
      go_upto_if 80 with (fail)
      go_cut [] (fun wx => RPost (w.alloc (.cells #[.int .i64 (n01 be), .int .i64 (n01 ad), .int .i64 (n01 fi), .int .i64 (n01 li), .int .i64 (n01 re), .int .i64 b] 51)) p v m3 wx)
      case first =>
        cases fi
        · go_wp2_with fail
          go_meet
          have e := H3.out
          unfold mP at e
          simp at e
          subst e
          exact ⟨v2, HM2.out, HG2.out⟩
        · have e : m3 = putV m2 := H3.out.symm
          have hsz := HS.out.2.2.1.2.1
          subst e
          have HC := Lib.hid (rput_any p v2 m2 wc HM2.out (by omega))
          go_wp2_with (go_at_call 21; refine (HC.out).mono ?_; rintro en w2 ⟨rfl, v', hM2, hG2⟩; obtain ⟨Ar, cap, rfl, hr1, hr2⟩ := hM2.rec_len; rw [put_len] at hr1 hM2 hG2; have hltp := hM2.lt; have k1 : w2.cell? ⟨p, 1, none⟩ = some (.int .i64 1000) := hM2.cell 1; have k5 : w2.cell? ⟨p, 5, none⟩ = some (.slice Ar (m2.rc.length + 1) cap) := hM2.cell 5; have HP := Lib.hid hM2; have HG := Lib.hid hG2; clear hM2 hG2)
          have z1 : decide ((1000 : Int) ≤ ((m2.rc.length : Int) + 1)) = false := decide_eq_false (by omega)
          have z2 : decide ((1000 : Int) ≤ ((m2.rc.length + 1 : Nat) : Int)) = false := decide_eq_false (by omega)
          have hcell := fun (W : World) (x : Later W) => x.cell
          refine wp_region_later_lit (by kernel_rfl) (by kernel_rfl) ?_
          repeat (go_big_quiet_step (fail))
          refine wpQuiet_nil ?_
          rintro w' ⟨y, rfl⟩
          go_wp2_with fail
          refine wp_region_anch y (by kernel_rfl) (by kernel_rfl) ?_
          repeat (go_big_quiet_step (fail))
          refine wpQuiet_nil ?_
          rintro w' ⟨z, rfl⟩
          go_wp2_with fail
          go_meet
          exact ⟨_, HP.out.below z.below, HG2.out.trans (HG.out.below z.below)⟩
      case rest =>
        obtain ⟨v3, hM3, hG3⟩ := hcut
        have hE := rbox_goes HM.out hG3
        have hlt3 := hE.lt
        have hltp3 := hM3.lt
        have e3 : wc.cell? ⟨w.heap.size, 3, none⟩ = some (.int .i64 (n01 li)) := hE.cell 3
        have HM3 := Lib.hid hM3
        have HG3 := Lib.hid hG3
        clear hE hM3 hG3 e2 hlt2 k3 hltp2
        go_upto_if 115 with (fail)
        go_cut [] (fun wx => RPost (w.alloc (.cells #[.int .i64 (n01 be), .int .i64 (n01 ad), .int .i64 (n01 fi), .int .i64 (n01 li), .int .i64 (n01 re), .int .i64 b] 51)) p v m4 wx)
        case first =>
          cases li
          · go_wp2_with fail
            go_meet
            have e := H4.out
            unfold mP at e
            simp at e
            subst e
            exact ⟨v3, HM3.out, HG3.out⟩
          · have e : m4 = putV m3 := H4.out.symm
            have hsz := HS.out.2.2.2.1.2.1
            subst e
            have HC := Lib.hid (rput_any p v3 m3 wc HM3.out (by omega))
            go_wp2_with (go_at_call 21; refine (HC.out).mono ?_; rintro en w2 ⟨rfl, v', hM2, hG2⟩; obtain ⟨Ar, cap, rfl, hr1, hr2⟩ := hM2.rec_len; rw [put_len] at hr1 hM2 hG2; have hltp := hM2.lt; have k1 : w2.cell? ⟨p, 1, none⟩ = some (.int .i64 1000) := hM2.cell 1; have k5 : w2.cell? ⟨p, 5, none⟩ = some (.slice Ar (m3.rc.length + 1) cap) := hM2.cell 5; have HP := Lib.hid hM2; have HG := Lib.hid hG2; clear hM2 hG2)
            have hcell := fun (W : World) (x : Later W) => x.cell
            refine wp_region_later_lit (by kernel_rfl) (by kernel_rfl) ?_
            repeat (go_big_quiet_step (fail))
            refine wpQuiet_nil ?_
            rintro w' ⟨z, rfl⟩
            go_wp2_with fail
            go_meet
            exact ⟨_, HP.out.below z.below, HG3.out.trans (HG.out.below z.below)⟩
        case rest =>
          obtain ⟨v4, hM4, hG4⟩ := hcut
          have hE := rbox_goes HM.out hG4
          have hlt4 := hE.lt
          have hltp4 := hM4.lt
          have e4 : wc.cell? ⟨w.heap.size, 4, none⟩ = some (.int .i64 (n01 re)) := hE.cell 4
          obtain ⟨Ar, cap, rfl, hr1, hr2⟩ := hM4.rec_len
          have k5 : wc.cell? ⟨p, 5, none⟩ = some (.slice Ar m4.rc.length cap) := hM4.cell 5
          have k7 : wc.cell? ⟨p, 7, none⟩ = some (.int .i64 m4.ct) := hM4.cell 7
          have k8 : wc.cell? ⟨p, 8, none⟩ = some (.int .i64 m4.wd) := hM4.cell 8
          have kf := hM4.1.frozen
          have hw : wrap64 ((m4.ct : Int) + 1) = m4.ct + 1 := by have := HS.out.2.2.2.2.2.2.2.1; unfold wrap64; omega
          have HM4 := Lib.hid hM4
          have hG' : Goes w wc p none v none (.slice Ar m4.rc.length cap) := ((Goes.refl _ _ _ _).below ((Below.refl _ _).alloc (Nat.le_refl _) _)).trans hG4
          have HG4 := Lib.hid hG'
          clear hE hM4 hG4 hG' e3 hlt3 hltp3
          cases re
          · go_wp2_with fail
            refine bodyPost_ret (v := .tuple #[.slice none 0 0, .int .i64 0]) (by simp [results, Try.results15, go_sem]) rfl ?_
            have et := take_none (l := wideL) (m := m) (e := ⟨be, ad, fi, li, false, b⟩) (by simp)
            rw [HMID.out] at et
            unfold RTakePost
            rw [et]
            exact ⟨_, .slice none 0 0, HM4.out, HG4.out, rfl, World.ownsRow_nil _ _ _ _, fun g hg => by cases hg⟩
          · by_cases hz : m4.ct = 0
            · have d1 : ((m4.ct : Int) == 0) = true := by simp; omega
              have d2 : decide ((m4.ct : Int) = 0) = true := decide_eq_true (by omega)
              have e : handV m4 = ⟨m4.fd, [], m4.bg, m4.ct + 1, m4.rc.length, m4.st⟩ := by unfold handV; rw [if_pos hz]
              have HE := Lib.hid e
              have HZ := Lib.hid hz
              clear e
              go_wp2_with fail
              refine bodyPost_ret (v := .tuple #[.slice Ar m4.rc.length cap, .int .i64 1]) (by simp [results, Try.results15, go_sem]) rfl ?_
              have et := take_some (l := wideL) (m := m) (e := ⟨be, ad, fi, li, true, b⟩) ⟨by rw [HMID.out]; exact H40.out, rfl⟩
              rw [HMID.out, HE.out] at et
              unfold RTakePost
              rw [et]
              have hg := grown_trans (grown_trans (grown_set wc p 5 (.slice none 0 0)) (grown_set _ p 8 (.int .i64 m4.rc.length))) (grown_set _ p 7 (.int .i64 1))
              refine ⟨.slice none 0 0, _, (HM4.out.cleared.scalar 8 (.int .i64 m4.rc.length) ⟨m4.fd, [], m4.bg, m4.ct, m4.rc.length, m4.st⟩ rfl rfl).scalar 7 (.int .i64 1) _ rfl (by simp [rcells, HZ.out]), HG4.out.trans ⟨(Keeps.refl _ _).grown hg (fun g hg => by injection hg with hg; exact .inl (.inl hg.symm)), fun k hk => ?_⟩, rfl, ?_, fun g hg' => ⟨HG4.out.2 g (.inr (.inr hg')), ?_⟩⟩
              · rcases hk with hk | ⟨a, ha, hk⟩ | hk
                · exact .inl (.inl hk)
                · cases ha
                · cases hk
              · exact HM4.out.2.kept hg (by cases e : (Value.slice Ar m4.rc.length cap).ownBlock with | none => exact .inl rfl | some g => exact .inr (fun hc => HM4.out.ne_rec (hc.symm.trans e.symm)))
              · intro hk
                rcases hk with hk | ⟨a, ha, hk⟩ | hk
                · subst hk; exact HM4.out.ne_rec hg'.symm
                · cases ha
                · cases hk
            · have d1 : ((m4.ct : Int) == 0) = false := by simp; omega
              have d2 : decide ((m4.ct : Int) = 0) = false := decide_eq_false (by omega)
              have e : handV m4 = ⟨m4.fd, [], m4.bg, m4.ct + 1, m4.wd, m4.st⟩ := by unfold handV; rw [if_neg hz]
              have HE := Lib.hid e
              clear e
              go_wp2_with fail
              refine bodyPost_ret (v := .tuple #[.slice Ar m4.rc.length cap, .int .i64 1]) (by simp [results, Try.results15, go_sem]) rfl ?_
              have et := take_some (l := wideL) (m := m) (e := ⟨be, ad, fi, li, true, b⟩) ⟨by rw [HMID.out]; exact H40.out, rfl⟩
              rw [HMID.out, HE.out] at et
              unfold RTakePost
              rw [et]
              have hg := grown_trans (grown_set wc p 5 (.slice none 0 0)) (grown_set _ p 7 (.int .i64 (m4.ct + 1)))
              refine ⟨.slice none 0 0, _, HM4.out.cleared.scalar 7 (.int .i64 (m4.ct + 1)) _ rfl rfl, HG4.out.trans ⟨(Keeps.refl _ _).grown hg (fun g hg => by injection hg with hg; exact .inl (.inl hg.symm)), fun k hk => ?_⟩, rfl, ?_, fun g hg' => ⟨HG4.out.2 g (.inr (.inr hg')), ?_⟩⟩
              · rcases hk with hk | ⟨a, ha, hk⟩ | hk
                · exact .inl (.inl hk)
                · cases ha
                · cases hk
              · exact HM4.out.2.kept hg (by cases e : (Value.slice Ar m4.rc.length cap).ownBlock with | none => exact .inl rfl | some g => exact .inr (fun hc => HM4.out.ne_rec (hc.symm.trans e.symm)))
              · intro hk
                rcases hk with hk | ⟨a, ha, hk⟩ | hk
                · subst hk; exact HM4.out.ne_rec hg'.symm
                · cases ha
                · cases hk

end Go.Proofs.Ytgmejmnfdeacoaa
