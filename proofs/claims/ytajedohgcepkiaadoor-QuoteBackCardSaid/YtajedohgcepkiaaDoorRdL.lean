/-
  Walks: the document's reader: bare fields and quoted ones.
-/
import Derived.Test.YtajedohgcepkiaaDoorRows
import Derived.Test.YtajedohgcepkiaaDoorWhoE
import Derived.Deep.DeepCutAuto
namespace Go.Proofs.YtajedohgcepkiaaDoor
open Go.RowKit

def strLen (v : Value) : Nat := match v with
  | .string g => g.size
  | _ => 0
theorem dead_of_go {p q : Nat} {n : Int} {l : Lim} {s : ByteArray} {x : Rd} {j k a : Nat} (h : Dead p q n l s (wrongV (goR x j) k a)) : Dead p q n l s (wrongV x k a) := by
  unfold wrongV at h ⊢
  by_cases hk : x.kd = 0
  · rw [if_pos hk]
    rw [if_pos (show (goR x j).kd = 0 from hk)] at h
    exact ⟨h.kd, h.len, h.ft, h.out, h.bd⟩
  · rw [if_neg hk]
    rw [if_neg (show ¬ (goR x j).kd = 0 from hk)] at h
    exact ⟨h.kd, h.len, h.ft, h.out, h.bd⟩

/-- A field was read, or a fault is told. -/
def FldPost (o p q : Nat) (n : Int) (l : Lim) (s : ByteArray) (x : Rd) (w : World) (e : Ending) (w' : World) : Prop :=
  ∃ x' f ok, e = .returned (.tuple #[.string f, .bool ok]) ∧ RdIn w' o p q n l s x' ∧ Below o w w' ∧
    (ok = true → x.i ≤ x'.i ∧ (∃ st, (st = 0 ∨ st = 1 ∨ st = 2 ∨ st = 4) ∧ At p q n l s x' f st) ∧ (x'.i = s.size ∨ (x'.i < s.size ∧ (bytN s x'.i = p ∨ bytN s x'.i = 10 ∨ bytN s x'.i = 13)))) ∧ (ok = false → Dead p q n l s x')

set_option maxRecDepth 100000 in
set_option maxHeartbeats 4000000 in
theorem bare_any (o p q : Nat) (n : Int) (l : Lim) (s : ByteArray) (x : Rd) (st : Nat) (w : World) (h : RdIn w o p q n l s x) (hs : s.size ≤ 1000000) (hfs : 1 ≤ l.fs) (hA : At p q n l s x ⟨#[]⟩ st) (hst : st = 0 ∨ st = 1) (hq : ¬ (x.i < s.size ∧ bytN s x.i = q)) :
    Calls Tryd.prog 57 #[.pointer (some ⟨o, 0, none⟩)] w (FldPost o p q n l s x w) := by
  have hcell := fun (W : World) (x : Later W) => x.cell
  have H := Lib.hid h
  have HA := Lib.hid hA
  have HQ := Lib.hid hq
  have HST := Lib.hid hst
  clear h hA hq hst
  go_enter Tryd.func57, Tryd.ntmps57
  go_wp2_with fail
  go_loopw [4] (fun v (wr : World) => ∃ x' g st', v = .string g ∧ RdIn wr o p q n l s x' ∧ At p q n l s x' g st' ∧ (st' = 0 ∨ st' = 1 ∨ st' = 2) ∧ (st' ≠ 2 → ¬ (x'.i < s.size ∧ bytN s x'.i = q)) ∧ x.i ≤ x'.i ∧ Below o w wr) (fun v _ => s.size - strLen v)
  case atStart => exact ⟨x, ⟨#[]⟩, st, rfl, H.out, HA.out, by have := HST.out; omega, fun _ => HQ.out, Nat.le_refl _, Below.refl _ _⟩
  case round =>
    obtain ⟨x', g, st', rfl, hR, hAt, hst', hq', hle, hb⟩ := hrel
    have HR := Lib.hid hR
    have HT := Lib.hid hAt
    have HQ' := Lib.hid hq'
    have HB := Lib.hid hb
    have hg6 : g.size ≤ 1000000 := by have := hAt.bd; have := hAt.i; omega
    obtain ⟨vc, vr, ve, vs, h1⟩ := hR
    have q0 : wr.cell? ⟨o, 0, none⟩ = some (.int .i64 p) := h1.cell 0
    have q1 : wr.cell? ⟨o, 1, none⟩ = some (.int .i64 q) := h1.cell 1
    have q7 : wr.cell? ⟨o, 7, none⟩ = some (.string s) := h1.cell 7
    have q8 : wr.cell? ⟨o, 8, none⟩ = some (.int .i64 x'.i) := h1.cell 8
    have hlt := h1.lt
    have HI := Lib.hid (fun (b : Nat) (y : Later wr) => is_any o p q n l s x' b y.w (HR.out.below y.below) hs)
    have HST' := Lib.hid hst'
    have HLE := Lib.hid hle
    clear hAt hq' hb h1 hst' hle
    by_cases c0 : x'.i < s.size
    · have e0 : decide ((x'.i : Int) < (s.size : Int)) = true := decide_eq_true (by omega)
      have i0 : (x'.i : Int) < (s.size : Int) := by omega
      by_cases cp : bytN s x'.i = p
      · have ip : isB s x'.i p = true := (isB_is _ _ _).2 ⟨c0, cp⟩
        have HP : Hid (∀ y : Later wr, Calls Tryd.prog 42 #[.pointer (some ⟨o, 0, none⟩), .int .i64 p] y.w (Gives (.bool true) y.w)) := Lib.hid (fun y => ip ▸ HI.out p y)
        go_wp2_with fail
        refine wp_region_later_lit (by kernel_rfl) (by kernel_rfl) ?_
        repeat (go_big_quiet_step (first | (go_at_call 42; with_reducible exact later_call _ (HP.out _))))
        refine wpQuiet_nil ?_
        rintro w' ⟨y, rfl⟩
        go_wp2_with fail
        refine bodyPost_ret (v := .tuple #[.string g, .bool true]) (by simp [results, Tryd.results57, go_sem]) rfl ?_
        exact ⟨x', g, true, rfl, HR.out.below y.below, HB.out.trans (y.below.mono (Nat.le_of_lt hlt)), fun _ => ⟨HLE.out, ⟨st', by have := HST'.out; omega, HT.out⟩, .inr ⟨c0, .inl cp⟩⟩, fun h => by cases h⟩
      · have ip : isB s x'.i p = false := (Bool.eq_false_iff.2 (fun hc => cp ((isB_is _ _ _).1 hc).2))
        have CP := Lib.hid cp
        clear cp
        have HP : Hid (∀ y : Later wr, Calls Tryd.prog 42 #[.pointer (some ⟨o, 0, none⟩), .int .i64 p] y.w (Gives (.bool false) y.w)) := Lib.hid (fun y => ip ▸ HI.out p y)
        by_cases c10 : bytN s x'.i = 10
        · have it : isB s x'.i 10 = true := (isB_is _ _ _).2 ⟨c0, c10⟩
          have H10 : Hid (∀ y : Later wr, Calls Tryd.prog 42 #[.pointer (some ⟨o, 0, none⟩), .int .i64 10] y.w (Gives (.bool true) y.w)) := Lib.hid (fun y => it ▸ HI.out 10 y)
          go_wp2_with fail
          refine wp_region_later_lit (by kernel_rfl) (by kernel_rfl) ?_
          repeat (go_big_quiet_step (first | (go_at_call 42; with_reducible exact later_call _ (HP.out _)) | (go_at_call 42; with_reducible exact later_call _ (H10.out _))))
          refine wpQuiet_nil ?_
          rintro w' ⟨y, rfl⟩
          go_wp2_with fail
          refine bodyPost_ret (v := .tuple #[.string g, .bool true]) (by simp [results, Tryd.results57, go_sem]) rfl ?_
          exact ⟨x', g, true, rfl, HR.out.below y.below, HB.out.trans (y.below.mono (Nat.le_of_lt hlt)), fun _ => ⟨HLE.out, ⟨st', by have := HST'.out; omega, HT.out⟩, .inr ⟨c0, .inr (.inl c10)⟩⟩, fun h => by cases h⟩
        · have it : isB s x'.i 10 = false := (Bool.eq_false_iff.2 (fun hc => c10 ((isB_is _ _ _).1 hc).2))
          have C10 := Lib.hid c10
          clear c10
          have H10 : Hid (∀ y : Later wr, Calls Tryd.prog 42 #[.pointer (some ⟨o, 0, none⟩), .int .i64 10] y.w (Gives (.bool false) y.w)) := Lib.hid (fun y => it ▸ HI.out 10 y)
          by_cases c13 : bytN s x'.i = 13
          · have ir : isB s x'.i 13 = true := (isB_is _ _ _).2 ⟨c0, c13⟩
            have H13 : Hid (∀ y : Later wr, Calls Tryd.prog 42 #[.pointer (some ⟨o, 0, none⟩), .int .i64 13] y.w (Gives (.bool true) y.w)) := Lib.hid (fun y => ir ▸ HI.out 13 y)
            go_wp2_with fail
            refine wp_region_later_lit (by kernel_rfl) (by kernel_rfl) ?_
            repeat (go_big_quiet_step (first | (go_at_call 42; with_reducible exact later_call _ (HP.out _)) | (go_at_call 42; with_reducible exact later_call _ (H10.out _)) | (go_at_call 42; with_reducible exact later_call _ (H13.out _))))
            refine wpQuiet_nil ?_
            rintro w' ⟨y, rfl⟩
            go_wp2_with fail
            refine bodyPost_ret (v := .tuple #[.string g, .bool true]) (by simp [results, Tryd.results57, go_sem]) rfl ?_
            exact ⟨x', g, true, rfl, HR.out.below y.below, HB.out.trans (y.below.mono (Nat.le_of_lt hlt)), fun _ => ⟨HLE.out, ⟨st', by have := HST'.out; omega, HT.out⟩, .inr ⟨c0, .inr (.inr c13)⟩⟩, fun h => by cases h⟩
          · have ir : isB s x'.i 13 = false := (Bool.eq_false_iff.2 (fun hc => c13 ((isB_is _ _ _).1 hc).2))
            have C13 := Lib.hid c13
            clear c13
            have H13 : Hid (∀ y : Later wr, Calls Tryd.prog 42 #[.pointer (some ⟨o, 0, none⟩), .int .i64 13] y.w (Gives (.bool false) y.w)) := Lib.hid (fun y => ir ▸ HI.out 13 y)
            go_wp2_with fail
            refine wp_region_later_lit (by kernel_rfl) (by kernel_rfl) ?_
            repeat (go_big_quiet_step (first | (go_at_call 42; with_reducible exact later_call _ (HP.out _)) | (go_at_call 42; with_reducible exact later_call _ (H10.out _)) | (go_at_call 42; with_reducible exact later_call _ (H13.out _))))
            refine wpQuiet_nil ?_
            rintro w' ⟨y, rfl⟩
            have hy1 := y.below.cell (p := ⟨o, 1, none⟩) hlt
            have hy8 := y.below.cell (p := ⟨o, 8, none⟩) hlt
            by_cases cq : bytN s x'.i = q
            · have iq : isB s x'.i q = true := (isB_is _ _ _).2 ⟨c0, cq⟩
              have HQQ : Hid (∀ y : Later wr, Calls Tryd.prog 42 #[.pointer (some ⟨o, 0, none⟩), .int .i64 q] y.w (Gives (.bool true) y.w)) := Lib.hid (fun y => iq ▸ HI.out q y)
              have s2 : st' = 2 := Classical.byContradiction (fun hc => HQ'.out hc ⟨c0, cq⟩)
              have HD := Lib.hid (HT.out.quote s2 c0 cq)
              go_wp2_with (go_at_call 42; refine (later_call _ (HQQ.out _)).mono ?_; rintro e w' ⟨rfl, y2, rfl⟩; have hy8' := y2.below.cell (p := ⟨o, 8, none⟩) hlt)
              go_at_call 55
              refine (wrong_any o p q n l s x' 4 x'.i y2.w (HR.out.below y2.below)).mono ?_
              rintro e w3 ⟨rfl, hR3, hB3⟩
              have H3 := Lib.hid hR3
              have HB3 := Lib.hid ((HB.out.trans (y2.below.mono (Nat.le_of_lt hlt))).trans hB3)
              clear hR3 hB3
              go_wp2_with fail
              refine bodyPost_ret (v := .tuple #[.string g, .bool false]) (by simp [results, Tryd.results57, go_sem]) rfl ?_
              exact ⟨_, g, false, rfl, H3.out, HB3.out, fun h => (by cases h), fun _ => HD.out⟩
            · have iq : isB s x'.i q = false := (Bool.eq_false_iff.2 (fun hc => cq ((isB_is _ _ _).1 hc).2))
              have HQQ : Hid (∀ y : Later wr, Calls Tryd.prog 42 #[.pointer (some ⟨o, 0, none⟩), .int .i64 q] y.w (Gives (.bool false) y.w)) := Lib.hid (fun y => iq ▸ HI.out q y)
              obtain ⟨t1, t2⟩ := HT.out.add hfs HST'.out c0 CP.out cq C10.out C13.out
              have T1 := Lib.hid t1
              have T2 := Lib.hid t2
              clear t1 t2 cq
              by_cases cf : (g.size : Int) = l.fs
              · have HD := Lib.hid (T1.out cf)
                have HADD : Hid (∀ y : Later wr, Calls Tryd.prog 69 #[.pointer (some ⟨o, 0, none⟩), .string g, .int .i64 x'.i] y.w (fun e w' => e = .returned (.tuple #[.string g, .bool false]) ∧ RdIn w' o p q n l s (wrongV x' 7 x'.i) ∧ Below o y.w w')) := Lib.hid (fun y => by have h := addR_any o p q n l s g x'.i x' y.w (HR.out.below y.below) hs hg6 c0; unfold addR at h; rw [if_pos cf] at h; exact h)
                clear cf
                go_wp2_with (first | (go_at_call 42; refine (later_call _ (HQQ.out _)).mono ?_; rintro e w' ⟨rfl, y2, rfl⟩; have hy8' := y2.below.cell (p := ⟨o, 8, none⟩) hlt) | (go_at_call 69; refine (HADD.out y2).mono ?_; rintro e w3 ⟨rfl, hR3, hB3⟩; have H3 := Lib.hid hR3; have HB3 := Lib.hid ((HB.out.trans (y2.below.mono (Nat.le_of_lt hlt))).trans hB3); clear hR3 hB3))
                refine bodyPost_ret (v := .tuple #[.string g, .bool false]) (by simp [results, Tryd.results57, go_sem]) rfl ?_
                exact ⟨_, g, false, rfl, H3.out, HB3.out, fun h => (by cases h), fun _ => HD.out⟩
              · have HD := Lib.hid (T2.out cf)
                have HADD : Hid (∀ y : Later wr, Calls Tryd.prog 69 #[.pointer (some ⟨o, 0, none⟩), .string g, .int .i64 x'.i] y.w (fun e w' => e = .returned (.tuple #[.string (g ++ s.extract x'.i (x'.i + 1)), .bool true]) ∧ RdIn w' o p q n l s x' ∧ Below o y.w w')) := Lib.hid (fun y => by have h := addR_any o p q n l s g x'.i x' y.w (HR.out.below y.below) hs hg6 c0; unfold addR at h; rw [if_neg cf] at h; exact h)
                have hw : wrap64 ((x'.i : Int) + 1) = x'.i + 1 := by unfold wrap64; omega
                obtain ⟨u, hu⟩ : ∃ u, g ++ s.extract x'.i (x'.i + 1) = u := ⟨_, rfl⟩
                have hsz : u.size = g.size + 1 := by rw [← hu, extract_one s x'.i c0, one_size]
                rw [hu] at HD HADD
                clear cf hu
                go_wp2_with (first | (go_at_call 42; refine (later_call _ (HQQ.out _)).mono ?_; rintro e w' ⟨rfl, y2, rfl⟩; have hy8' := y2.below.cell (p := ⟨o, 8, none⟩) hlt) | (go_at_call 69; refine (HADD.out y2).mono ?_; rintro e w3 ⟨rfl, ⟨vc3, vr3, ve3, vs3, hR3⟩, hB3⟩; have k8 : w3.cell? ⟨o, 8, none⟩ = some (.int .i64 x'.i) := hR3.cell 8; have kf := hR3.1.frozen 8; have H3 := Lib.hid hR3; have HB3 := Lib.hid ((HB.out.trans (y2.below.mono (Nat.le_of_lt hlt))).trans hB3); clear hR3 hB3))
                go_roundw
                case rel => exact ⟨goR x' (x'.i + 1), u, 2, rfl, ⟨vc3, vr3, ve3, vs3, H3.out.scalar 8 _ _ ⟨rfl, rfl, rfl⟩ rfl⟩, HD.out, .inr (.inr rfl), fun h => absurd rfl h, Nat.le_succ_of_le HLE.out, HB3.out.trans (below_set _ _ _ _)⟩
                case measure => (have h1 := HT.out.bd.2.2.2; simp [strLen, hsz]; omega)
    · have e0 : decide ((x'.i : Int) < (s.size : Int)) = false := decide_eq_false (by omega)
      have i0 : ¬ (x'.i : Int) < (s.size : Int) := by omega
      go_wp2_with fail
      refine wp_region_later_lit (by kernel_rfl) (by kernel_rfl) ?_
      repeat (go_big_quiet_step (fail))
      refine wpQuiet_nil ?_
      rintro w' ⟨y, rfl⟩
      go_wp2_with fail
      refine bodyPost_ret (v := .tuple #[.string g, .bool true]) (by simp [results, Tryd.results57, go_sem]) rfl ?_
      exact ⟨x', g, true, rfl, HR.out.below y.below, HB.out.trans (y.below.mono (Nat.le_of_lt hlt)), fun _ => ⟨HLE.out, ⟨st', by have := HST'.out; omega, HT.out⟩, .inl (by have := HT.out.i; omega)⟩, fun h => by cases h⟩

set_option maxRecDepth 100000 in
set_option maxHeartbeats 4000000 in
theorem quoted_any (o p q : Nat) (n : Int) (l : Lim) (s : ByteArray) (x : Rd) (w : World) (h : RdIn w o p q n l s x) (hs : s.size ≤ 1000000) (hA : At p q n l s x ⟨#[]⟩ 3) :
    Calls Tryd.prog 56 #[.pointer (some ⟨o, 0, none⟩)] w (FldPost o p q n l s x w) := by
  have hcell := fun (W : World) (x : Later W) => x.cell
  have H := Lib.hid h
  have HA := Lib.hid hA
  clear h hA
  go_enter Tryd.func56, Tryd.ntmps56
  go_wp2_with fail
  go_loopw [4] (fun v (wr : World) => ∃ x' g, v = .string g ∧ RdIn wr o p q n l s x' ∧ At p q n l s x' g 3 ∧ x.i ≤ x'.i ∧ Below o w wr) (fun v _ => s.size - strLen v)
  case atStart => exact ⟨x, ⟨#[]⟩, rfl, H.out, HA.out, Nat.le_refl _, Below.refl _ _⟩
  case round =>
    obtain ⟨x', g, rfl, hR, hAt, hle, hb⟩ := hrel
    have HR := Lib.hid hR
    have HT := Lib.hid hAt
    have HB := Lib.hid hb
    have HLE := Lib.hid hle
    have hg6 : g.size ≤ 1000000 := by have := hAt.bd; have := hAt.i; omega
    have hi6 : x'.i ≤ s.size := hAt.i
    obtain ⟨vc, vr, ve, vs, h1⟩ := hR
    have q0 : wr.cell? ⟨o, 0, none⟩ = some (.int .i64 p) := h1.cell 0
    have q1 : wr.cell? ⟨o, 1, none⟩ = some (.int .i64 q) := h1.cell 1
    have q7 : wr.cell? ⟨o, 7, none⟩ = some (.string s) := h1.cell 7
    have q8 : wr.cell? ⟨o, 8, none⟩ = some (.int .i64 x'.i) := h1.cell 8
    have hlt := h1.lt
    have HI := Lib.hid (fun (b : Nat) (y : Later wr) => is_any o p q n l s x' b y.w (HR.out.below y.below) hs)
    clear hAt hb h1 hle
    by_cases c0 : x'.i < s.size
    · have e0 : decide ((x'.i : Int) = (s.size : Int)) = false := decide_eq_false (by omega)
      have e1 : ((x'.i : Int) == (s.size : Int)) = false := by simp; omega
      by_cases cq : bytN s x'.i = q
      · have iq : isB s x'.i q = true := (isB_is _ _ _).2 ⟨c0, cq⟩
        have HQQ : Hid (∀ y : Later wr, Calls Tryd.prog 42 #[.pointer (some ⟨o, 0, none⟩), .int .i64 q] y.w (Gives (.bool true) y.w)) := Lib.hid (fun y => iq ▸ HI.out q y)
        have HC := Lib.hid (HT.out.close c0 cq)
        have q8' := fun (y : Later wr) => y.below.cell (p := ⟨o, 8, none⟩) hlt
        have hw : wrap64 ((x'.i : Int) + 1) = x'.i + 1 := by unfold wrap64; omega
        clear iq cq
        by_cases c1 : x'.i + 1 < s.size
        · have i1 : (x'.i : Int) + 1 < (s.size : Int) := by omega
          have i2 : ((x'.i : Int) + 1).toNat = x'.i + 1 := by omega
          have i3 : (0 : Int) ≤ (x'.i : Int) + 1 := by omega
          have j0 : decide ((x'.i : Int) + 1 = (s.size : Int)) = false := decide_eq_false (by omega)
          have j1 : ((x'.i : Int) + 1 == (s.size : Int)) = false := by simp; omega
          have b1 := byt_eq s (x'.i + 1) c1
          have hwb : wrap64 (byt s (x'.i + 1)) = byt s (x'.i + 1) := by have := byt_range s (x'.i + 1); unfold wrap64; omega
          have hbn := bytN_is s (x'.i + 1)
          by_cases c2 : bytN s (x'.i + 1) = q
          · have k1 : (byt s (x'.i + 1) != (q : Int)) = false := by simp; omega
            have k2 : decide (byt s (x'.i + 1) = (q : Int)) = true := decide_eq_true (by omega)
            obtain ⟨t1, t2⟩ := HC.out.twice (show (goR x' (x'.i + 1)).i < s.size from c1) c2
            clear c2 hbn
            by_cases cf : (g.size : Int) = l.fs
            · have HD := Lib.hid (dead_of_go (t1 cf))
              have HADD : Hid (∀ y : Later wr, Calls Tryd.prog 69 #[.pointer (some ⟨o, 0, none⟩), .string g, .int .i64 ((x'.i : Int) + 1)] y.w (fun e w' => e = .returned (.tuple #[.string g, .bool false]) ∧ RdIn w' o p q n l s (wrongV x' 7 (x'.i + 1)) ∧ Below o y.w w')) := Lib.hid (fun y => by have h := addR_any o p q n l s g (x'.i + 1) x' y.w (HR.out.below y.below) hs hg6 c1; unfold addR at h; rw [if_pos cf] at h; exact h)
              clear cf t1 t2
              go_wp2_with fail
              refine wp_region_later_lit (by kernel_rfl) (by kernel_rfl) ?_
              repeat (go_big_quiet_step (fail))
              refine wpQuiet_nil ?_
              rintro w' ⟨y, rfl⟩
              go_wp2_with (go_at_call 42; refine (later_call _ (HQQ.out _)).mono ?_; rintro e w' ⟨rfl, y2, rfl⟩)
              refine wp_region_anch y2 (by kernel_rfl) (by kernel_rfl) ?_
              repeat (go_big_quiet_step (fail))
              refine wpQuiet_nil ?_
              rintro w' ⟨y3, rfl⟩
              go_wp2_with (go_at_call 69; refine (HADD.out y3).mono ?_; rintro e w3 ⟨rfl, hR3, hB3⟩; have H3 := Lib.hid hR3; have HB3 := Lib.hid ((HB.out.trans (y3.below.mono (Nat.le_of_lt hlt))).trans hB3); clear hR3 hB3)
              refine bodyPost_ret (v := .tuple #[.string g, .bool false]) (by simp [results, Tryd.results56, go_sem]) rfl ?_
              exact ⟨_, g, false, rfl, H3.out, HB3.out, fun h => (by cases h), fun _ => HD.out⟩
            · have HD := Lib.hid (t2 cf)
              have HADD : Hid (∀ y : Later wr, Calls Tryd.prog 69 #[.pointer (some ⟨o, 0, none⟩), .string g, .int .i64 ((x'.i : Int) + 1)] y.w (fun e w' => e = .returned (.tuple #[.string (g ++ s.extract (x'.i + 1) (x'.i + 1 + 1)), .bool true]) ∧ RdIn w' o p q n l s x' ∧ Below o y.w w')) := Lib.hid (fun y => by have h := addR_any o p q n l s g (x'.i + 1) x' y.w (HR.out.below y.below) hs hg6 c1; unfold addR at h; rw [if_neg cf] at h; exact h)
              obtain ⟨u, hu⟩ : ∃ u, g ++ s.extract (x'.i + 1) (x'.i + 1 + 1) = u := ⟨_, rfl⟩
              have hsz : u.size = g.size + 1 := by rw [← hu, extract_one s (x'.i + 1) c1, one_size]
              have hu' : g ++ s.extract (goR x' (x'.i + 1)).i ((goR x' (x'.i + 1)).i + 1) = u := hu
              rw [hu'] at HD
              rw [hu] at HADD
              clear cf hu hu' t1 t2
              go_wp2_with fail
              refine wp_region_later_lit (by kernel_rfl) (by kernel_rfl) ?_
              repeat (go_big_quiet_step (fail))
              refine wpQuiet_nil ?_
              rintro w' ⟨y, rfl⟩
              go_wp2_with (go_at_call 42; refine (later_call _ (HQQ.out _)).mono ?_; rintro e w' ⟨rfl, y2, rfl⟩)
              refine wp_region_anch y2 (by kernel_rfl) (by kernel_rfl) ?_
              repeat (go_big_quiet_step (fail))
              refine wpQuiet_nil ?_
              rintro w' ⟨y3, rfl⟩
              have CC := Lib.hid (And.intro c0 c1)
              clear b1 hwb k1 k2 i2 i3 j0 j1 e0 e1 hi6 hg6 i1 c0 c1
              go_upto_region 13 with (go_at_call 69; refine (HADD.out y3).mono ?_; rintro e w3 ⟨rfl, ⟨vc3, vr3, ve3, vs3, hR3⟩, hB3⟩; have k8 : w3.cell? ⟨o, 8, none⟩ = some (.int .i64 x'.i) := hR3.cell 8; have kf := hR3.1.frozen 8; have H3 := Lib.hid hR3; have HB3 := Lib.hid ((HB.out.trans (y3.below.mono (Nat.le_of_lt hlt))).trans hB3); clear hR3 hB3)
              have hw2 : wrap64 ((x'.i : Int) + 1 + 1) = x'.i + 1 + 1 := by have := CC.out; unfold wrap64; omega
              clear hw hcell q0 q1 q7 q8 q8'
              go_wp2_with fail
              go_roundw
              case rel => exact ⟨goR (goR x' (x'.i + 1)) (x'.i + 1 + 1), u, rfl, ⟨vc3, vr3, ve3, vs3, H3.out.scalar 8 _ _ ⟨rfl, rfl, rfl⟩ rfl⟩, HD.out, Nat.le_succ_of_le (Nat.le_succ_of_le HLE.out), HB3.out.trans (below_set _ _ _ _)⟩
              case measure => (have h1 := HT.out.bd.2.2.2; have h2 := CC.out; simp [strLen, hsz]; omega)
          · have k1 : (byt s (x'.i + 1) != (q : Int)) = true := by simp; omega
            have k2 : decide (byt s (x'.i + 1) = (q : Int)) = false := decide_eq_false (by omega)
            have C2 := Lib.hid c2
            clear c2 hbn
            go_wp2_with fail
            refine wp_region_later_lit (by kernel_rfl) (by kernel_rfl) ?_
            repeat (go_big_quiet_step (fail))
            refine wpQuiet_nil ?_
            rintro w' ⟨y, rfl⟩
            go_wp2_with (go_at_call 42; refine (later_call _ (HQQ.out _)).mono ?_; rintro e w' ⟨rfl, y2, rfl⟩)
            refine wp_region_anch y2 (by kernel_rfl) (by kernel_rfl) ?_
            repeat (go_big_quiet_step (fail))
            refine wpQuiet_nil ?_
            rintro w' ⟨y3, rfl⟩
            obtain ⟨vc3, vr3, ve3, vs3, hR3⟩ := HR.out.below y3.below
            have k8 : y3.w.cell? ⟨o, 8, none⟩ = some (.int .i64 x'.i) := hR3.cell 8
            have kf := hR3.1.frozen 8
            have HR3 := Lib.hid hR3
            clear hR3
            go_wp2_with fail
            have h4 := HR3.out.scalar 8 (.int .i64 ((x'.i : Int) + 1)) (goR x' (x'.i + 1)) ⟨rfl, rfl, rfl⟩ rfl
            have hb4 : Below o w (y3.w.setCell ⟨o, 8, none⟩ (.int .i64 ((x'.i : Int) + 1))) := (HB.out.trans (y3.below.mono (Nat.le_of_lt hlt))).trans (below_set _ _ _ _)
            clear kf k8 HR3 q8'
            generalize y3.w.setCell ⟨o, 8, none⟩ (.int .i64 ((x'.i : Int) + 1)) = W4 at h4 hb4 ⊢
            have a0 : W4.cell? ⟨o, 0, none⟩ = some (.int .i64 p) := h4.cell 0
            have a7 : W4.cell? ⟨o, 7, none⟩ = some (.string s) := h4.cell 7
            have a8 : W4.cell? ⟨o, 8, none⟩ = some (.int .i64 ((x'.i : Int) + 1)) := h4.cell 8
            have hlt4 := h4.lt
            have H4 := Lib.hid (show RdIn W4 o p q n l s (goR x' (x'.i + 1)) from ⟨_, _, _, _, h4⟩)
            have HB4 := Lib.hid hb4
            clear h4 hb4
            have HI4 := Lib.hid (fun (b : Nat) (y : Later W4) => is_any o p q n l s (goR x' (x'.i + 1)) b y.w (H4.out.below y.below) hs)
            have e4 : decide ((x'.i : Int) + 1 < (s.size : Int)) = true := decide_eq_true i1
            have p1 : (goR x' (x'.i + 1)).i = x'.i + 1 := rfl
            by_cases cp : bytN s (x'.i + 1) = p
            · have ip : isB s (x'.i + 1) p = true := (isB_is _ _ _).2 ⟨c1, cp⟩
              have HP : Hid (∀ y : Later W4, Calls Tryd.prog 42 #[.pointer (some ⟨o, 0, none⟩), .int .i64 p] y.w (Gives (.bool true) y.w)) := Lib.hid (fun y => ip ▸ HI4.out p y)
              refine wp_region_later_lit (by kernel_rfl) (by kernel_rfl) ?_
              repeat (go_big_quiet_step (first | (go_at_call 42; with_reducible exact later_call _ (HP.out _))))
              refine wpQuiet_nil ?_
              rintro w' ⟨z, rfl⟩
              go_wp2_with fail
              refine bodyPost_ret (v := .tuple #[.string g, .bool true]) (by simp [results, Tryd.results56, go_sem]) rfl ?_
              exact ⟨goR x' (x'.i + 1), g, true, rfl, H4.out.below z.below, HB4.out.trans (z.below.mono (Nat.le_of_lt hlt4)), fun _ => ⟨Nat.le_succ_of_le HLE.out, ⟨4, by omega, HC.out⟩, .inr ⟨c1, .inl cp⟩⟩, fun h => by cases h⟩
            · have ip : isB s (x'.i + 1) p = false := (Bool.eq_false_iff.2 (fun hc => cp ((isB_is _ _ _).1 hc).2))
              have CP := Lib.hid cp
              clear cp
              have HP : Hid (∀ y : Later W4, Calls Tryd.prog 42 #[.pointer (some ⟨o, 0, none⟩), .int .i64 p] y.w (Gives (.bool false) y.w)) := Lib.hid (fun y => ip ▸ HI4.out p y)
              by_cases c10 : bytN s (x'.i + 1) = 10
              · have it : isB s (x'.i + 1) 10 = true := (isB_is _ _ _).2 ⟨c1, c10⟩
                have H10 : Hid (∀ y : Later W4, Calls Tryd.prog 42 #[.pointer (some ⟨o, 0, none⟩), .int .i64 10] y.w (Gives (.bool true) y.w)) := Lib.hid (fun y => it ▸ HI4.out 10 y)
                refine wp_region_later_lit (by kernel_rfl) (by kernel_rfl) ?_
                repeat (go_big_quiet_step (first | (go_at_call 42; with_reducible exact later_call _ (HP.out _)) | (go_at_call 42; with_reducible exact later_call _ (H10.out _))))
                refine wpQuiet_nil ?_
                rintro w' ⟨z, rfl⟩
                go_wp2_with fail
                refine bodyPost_ret (v := .tuple #[.string g, .bool true]) (by simp [results, Tryd.results56, go_sem]) rfl ?_
                exact ⟨goR x' (x'.i + 1), g, true, rfl, H4.out.below z.below, HB4.out.trans (z.below.mono (Nat.le_of_lt hlt4)), fun _ => ⟨Nat.le_succ_of_le HLE.out, ⟨4, by omega, HC.out⟩, .inr ⟨c1, .inr (.inl c10)⟩⟩, fun h => by cases h⟩
              · have it : isB s (x'.i + 1) 10 = false := (Bool.eq_false_iff.2 (fun hc => c10 ((isB_is _ _ _).1 hc).2))
                have C10 := Lib.hid c10
                clear c10
                have H10 : Hid (∀ y : Later W4, Calls Tryd.prog 42 #[.pointer (some ⟨o, 0, none⟩), .int .i64 10] y.w (Gives (.bool false) y.w)) := Lib.hid (fun y => it ▸ HI4.out 10 y)
                by_cases c13 : bytN s (x'.i + 1) = 13
                · have ir : isB s (x'.i + 1) 13 = true := (isB_is _ _ _).2 ⟨c1, c13⟩
                  have H13 : Hid (∀ y : Later W4, Calls Tryd.prog 42 #[.pointer (some ⟨o, 0, none⟩), .int .i64 13] y.w (Gives (.bool true) y.w)) := Lib.hid (fun y => ir ▸ HI4.out 13 y)
                  refine wp_region_later_lit (by kernel_rfl) (by kernel_rfl) ?_
                  repeat (go_big_quiet_step (first | (go_at_call 42; with_reducible exact later_call _ (HP.out _)) | (go_at_call 42; with_reducible exact later_call _ (H10.out _)) | (go_at_call 42; with_reducible exact later_call _ (H13.out _))))
                  refine wpQuiet_nil ?_
                  rintro w' ⟨z, rfl⟩
                  go_wp2_with fail
                  refine bodyPost_ret (v := .tuple #[.string g, .bool true]) (by simp [results, Tryd.results56, go_sem]) rfl ?_
                  exact ⟨goR x' (x'.i + 1), g, true, rfl, H4.out.below z.below, HB4.out.trans (z.below.mono (Nat.le_of_lt hlt4)), fun _ => ⟨Nat.le_succ_of_le HLE.out, ⟨4, by omega, HC.out⟩, .inr ⟨c1, .inr (.inr c13)⟩⟩, fun h => by cases h⟩
                · have ir : isB s (x'.i + 1) 13 = false := (Bool.eq_false_iff.2 (fun hc => c13 ((isB_is _ _ _).1 hc).2))
                  have HD := Lib.hid (HC.out.after c1 CP.out C2.out C10.out c13)
                  clear c13
                  have H13 : Hid (∀ y : Later W4, Calls Tryd.prog 42 #[.pointer (some ⟨o, 0, none⟩), .int .i64 13] y.w (Gives (.bool false) y.w)) := Lib.hid (fun y => ir ▸ HI4.out 13 y)
                  refine wp_region_later_lit (by kernel_rfl) (by kernel_rfl) ?_
                  repeat (go_big_quiet_step (first | (go_at_call 42; with_reducible exact later_call _ (HP.out _)) | (go_at_call 42; with_reducible exact later_call _ (H10.out _)) | (go_at_call 42; with_reducible exact later_call _ (H13.out _))))
                  refine wpQuiet_nil ?_
                  rintro w' ⟨z, rfl⟩
                  have hz8 := z.below.cell (p := ⟨o, 8, none⟩) hlt4
                  go_wp2_with fail
                  go_at_call 55
                  refine (wrong_any o p q n l s (goR x' (x'.i + 1)) 5 (x'.i + 1) z.w (H4.out.below z.below)).mono ?_
                  rintro e w5 ⟨rfl, hR5, hB5⟩
                  have H5 := Lib.hid hR5
                  have HB5 := Lib.hid ((HB4.out.trans (z.below.mono (Nat.le_of_lt hlt4))).trans hB5)
                  clear hR5 hB5
                  go_wp2_with fail
                  refine bodyPost_ret (v := .tuple #[.string g, .bool false]) (by simp [results, Tryd.results56, go_sem]) rfl ?_
                  exact ⟨_, g, false, rfl, H5.out, HB5.out, fun h => (by cases h), fun _ => HD.out⟩
        · have c1' : x'.i + 1 = s.size := by omega
          have j0 : decide ((x'.i : Int) + 1 = (s.size : Int)) = true := decide_eq_true (by omega)
          have j1 : ((x'.i : Int) + 1 == (s.size : Int)) = true := by simp; omega
          have C1 := Lib.hid c1'
          go_wp2_with fail
          refine wp_region_later_lit (by kernel_rfl) (by kernel_rfl) ?_
          repeat (go_big_quiet_step (fail))
          refine wpQuiet_nil ?_
          rintro w' ⟨y, rfl⟩
          go_wp2_with (go_at_call 42; refine (later_call _ (HQQ.out _)).mono ?_; rintro e w' ⟨rfl, y2, rfl⟩)
          refine wp_region_anch y2 (by kernel_rfl) (by kernel_rfl) ?_
          repeat (go_big_quiet_step (fail))
          refine wpQuiet_nil ?_
          rintro w' ⟨y3, rfl⟩
          obtain ⟨vc3, vr3, ve3, vs3, hR3⟩ := HR.out.below y3.below
          have k8 : y3.w.cell? ⟨o, 8, none⟩ = some (.int .i64 x'.i) := hR3.cell 8
          have kf := hR3.1.frozen 8
          have HR3 := Lib.hid hR3
          clear hR3
          go_wp2_with fail
          have h4 := HR3.out.scalar 8 (.int .i64 ((x'.i : Int) + 1)) (goR x' (x'.i + 1)) ⟨rfl, rfl, rfl⟩ rfl
          have hb4 : Below o w (y3.w.setCell ⟨o, 8, none⟩ (.int .i64 ((x'.i : Int) + 1))) := (HB.out.trans (y3.below.mono (Nat.le_of_lt hlt))).trans (below_set _ _ _ _)
          clear kf k8 HR3 q8'
          generalize y3.w.setCell ⟨o, 8, none⟩ (.int .i64 ((x'.i : Int) + 1)) = W4 at h4 hb4 ⊢
          have a0 : W4.cell? ⟨o, 0, none⟩ = some (.int .i64 p) := h4.cell 0
          have a7 : W4.cell? ⟨o, 7, none⟩ = some (.string s) := h4.cell 7
          have a8 : W4.cell? ⟨o, 8, none⟩ = some (.int .i64 ((x'.i : Int) + 1)) := h4.cell 8
          have hlt4 := h4.lt
          have H4 := Lib.hid (show RdIn W4 o p q n l s (goR x' (x'.i + 1)) from ⟨_, _, _, _, h4⟩)
          have HB4 := Lib.hid hb4
          clear h4 hb4
          have e4 : decide ((x'.i : Int) + 1 < (s.size : Int)) = false := decide_eq_false (by have := C1.out; omega)
          refine wp_region_later_lit (by kernel_rfl) (by kernel_rfl) ?_
          repeat (go_big_quiet_step (fail))
          refine wpQuiet_nil ?_
          rintro w' ⟨z, rfl⟩
          go_wp2_with fail
          refine bodyPost_ret (v := .tuple #[.string g, .bool true]) (by simp [results, Tryd.results56, go_sem]) rfl ?_
          exact ⟨goR x' (x'.i + 1), g, true, rfl, H4.out.below z.below, HB4.out.trans (z.below.mono (Nat.le_of_lt hlt4)), fun _ => ⟨Nat.le_succ_of_le HLE.out, ⟨4, by omega, HC.out⟩, .inl C1.out⟩, fun h => by cases h⟩
      · have iq : isB s x'.i q = false := (Bool.eq_false_iff.2 (fun hc => cq ((isB_is _ _ _).1 hc).2))
        obtain ⟨t1, t2⟩ := HT.out.within c0 cq
        have HQQ : Hid (∀ y : Later wr, Calls Tryd.prog 42 #[.pointer (some ⟨o, 0, none⟩), .int .i64 q] y.w (Gives (.bool false) y.w)) := Lib.hid (fun y => iq ▸ HI.out q y)
        clear cq iq
        have q8' := fun (y : Later wr) => y.below.cell (p := ⟨o, 8, none⟩) hlt
        by_cases cf : (g.size : Int) = l.fs
        · have HD := Lib.hid (t1 cf)
          have HADD : Hid (∀ y : Later wr, Calls Tryd.prog 69 #[.pointer (some ⟨o, 0, none⟩), .string g, .int .i64 x'.i] y.w (fun e w' => e = .returned (.tuple #[.string g, .bool false]) ∧ RdIn w' o p q n l s (wrongV x' 7 x'.i) ∧ Below o y.w w')) := Lib.hid (fun y => by have h := addR_any o p q n l s g x'.i x' y.w (HR.out.below y.below) hs hg6 c0; unfold addR at h; rw [if_pos cf] at h; exact h)
          clear cf t1 t2
          go_wp2_with fail
          refine wp_region_later_lit (by kernel_rfl) (by kernel_rfl) ?_
          repeat (go_big_quiet_step (fail))
          refine wpQuiet_nil ?_
          rintro w' ⟨y, rfl⟩
          go_wp2_with (first | (go_at_call 42; refine (later_call _ (HQQ.out _)).mono ?_; rintro e w' ⟨rfl, y2, rfl⟩) | (go_at_call 69; refine (HADD.out y2).mono ?_; rintro e w3 ⟨rfl, hR3, hB3⟩; have H3 := Lib.hid hR3; have HB3 := Lib.hid ((HB.out.trans (y2.below.mono (Nat.le_of_lt hlt))).trans hB3); clear hR3 hB3))
          refine bodyPost_ret (v := .tuple #[.string g, .bool false]) (by simp [results, Tryd.results56, go_sem]) rfl ?_
          exact ⟨_, g, false, rfl, H3.out, HB3.out, fun h => (by cases h), fun _ => HD.out⟩
        · have HD := Lib.hid (t2 cf)
          have HADD : Hid (∀ y : Later wr, Calls Tryd.prog 69 #[.pointer (some ⟨o, 0, none⟩), .string g, .int .i64 x'.i] y.w (fun e w' => e = .returned (.tuple #[.string (g ++ s.extract x'.i (x'.i + 1)), .bool true]) ∧ RdIn w' o p q n l s x' ∧ Below o y.w w')) := Lib.hid (fun y => by have h := addR_any o p q n l s g x'.i x' y.w (HR.out.below y.below) hs hg6 c0; unfold addR at h; rw [if_neg cf] at h; exact h)
          have hw : wrap64 ((x'.i : Int) + 1) = x'.i + 1 := by unfold wrap64; omega
          obtain ⟨u, hu⟩ : ∃ u, g ++ s.extract x'.i (x'.i + 1) = u := ⟨_, rfl⟩
          have hsz : u.size = g.size + 1 := by rw [← hu, extract_one s x'.i c0, one_size]
          rw [hu] at HD HADD
          clear cf hu t1 t2
          go_wp2_with fail
          refine wp_region_later_lit (by kernel_rfl) (by kernel_rfl) ?_
          repeat (go_big_quiet_step (fail))
          refine wpQuiet_nil ?_
          rintro w' ⟨y, rfl⟩
          go_wp2_with (first | (go_at_call 42; refine (later_call _ (HQQ.out _)).mono ?_; rintro e w' ⟨rfl, y2, rfl⟩) | (go_at_call 69; refine (HADD.out y2).mono ?_; rintro e w3 ⟨rfl, ⟨vc3, vr3, ve3, vs3, hR3⟩, hB3⟩; have k8 : w3.cell? ⟨o, 8, none⟩ = some (.int .i64 x'.i) := hR3.cell 8; have kf := hR3.1.frozen 8; have H3 := Lib.hid hR3; have HB3 := Lib.hid ((HB.out.trans (y2.below.mono (Nat.le_of_lt hlt))).trans hB3); clear hR3 hB3))
          go_roundw
          case rel => exact ⟨goR x' (x'.i + 1), u, rfl, ⟨vc3, vr3, ve3, vs3, H3.out.scalar 8 _ _ ⟨rfl, rfl, rfl⟩ rfl⟩, HD.out, Nat.le_succ_of_le HLE.out, HB3.out.trans (below_set _ _ _ _)⟩
          case measure => (have h1 := HT.out.bd.2.2.2; simp [strLen, hsz]; omega)
    · have ci : x'.i = s.size := by omega
      have e0 : decide ((x'.i : Int) = (s.size : Int)) = true := decide_eq_true (by omega)
      have e1 : ((x'.i : Int) == (s.size : Int)) = true := by simp; omega
      have HD := Lib.hid (HT.out.cut ci)
      clear ci
      go_wp2_with fail
      refine wp_region_later_lit (by kernel_rfl) (by kernel_rfl) ?_
      repeat (go_big_quiet_step (fail))
      refine wpQuiet_nil ?_
      rintro w' ⟨y, rfl⟩
      have hy8 := y.below.cell (p := ⟨o, 8, none⟩) hlt
      go_wp2_with fail
      go_at_call 55
      refine (wrong_any o p q n l s x' 11 x'.i y.w (HR.out.below y.below)).mono ?_
      rintro e w3 ⟨rfl, hR3, hB3⟩
      have H3 := Lib.hid hR3
      have HB3 := Lib.hid ((HB.out.trans (y.below.mono (Nat.le_of_lt hlt))).trans hB3)
      clear hR3 hB3
      go_wp2_with fail
      refine bodyPost_ret (v := .tuple #[.string g, .bool false]) (by simp [results, Tryd.results56, go_sem]) rfl ?_
      exact ⟨_, g, false, rfl, H3.out, HB3.out, fun h => (by cases h), fun _ => HD.out⟩

end Go.Proofs.YtajedohgcepkiaaDoor
