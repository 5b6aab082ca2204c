/-
  Walks: the program's run.
-/
import Derived.Test.YtmolcpfbbhmabaaRows
import Derived.Test.YtmolcpfbbhmabaaScanO
import Derived.Test.YtmolcpfbbhmabaaScanC
import Derived.Test.YtmolcpfbbhmabaaMem
import Derived.Test.YtmolcpfbbhmabaaScanT
import Derived.Deep.DeepCutAuto
import Derived.Deep.RegionWith
import Derived.BigRegion
import Derived.OwnWalk
import Derived.Laws.AppendOwnNone
import Derived.Great.BuildSlice
namespace Go.Proofs.Ytmolcpfbbhmabaa
open Go.RowKit

def evsC (l : List Ev) : List Value := l.flatMap evC
theorem evsC_len (l : List Ev) : (evsC l).length = l.length * 6 := by
  unfold evsC
  induction l with
  | nil => rfl
  | cons e l ih => rw [List.flatMap_cons, List.length_append, ih, List.length_cons]; show 6 + _ = _; omega
theorem evsC_snoc (l : List Ev) (e : Ev) : evsC (l ++ [e]) = evsC l ++ evC e := by unfold evsC; simp
theorem evC_one (e : Ev) : ∀ u ∈ evC e, u.oneCell' = true := by
  intro u hu
  unfold evC at hu
  simp at hu
  rcases hu with rfl | rfl | rfl | rfl | rfl | rfl <;> rfl

theorem box_six {w : World} {q : Nat} {t : TypeId} {a0 a1 a2 a3 a4 a5 : Value} (h : Box w q t #[a0, a1, a2, a3, a4, a5]) (v0 v1 v2 v3 v4 v5 : Value) : Box ((((((w.setCell ⟨q, 0, none⟩ v0).setCell ⟨q, 1, none⟩ v1).setCell ⟨q, 2, none⟩ v2).setCell ⟨q, 3, none⟩ v3).setCell ⟨q, 4, none⟩ v4).setCell ⟨q, 5, none⟩ v5) q t #[v0, v1, v2, v3, v4, v5] := (((((h.set 0 v0).set 1 v1).set 2 v2).set 3 v3).set 4 v4).set 5 v5

theorem ev_info : (Try.prog.info? 30).map (fun i => (i.zero, i.size, i.bytes)) = some (some (.agg #[.bool false, .bool false, .bool false, .bool false, .bool false, .int .u8 0]), 6, 6) := by kernel_rfl

theorem owns_less {w : World} {b0 b1 : Nat} {e : TypeId} {size n : Nat} {v : Value} {xs : List Value} (h : w.ownsRow b1 e size v n xs) (hb : b0 ≤ b1) : w.ownsRow b0 e size v n xs := by
  refine ⟨h.1, ?_⟩
  rcases h.2 with h2 | ⟨g, cap, cur, h3, h4, r⟩
  · exact .inl h2
  · exact .inr ⟨g, cap, cur, h3, Nat.le_trans hb h4, r⟩
theorem hnb2 {b : Nat} {v : Value} (h : ∀ g, v.ownBlock = some g → b + 2 ≤ g) : v.ownBlock = none ∨ v.ownBlock ≠ some (b + 1) := by
  cases e : v.ownBlock with
  | none => exact .inl rfl
  | some g => exact .inr (fun hc => by injection hc with hc; have := h g e; omega)
theorem hnb3 {b : Nat} {v : Value} (h : ∀ g, v.ownBlock = some g → b + 2 ≤ g) : some (b + 1) ≠ v.ownBlock := fun hc => by have := h _ hc.symm; omega

def RunPost (p q : Nat) (n : Int) (s : ByteArray) (w : World) (e : Ending) (w' : World) : Prop :=
  ∃ (k kind at_ : Nat) (v : Value), RunSays p q n s k kind at_ ∧ e = .returned (.tuple #[v, .agg #[.int .i64 kind, .int .i64 at_]]) ∧ w'.ownsRow w.heap.size 30 6 v k (evsC (evs p q n s k)) ∧ Below w.heap.size w w'

set_option maxHeartbeats 4000000 in
theorem run_any (p q : Nat) (n : Int) (s : ByteArray) (w : World) (hok : okB p q n = true) (hs : s.size ≤ 1000000) : Calls Try.prog 15 #[.agg #[.int .u8 p, .int .u8 q, .int .i64 n], .string s] w (RunPost p q n s w) := by
  have hcell := fun (W : World) (x : Later W) => x.cell
  have hfrozen := fun (W : World) (x : Later W) => x.frozen
  have hset := set_same
  go_enter Try.func15, Try.ntmps15
  go_wp2
  go_loopw [16, 6, 7] (fun i v st (wr : World) => ∃ k : Nat, k ≤ s.size ∧ i = .int .i64 k ∧ st = .int .i64 (stA p q n s k) ∧ okTo p q n s k ∧ wr.ownsRow (w.heap.size + 2) 30 6 v k (evsC (evs p q n s k)) ∧
    Box wr w.heap.size 23 #[.int .u8 p, .int .u8 q, .int .i64 n] ∧ Box wr (w.heap.size + 1) 47 #[.int .i64 0, .int .i64 0] ∧ Below w.heap.size w wr) (fun i _ _ _ => s.size - (intOf i).toNat)
  case atStart =>
    refine ⟨0, by omega, rfl, rfl, (fun j hj => by omega), World.ownsRow_nil _ _ _ _, (Box.new w _ _).alloc _, ?_, ?_⟩
    · have := Box.new (w.alloc (.cells #[.int .u8 p, .int .u8 q, .int .i64 n] 23)) 47 #[.int .i64 0, .int .i64 0]
      simpa using this
    · (repeat (first | (with_reducible exact Below.refl _ _) | (with_reducible refine later_below _ ?_) | (with_reducible refine alloc_below ?_ _) | (with_reducible refine Below.drew ?_) | (refine Below.setCell ?_ (by first | exact Nat.le_refl _ | (simp; done) | (simp; omega) | omega) _)))
  case round =>
    obtain ⟨k, hk, rfl, rfl, hto, hown, hbd, hbf, hb⟩ := hrel
    have hblk : ∀ g, u6.ownBlock = some g → w.heap.size + 2 ≤ g := fun g hg => (hown.lt g hg).1
    have hlt : w.heap.size < wr.heap.size := hbd.lt
    have hlt2 : w.heap.size + 1 < wr.heap.size := hbf.lt
    have HBK := Lib.hid hblk
    clear hblk
    by_cases c1 : k < s.size
    · have e1 : decide (k < s.size) = true := decide_eq_true c1
      have i1 : (k : Int) < (s.size : Int) := by omega
      have d1 : decide ((k : Int) < (s.size : Int)) = true := decide_eq_true i1
      have b1 := byt_eq s k c1
      obtain ⟨o, ho⟩ : ∃ o, stepV p q n (stA p q n s k) (bytN s k) = o := ⟨_, rfl⟩
      have hat : atV p q n s k = o := by unfold atV; rw [if_pos c1, ho]
      have hst : stA p q n s (k + 1) = o.to_ := by rw [← ho]; rfl
      have HC := Lib.hid (show ∀ W, Calls Try.prog 10 #[.agg #[.int .u8 p, .int .u8 q, .int .i64 n], .int .i64 (stA p q n s k), .int .u8 (byt s k)] W (Gives (.tuple #[.agg #[.bool o.ev.be, .bool o.ev.ad, .bool o.ev.fi, .bool o.ev.li, .bool o.ev.re, .int .u8 o.ev.by_], .int .i64 o.to_, .int .i64 o.er]) W) from fun W => by rw [← bytN_is]; exact ho ▸ step_any p q _ _ n W (sta_le p q n s k) hok)
      have q0 : wr.cell? ⟨w.heap.size, 0, none⟩ = some (.int .u8 p) := hbd.cell 0
      have q1 : wr.cell? ⟨w.heap.size, 1, none⟩ = some (.int .u8 q) := hbd.cell 1
      have q2 : wr.cell? ⟨w.heap.size, 2, none⟩ = some (.int .i64 n) := hbd.cell 2
      have q0' : wr.drew.cell? ⟨w.heap.size, 0, none⟩ = some (.int .u8 p) := q0
      have q1' : wr.drew.cell? ⟨w.heap.size, 1, none⟩ = some (.int .u8 q) := q1
      have q2' : wr.drew.cell? ⟨w.heap.size, 2, none⟩ = some (.int .i64 n) := q2
      have hk0 : (0 : Int) ≤ (k : Int) := by omega
      have HO := Lib.hid hown
      have HD := Lib.hid hbd
      have HF := Lib.hid hbf
      have HB := Lib.hid hb
      have HT := Lib.hid hto
      have HA := Lib.hid hat
      have HS := Lib.hid hst
      clear hown hbd hbf hb hto ho hok hat hst
      go_upto_region 6 with (fail)
      go_cut [9, 10, 11] (fun z9 z10 z11 wx => ∃ g, z9 = .pointer (some ⟨g, 0, none⟩) ∧ z10 = .int .i64 o.to_ ∧ z11 = .int .i64 o.er ∧ Box wx g 30 #[.bool o.ev.be, .bool o.ev.ad, .bool o.ev.fi, .bool o.ev.li, .bool o.ev.re, .int .u8 o.ev.by_] ∧ Below wr.heap.size wr wx ∧ wr.heap.size ≤ g)
      case first =>
        go_region_with (first | (go_at_call 10; refine (call_later (HC.out _)).mono ?_; rintro e w' ⟨rfl, x, rfl⟩; (try have y0 : x.w.cell? ⟨wr.heap.size, 0, none⟩ = some (.bool false) := (by simp [hcell]; done)); (try have z0 : x.w.frozen? ⟨wr.heap.size, 0, none⟩ = false := (by simp [hfrozen]; done)); (try have y1 : x.w.cell? ⟨wr.heap.size, 1, none⟩ = some (.bool false) := (by simp [hcell]; done)); (try have z1 : x.w.frozen? ⟨wr.heap.size, 1, none⟩ = false := (by simp [hfrozen]; done)); (try have y2 : x.w.cell? ⟨wr.heap.size, 2, none⟩ = some (.bool false) := (by simp [hcell]; done)); (try have z2 : x.w.frozen? ⟨wr.heap.size, 2, none⟩ = false := (by simp [hfrozen]; done)); (try have y3 : x.w.cell? ⟨wr.heap.size, 3, none⟩ = some (.bool false) := (by simp [hcell]; done)); (try have z3 : x.w.frozen? ⟨wr.heap.size, 3, none⟩ = false := (by simp [hfrozen]; done)); (try have y4 : x.w.cell? ⟨wr.heap.size, 4, none⟩ = some (.bool false) := (by simp [hcell]; done)); (try have z4 : x.w.frozen? ⟨wr.heap.size, 4, none⟩ = false := (by simp [hfrozen]; done)); (try have y5 : x.w.cell? ⟨wr.heap.size, 5, none⟩ = some (.int .u8 0) := (by simp [hcell]; done)); (try have z5 : x.w.frozen? ⟨wr.heap.size, 5, none⟩ = false := (by simp [hfrozen]; done))))
        all_goals
          go_wp2_with fail
          go_meet
          refine ⟨_, rfl, rfl, rfl, ?_, ?_, ?_⟩
          · first
              | with_reducible exact Box.new _ _ _
              | with_reducible exact box_six (show Box x.w wr.heap.size 30 #[.bool false, .bool false, .bool false, .bool false, .bool false, .int .u8 0] from (Box.new wr.drew _ _).below x.below (by simp)) _ _ _ _ _ _
          · (repeat (first | (with_reducible exact Below.refl _ _) | (with_reducible refine later_below _ ?_) | (with_reducible refine alloc_below ?_ _) | (with_reducible refine Below.drew ?_) | (refine Below.setCell ?_ (by first | exact Nat.le_refl _ | (simp; done) | (simp; omega) | omega) _)))
          · first
              | exact Nat.le_refl _
              | exact x.size
      case rest =>
        obtain ⟨g, rfl, rfl, rfl, hbe, hbw, hg⟩ := hcut
        have hglt := hbe.lt
        have r0 : wc.cell? ⟨g, 0, none⟩ = some (.bool o.ev.be) := hbe.cell 0
        have r1 : wc.cell? ⟨g, 1, none⟩ = some (.bool o.ev.ad) := hbe.cell 1
        have r2 : wc.cell? ⟨g, 2, none⟩ = some (.bool o.ev.fi) := hbe.cell 2
        have r3 : wc.cell? ⟨g, 3, none⟩ = some (.bool o.ev.li) := hbe.cell 3
        have r4 : wc.cell? ⟨g, 4, none⟩ = some (.bool o.ev.re) := hbe.cell 4
        have r5 : wc.cell? ⟨g, 5, none⟩ = some (.int .u8 o.ev.by_) := hbe.cell 5
        have hown' := HO.out.kept (grown_below hbw none) (by cases u6.ownBlock <;> simp)
        have hbd' := HD.out.below hbw hlt
        have hbf' := HF.out.below hbw hlt2
        have hsz := hbw.size
        by_cases hz : o.er = 0
        · have z1 : ((o.er : Int) != 0) = false := by simp [hz]
          have z2 : decide ((o.er : Int) = 0) = true := decide_eq_true (by omega)
          have z3 : ((o.er : Int) == 0) = true := by simp [hz]
          have HO' := Lib.hid (hown'.alloc (.cells #[.bool o.ev.be, .bool o.ev.ad, .bool o.ev.fi, .bool o.ev.li, .bool o.ev.re, .int .u8 o.ev.by_] 30))
          have HN := Lib.hid (Box.new wc 30 #[.bool o.ev.be, .bool o.ev.ad, .bool o.ev.fi, .bool o.ev.li, .bool o.ev.re, .int .u8 o.ev.by_])
          have HBW := Lib.hid hbw
          have HD' := Lib.hid hbd'
          have HF' := Lib.hid hbf'
          have HZ := Lib.hid hz
          clear hown' hbe hbw hbd' hbf' hz
          obtain ⟨ie, hi, hzz, hsize, hbytes⟩ := info_parts ev_info
          go_wp2_with (at_builtin; refine wpList_append_own _ rfl (.tmp 35) (.tmp 37) 45 rfl (w.heap.size + 2) 30 ie _ 6 _ Try.underlying45 hi hzz hsize hbytes rfl (by omega) u6 k _ rfl HO'.out ⟨wc.heap.size, 0, none⟩ 1 1 (evC o.ev) rfl rfl (by intro j u hu; rw [add_zero_off, HN.out.cell]; simpa [evC] using hu) (evC_one _) (by unfold maxLen; omega) (by omega) (by simp; omega) ?_; intro v2 w2 ho2 hg2 _hn2)
          go_roundw
          case rel =>
            have hbx : Below w.heap.size w w2 := (((HB.out.trans (HBW.out.mono (by omega))).alloc (by have := HB.out.size; omega) _)).grown hg2 (by simp; have := HB.out.size; omega) (fun g hg => by have := HBK.out g hg; omega)
            have hnb : ∀ i, i < w.heap.size + 2 → some i ≠ u6.ownBlock := fun i hi hc => by have := HBK.out i hc.symm; omega
            refine ⟨k + 1, by omega, by go_num, ?_, ?_, ?_, ?_, ?_, hbx⟩
            · rw [HS.out]
            · intro j hj
              by_cases e : j = k
              · rw [e, HA.out]; exact HZ.out
              · exact HT.out j (by omega)
            · rw [evs_succ, evsC_snoc, HA.out]; exact ho2
            · exact (HD'.out.alloc _).grown hg2 (hnb _ (by omega))
            · exact (HF'.out.alloc _).grown hg2 (hnb _ (by omega))
          case measure => simp [intOf]; omega
        · have z1 : ((o.er : Int) != 0) = true := by simp [hz]
          have z2 : decide ((o.er : Int) = 0) = false := decide_eq_false (by omega)
          have z3 : ((o.er : Int) == 0) = false := by simp [hz]
          have f0 := hbf'.cell 0
          have f1 := hbf'.cell 1
          have ff := hbf'.frozen
          have HOW := Lib.hid hown'
          have hBB : Below w.heap.size w wc := HB.out.trans (hbw.mono (by omega))
          have HBB := Lib.hid hBB
          have HBT := HBK
          have HZ := Lib.hid hz
          clear hown' hbe hbw hbd' hbf' hz hBB
          go_wp2_with fail
          refine bodyPost_ret (v := .tuple #[u6, .agg #[.int .i64 o.er, .int .i64 k]]) (by simp (maxDischargeDepth := 8) [results, Try.results15, go_sem, hset, f0, f1]) rfl ⟨k, o.er, k, u6, ⟨by omega, HT.out, .inl ⟨hk, by rw [HA.out]; exact HZ.out, by rw [HA.out], rfl⟩⟩, rfl, ?_, ?_⟩
          · exact owns_less ((HOW.out.kept (grown_set _ _ _ _) (hnb2 HBT.out)).kept (grown_set _ _ _ _) (hnb2 HBT.out)) (by omega)
          · exact Below.setCell (Below.setCell HBB.out (by simp) _) (by simp) _
    · obtain rfl : k = s.size := by omega
      have e1 : decide (s.size < s.size) = false := decide_eq_false c1
      have i1 : ¬ (s.size : Int) < (s.size : Int) := by omega
      have d1 : decide ((s.size : Int) < (s.size : Int)) = false := decide_eq_false i1
      obtain ⟨o, ho⟩ : ∃ o, closeV (stA p q n s s.size) = o := ⟨_, rfl⟩
      have hat : atV p q n s s.size = o := by unfold atV; rw [if_neg (Nat.lt_irrefl _), ho]
      have HC := Lib.hid (show ∀ W, Calls Try.prog 13 #[.int .i64 (stA p q n s s.size)] W (Gives (.tuple #[.agg #[.bool o.ev.be, .bool o.ev.ad, .bool o.ev.fi, .bool o.ev.li, .bool o.ev.re, .int .u8 o.ev.by_], .int .i64 o.er]) W) from fun W => by have h := close_any _ W (sta_le p q n s s.size); unfold closeP at h; rw [ho] at h; exact h)
      have HO := Lib.hid hown
      have HF := Lib.hid hbf
      have HB := Lib.hid hb
      have HT := Lib.hid hto
      have HA := Lib.hid hat
      have HBT := HBK
      have HBD := Lib.hid hbd
      clear hown hbf hb hto ho hok hat hbd
      by_cases hz : o.er = 0
      · have z1 : ((o.er : Int) != 0) = false := by simp [hz]
        have z2 : decide ((o.er : Int) = 0) = true := decide_eq_true (by omega)
        have z3 : ((o.er : Int) == 0) = true := by simp [hz]
        have HZ := Lib.hid hz
        clear hz
        obtain ⟨ie, hi, hzz, hsize, hbytes⟩ := info_parts ev_info
        go_upto_region 15 with ((go_at_call 13; (first | (with_reducible refine (later_call _ (HC.out _)).mono ?_) | (with_reducible refine (call_later (HC.out _)).mono ?_)); rintro e w' ⟨rfl, x, rfl⟩))
        refine at_world ?_
        intro W0 hW
        have hbW : Below wr.heap.size wr W0 := by rw [← hW]; (repeat (first | (with_reducible exact Below.refl _ _) | (with_reducible refine later_below _ ?_) | (with_reducible refine alloc_below ?_ _) | (with_reducible refine Below.drew ?_) | (refine Below.setCell ?_ (by first | exact Nat.le_refl _ | (simp; done) | (simp; omega) | omega) _)))
        have hbE : Box W0 x.w.heap.size 30 #[.bool o.ev.be, .bool o.ev.ad, .bool o.ev.fi, .bool o.ev.li, .bool o.ev.re, .int .u8 o.ev.by_] := by rw [← hW]; exact Box.new _ _ _
        have r0 : W0.cell? ⟨x.w.heap.size, 0, none⟩ = some (.bool o.ev.be) := hbE.cell 0
        have r1 : W0.cell? ⟨x.w.heap.size, 1, none⟩ = some (.bool o.ev.ad) := hbE.cell 1
        have r2 : W0.cell? ⟨x.w.heap.size, 2, none⟩ = some (.bool o.ev.fi) := hbE.cell 2
        have r3 : W0.cell? ⟨x.w.heap.size, 3, none⟩ = some (.bool o.ev.li) := hbE.cell 3
        have r4 : W0.cell? ⟨x.w.heap.size, 4, none⟩ = some (.bool o.ev.re) := hbE.cell 4
        have r5 : W0.cell? ⟨x.w.heap.size, 5, none⟩ = some (.int .u8 o.ev.by_) := hbE.cell 5
        have hglt := hbE.lt
        have hown' := (HO.out.kept (grown_below hbW none) (by cases u6.ownBlock <;> simp)).alloc (.cells #[.bool o.ev.be, .bool o.ev.ad, .bool o.ev.fi, .bool o.ev.li, .bool o.ev.re, .int .u8 o.ev.by_] 30)
        have HO' := Lib.hid hown'
        have HF' := Lib.hid ((HF.out.below hbW hlt2).alloc (.cells #[.bool o.ev.be, .bool o.ev.ad, .bool o.ev.fi, .bool o.ev.li, .bool o.ev.re, .int .u8 o.ev.by_] 30))
        have HN := Lib.hid (Box.new W0 30 #[.bool o.ev.be, .bool o.ev.ad, .bool o.ev.fi, .bool o.ev.li, .bool o.ev.re, .int .u8 o.ev.by_])
        have hBB : Below w.heap.size w W0 := HB.out.trans (hbW.mono (by omega))
        have HBB := Lib.hid hBB
        have hsz := hbW.size
        clear hW hbW hown' hbE hBB
        go_wp2_with (at_builtin; refine wpList_append_own _ rfl (.tmp 53) (.tmp 55) 45 rfl (w.heap.size + 2) 30 ie _ 6 _ Try.underlying45 hi hzz hsize hbytes rfl (by omega) u6 s.size _ rfl HO'.out ⟨W0.heap.size, 0, none⟩ 1 1 (evC o.ev) rfl rfl (by intro j u hu; rw [add_zero_off, HN.out.cell]; simpa [evC] using hu) (evC_one _) (by unfold maxLen; omega) (by omega) (by simp; omega) ?_; intro v2 w2 ho2 hg2 _hn2; have hF2 := HF'.out.grown hg2 (hnb3 HBT.out); have f0 := hF2.cell 0; have f1 := hF2.cell 1; have f2 := hF2.frozen 0; have f3 := hF2.frozen 1)
        refine bodyPost_ret (v := .tuple #[v2, .agg #[.int .i64 0, .int .i64 0]]) (by simp (maxDischargeDepth := 8) [results, Try.results15, go_sem, hset, f0, f1]) rfl ⟨s.size + 1, 0, 0, v2, ⟨Nat.le_refl _, ?_, .inr ⟨rfl, rfl, rfl⟩⟩, rfl, ?_, ?_⟩
        · intro j hj
          by_cases e : j = s.size
          · rw [e, HA.out]; exact HZ.out
          · exact HT.out j (by omega)
        · rw [evs_succ, evsC_snoc, HA.out]
          have hv2 : ∀ g, v2.ownBlock = some g → w.heap.size + 2 ≤ g := fun g hg => (ho2.lt g hg).1
          exact owns_less ((ho2.kept (grown_set _ _ _ _) (hnb2 hv2)).kept (grown_set _ _ _ _) (hnb2 hv2)) (by omega)
        · have hbx : Below w.heap.size w w2 := (HBB.out.alloc (by have := HB.out.size; omega) _).grown hg2 (by simp; have := HB.out.size; omega) (fun g hg => by have := HBT.out g hg; omega)
          exact Below.setCell (Below.setCell hbx (by simp) _) (by simp) _
      · have z1 : ((o.er : Int) != 0) = true := by simp [hz]
        have z2 : decide ((o.er : Int) = 0) = false := decide_eq_false (by omega)
        have z3 : ((o.er : Int) == 0) = false := by simp [hz]
        have HZ := Lib.hid hz
        clear hz
        go_upto_region 14 with ((go_at_call 13; (first | (with_reducible refine (later_call _ (HC.out _)).mono ?_) | (with_reducible refine (call_later (HC.out _)).mono ?_)); rintro e w' ⟨rfl, x, rfl⟩))
        refine at_world ?_
        intro W0 hW
        have hbW : Below wr.heap.size wr W0 := by rw [← hW]; (repeat (first | (with_reducible exact Below.refl _ _) | (with_reducible refine later_below _ ?_) | (with_reducible refine alloc_below ?_ _) | (with_reducible refine Below.drew ?_) | (refine Below.setCell ?_ (by first | exact Nat.le_refl _ | (simp; done) | (simp; omega) | omega) _)))
        have hF2 := HF.out.below hbW hlt2
        have f0 := hF2.cell 0
        have f1 := hF2.cell 1
        have f2 := hF2.frozen 0
        have f3 := hF2.frozen 1
        have HOW := Lib.hid (HO.out.kept (grown_below hbW none) (by cases u6.ownBlock <;> simp))
        have hBB : Below w.heap.size w W0 := HB.out.trans (hbW.mono (by omega))
        have HBB := Lib.hid hBB
        clear hW hbW hF2 hBB
        go_wp2_with fail
        refine bodyPost_ret (v := .tuple #[u6, .agg #[.int .i64 o.er, .int .i64 s.size]]) (by simp (maxDischargeDepth := 8) [results, Try.results15, go_sem, hset, f0, f1]) rfl ⟨s.size, o.er, s.size, u6, ⟨by omega, HT.out, .inl ⟨Nat.le_refl _, by rw [HA.out]; exact HZ.out, by rw [HA.out], rfl⟩⟩, rfl, ?_, ?_⟩
        · exact owns_less ((HOW.out.kept (grown_set _ _ _ _) (hnb2 HBT.out)).kept (grown_set _ _ _ _) (hnb2 HBT.out)) (by omega)
        · exact Below.setCell (Below.setCell HBB.out (by simp) _) (by simp) _

end Go.Proofs.Ytmolcpfbbhmabaa
