/-
  A region that draws its order, within a round of a range over a function.
-/
import Derived.Test.YtdkdbmiafnadmaaRng
import Derived.Deep.Quiet
import Derived.OrdersIn
import Derived.Deep.RegionHeld
namespace Go.Proofs.Ytdkdbmiafnadmaa
open Go.RowKit

def noDefer (o : Oper) : Bool := match o.op with
  | .defer _ => false
  | _ => true
theorem noDefer_ne {o : Oper} (h : noDefer o = true) : ∀ c, o.op ≠ .defer c := by
  intro c hc
  unfold noDefer at h
  rw [hc] at h
  cases h

variable {P : Program} {ops : Array Oper}

theorem quiet_round {n l : Nat} {C : World → Prop} {o : Oper} {a : Act} {K : Act → Prop} {K' : Act → World → Prop} {Q' : Exit → Act → World → Prop} {w : World} (hd : noDefer o = true) (hw : C w) (h : ∀ a w', C w' → K a → K' a w') (hh : o.quiet P a C K) :
    o.wpIn (Fence.wide.inRound l) n P a w K' Q' := by
  obtain ⟨v, h1, h2⟩ := hh
  have h3 := h1 w hw
  refine ⟨fun _ _ => trivial, ?_⟩
  rw [Oper.semAt_eq _ _ _ (noDefer_ne hd)]
  unfold Oper.quietAt at h3
  generalize (execOp a.eval o).run P w = r at *
  cases r with
  | ok x w' =>
    cases x <;> simp only [Oper.quietUpon] at h3 <;> simp only [Oper.uponIn]
    case value u => obtain ⟨e1, e2⟩ := h3; rw [e1, e2]; exact h _ _ hw h2
    case skip => obtain ⟨e1, e2⟩ := h3; rw [e1, ← e2]; exact h _ _ hw h2
    case enter f args =>
      obtain ⟨e1, hc⟩ := h3
      rw [e1]
      refine ⟨(fun e => by cases e), ?_⟩
      refine (CallsIn.inRound l (callsIn_wide.2 hc)).mono ?_
      rintro e w'' ⟨rfl, hw''⟩
      exact h _ _ hw'' h2
  | halt x w' => simp only [Oper.quietUpon] at h3

theorem quiet_roundOp {n l i : Nat} {C : World → Prop} {a : Act} {K : Act → Prop} {K' : Act → World → Prop} {Q' : Exit → Act → World → Prop} {w : World} (hd : ∀ o, ops[i]? = some o → noDefer o = true) (hw : C w) (h : ∀ a w', C w' → K a → K' a w') (hh : qOp P ops C i K a) :
    wpOpIn (Fence.wide.inRound l) n P ops Q' i K' a w := by
  unfold qOp at hh
  unfold wpOpIn
  split
  · rename_i ho; simp only [ho] at hh; exact h _ _ hw hh
  · rename_i o ho
    simp only [ho] at hh
    split
    · rename_i hwt; simp only [hwt, if_true] at hh; exact quiet_round (hd o ho) hw h hh
    · rename_i hwt; simp only [hwt] at hh; exact ⟨fun _ _ => trivial, h _ _ hw hh⟩

theorem quiet_roundAny {n l : Nat} {md : Region.Mode} {C : World → Prop} {Q : Act → Prop} {Q' : Exit → Act → World → Prop} (hd : ∀ (i : Nat) (o : Oper), ops[i]? = some o → noDefer o = true) (hQ : ∀ a w, C w → Q a → Q' .normal a w) : ∀ (fuel : Nat) (listed : Array Bool) (a : Act) (w : World), C w →
    wpAnyQ P md ops C Q fuel listed a → wpAnyIn (Fence.wide.inRound l) n P md ops Q' fuel listed a w
  | 0, _, _, _, hw, h => ⟨h.1, hQ _ _ hw h.2⟩
  | fuel + 1, _, _, _, hw, h => ⟨fun h0 => hQ _ _ hw (h.1 h0), fun i hi => quiet_roundOp (hd i) hw (fun a' w' hw' => quiet_roundAny hd hQ fuel _ a' w' hw') (h.2 i hi)⟩

/-- One walk of the text's order serves every order. -/
theorem region_round {id n l : Nat} {C : World → Prop} {Q : Exit → Act → World → Prop} {a : Act} {w : World} {lo : List Oper} (hd : lo.all noDefer = true) (hm : P.follows .mixedOrders = true) (hB : Region.lexB .any lo.toArray = true) (hC : C w.drew)
    (h : wpQuiet P lo.toArray C (fun a' => ∀ w', C w' → Q .normal a' w') lo a) : (Code.region id lo.toArray true).wpIn (Fence.wide.inRound l) n P Q a w := by
  simp only [Region.lexB, Bool.and_eq_true] at hB
  refine wpIn_region_any hm (quiet_roundAny (Q := fun a' => ∀ w', C w' → Q .normal a' w') ?_ (fun _ w' hw' h => h w' hw') _ _ _ _ hC ?_)
  · intro i o ho
    have hm' : o ∈ lo := by
      have : lo[i]? = some o := by simpa using ho
      exact List.mem_of_getElem? this
    exact List.all_eq_true.1 hd o hm'
  · have := wpAnyQ_lex (C := C) (md := .any) hB.1 lo 0 (Array.replicate lo.toArray.size false) a (by simp) (by simpa using hB.2) h
    simpa using this

theorem rows_wide {n l : Nat} {row : String} {args : Array Value} {w : World} {R : Value → World → Prop} (h : Rows P row args w R) : RowsIn (Fence.wide.inRound l) n P row args w R :=
  fun c cs _ => let ⟨v, w', r, s⟩ := h c cs; ⟨v, w', r, (stepsIn_wide (P := P)).2 s⟩

theorem plain_round {n l : Nat} {o : Oper} {a : Act} {K K' : Act → World → Prop} {Q : Exit → Act → World → Prop} {w : World} (hd : noDefer o = true) (h : ∀ a w', K a w' → K' a w') (hh : o.wp P a w K Q) :
    o.wpIn (Fence.wide.inRound l) n P a w K' Q := by
  refine ⟨fun _ _ => trivial, ?_⟩
  rw [Oper.semAt_eq _ _ _ (noDefer_ne hd)]
  unfold Oper.wp at hh
  generalize (execOp a.eval o).run P w = r at *
  cases r with
  | ok x w' =>
    cases x <;> simp only [Oper.upon] at hh <;> simp only [Oper.uponIn]
    case value u => exact h _ _ hh
    case skip => exact h _ _ hh
    case defer d => exact h _ _ hh
    case enter f args =>
      refine ⟨(fun e => by cases e), ?_⟩
      refine (CallsIn.inRound l (callsIn_wide.2 hh)).mono ?_
      intro e w'' he
      cases e with
      | returned v => exact h _ _ he
      | panicked c => exact he
      | outgrown => exact he
    case row row args =>
      refine ⟨(fun e => by cases e), ?_⟩
      exact RowsIn.mono (rows_wide hh) (fun _ _ he => h _ _ he)
  | halt x w' => cases x <;> simp only [Oper.upon] at hh <;> simp only [Oper.uponIn] <;> exact hh

theorem plain_roundAny {n l : Nat} {md : Region.Mode} {Q : Exit → Act → World → Prop} (hd : ∀ (i : Nat) (o : Oper), ops[i]? = some o → noDefer o = true) (hQ : ¬ LetsOut Q) : ∀ (fuel : Nat) (listed : Array Bool) (a : Act) (w : World),
    wpAny P md ops Q fuel listed a w → wpAnyIn (Fence.wide.inRound l) n P md ops Q fuel listed a w
  | 0, _, _, _, h => h
  | fuel + 1, listed, a, w, h => ⟨h.1, fun i hi => by
      have hh := h.2 i hi
      unfold wpOp at hh
      unfold wpOpIn
      split
      · rename_i ho; simp only [ho] at hh; exact plain_roundAny hd hQ fuel _ _ _ hh
      · rename_i o ho
        simp only [ho] at hh
        split
        · rename_i hwt
          simp only [hwt, if_true] at hh
          exact hh.elim (plain_round (hd i o ho) (fun a' w' => plain_roundAny hd hQ fuel _ a' w')) (fun h => absurd h.2 hQ)
        · rename_i hwt; simp only [hwt] at hh; exact ⟨fun _ _ => trivial, plain_roundAny hd hQ fuel _ _ _ hh⟩⟩

/-- A condition on the world that all of the region keeps. -/
theorem region_round_held {id n l : Nat} {S : World → Prop} {Q : Exit → Act → World → Prop} {a : Act} {w : World} {lo : List Oper} (hd : lo.all noDefer = true) (hQ : ¬ LetsOut Q) (hm : P.follows .mixedOrders = true) (hS : S w.drew)
    (h : S w.drew → wpAnyH P .any lo.toArray Q S lo.length (Array.replicate lo.length false) a w.drew) : (Code.region id lo.toArray true).wpIn (Fence.wide.inRound l) n P Q a w := by
  refine wpIn_region_any hm (plain_roundAny ?_ hQ _ _ _ _ (wpAny_of_held _ _ _ _ (by simpa using h hS)))
  intro i o ho
  have hm' : o ∈ lo := by
    have : lo[i]? = some o := by simpa using ho
    exact List.mem_of_getElem? this
  exact List.all_eq_true.1 hd o hm'

theorem region_round_later {id n l : Nat} {Q : Exit → Act → World → Prop} {a : Act} {W : World} {lo : List Oper} (hd : lo.all noDefer = true) (hm : P.follows .mixedOrders = true) (hB : Region.lexB .any lo.toArray = true)
    (h : wpQuiet P lo.toArray (fun w' => ∃ x : Later W, w' = x.w) (fun a' => ∀ w', (∃ x : Later W, w' = x.w) → Q .normal a' w') lo a) : (Code.region id lo.toArray true).wpIn (Fence.wide.inRound l) n P Q a W :=
  region_round (C := fun w' => ∃ x : Later W, w' = x.w) hd hm hB ⟨⟨W.drew, (Below.refl _ _).drew⟩, rfl⟩ h

end Go.Proofs.Ytdkdbmiafnadmaa
