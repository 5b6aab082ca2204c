/-
  A region that draws its order, within a round of a range over a function.
-/
import Derived.Test.YtmfhnmdgcjlnpaaRng
import Derived.Deep.Quiet
import Derived.OrdersIn
namespace Go.Proofs.Ytmfhnmdgcjlnpaa
open Go.RowKit

def noDefer (o : Oper) : Bool := match o.op with
  | .defer _ => false
  | _ => true
theorem noDefer_ne {o : Oper} (h : noDefer o = true) : ∀ c, o.op ≠ .defer c := by
  intro c hc
  unfold noDefer at h
  rw [hc] at h
  cases h

variable {P : Program} {ops : Array Oper}

theorem quiet_round {n l : Nat} {C : World → Prop} {o : Oper} {a : Act} {K : Act → Prop} {K' : Act → World → Prop} {Q' : Exit → Act → World → Prop} {w : World} (hd : noDefer o = true) (hw : C w) (h : ∀ a w', C w' → K a → K' a w') (hh : o.quiet P a C K) :
    o.wpIn (Fence.wide.inRound l) n P a w K' Q' := by
  obtain ⟨v, h1, h2⟩ := hh
  have h3 := h1 w hw
  refine ⟨fun _ _ => trivial, ?_⟩
  rw [Oper.semAt_eq _ _ _ (noDefer_ne hd)]
  unfold Oper.quietAt at h3
  generalize (execOp a.eval o).run P w = r at *
  cases r with
  | ok x w' =>
    cases x <;> simp only [Oper.quietUpon] at h3 <;> simp only [Oper.uponIn]
    case value u => obtain ⟨e1, e2⟩ := h3; rw [e1, e2]; exact h _ _ hw h2
    case skip => obtain ⟨e1, e2⟩ := h3; rw [e1, ← e2]; exact h _ _ hw h2
    case enter f args =>
      obtain ⟨e1, hc⟩ := h3
      rw [e1]
      refine ⟨(fun e => by cases e), ?_⟩
      refine (CallsIn.inRound l (callsIn_wide.2 hc)).mono ?_
      rintro e w'' ⟨rfl, hw''⟩
      exact h _ _ hw'' h2
  | halt x w' => simp only [Oper.quietUpon] at h3

theorem quiet_roundOp {n l i : Nat} {C : World → Prop} {a : Act} {K : Act → Prop} {K' : Act → World → Prop} {Q' : Exit → Act → World → Prop} {w : World} (hd : ∀ o, ops[i]? = some o → noDefer o = true) (hw : C w) (h : ∀ a w', C w' → K a → K' a w') (hh : qOp P ops C i K a) :
    wpOpIn (Fence.wide.inRound l) n P ops Q' i K' a w := by
  unfold qOp at hh
  unfold wpOpIn
  split
  · rename_i ho; simp only [ho] at hh; exact h _ _ hw hh
  · rename_i o ho
    simp only [ho] at hh
    split
    · rename_i hwt; simp only [hwt, if_true] at hh; exact quiet_round (hd o ho) hw h hh
    · rename_i hwt; simp only [hwt] at hh; exact ⟨fun _ _ => trivial, h _ _ hw hh⟩

theorem quiet_roundAny {n l : Nat} {md : Region.Mode} {C : World → Prop} {Q : Act → Prop} {Q' : Exit → Act → World → Prop} (hd : ∀ (i : Nat) (o : Oper), ops[i]? = some o → noDefer o = true) (hQ : ∀ a w, C w → Q a → Q' .normal a w) : ∀ (fuel : Nat) (listed : Array Bool) (a : Act) (w : World), C w →
    wpAnyQ P md ops C Q fuel listed a → wpAnyIn (Fence.wide.inRound l) n P md ops Q' fuel listed a w
  | 0, _, _, _, hw, h => ⟨h.1, hQ _ _ hw h.2⟩
  | fuel + 1, _, _, _, hw, h => ⟨fun h0 => hQ _ _ hw (h.1 h0), fun i hi => quiet_roundOp (hd i) hw (fun a' w' hw' => quiet_roundAny hd hQ fuel _ a' w' hw') (h.2 i hi)⟩

/-- One walk of the text's order serves every order. -/
theorem region_round {id n l : Nat} {C : World → Prop} {Q : Exit → Act → World → Prop} {a : Act} {w : World} {lo : List Oper} (hd : lo.all noDefer = true) (hm : P.follows .mixedOrders = true) (hB : Region.lexB .any lo.toArray = true) (hC : C w.drew)
    (h : wpQuiet P lo.toArray C (fun a' => ∀ w', C w' → Q .normal a' w') lo a) : (Code.region id lo.toArray true).wpIn (Fence.wide.inRound l) n P Q a w := by
  simp only [Region.lexB, Bool.and_eq_true] at hB
  refine wpIn_region_any hm (quiet_roundAny (Q := fun a' => ∀ w', C w' → Q .normal a' w') ?_ (fun _ w' hw' h => h w' hw') _ _ _ _ hC ?_)
  · intro i o ho
    have hm' : o ∈ lo := by
      have : lo[i]? = some o := by simpa using ho
      exact List.mem_of_getElem? this
    exact List.all_eq_true.1 hd o hm'
  · have := wpAnyQ_lex (C := C) (md := .any) hB.1 lo 0 (Array.replicate lo.toArray.size false) a (by simp) (by simpa using hB.2) h
    simpa using this

theorem region_round_later {id n l : Nat} {Q : Exit → Act → World → Prop} {a : Act} {W : World} {lo : List Oper} (hd : lo.all noDefer = true) (hm : P.follows .mixedOrders = true) (hB : Region.lexB .any lo.toArray = true)
    (h : wpQuiet P lo.toArray (fun w' => ∃ x : Later W, w' = x.w) (fun a' => ∀ w', (∃ x : Later W, w' = x.w) → Q .normal a' w') lo a) : (Code.region id lo.toArray true).wpIn (Fence.wide.inRound l) n P Q a W :=
  region_round (C := fun w' => ∃ x : Later W, w' = x.w) hd hm hB ⟨⟨W.drew, (Below.refl _ _).drew⟩, rfl⟩ h

end Go.Proofs.Ytmfhnmdgcjlnpaa
