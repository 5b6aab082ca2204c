/-
  A range over a function whose rounds are handed memory of their own: what an iterator owes, and what its caller owes.
-/
import Derived.Test.YtdkdbmiafnadmaaKeep
import Derived.RangeFuncSeq
import Derived.RangeFuncCalls
import Derived.RangeFuncLeaves
namespace Go.Proofs.Ytdkdbmiafnadmaa
open Go.RowKit

/-- What stays as it is, whatever is done to blocks from B on. -/
def Stab {α : Type} (B : Nat) (J : α → World → Prop) : Prop := ∀ i W W', J i W → Keeps W W' (fun k => B ≤ k) → J i W'
theorem Stab.more {α : Type} {B B' : Nat} {J : α → World → Prop} (h : Stab B J) (hB : B ≤ B') : Stab B' J := fun i W W' hj hk => h i W W' hj (hk.mono (fun _ _ h => Nat.le_trans hB h))
theorem keeps_put {W : World} {l : Nat} (o : Obj) : Keeps W (W.putObj l o) (fun k => k = l) :=
  ⟨rfl, rfl, rfl, by simp, fun k _ hk => World.putObj_heap_other hk⟩

/-- THE ITERATOR: called in any later world at any loop's yield, with whatever the caller knows between two rounds (J), the rounds handing back true and keeping all but S, the loop's record and the blocks of what they are handed: it returns, and all of 'many' rounds are done, or one has said no. -/
def Iter (F : Fence) (n : Nat) (P : Program) (g : Nat) (lb : Array Value) (many : Nat) (Giv : Nat → Value → World → Prop) (S : Nat → Prop) (w : World) : Prop :=
  ∀ (l : Nat) (J Jx : Nat → World → Prop) (W : World), Keeps w W S → w.heap.size ≤ l → l < W.heap.size → Stab W.heap.size J → Stab W.heap.size Jx →
    (∀ i v W1, i < many → J i W1 → W.heap.size ≤ W1.heap.size → Giv i v W1 → YieldAt F (n - 1) P l #[v] W1 fun e W' =>
      (e = .returned (.bool true) ∧ J (i + 1) W' ∧ Keeps W1 W' (fun k => S k ∨ k = l ∨ v.ownBlock = some k)) ∨ (e = .returned (.bool false) ∧ Jx (i + 1) W' ∧ Keeps W1 W' (fun k => S k ∨ k = l ∨ v.ownBlock = some k))) →
    J 0 W →
    CallsIn F n P g (#[.func (.yield l) #[] #[]] ++ lb) W fun e W' => (∃ v, e = .returned v) ∧ (J many W' ∨ ∃ i, 0 < i ∧ i ≤ many ∧ Jx i W')

/-- How a round's body may be left. -/
def roundEnd (I : World → Prop) (Ix : Code → World → Prop) (S : Nat → Prop) (W : World) : Exit → Act → World → Prop
  | .normal, _, W' => Keeps W W' S ∧ I W'
  | .ret, _, W' => Keeps W W' S ∧ Ix .ret W'
  | .exit id, _, W' => Keeps W W' S ∧ Ix (.exit id) W'
  | .goto t, _, W' => Keeps W W' S ∧ Ix (.goto t) W'
  | .panic _, _, _ => False
  | .outgrown, _, _ => False

variable {F : Fence} {n : Nat} {P : Program}

theorem range_iter {g : Operand} {p : Tmp} {assign body : Code} {Q : Exit → Act → World → Prop} {a : Act} {w : World}
    (hro : F.round = none) (h1 : 1 ≤ n) {gf : Nat} {lb : Array Value} (hg : a.eval g = .func (.func gf) #[] lb) (hFg : F.fn gf) (eg : ∀ args w, (callFunc gf args).run P w = .ok (.enter gf args) w)
    {many : Nat} {Giv : Nat → Value → World → Prop} {S : Nat → Prop} (hS : ∀ k, S k → k < w.heap.size) (hseq : Iter F (n - 1) P gf lb many Giv S w)
    (hGiv : ∀ i v W l r o, Giv i v W → W.heap[l]? = some (.loop r) → Giv i v (W.putObj l o)) (hOwn : ∀ i v W l r, Giv i v W → W.heap[l]? = some (.loop r) → v.ownBlock ≠ some l) (hOwnD : ∀ i v W l r, Giv i v W → W.heap[l]? = some (.deferred r) → v.ownBlock ≠ some l)
    (I : Nat → World → Prop) (Ix : Code → Nat → World → Prop) (hI : Stab w.heap.size I) (hIx : ∀ c, Stab w.heap.size (Ix c)) (h0 : I 0 w)
    (hround : ∀ (l i : Nat) (v : Value) (W : World), i < many → I i W → Giv i v W →
      assign.wpIn (F.inRound l) (n - 1 - 1) P (Exit.then (fun a₁ W₁ => W₁ = W ∧ ∀ W2, w.heap.size + 2 ≤ W2.heap.size → I i W2 → Giv i v W2 →
        body.wpIn (F.inRound l) (n - 1 - 1) P (roundEnd (I (i + 1)) (fun c => Ix c (i + 1)) (fun k => S k ∨ v.ownBlock = some k) W2) a₁ W2) (fun _ _ _ => False)) { tmps := a.tmps.setIfInBounds p v, defers := [] } W)
    (hdone : ∀ (D : Nat) (W : World), w.heap.size ≤ D → I many W → W.heap[D]? = some (.deferred (some [])) → Q .normal { a with defers := { target := .collected D, args := #[] } :: a.defers } W)
    (hstop : ∀ (D : Nat) (c : Code) (i : Nat) (W : World), w.heap.size ≤ D → 0 < i → i ≤ many → Ix c i W → W.heap[D]? = some (.deferred (some [])) → c.wpIn F n P Q { a with defers := { target := .collected D, args := #[] } :: a.defers } W) :
    (Code.rangeFunc g #[p] assign body).wpIn F n P Q a w := by
  refine wpIn_rangeFunc fun fn hfn => ?_
  rw [hro]
  obtain ⟨rec, hrec⟩ : ∃ rec : LoopState → Option Code → Loop, rec = fun st pe => { state := st, pending := pe, fn, tmps := a.tmps, params := #[p], assign, body, defers := w.heap.size } := ⟨_, rfl⟩
  have hT : rec .ready none = { state := .ready, pending := none, fn, tmps := a.tmps, params := #[p], assign, body, defers := w.heap.size } := by rw [hrec]
  obtain ⟨V, hV⟩ : ∃ V, (w.alloc (.deferred (some []))).alloc (.loop (rec .ready none)) = V := ⟨_, rfl⟩
  have kV : Keeps w V (fun k => w.heap.size ≤ k) := by rw [← hV]; exact ((Keeps.refl w _).alloc _).alloc _
  have kS : Keeps w V S := by rw [← hV]; exact ((Keeps.refl w _).alloc _).alloc _
  have sV : V.heap.size = w.heap.size + 2 := by rw [← hV]; simp
  have lV : V.heap[w.heap.size + 1]? = some (.loop (rec .ready none)) := by
    rw [← hV]; have := World.alloc_heap_new (w.alloc (.deferred (some []))) (.loop (rec .ready none)); rwa [World.size_alloc] at this
  have dV : V.heap[w.heap.size]? = some (.deferred (some [])) := by
    rw [← hV]; exact (Below.heap_alloc _ _ _ (by simp)).trans (World.alloc_heap_new w _)
  -- the record turned: what the caller knows stays
  have put : ∀ {α : Type} {J : α → World → Prop} (hJ : Stab w.heap.size J) {i : α} {W : World} (o : Obj), J i W → J i (W.putObj (w.heap.size + 1) o) :=
    fun hJ i W o h => hJ i W _ h ((keeps_put o).mono (fun k _ e => by omega))
  refine ⟨w.heap.size + 1, [{ target := .collected w.heap.size, args := #[] }], V, { target := .fn (.func gf) lb, args := #[.func (.yield (w.heap.size + 1)) #[] #[]] }, V, gf,
    #[.func (.yield (w.heap.size + 1)) #[] #[]] ++ lb, V, ?_, ?_, ?_, ?_, fun _ => h1, ?_⟩
  · rw [← hV, hT]; exact run_enterLoop_outer _ _ _ _ _
  · simp only [resolve, hg]
    simp [go_sem]
  · intro f' hf'; simp [Target.leads] at hf'; subst hf'; exact hFg
  · simp [invoke, go_sem, eg]
  · refine (hseq (w.heap.size + 1)
      (fun i W => I i W ∧ W.heap[w.heap.size + 1]? = some (.loop (rec .ready none)) ∧ W.heap[w.heap.size]? = some (.deferred (some [])))
      (fun i W => ∃ c, Ix c i W ∧ W.heap[w.heap.size + 1]? = some (.loop (rec .done (some c))) ∧ W.heap[w.heap.size]? = some (.deferred (some [])))
      V kS (by omega) (by omega) ?_ ?_ ?_ ⟨hI 0 _ _ h0 kV, lV, dV⟩).mono ?_
    · rintro i W W' ⟨h, hl, hd⟩ hk
      have e1 := (Array.getElem?_eq_some_iff.1 hl).1
      exact ⟨hI i _ _ h (hk.mono fun k _ h => by omega), (hk.block _ e1 (by omega)).trans hl, (hk.block _ (by omega) (by omega)).trans hd⟩
    · rintro i W W' ⟨c, h, hl, hd⟩ hk
      have e1 := (Array.getElem?_eq_some_iff.1 hl).1
      exact ⟨c, hIx c i _ _ h (hk.mono fun k _ h => by omega), (hk.block _ e1 (by omega)).trans hl, (hk.block _ (by omega) (by omega)).trans hd⟩
    · -- a round
      rintro i v W hi ⟨h, hl, hd⟩ hsz hgv
      have e1 := (Array.getElem?_eq_some_iff.1 hl).1
      have hy := run_yield (P := P) (args := #[v]) hl (by rw [hrec]; rfl)
      have hz : ((rec .ready none).params.zip #[v]).foldl (fun tmps (t, a) => tmps.setIfInBounds t a) (rec .ready none).tmps = a.tmps.setIfInBounds p v := by
        have e : (#[p] : Array Tmp).zip #[v] = #[(p, v)] := by apply Array.ext'; simp
        rw [hrec]
        show Array.foldl _ _ ((#[p] : Array Tmp).zip #[v]) = _
        rw [e]
        simp
      rw [hz, hT] at hy
      refine ⟨fn, _, assign, body, hy, roundIn_of_wpIn hfn (wpIn_mono (hround _ i v W hi h hgv) ?_)⟩
      intro e₀ a₁ W₁ hq
      cases e₀ with
      | normal => ?_
      | _ => exact hq.elim
      obtain ⟨rfl, hbody⟩ := hq
      refine ⟨_, run_beginRound hl (by rw [hrec]), ?_⟩
      have hl2 : (W₁.putObj (w.heap.size + 1) (.loop { rec .ready none with state := .busy })).heap[w.heap.size + 1]? = some (.loop { rec .ready none with state := .busy }) := World.putObj_heap_same e1
      have hd2 : (W₁.putObj (w.heap.size + 1) (.loop { rec .ready none with state := .busy })).heap[w.heap.size]? = some (.deferred (some [])) := (World.putObj_heap_other (by omega)).trans hd
      have hg2 := hGiv i v W₁ _ _ (.loop { rec .ready none with state := .busy }) hgv hl
      have hk2 : Keeps W₁ (W₁.putObj (w.heap.size + 1) (.loop { rec .ready none with state := .busy })) (fun k => k = w.heap.size + 1) := keeps_put _
      have hne := hOwn i v _ _ _ hgv hl
      have hneD := hOwnD i v _ _ _ hgv hd
      refine wpIn_mono (hbody _ (by simp; omega) (put hI _ h) hg2) ?_
      generalize W₁.putObj (w.heap.size + 1) (.loop { rec .ready none with state := .busy }) = U at hl2 hd2 hg2 hk2
      -- the record behind the body
      have fin : ∀ (jump : Option Code) (X : World), Keeps U X (fun k => S k ∨ v.ownBlock = some k) →
          (Instr.endRound (w.heap.size + 1) jump).run P X = .ok (.bool jump.isNone) (X.putObj (w.heap.size + 1) (.loop (rec (if jump.isNone then .ready else .done) jump))) ∧
          (X.putObj (w.heap.size + 1) (.loop (rec (if jump.isNone then .ready else .done) jump))).heap[w.heap.size + 1]? = some (.loop (rec (if jump.isNone then .ready else .done) jump)) ∧
          (X.putObj (w.heap.size + 1) (.loop (rec (if jump.isNone then .ready else .done) jump))).heap[w.heap.size]? = some (.deferred (some [])) ∧
          Keeps W₁ (X.putObj (w.heap.size + 1) (.loop (rec (if jump.isNone then .ready else .done) jump))) (fun k => S k ∨ k = w.heap.size + 1 ∨ v.ownBlock = some k) := fun jump X hk => by
        have n1 : ¬ (S (w.heap.size + 1) ∨ v.ownBlock = some (w.heap.size + 1)) := by rintro (h | h); exact absurd (hS _ h) (by omega); exact hne h
        have n2 : ¬ (S w.heap.size ∨ v.ownBlock = some w.heap.size) := by rintro (h | h); exact absurd (hS _ h) (by omega); exact hneD h
        have f1 := (Array.getElem?_eq_some_iff.1 hl2).1
        have hl3 := (hk.block _ f1 n1).trans hl2
        have hd3 := (hk.block _ (by omega) n2).trans hd2
        have hr := run_endRound (P := P) jump hl3
        rw [hrec] at hr ⊢
        refine ⟨hr, World.putObj_heap_same (Array.getElem?_eq_some_iff.1 hl3).1, (World.putObj_heap_other (by omega)).trans hd3, ?_⟩
        exact ((hk2.mono (T := fun k => S k ∨ k = w.heap.size + 1 ∨ v.ownBlock = some k) (fun k _ e => .inr (.inl e))).trans hk (fun k _ h => h.imp id .inr)).trans (keeps_put _) (fun k _ e => .inr (.inl e))
      rintro e a3 X hp
      cases e with
      | normal =>
        obtain ⟨hr, hl4, hd4, hk4⟩ := fin none X hp.1
        exact ⟨_, _, hr, .inl ⟨rfl, ⟨put hI _ hp.2, hl4, hd4⟩, hk4⟩⟩
      | ret =>
        obtain ⟨hr, hl4, hd4, hk4⟩ := fin (some .ret) X hp.1
        exact ⟨_, _, hr, .inr ⟨rfl, ⟨.ret, put (hIx _) _ hp.2, hl4, hd4⟩, hk4⟩⟩
      | exit id =>
        obtain ⟨hr, hl4, hd4, hk4⟩ := fin (some (.exit id)) X hp.1
        exact ⟨_, _, hr, .inr ⟨rfl, ⟨.exit id, put (hIx _) _ hp.2, hl4, hd4⟩, hk4⟩⟩
      | goto t =>
        obtain ⟨hr, hl4, hd4, hk4⟩ := fin (some (.goto t)) X hp.1
        exact ⟨_, _, hr, .inr ⟨rfl, ⟨.goto t, put (hIx _) _ hp.2, hl4, hd4⟩, hk4⟩⟩
      | panic ch => exact hp.elim
      | outgrown => exact hp.elim
    · -- behind the iterator
      rintro e X ⟨⟨v, rfl⟩, (⟨h, hl, hd⟩ | ⟨i, hi0, hi, c, h, hl, hd⟩)⟩
      · have hr := run_endLoop (P := P) hl (by rw [hrec]; simp)
        rw [hrec] at hr
        exact ⟨none, _, hr, hdone _ _ (Nat.le_refl _) (put hI _ h) ((World.putObj_heap_other (by omega)).trans hd)⟩
      · have hr := run_endLoop (P := P) hl (by rw [hrec]; simp)
        rw [hrec] at hr
        exact ⟨some c, _, hr, hstop _ c i _ (Nat.le_refl _) hi0 hi (put (hIx c) _ h) ((World.putObj_heap_other (by omega)).trans hd)⟩

end Go.Proofs.Ytdkdbmiafnadmaa
