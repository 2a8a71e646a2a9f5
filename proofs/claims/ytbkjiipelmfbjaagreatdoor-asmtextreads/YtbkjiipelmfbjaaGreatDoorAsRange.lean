/- A range over a function whose values lie in memory that the function has made since the last round. -/
import Derived.RangeFuncNested
import Derived.RangeFuncBound
import Derived.RangeFuncCalls
import Derived.RangeFuncLeaves
import Derived.Below
namespace Go.Proofs.YtbkjiipelmfbjaaGreatDoor
open Go.RowKit
set_option linter.unusedVariables false

/-- What is no cells, from a block on, lies as it lay. -/
def Kf (B : Nat) (W W' : World) : Prop := ∀ (k : Nat) (o : Obj), B ≤ k → W.heap[k]? = some o → o.isCells = false → W'.heap[k]? = some o
/-- How a round may end: it goes on, or the function returns. -/
def RoundEnd {σ : Type} (B : Nat) (I Ix : σ → World → Prop) (s : σ) (W : World) : Exit → Act → World → Prop
  | .normal, _, W' => Kf B W W' ∧ I s W'
  | .ret, _, W' => Kf B W W' ∧ Ix s W'
  | _, _, _ => False

theorem range_lies {P : Program} {n : Nat} {σ β : Type} {g : Operand} {ps : Array Tmp} {assign body : Code} {Q : Exit → Act → World → Prop} {a : Act} {w : World} {gf : Nat} {lb : Array Value}
    (hg : a.eval g = .func (.func gf) #[] lb) (eg : ∀ args w, (callFunc gf args).run P w = .ok (.enter gf args) w)
    (I Ix : σ → World → Prop) (X : σ → β → World → Prop) (enc : β → Array Value) (nx : σ → β → σ) (s0 : σ) (Dn Dx : σ → Prop) (a1 : β → Act)
    (henc : ∀ x, (enc x).size = ps.size)
    (hIb : ∀ s A B, I s A → Below A.heap.size A B → I s B)
    (hIl : ∀ s A l o o', w.heap.size ≤ l → A.heap[l]? = some o → o.isCells = false → I s A → I s (A.putObj l o'))
    (hIxl : ∀ s A l o o', w.heap.size ≤ l → A.heap[l]? = some o → o.isCells = false → Ix s A → Ix s (A.putObj l o'))
    (hXl : ∀ s x A l o o', w.heap.size ≤ l → A.heap[l]? = some o → o.isCells = false → X s x A → X s x (A.putObj l o'))
    (hit : ∀ (l : Nat) (J Jx : σ → World → Prop) (W1 : World), Below w.heap.size w W1 → (∀ s A B, J s A → Below A.heap.size A B → J s B) → (∀ s A, J s A → I s A) →
      (∀ s x W, J s W → X s x W → YieldAt Fence.wide (n - 1 - 1) P l (enc x) W fun e W' => (e = .returned (.bool true) ∧ J (nx s x) W') ∨ (e = .returned (.bool false) ∧ Jx (nx s x) W')) →
      J s0 W1 → CallsIn Fence.wide (n - 1) P gf (#[.func (.yield l) #[] #[]] ++ lb) W1 fun e W' => (∃ v, e = .returned v) ∧ ((∃ s, Dn s ∧ J s W') ∨ (∃ s, Dx s ∧ Jx s W')))
    (h0 : I s0 w)
    (hassign : ∀ (l : Nat) (x : β) (W : World) (K : Act → World → Prop), K (a1 x) W → assign.wpIn (Fence.wide.inRound l) (n - 1 - 1) P (Exit.then K (fun _ _ _ => False)) { tmps := (ps.zip (enc x)).foldl (fun t (p, v) => t.setIfInBounds p v) a.tmps, defers := [] } W)
    (hbody : ∀ (l : Nat) (s : σ) (x : β) (W : World), I s W → X s x W → body.wpIn (Fence.wide.inRound l) (n - 1 - 1) P (RoundEnd w.heap.size I Ix (nx s x) W) (a1 x) W)
    (hdone : ∀ (D : Nat) (s : σ) (W : World), w.heap.size ≤ D → Dn s → I s W → W.heap[D]? = some (.deferred (some [])) → Q .normal { a with defers := { target := .collected D, args := #[] } :: a.defers } W)
    (hstop : ∀ (D : Nat) (s : σ) (W : World), w.heap.size ≤ D → Dx s → Ix s W → W.heap[D]? = some (.deferred (some [])) → Code.ret.wpIn Fence.wide n P Q { a with defers := { target := .collected D, args := #[] } :: a.defers } W) :
    (Code.rangeFunc g ps assign body).wpIn Fence.wide n P Q a w := by
  refine wpIn_rangeFunc ?_
  intro fn hfn
  obtain ⟨rec, hrec⟩ : ∃ rec : LoopState → Option Code → Loop, rec = fun st pe => { state := st, pending := pe, fn, tmps := a.tmps, params := ps, assign, body, defers := w.heap.size } := ⟨_, rfl⟩
  obtain ⟨W1, hW1⟩ : ∃ W1, (w.alloc (.deferred (some []))).alloc (.loop (rec .ready none)) = W1 := ⟨_, rfl⟩
  have hb1 : Below w.heap.size w W1 := by rw [← hW1]; exact (((Below.refl _ w).alloc (Nat.le_refl _) _).alloc (by simp) _)
  have hL1 : W1.heap[w.heap.size + 1]? = some (.loop (rec .ready none)) := by
    rw [← hW1]; have := World.alloc_heap_new (w.alloc (.deferred (some []))) (.loop (rec .ready none)); rwa [World.size_alloc] at this
  have hK1 : W1.heap[w.heap.size]? = some (.deferred (some [])) := by
    rw [← hW1]; exact (Below.heap_alloc _ _ _ (by simp)).trans (World.alloc_heap_new w _)
  refine ⟨w.heap.size + 1, [{ target := .collected w.heap.size, args := #[] }], W1, { target := .fn (.func gf) lb, args := #[.func (.yield (w.heap.size + 1)) #[] #[]] }, W1, gf,
    #[.func (.yield (w.heap.size + 1)) #[] #[]] ++ lb, W1, ?_, ?_, fun _ _ => trivial, ?_, (fun h => by cases h), ?_⟩
  · rw [← hW1, hrec]; exact run_enterLoop_outer _ _ _ _ _
  · simp only [resolve, hg]
    simp [go_sem]
  · simp [invoke, go_sem, eg]
  refine (hit (w.heap.size + 1)
    (fun s W => I s W ∧ W.heap[w.heap.size + 1]? = some (.loop (rec .ready none)) ∧ W.heap[w.heap.size]? = some (.deferred (some [])))
    (fun s W => Ix s W ∧ W.heap[w.heap.size + 1]? = some (.loop (rec .done (some .ret))) ∧ W.heap[w.heap.size]? = some (.deferred (some [])))
    W1 hb1 (fun s A B h hb => ⟨hIb s A B h.1 hb, (hb.block _ (Array.getElem?_eq_some_iff.1 h.2.1).1).trans h.2.1, (hb.block _ (Array.getElem?_eq_some_iff.1 h.2.2).1).trans h.2.2⟩)
    (fun s A h => h.1) ?_ ⟨hIb _ _ _ h0 hb1, hL1, hK1⟩).mono ?_
  · rintro s x W ⟨hi, hl, hk⟩ hx
    have hlt : w.heap.size + 1 < W.heap.size := (Array.getElem?_eq_some_iff.1 hl).1
    have hy := run_yield (P := P) (args := enc x) hl (by rw [hrec]; exact henc x)
    rw [hrec] at hy
    refine ⟨fn, _, assign, body, hy, roundIn_of_wpIn hfn (hassign _ x W _ ?_)⟩
    clear hy
    refine ⟨_, run_beginRound hl (by rw [hrec]), ?_⟩
    have hl2 : (W.putObj (w.heap.size + 1) (.loop { rec .ready none with state := .busy })).heap[w.heap.size + 1]? = some (.loop { rec .ready none with state := .busy }) := World.putObj_heap_same hlt
    have hk2 : (W.putObj (w.heap.size + 1) (.loop { rec .ready none with state := .busy })).heap[w.heap.size]? = some (.deferred (some [])) := (World.putObj_heap_other (by omega)).trans hk
    refine wpIn_mono (hbody _ s x _ (hIl s W _ _ _ (by omega) hl rfl hi) (hXl s x W _ _ _ (by omega) hl rfl hx)) ?_
    rintro e a3 W3 hp
    cases e with
    | normal =>
      obtain ⟨hkf, hi3⟩ := hp
      have hl3 := hkf _ _ (by omega) hl2 rfl
      have hk3 := hkf _ _ (Nat.le_refl _) hk2 rfl
      have hr := run_endRound (P := P) none hl3
      rw [hrec] at hr
      refine ⟨_, _, hr, .inl ⟨rfl, hIl _ _ _ _ _ (by omega) hl3 rfl hi3, ?_, (World.putObj_heap_other (by omega)).trans hk3⟩⟩
      rw [hrec]
      exact World.putObj_heap_same (Array.getElem?_eq_some_iff.1 hl3).1
    | ret =>
      obtain ⟨hkf, hi3⟩ := hp
      have hl3 := hkf _ _ (by omega) hl2 rfl
      have hk3 := hkf _ _ (Nat.le_refl _) hk2 rfl
      have hr := run_endRound (P := P) (some .ret) hl3
      rw [hrec] at hr
      refine ⟨_, _, hr, .inr ⟨rfl, hIxl _ _ _ _ _ (by omega) hl3 rfl hi3, ?_, (World.putObj_heap_other (by omega)).trans hk3⟩⟩
      rw [hrec]
      exact World.putObj_heap_same (Array.getElem?_eq_some_iff.1 hl3).1
    | exit id => exact hp.elim
    | goto t => exact hp.elim
    | panic ch => exact hp.elim
    | outgrown => exact hp.elim
  · rintro e W2 ⟨⟨v, rfl⟩, (⟨s, hS, hi, hl, hk⟩ | ⟨s, hS, hi, hl, hk⟩)⟩
    · exact ⟨none, _, by have := run_endLoop (P := P) hl (by rw [hrec]; simp); rw [hrec] at this; exact this, hdone _ s _ (Nat.le_refl _) hS (hIl _ _ _ _ _ (by omega) hl rfl hi) ((World.putObj_heap_other (by omega)).trans hk)⟩
    · exact ⟨some .ret, _, by have := run_endLoop (P := P) hl (by rw [hrec]; simp); rw [hrec] at this; exact this, hstop _ s _ (Nat.le_refl _) hS (hIxl _ _ _ _ _ (by omega) hl rfl hi) ((World.putObj_heap_other (by omega)).trans hk)⟩

end Go.Proofs.YtbkjiipelmfbjaaGreatDoor
