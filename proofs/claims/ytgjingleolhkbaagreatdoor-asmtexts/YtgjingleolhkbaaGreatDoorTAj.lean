/- The words of each line, handed out one by one. -/
import Derived.Test.YtgjingleolhkbaaGreatDoorTAf
import Derived.Test.YtgjingleolhkbaaGreatDoorTAi
import Derived.RangeFuncNested
import Derived.RangeFuncBound
import Derived.RangeFuncCalls
import Derived.RangeFuncLeaves
import Derived.Shelf.RegionOpen
import Derived.OwnWalkIn
import Derived.TacticsInMore
import Derived.LoopNIn
import Derived.LoopIn
import Derived.Below
namespace Go.Proofs.YtgjingleolhkbaaGreatDoor
open Go.RowKit Go.Shelf
attribute [local go_sem] Oper.semAt_some
set_option linter.unusedVariables false
set_option linter.unusedSimpArgs false

theorem words_small {l : X.By} (h : l.length ≤ 200000) : (X.wordsOf l).length ≤ 200000 ∧ ∀ x ∈ X.wordsOf l, x.length ≤ 200000 := by
  have h1 := X.fieldsGo_len (X.ahead l) []
  have h2 : (X.ahead l).length ≤ l.length := List.Sublist.length_le (List.takeWhile_sublist _)
  have h3 : ∀ ws : List X.By, (ws.map fun w => w.length + 1).sum ≤ 200001 → ws.length ≤ 200001 ∧ ∀ x ∈ ws, x.length ≤ 200000 := by
    intro ws
    induction ws with
    | nil => simp
    | cons w ws ih =>
      intro h
      simp only [List.map_cons, List.sum_cons] at h
      have := ih (by omega)
      refine ⟨?_, fun x hx => ?_⟩
      · have h4 : ws.length ≤ (ws.map fun w => w.length + 1).sum := by
          clear ih this h
          induction ws with
          | nil => simp
          | cons v ws ih2 => simp only [List.map_cons, List.sum_cons, List.length_cons]; omega
        simp only [List.length_cons]; omega
      · rcases List.mem_cons.1 hx with rfl | hx
        · omega
        · exact this.2 x hx
  have h5 : (X.wordsOf l) = X.fieldsGo [] (X.ahead l) := rfl
  rw [h5]
  obtain ⟨h6, h7⟩ := h3 (X.fieldsGo [] (X.ahead l)) (by simp at h1; omega)
  refine ⟨?_, h7⟩
  by_cases hc : (X.fieldsGo [] (X.ahead l)).length ≤ 200000
  · exact hc
  · exfalso
    have h8 : ∀ ws : List X.By, (∀ w ∈ ws, 1 ≤ w.length) → 2 * ws.length ≤ (ws.map fun w => w.length + 1).sum := by
      intro ws
      induction ws with
      | nil => simp
      | cons w ws ih =>
        intro hh
        have := ih (fun x hx => hh x (by simp [hx]))
        have := hh w (by simp)
        simp only [List.map_cons, List.sum_cons, List.length_cons]; omega
    have h9 : ∀ (m cur : X.By), ∀ w ∈ X.fieldsGo cur m, 1 ≤ w.length := by
      intro m
      induction m with
      | nil => intro cur w hw; unfold X.fieldsGo at hw; split at hw
               · simp at hw
               · rename_i hne; simp at hw; subst hw; exact Nat.pos_of_ne_zero (fun e => hne (List.eq_nil_of_length_eq_zero e))
      | cons c m ih =>
        intro cur w hw
        unfold X.fieldsGo at hw
        split at hw
        · split at hw
          · exact ih _ w hw
          · rename_i hne
            rcases List.mem_cons.1 hw with rfl | hw
            · exact Nat.pos_of_ne_zero (fun e => hne (List.eq_nil_of_length_eq_zero e))
            · exact ih _ w hw
        · exact ih _ w hw
    have := h8 _ (h9 (X.ahead l) [])
    simp at h1
    omega
theorem str_of_own {w : World} {B g c : Nat} {ws : List X.By} (h : w.ownsRow B 9 1 (.slice (some ⟨g, 0, none⟩) ws.length c) ws.length (sC ws)) (hs : ∀ x ∈ ws, x.length ≤ 200000) : StrV w (some ⟨g, 0, none⟩) ws.length c ws := by
  rcases h.2 with ⟨e1, -⟩ | ⟨g', cap, cur, e1, hb, hh, h1, h2, -⟩
  · cases e1
  · cases e1
    refine ⟨rfl, ⟨h1, h2⟩, hs, .inr ⟨_, 0, rfl, fun i hi => ?_⟩⟩
    rw [Nat.zero_add, h.cellAt i (by omega)]
    unfold sC
    rw [List.getElem?_map]
    simp [List.getD, hi]

def wlOf (ls : List X.By) : List (List X.By) := (ls.map X.wordsOf).filter fun ws => decide (ws ≠ [])
theorem wl_eq (s : X.By) : X.wl s = wlOf (X.lines s) := rfl

set_option maxRecDepth 100000 in
set_option maxHeartbeats 8000000 in
theorem lines1_in (n l Bs : Nat) (s : ByteArray) (hs : s.size ≤ 200000) (J Jx : List (List X.By) → World → Prop)
    (hJb : ∀ pre A B, J pre A → Below A.heap.size A B → J pre B) (hJt : ∀ pre A, J pre A → Tab A)
    (hY : ∀ (pre : List (List X.By)) (ws : List X.By) (g c : Nat) (W : World), J pre W → StrV W (some ⟨g, 0, none⟩) ws.length c ws → ws ≠ [] → ws.length ≤ 200000 → (∃ post, X.wl s.data.toList = pre ++ [ws] ++ post) →
      YieldAt Fence.wide (n - 1) Tryz.prog l #[.slice (some ⟨g, 0, none⟩) ws.length c] W fun e W' => (e = .returned (.bool true) ∧ J (pre ++ [ws]) W') ∨ (e = .returned (.bool false) ∧ Jx (pre ++ [ws]) W'))
    (W : World) (hBs : W.cell? ⟨Bs, 0, none⟩ = some (.string s)) (h0 : J [] W) :
    CallsIn Fence.wide n Tryz.prog 82 #[.func (.yield l) #[] #[], .pointer (some ⟨Bs, 0, none⟩)] W fun e W' => (∃ v, e = .returned v) ∧
      (J (X.wl s.data.toList) W' ∨ (∃ pre post, X.wl s.data.toList = pre ++ post ∧ Jx pre W')) := by
  have hcut := fun (r : ByteArray) (m : Int) (w : World) (h : r.size ≤ 200000) (hm : w.cell? ⟨3, 0, none⟩ = some (.int .i64 m)) => Tryz.strings_Cut r { data := #[10] } m w (by omega) hm
  refine callsIn_of_wp Tryz.func82 rfl trivial ?_ rfl
  simp only [Tryz.ntmps82, List.size_toArray, List.length_cons, List.length_nil, Nat.reduceAdd, Nat.reduceSub, Array.replicate_succ, Array.replicate_zero, List.push_toArray, List.append_toArray, List.nil_append, List.cons_append]
  gi_wp2
  gi_loopw [3, 4] (fun rv mv wr => ∃ (r : ByteArray) (more : Bool) (pre : List (List X.By)), rv = .string r ∧ mv = .bool more ∧ r.size ≤ 200000 ∧ Hid (J pre wr ∧ X.wl s.data.toList = pre ++ (if more = true then wlOf (X.lines r.data.toList) else [])))
    (fun rv mv wr => match rv, mv with | .string r, .bool true => r.size + 2 | .string r, _ => 1 | _, _ => 0)
  case atStart => exact ⟨s, true, [], rfl, rfl, hs, h0, by simp [wl_eq]⟩
  case round =>
    obtain ⟨r, more, pre, rfl, rfl, hr, HI⟩ := hrel
    cases more with
    | false =>
      gi_wp2
      go_end0
      exact ⟨⟨_, rfl⟩, .inl (by have := HI.out.2; simp at this; rw [this]; exact HI.out.1)⟩
    | true =>
      obtain ⟨m, hm⟩ := (hJt _ _ HI.out.1).ml
      have HTW : Hid (Tab wr) := hJt _ _ HI.out.1
      obtain ⟨a, r', b, hcr, hln, hal, hrl, hms⟩ : ∃ (a r' : X.By) (b : Bool), Go.Lib.cut r.data.toList [10] = (a, r', b) ∧ X.lines r.data.toList = a :: (if b = true then X.lines r' else []) ∧ a.length ≤ 200000 ∧ r'.length ≤ 200000 ∧ (b = true → r'.length < r.size) := by
        rcases cut_line r.data.toList with ⟨a, r', h1, h2, h3⟩ | ⟨h1, h2⟩
        · rw [len_list] at h3
          exact ⟨a, r', true, h1, by rw [h2]; simp, by omega, by omega, fun _ => by omega⟩
        · exact ⟨r.data.toList, [], false, h1, by rw [h2]; simp, by rw [len_list]; exact hr, by simp, fun h => by cases h⟩
      have hc1 : Calls Tryz.prog 83 #[.string r, .string { data := #[10] }] wr fun e w' => e = .returned (.tuple #[.string (X.str a), .string (X.str r'), .bool b]) ∧ Below wr.heap.size wr w' := by
        refine (hcut r m wr hr hm).mono ?_
        rintro e w' ⟨rfl, k, rfl⟩
        refine ⟨?_, below_drew' (Below.refl _ _) k⟩
        show Ending.returned (.tuple #[.string ⟨(Go.Lib.cut r.data.toList [10]).1.toArray⟩, .string ⟨(Go.Lib.cut r.data.toList [10]).2.1.toArray⟩, .bool (Go.Lib.cut r.data.toList [10]).2.2]) = _
        rw [hcr]
        rfl
      have hw := fun w h => wordsOf_any (X.str a) (by rw [str_size]; exact hal) w h
      rw [str_list] at hw
      have HWL : Hid (X.wl s.data.toList = pre ++ wlOf (a :: (if b = true then X.lines r' else []))) := by
        show _ = _
        have := HI.out.2
        rw [hln] at this
        simpa using this
      obtain ⟨hws1, hws2⟩ := words_small hal
      have hrs : (X.str r').size ≤ 200000 := by rw [str_size]; exact hrl
      have HMS : Hid (b = true → (X.str r').size < r.size) := by rw [str_size]; exact hms
      have HRL : Hid ((X.str r').data.toList = r') := str_list _
      clear hcut hm hcr hln hal hrl hms hBs
      generalize X.str a = sa at *
      generalize X.str r' = sr at *
      gi_wp2
      refine ⟨trivial, (fun h => by cases h), ?_⟩
      refine (callsIn_wide.2 hc1).mono ?_
      rintro e w1 ⟨rfl, hb1⟩
      have HB1 : Hid (Below wr.heap.size wr w1) := hb1
      clear hb1 hc1
      gi_wp2
      refine ⟨trivial, (fun h => by cases h), ?_⟩
      refine (callsIn_wide.2 (hw w1 (HTW.out.below HB1.out))).mono ?_
      rintro e w2 ⟨g, c, rfl, ho, hb2⟩
      have HB2 : Hid (Below wr.heap.size wr w2) := HB1.out.trans (hb2.mono HB1.out.size)
      have HJ2 : Hid (J pre w2) := hJb _ _ _ HI.out.1 HB2.out
      have HSV : Hid (StrV w2 (some ⟨g, 0, none⟩) (X.wordsOf a).length c (X.wordsOf a)) := str_of_own ho hws2
      clear ho hb2 hw hws2
      by_cases hne : X.wordsOf a = []
      · have HWL2 : Hid (X.wl s.data.toList = pre ++ (if b = true then wlOf (X.lines sr.data.toList) else [])) := by
          show _ = _
          rw [HWL.out, HRL.out]
          unfold wlOf
          rw [List.map_cons, hne]
          cases b <;> simp
        have hl0 : (X.wordsOf a).length = 0 := by rw [hne]; rfl
        rw [hl0]
        clear hne hl0 HSV hY
        gi_wp2
        refine ⟨fun _ h => (by cases h), ?_⟩
        gi_wp2
        go_roundw
        case rel => exact ⟨sr, b, pre, rfl, rfl, hrs, HJ2.out, HWL2.out⟩
        case measure =>
          have := HMS.out
          cases b <;> simp at this ⊢ <;> omega
      · have hwl : X.wl s.data.toList = pre ++ [X.wordsOf a] ++ (if b = true then wlOf (X.lines sr.data.toList) else []) := by
          rw [HWL.out, HRL.out]
          unfold wlOf
          rw [List.map_cons, List.filter_cons_of_pos (by simpa using hne)]
          cases b <;> simp
        obtain ⟨fn, tmps, assign, body, hy, hR⟩ := hY pre (X.wordsOf a) g c w2 HJ2.out HSV.out hne hws1 ⟨_, hwl⟩
        have HWL2 : Hid _ := hwl
        have hl0 : 0 < (X.wordsOf a).length := Nat.pos_of_ne_zero (fun e => hne (List.eq_nil_of_length_eq_zero e))
        generalize X.wordsOf a = ws at *
        clear hwl hne hws1 HSV hY HWL
        have hl1 : (0 : Int) < (ws.length : Int) := by omega
        gi_wp2
        refine ⟨(fun h => by cases h), hR.mono ?_⟩
        rintro e w3 (⟨rfl, hJ3⟩ | ⟨rfl, hJx3⟩)
        · have HJ3 : Hid (J (pre ++ [ws]) w3) := hJ3
          clear hJ3 hR hy
          gi_wp2
          go_roundw
          case rel => exact ⟨sr, b, pre ++ [ws], rfl, rfl, hrs, HJ3.out, HWL2.out⟩
          case measure =>
            have := HMS.out
            cases b <;> simp at this ⊢ <;> omega
        · have HJ3 : Hid (Jx (pre ++ [ws]) w3) := hJx3
          clear hJx3 hR hy
          gi_wp2
          refine bodyPost_ret (results_none rfl _ _ _) rfl ?_
          exact ⟨⟨_, rfl⟩, .inr ⟨pre ++ [ws], _, HWL2.out, HJ3.out⟩⟩

end Go.Proofs.YtgjingleolhkbaaGreatDoor

/- A range over a function whose values lie in memory that the function has made since the last round. -/
namespace Go.Proofs.YtgjingleolhkbaaGreatDoor
open Go.RowKit
set_option linter.unusedVariables false

def Kf (B : Nat) (W W' : World) : Prop := ∀ (k : Nat) (o : Obj), B ≤ k → W.heap[k]? = some o → o.isCells = false → W'.heap[k]? = some o
def RoundEnd {σ : Type} (B : Nat) (I Ix : σ → World → Prop) (s : σ) (W : World) : Exit → Act → World → Prop
 | .normal, _, W' => Kf B W W' ∧ I s W'
 | .ret, _, W' => Kf B W W' ∧ Ix s W'
 | _, _, _ => False

theorem range_lies {P : Program} {n : Nat} {σ β : Type} {g : Operand} {ps : Array Tmp} {assign body : Code} {Q : Exit → Act → World → Prop} {a : Act} {w : World} {gf : Nat} {lb : Array Value}
  (hg : a.eval g = .func (.func gf) #[] lb) (eg : ∀ args w, (callFunc gf args).run P w = .ok (.enter gf args) w)
  (I Ix : σ → World → Prop) (X : σ → β → World → Prop) (enc : β → Array Value) (nx : σ → β → σ) (s0 : σ) (Dn Dx : σ → Prop) (a1 : β → Act)
  (henc : ∀ x, (enc x).size = ps.size)
  (hIb : ∀ s A B, I s A → Below A.heap.size A B → I s B)
  (hIl : ∀ s A l o o', w.heap.size ≤ l → A.heap[l]? = some o → o.isCells = false → I s A → I s (A.putObj l o'))
  (hIxl : ∀ s A l o o', w.heap.size ≤ l → A.heap[l]? = some o → o.isCells = false → Ix s A → Ix s (A.putObj l o'))
  (hXl : ∀ s x A l o o', w.heap.size ≤ l → A.heap[l]? = some o → o.isCells = false → X s x A → X s x (A.putObj l o'))
  (hit : ∀ (l : Nat) (J Jx : σ → World → Prop) (W1 : World), Below w.heap.size w W1 → (∀ s A B, J s A → Below A.heap.size A B → J s B) → (∀ s A, J s A → I s A) →
   (∀ s x W, J s W → X s x W → YieldAt Fence.wide (n - 1 - 1) P l (enc x) W fun e W' => (e = .returned (.bool true) ∧ J (nx s x) W') ∨ (e = .returned (.bool false) ∧ Jx (nx s x) W')) →
   J s0 W1 → CallsIn Fence.wide (n - 1) P gf (#[.func (.yield l) #[] #[]] ++ lb) W1 fun e W' => (∃ v, e = .returned v) ∧ ((∃ s, Dn s ∧ J s W') ∨ (∃ s, Dx s ∧ Jx s W')))
  (h0 : I s0 w)
  (hassign : ∀ (l : Nat) (x : β) (W : World) (K : Act → World → Prop), K (a1 x) W → assign.wpIn (Fence.wide.inRound l) (n - 1 - 1) P (Exit.then K (fun _ _ _ => False)) { tmps := (ps.zip (enc x)).foldl (fun t (p, v) => t.setIfInBounds p v) a.tmps, defers := [] } W)
  (hbody : ∀ (l : Nat) (s : σ) (x : β) (W : World), I s W → X s x W → body.wpIn (Fence.wide.inRound l) (n - 1 - 1) P (RoundEnd w.heap.size I Ix (nx s x) W) (a1 x) W)
  (hdone : ∀ (D : Nat) (s : σ) (W : World), w.heap.size ≤ D → Dn s → I s W → W.heap[D]? = some (.deferred (some [])) → Q .normal { a with defers := { target := .collected D, args := #[] } :: a.defers } W)
  (hstop : ∀ (D : Nat) (s : σ) (W : World), w.heap.size ≤ D → Dx s → Ix s W → W.heap[D]? = some (.deferred (some [])) → Code.ret.wpIn Fence.wide n P Q { a with defers := { target := .collected D, args := #[] } :: a.defers } W) :
  (Code.rangeFunc g ps assign body).wpIn Fence.wide n P Q a w := by
 refine wpIn_rangeFunc ?_
 intro fn hfn
 obtain ⟨rec, hrec⟩ : ∃ rec : LoopState → Option Code → Loop, rec = fun st pe => { state := st, pending := pe, fn, tmps := a.tmps, params := ps, assign, body, defers := w.heap.size } := ⟨_, rfl⟩
 obtain ⟨W1, hW1⟩ : ∃ W1, (w.alloc (.deferred (some []))).alloc (.loop (rec .ready none)) = W1 := ⟨_, rfl⟩
 have hb1 : Below w.heap.size w W1 := by rw [← hW1]; exact (((Below.refl _ w).alloc (Nat.le_refl _) _).alloc (by simp) _)
 have hL1 : W1.heap[w.heap.size + 1]? = some (.loop (rec .ready none)) := by
  rw [← hW1]; have := World.alloc_heap_new (w.alloc (.deferred (some []))) (.loop (rec .ready none)); rwa [World.size_alloc] at this
 have hK1 : W1.heap[w.heap.size]? = some (.deferred (some [])) := by
  rw [← hW1]; exact (Below.heap_alloc _ _ _ (by simp)).trans (World.alloc_heap_new w _)
 refine ⟨w.heap.size + 1, [{ target := .collected w.heap.size, args := #[] }], W1, { target := .fn (.func gf) lb, args := #[.func (.yield (w.heap.size + 1)) #[] #[]] }, W1, gf,
  #[.func (.yield (w.heap.size + 1)) #[] #[]] ++ lb, W1, ?_, ?_, fun _ _ => trivial, ?_, (fun h => by cases h), ?_⟩
 ·rw [← hW1, hrec]; exact run_enterLoop_outer _ _ _ _ _
 ·simp only [resolve, hg]
  simp [go_sem]
 ·simp [invoke, go_sem, eg]
 refine (hit (w.heap.size + 1)
  (fun s W => I s W ∧ W.heap[w.heap.size + 1]? = some (.loop (rec .ready none)) ∧ W.heap[w.heap.size]? = some (.deferred (some [])))
  (fun s W => Ix s W ∧ W.heap[w.heap.size + 1]? = some (.loop (rec .done (some .ret))) ∧ W.heap[w.heap.size]? = some (.deferred (some [])))
  W1 hb1 (fun s A B h hb => ⟨hIb s A B h.1 hb, (hb.block _ (Array.getElem?_eq_some_iff.1 h.2.1).1).trans h.2.1, (hb.block _ (Array.getElem?_eq_some_iff.1 h.2.2).1).trans h.2.2⟩)
  (fun s A h => h.1) ?_ ⟨hIb _ _ _ h0 hb1, hL1, hK1⟩).mono ?_
 ·rintro s x W ⟨hi, hl, hk⟩ hx
  have hlt : w.heap.size + 1 < W.heap.size := (Array.getElem?_eq_some_iff.1 hl).1
  have hy := run_yield (P := P) (args := enc x) hl (by rw [hrec]; exact henc x)
  rw [hrec] at hy
  refine ⟨fn, _, assign, body, hy, roundIn_of_wpIn hfn (hassign _ x W _ ?_)⟩
  clear hy
  refine ⟨_, run_beginRound hl (by rw [hrec]), ?_⟩
  have hl2 : (W.putObj (w.heap.size + 1) (.loop { rec .ready none with state := .busy })).heap[w.heap.size + 1]? = some (.loop { rec .ready none with state := .busy }) := World.putObj_heap_same hlt
  have hk2 : (W.putObj (w.heap.size + 1) (.loop { rec .ready none with state := .busy })).heap[w.heap.size]? = some (.deferred (some [])) := (World.putObj_heap_other (by omega)).trans hk
  refine wpIn_mono (hbody _ s x _ (hIl s W _ _ _ (by omega) hl rfl hi) (hXl s x W _ _ _ (by omega) hl rfl hx)) ?_
  rintro e a3 W3 hp
  cases e with
  | normal =>
   obtain ⟨hkf, hi3⟩ := hp
   have hl3 := hkf _ _ (by omega) hl2 rfl
   have hk3 := hkf _ _ (Nat.le_refl _) hk2 rfl
   have hr := run_endRound (P := P) none hl3
   rw [hrec] at hr
   refine ⟨_, _, hr, .inl ⟨rfl, hIl _ _ _ _ _ (by omega) hl3 rfl hi3, ?_, (World.putObj_heap_other (by omega)).trans hk3⟩⟩
   rw [hrec]
   exact World.putObj_heap_same (Array.getElem?_eq_some_iff.1 hl3).1
  | ret =>
   obtain ⟨hkf, hi3⟩ := hp
   have hl3 := hkf _ _ (by omega) hl2 rfl
   have hk3 := hkf _ _ (Nat.le_refl _) hk2 rfl
   have hr := run_endRound (P := P) (some .ret) hl3
   rw [hrec] at hr
   refine ⟨_, _, hr, .inr ⟨rfl, hIxl _ _ _ _ _ (by omega) hl3 rfl hi3, ?_, (World.putObj_heap_other (by omega)).trans hk3⟩⟩
   rw [hrec]
   exact World.putObj_heap_same (Array.getElem?_eq_some_iff.1 hl3).1
  | exit id => exact hp.elim
  | goto t => exact hp.elim
  | panic ch => exact hp.elim
  | outgrown => exact hp.elim
 ·rintro e W2 ⟨⟨v, rfl⟩, (⟨s, hS, hi, hl, hk⟩ | ⟨s, hS, hi, hl, hk⟩)⟩
  ·exact ⟨none, _, by have := run_endLoop (P := P) hl (by rw [hrec]; simp); rw [hrec] at this; exact this, hdone _ s _ (Nat.le_refl _) hS (hIl _ _ _ _ _ (by omega) hl rfl hi) ((World.putObj_heap_other (by omega)).trans hk)⟩
  ·exact ⟨some .ret, _, by have := run_endLoop (P := P) hl (by rw [hrec]; simp); rw [hrec] at this; exact this, hstop _ s _ (Nat.le_refl _) hS (hIxl _ _ _ _ _ (by omega) hl rfl hi) ((World.putObj_heap_other (by omega)).trans hk)⟩

end Go.Proofs.YtgjingleolhkbaaGreatDoor

/- Parse. -/
namespace Go.Proofs.YtgjingleolhkbaaGreatDoor
open Go.RowKit Go.Shelf
attribute [local go_sem] Oper.semAt_some
set_option linter.unusedVariables false
set_option linter.unusedSimpArgs false

set_option maxHeartbeats 4000000 in
theorem lines_any (s : ByteArray) (w : World) :
  Calls Tryz.prog 62 #[.string s] w fun e w' => e = .returned (.func (.func 82) #[] #[.pointer (some ⟨w.heap.size, 0, none⟩)]) ∧ w' = w.alloc (.cells #[.string s] 9) := by
 go_enter Tryz.func62, Tryz.ntmps62
 go_wp2_with fail
 go_ret
 exact ⟨rfl, rfl⟩

def itF (p : X.It × Value) : List Value := itC p.1 p.2
theorem infoIt : (Tryz.prog.info? 44).map (fun i => (i.zero, i.size, i.bytes)) = some (some (.agg #[.int .i64 0, .string { data := #[] }, .int .i64 0, .int .i64 0, .int .i64 0, .int .i64 0, .slice none 0 0]), 7, 80) := by kernel_rfl
theorem itF_len (p : X.It × Value) : (itF p).length = 7 := rfl
def ItO (B : Nat) (W : World) (tv : List (X.It × Value)) : Prop := ∀ p ∈ tv, p.1.name.length ≤ 200000 ∧ ∃ aw lw cw, p.2 = .slice aw lw cw ∧ W.ownsRow B 2 1 (.slice aw lw cw) lw (iC p.1.words)
structure PI (w W : World) (tv : List (X.It × Value)) (v : Value) : Prop where
 low : Below w.heap.size w W
 tab : Tab W
 b0 : Bx W w.heap.size [.slice none 0 0]
 b1 : Bx W (w.heap.size + 1) [.int .i64 0]
 b4 : Bx W (w.heap.size + 2) [v]
 own : W.ownsRow (w.heap.size + 3) 44 7 v tv.length (tv.flatMap itF)
 its : ItO (w.heap.size + 3) W tv
 h7 : 9 ≤ w.heap.size
theorem ItO.kept {B : Nat} {W W' : World} {tv : List (X.It × Value)} {r : Option Nat} (h : ItO B W tv) (hg : W.grownBy W' r) (hr : ∀ b o, r = some b → W.heap[b]? = some o → ∀ cs fr, o ≠ .cells cs 2 fr) : ItO B W' tv := by
 intro p hp
 obtain ⟨hn, aw, lw, cw, e, ho⟩ := h p hp
 refine ⟨hn, aw, lw, cw, e, ?_⟩
 rcases ho.2 with ⟨e1, -⟩ | ⟨g, cap, cur, e1, hb, hh, -⟩
 ·exact ho.kept hg (.inl (by rw [e1]; rfl))
 ·refine ho.kept hg (.inr fun e2 => ?_)
  have e3 : (Value.slice aw lw cw).ownBlock = some g := by rw [e1]; rfl
  rw [e3] at e2
  exact hr g _ e2.symm hh _ _ rfl
theorem PI.below {w W W' : World} {tv : List (X.It × Value)} {v : Value} (h : PI w W tv v) (hb : Below W.heap.size W W') : PI w W' tv v :=
 ⟨h.low.trans (hb.mono h.low.size), h.tab.below hb, h.b0.below hb, h.b1.below hb, h.b4.below hb, own_thru h.own hb, h.its.kept (gb_of_below hb none) (fun b o e => by cases e), h.h7⟩
theorem gb_put {W : World} {l : Nat} (o : Obj) : W.grownBy (W.putObj l o) (some l) :=
 ⟨rfl, rfl, rfl, by simp, fun k _ hk => World.putObj_heap_other (fun e => hk (by rw [e]))⟩
theorem noCells_ne {W : World} {l b : Nat} {o : Obj} {vs : List Value} (hl : W.heap[l]? = some o) (ho : o.isCells = false) (h : Bx W b vs) (hne : vs ≠ []) : b ≠ l := by
 rintro rfl
 cases vs with
 | nil => exact hne rfl
 | cons v vs =>
  have := h.c 0 v rfl
  unfold World.cell? at this
  simp only [hl] at this
  cases o <;> simp_all [Obj.isCells]
theorem own_ne_obj {W : World} {l B : Nat} {o : Obj} {ty : TypeId} {k n : Nat} {v : Value} {cs : List Value} (hl : W.heap[l]? = some o) (ho : o.isCells = false) (h : W.ownsRow B ty k v n cs) : some l ≠ v.ownBlock := by
 rcases h.2 with ⟨e1, -⟩ | ⟨g, cap, cur, e1, -, hh, -⟩
 ·rw [e1]; simp [Value.ownBlock]
 ·rw [e1]
  intro e
  simp only [Value.ownBlock, Option.some.injEq] at e
  subst e
  rw [hl] at hh
  cases hh
  cases ho
theorem PI.put {w W : World} {tv : List (X.It × Value)} {v : Value} (h : PI w W tv v) {l : Nat} {o : Obj} (hw : w.heap.size ≤ l) (hl : W.heap[l]? = some o) (ho : o.isCells = false) (o' : Obj) : PI w (W.putObj l o') tv v := by
 have g := gb_put (W := W) (l := l) o'
 refine ⟨below_gb h.low g hw h.low.size, h.tab.gb g (Nat.le_trans h.h7 hw), h.b0.gb g (noCells_ne hl ho h.b0 (by simp)), h.b1.gb g (noCells_ne hl ho h.b1 (by simp)), h.b4.gb g (noCells_ne hl ho h.b4 (by simp)), ?_, ?_, h.h7⟩
 ·exact h.own.kept g (.inr (fun e => own_ne_obj hl ho h.own (Eq.symm e)))
 ·exact h.its.kept g (fun b o2 e h2 cs fr => by cases e; rw [hl] at h2; cases h2; rintro rfl; cases ho)

def ParseOut (w : World) (r : List X.It × Nat) (e : Ending) (w' : World) : Prop :=
 ∃ (tv : List (X.It × Value)) (a : Option Addr) (c : Nat), e = .returned (.tuple #[.slice a tv.length c, .int .i64 r.2]) ∧ tv.map (·.1) = r.1 ∧ w'.ownsRow w.heap.size 44 7 (.slice a tv.length c) tv.length (tv.flatMap itF) ∧ ItO w.heap.size w' tv ∧ Below w.heap.size w w'
theorem ParseOut.none {w w' : World} {z : Nat} {r : List X.It × Nat} (h : r = ([], z)) (hb : Below w.heap.size w w') : ParseOut w r (.returned (.tuple #[.slice Option.none 0 0, .int .i64 z])) w' := by
 subst h
 exact ⟨[], Option.none, 0, rfl, rfl, World.ownsRow_nil _ _ _ _, (fun p hp => by simp at hp), hb⟩
def IxP (w W : World) : Prop := Below w.heap.size w W ∧ Bx W w.heap.size [.slice none 0 0] ∧ Bx W (w.heap.size + 1) [.int .i64 2]
theorem Kf.below {B : Nat} {W W' : World} (h : Below W.heap.size W W') : Kf B W W' := fun k o _ hk _ => (h.block k (Array.getElem?_eq_some_iff.1 hk).1).trans hk
theorem Kf.trans {B : Nat} {A W W' : World} (h : Kf B A W) (h2 : Kf B W W') : Kf B A W' := fun k o hb hk ho => h2 k o hb (h k o hb hk ho) ho
theorem Kf.gb {B : Nat} {W W' : World} {r : Option Nat} (hg : W.grownBy W' r) (hr : ∀ b o, r = some b → W.heap[b]? = some o → o.isCells = true) : Kf B W W' := fun k o _ hk ho =>
 (hg.block k (Array.getElem?_eq_some_iff.1 hk).1 (fun e => by have := hr k o e.symm hk; rw [ho] at this; cases this)).trans hk
theorem Kf.set {B : Nat} {W : World} {b : Nat} {vs : List Value} (h : Bx W b vs) (hne : vs ≠ []) (k : Nat) (u : Value) : Kf B W (W.setCell ⟨b, k, none⟩ u) :=
 Kf.gb (gb_set _ _ _) (fun b' o e ho => by
  cases e
  by_cases hc : o.isCells = true
  ·exact hc
  ·exact absurd rfl (noCells_ne ho (by simpa using hc) h hne))
theorem own_cells {W : World} {B : Nat} {ty : TypeId} {k n : Nat} {v : Value} {cs : List Value} (h : W.ownsRow B ty k v n cs) : ∀ b o, v.ownBlock = some b → W.heap[b]? = some o → o.isCells = true ∧ ∃ cur, o = .cells cur ty (0, 0) := by
 intro b o e ho
 rcases h.2 with ⟨e1, -⟩ | ⟨g, cap, cur, e1, -, hh, -⟩
 ·rw [e1] at e; cases e
 ·rw [e1] at e
  cases e
  rw [hh] at ho
  cases ho
  exact ⟨rfl, _, rfl⟩
theorem ItO.keptB {B b : Nat} {W W' : World} {tv : List (X.It × Value)} (h : ItO B W tv) (hg : W.grownBy W' (some b)) (hb : b < B) : ItO B W' tv := by
 intro p hp
 obtain ⟨hn, aw, lw, cw, e, ho⟩ := h p hp
 exact ⟨hn, aw, lw, cw, e, ho.kept hg (.inr (fun e2 => by have := (ho.lt b e2).1; omega))⟩
theorem reads_snoc {pre : List (List X.By)} {ws : List X.By} {ts : List X.It} {t : X.It} (h : X.reads pre = some ts) (hr : X.read ws = some t) : X.reads (pre ++ [ws]) = some (ts ++ [t]) := by
 rw [X.reads_app, h]
 simp [X.reads, hr]
theorem reads_bad {pre post : List (List X.By)} {ws : List X.By} (hr : X.read ws = none) : X.reads (pre ++ [ws] ++ post) = none := by
 rw [X.reads_app, X.reads_app]
 have : X.reads [ws] = none := by simp [X.reads, hr]
 rw [this]
 cases X.reads pre <;> rfl
theorem reads_many {pre post : List (List X.By)} (hn : 20000 < pre.length) : ∀ l, X.reads (pre ++ post) = some l → ¬ l.length ≤ 20000 := fun l hl => by
 rw [X.reads_length hl, List.length_append]
 omega
theorem parse_bad {s : X.By} (hs : s.length ≤ 200000) (h : X.reads (X.wl s) = none ∨ ∀ l, X.reads (X.wl s) = some l → ¬ l.length ≤ 20000) : X.parse s = ([], 2) := by
 unfold X.parse
 rw [if_neg (by omega)]
 rcases h with h | h
 ·rw [h]
 ·cases hr : X.reads (X.wl s) with
  | none => rfl
  | some l => simp only; rw [if_neg (h l hr)]

theorem ItO.base {B B' : Nat} {W : World} {tv : List (X.It × Value)} (h : ItO B W tv) (hb : B' ≤ B) : ItO B' W tv := by
 intro p hp
 obtain ⟨hn, aw, lw, cw, e, ho⟩ := h p hp
 exact ⟨hn, aw, lw, cw, e, own_baseB ho hb⟩
theorem PI.fin {w W : World} {tv : List (X.It × Value)} {v : Value} {D : Nat} (h : PI w W tv v) (hw : w.heap.size ≤ D) (hD : W.heap[D]? = some (.deferred (some []))) (z : Int) :
  ((W.setCell ⟨w.heap.size, 0, none⟩ v).setCell ⟨w.heap.size + 1, 0, none⟩ (.int .i64 z)).heap[D]? = some (.deferred (some [])) ∧
  (((W.setCell ⟨w.heap.size, 0, none⟩ v).setCell ⟨w.heap.size + 1, 0, none⟩ (.int .i64 z)).putObj D (.deferred none)).cell? ⟨w.heap.size, 0, none⟩ = some v ∧
  (((W.setCell ⟨w.heap.size, 0, none⟩ v).setCell ⟨w.heap.size + 1, 0, none⟩ (.int .i64 z)).putObj D (.deferred none)).cell? ⟨w.heap.size + 1, 0, none⟩ = some (.int .i64 z) ∧
  (((W.setCell ⟨w.heap.size, 0, none⟩ v).setCell ⟨w.heap.size + 1, 0, none⟩ (.int .i64 z)).putObj D (.deferred none)).ownsRow w.heap.size 44 7 v tv.length (tv.flatMap itF) ∧
  ItO w.heap.size (((W.setCell ⟨w.heap.size, 0, none⟩ v).setCell ⟨w.heap.size + 1, 0, none⟩ (.int .i64 z)).putObj D (.deferred none)) tv ∧
  Below w.heap.size w (((W.setCell ⟨w.heap.size, 0, none⟩ v).setCell ⟨w.heap.size + 1, 0, none⟩ (.int .i64 z)).putObj D (.deferred none)) := by
 have x0 := h.b0.put 0 (by simp) v
 have x1 := h.b1.gb (gb_set W ⟨w.heap.size, 0, none⟩ v) (show w.heap.size + 1 ≠ w.heap.size by omega)
 have y0 := x0.gb (gb_set (W.setCell ⟨w.heap.size, 0, none⟩ v) ⟨w.heap.size + 1, 0, none⟩ (.int .i64 z)) (show w.heap.size ≠ w.heap.size + 1 by omega)
 have y1 := x1.put 0 (by simp) (.int .i64 z)
 have k1 := Kf.set (B := w.heap.size) h.b0 (by simp) 0 v
 have k2 := Kf.set (B := w.heap.size) x1 (by simp) 0 (.int .i64 z)
 have hD2 := k2 D _ hw (k1 D _ hw hD rfl) rfl
 have o1 := h.own.kept (gb_set W ⟨w.heap.size, 0, none⟩ v) (.inr (fun e => by have := (h.own.lt w.heap.size e).1; omega))
 have o2 := o1.kept (gb_set (W.setCell ⟨w.heap.size, 0, none⟩ v) ⟨w.heap.size + 1, 0, none⟩ (.int .i64 z)) (.inr (fun e => by have := (o1.lt (w.heap.size + 1) e).1; omega))
 have i1 := h.its.keptB (gb_set W ⟨w.heap.size, 0, none⟩ v) (show w.heap.size < w.heap.size + 3 by omega)
 have i2 := i1.keptB (gb_set (W.setCell ⟨w.heap.size, 0, none⟩ v) ⟨w.heap.size + 1, 0, none⟩ (.int .i64 z)) (show w.heap.size + 1 < w.heap.size + 3 by omega)
 have b2 : Below w.heap.size w ((W.setCell ⟨w.heap.size, 0, none⟩ v).setCell ⟨w.heap.size + 1, 0, none⟩ (.int .i64 z)) := (h.low.setCell (Nat.le_refl _) _).setCell (Nat.le_succ _) _
 generalize (W.setCell ⟨w.heap.size, 0, none⟩ v).setCell ⟨w.heap.size + 1, 0, none⟩ (.int .i64 z) = Z at *
 have g := gb_put (W := Z) (l := D) (.deferred none)
 refine ⟨hD2, (y0.gb g (noCells_ne hD2 rfl y0 (by simp))).c 0 _ rfl, (y1.gb g (noCells_ne hD2 rfl y1 (by simp))).c 0 _ rfl, ?_, ?_, below_gb b2 g hw b2.size⟩
 ·exact own_baseB (o2.kept g (.inr (fun e => own_ne_obj hD2 rfl o2 (Eq.symm e)))) (by omega)
 ·exact (i2.kept g (fun b o2 e h2 cs fr => by cases e; rw [hD2] at h2; cases h2; rintro ⟨⟩)).base (by omega)

set_option maxRecDepth 100000 in
set_option maxHeartbeats 8000000 in
theorem parse_any (s : ByteArray) (hs : s.size ≤ maxLen) (w : World) (ht : Tab w) :
  Calls Tryz.prog 38 #[.string s] w (ParseOut w (X.parse s.data.toList)) := by
 unfold maxLen at hs
 by_cases hbig : 200000 < s.size
 ·have HR : Hid (X.parse s.data.toList = ([], 8)) := by show _ = _; unfold X.parse; rw [if_pos (by rw [len_list]; exact hbig)]
  go_enter Tryz.func38, Tryz.ntmps38
  go_wp2_with fail
  refine bodyPost_ret (v := .tuple #[.slice none 0 0, .int .i64 8]) (by simp [results, Tryz.results38, go_sem]) rfl ?_
  refine ParseOut.none HR.out ?_
  repeat (first | exact bl2 _ _ _ | refine Below.setCell ?_ (by simp) _)
 have hsm : s.size ≤ 200000 := by omega
 have hdec : ¬ (200000 : Int) < s.size := by omega
 have HT : Hid _ := ht
 have hz7 := ht.hz
 clear ht hbig hs
 have hlines := lines_any s
 refine (callsIn_wide (n := 6)).1 ?_
 refine callsIn_of_wp_marks Tryz.func38 rfl trivial ?_ rfl
 simp only [Tryz.ntmps38, List.size_toArray, List.length_cons, List.length_nil, Nat.reduceAdd, Nat.reduceSub, Array.replicate_succ, Array.replicate_zero, List.push_toArray, List.append_toArray, List.nil_append, List.cons_append]
 gi_wp2
 refine ⟨trivial, ?_⟩
 refine (callsIn_wide.2 (hlines _)).mono ?_
 rintro e y ⟨rfl, rfl⟩
 clear hlines
 gi_wp2
 have HPI0 : Hid (PI w ((((w.alloc (.cells #[.slice none 0 0] 22)).alloc (.cells #[.int .i64 0] 31)).alloc (.cells #[.slice none 0 0] 22)).alloc (.cells #[.string s] 9)) [] (.slice none 0 0)) := by
  refine ⟨((bl2 _ _ _).alloc (by simp; omega) _).alloc (by simp; omega) _, (((HT.out.alloc _).alloc _).alloc _).alloc _, ?_, ?_, ?_, World.ownsRow_nil _ _ _ _, (fun p hp => by simp at hp), hz7⟩
  ·exact (((Bx.new w #[.slice none 0 0] 22).below (bl1 _ _)).below (bl1 _ _)).below (bl1 _ _)
  ·have := ((Bx.new (w.alloc (.cells #[.slice none 0 0] 22)) #[.int .i64 0] 31).below (bl1 _ (.cells #[.slice none 0 0] 22))).below (bl1 _ (.cells #[.string s] 9))
   simpa using this
  ·have := (Bx.new ((w.alloc (.cells #[.slice none 0 0] 22)).alloc (.cells #[.int .i64 0] 31)) #[.slice none 0 0] 22).below (bl1 _ (.cells #[.string s] 9))
   simpa using this
 have HS0 : Hid (((((w.alloc (.cells #[.slice none 0 0] 22)).alloc (.cells #[.int .i64 0] 31)).alloc (.cells #[.slice none 0 0] 22)).alloc (.cells #[.string s] 9)).cell? ⟨w.heap.size + 1 + 1 + 1, 0, none⟩ = some (.string s)) := by
  show _ = _
  have := row_cell (w := ((w.alloc (.cells #[.slice none 0 0] 22)).alloc (.cells #[.int .i64 0] 31)).alloc (.cells #[.slice none 0 0] 22)) (a := #[.string s]) (t := 9) (k := 0) (u := .string s) rfl
  simpa using this
 have HSZ : Hid (w.heap.size ≤ ((((w.alloc (.cells #[.slice none 0 0] 22)).alloc (.cells #[.int .i64 0] 31)).alloc (.cells #[.slice none 0 0] 22)).alloc (.cells #[.string s] 9)).heap.size) := by show _ ≤ _; simp; omega
 generalize ((((w.alloc (.cells #[.slice none 0 0] 22)).alloc (.cells #[.int .i64 0] 31)).alloc (.cells #[.slice none 0 0] 22)).alloc (.cells #[.string s] 9)) = W0 at HPI0 HS0 HSZ ⊢
 refine range_lies (σ := List (List X.By)) (β := List X.By × Nat × Nat) (gf := 82) (lb := #[.pointer (some ⟨w.heap.size + 1 + 1 + 1, 0, none⟩)]) rfl (enters_of Tryz.func82 (by kernel_rfl) rfl)
  (fun pre W => ∃ tv av cv, PI w W tv (.slice av tv.length cv) ∧ X.reads pre = some (tv.map (·.1)) ∧ tv.length ≤ 20000)
  (fun pre W => IxP w W ∧ X.parse s.data.toList = ([], 2))
  (fun pre x W => StrV W (some ⟨x.2.1, 0, none⟩) x.1.length x.2.2 x.1 ∧ x.1 ≠ [] ∧ x.1.length ≤ 200000 ∧ ∃ post, X.wl s.data.toList = pre ++ [x.1] ++ post)
  (fun x => #[(.slice (some ⟨x.2.1, 0, none⟩) x.1.length x.2.2)]) (fun pre x => pre ++ [x.1]) [] (fun pre => pre = X.wl s.data.toList) (fun _ => True)
  (fun x => { tmps := #[.string s, undef, .pointer (some ⟨w.heap.size, 0, none⟩), .pointer (some ⟨w.heap.size + 1, 0, none⟩), .pointer (some ⟨w.heap.size + 1 + 1, 0, none⟩), (.slice (some ⟨x.2.1, 0, none⟩) x.1.length x.2.2), undef, undef, .string s, .int .i64 s.size, .bool false, .string s, .func (.func 82) #[] #[.pointer (some ⟨w.heap.size + 1 + 1 + 1, 0, none⟩)], (.slice (some ⟨x.2.1, 0, none⟩) x.1.length x.2.2), undef, undef, undef, undef, undef, undef, undef, undef, undef, undef, undef, undef, undef, undef, undef, undef, undef], defers := [] })
  (fun _ => rfl) ?ib ?il ?ixl ?xl ?it ?start ?assign ?body ?done ?stop
 case ib => rintro pre A B ⟨tv, av, cv, h1, h2⟩ hb; exact ⟨tv, av, cv, h1.below hb, h2⟩
 case il => rintro pre A l o o' hl ho hc ⟨tv, av, cv, h1, h2⟩; exact ⟨tv, av, cv, h1.put (Nat.le_trans HSZ.out hl) ho hc o', h2⟩
 case ixl =>
  rintro pre A l o o' hl ho hc ⟨⟨h1, h2, h3⟩, h4⟩
  have g := gb_put (W := A) (l := l) o'
  exact ⟨⟨below_gb h1 g (Nat.le_trans HSZ.out hl) h1.size, h2.gb g (noCells_ne ho hc h2 (by simp)), h3.gb g (noCells_ne ho hc h3 (by simp))⟩, h4⟩
 case xl =>
  rintro pre x A l o o' hl ho hc ⟨h1, h2⟩
  refine ⟨⟨h1.count, h1.room, h1.small, ?_⟩, h2⟩
  rcases h1.cells with h0 | ⟨b, off, e, hcell⟩
  ·exact .inl h0
  ·refine .inr ⟨b, off, e, fun i hi => ?_⟩
   have hq := hcell i hi
   refine (gb_put (W := A) (l := l) o').cell hq (fun e2 => ?_)
   cases e2
   unfold World.cell? at hq
   simp only [ho] at hq
   cases o <;> simp_all [Obj.isCells]
 case it =>
  intro l J Jx W1 hb hJb hJI hY hJ0
  have := lines1_in 5 l (w.heap.size + 1 + 1 + 1) s hsm J Jx hJb (fun pre A h => by obtain ⟨tv, av, cv, h1, -⟩ := hJI pre A h; exact h1.tab) (fun pre ws g c W h1 h2 h3 h4 h5 => hY pre (ws, g, c) W h1 ⟨h2, h3, h4, h5⟩) W1 ((hb.cell (p := ⟨w.heap.size + 1 + 1 + 1, 0, none⟩) (World.block_lt_of_cell? _ ⟨w.heap.size + 1 + 1 + 1, 0, none⟩ HS0.out)).trans HS0.out) hJ0
  refine this.mono ?_
  rintro e W' ⟨hv, h | ⟨pre, post, h1, h2⟩⟩
  ·exact ⟨hv, .inl ⟨_, rfl, h⟩⟩
  ·exact ⟨hv, .inr ⟨pre, trivial, h2⟩⟩
 case start => exact ⟨[], none, 0, HPI0.out, rfl, by simp⟩
 case assign =>
  intro l x W K hK
  gi_wp2
  exact hK
 case body =>
  rintro l pre ⟨ws, g, c⟩ W ⟨tv, av, cv, hPI, hrd, hcnt⟩ ⟨hsv, hne, hwl, post, hpost⟩
  simp only at hsv hne hwl hpost ⊢
  have HPI : Hid (PI w W tv (.slice av tv.length cv)) := hPI
  have HRD : Hid (X.reads pre = some (tv.map (·.1)) ∧ tv.length ≤ 20000) := ⟨hrd, hcnt⟩
  have HPO : Hid (X.wl s.data.toList = pre ++ [ws] ++ post) := hpost
  have HWN : Hid (w.heap.size + 3 ≤ W.heap.size) := by have := hPI.b4.lt; exact this
  have hread := read_any hsv hwl hne hPI.tab
  have hlen : tv.length ≤ 20000 := hcnt
  clear hPI hrd hcnt hpost hsv hne hwl HPI0 HS0
  gi_wp2
  refine ⟨trivial, ?_⟩
  refine (CallsIn.inRound l (callsIn_wide.2 hread)).mono ?_
  rintro e y ⟨t, aw, lw, cw, ok, rfl, h1, h2, h3, ho, hb⟩
  have HH : Hid ((ok = true → X.read ws = some t) ∧ (ok = false → X.read ws = none) ∧ t.name.length ≤ 200000) := ⟨h1, h2, h3⟩
  have HB1 : Hid (Below W.heap.size W (y.alloc (.cells #[.int .i64 t.kind, .string (X.str t.name), .int .i64 t.op, .int .i64 t.a, .int .i64 t.b, .int .i64 t.n, .slice aw lw cw] 44))) := hb.alloc hb.size _
  have HP1 : Hid (PI w (y.alloc (.cells #[.int .i64 t.kind, .string (X.str t.name), .int .i64 t.op, .int .i64 t.a, .int .i64 t.b, .int .i64 t.n, .slice aw lw cw] 44)) tv (.slice av tv.length cv)) := HPI.out.below HB1.out
  have HOW : Hid (World.ownsRow (y.alloc (.cells #[.int .i64 t.kind, .string (X.str t.name), .int .i64 t.op, .int .i64 t.a, .int .i64 t.b, .int .i64 t.n, .slice aw lw cw] 44)) (w.heap.size + 3) 2 1 (.slice aw lw cw) lw (iC t.words)) := own_thru (own_baseB ho HWN.out) (bl1 _ _)
  have c0 := HP1.out.b0.c 0 _ rfl
  have c1 := HP1.out.b1.c 0 _ rfl
  have c4 := HP1.out.b4.c 0 _ rfl
  have f0 := HP1.out.b0.f 0
  have f1 := HP1.out.b1.f 0
  have l0 := HP1.out.b0.lt
  clear h1 h2 h3 ho hb hread
  cases ok with
  | false =>
   have HBAD : Hid (X.parse s.data.toList = ([], 2)) := parse_bad (by rw [len_list]; exact hsm) (.inl (by rw [HPO.out]; exact reads_bad (HH.out.2.1 rfl)))
   ·skip
    gi_wp2
    refine ⟨?_, ⟨⟨?_, ?_, ?_⟩, HBAD.out⟩⟩
    ·exact ((Kf.below HB1.out).trans (Kf.set HP1.out.b0 (by simp) 0 _)).trans (Kf.set (HP1.out.b1.gb (gb_set _ _ _) (show w.heap.size + 1 ≠ w.heap.size by omega)) (by simp) 0 _)
    ·exact (HP1.out.low.setCell (Nat.le_refl _) _).setCell (Nat.le_succ _) _
    ·exact (HP1.out.b0.put 0 (by simp) _).gb (gb_set _ _ _) (show w.heap.size ≠ w.heap.size + 1 by omega)
    ·exact (HP1.out.b1.gb (gb_set _ _ _) (show w.heap.size + 1 ≠ w.heap.size by omega)).put 0 (by simp) _
  | true =>
   by_cases hk : tv.length = 20000
   ·have hk' : ((tv.length : Int) == 20000) = true := by simp; omega
    have HBAD : Hid (X.parse s.data.toList = ([], 2)) := by
     refine parse_bad (by rw [len_list]; exact hsm) (.inr fun l hl => ?_)
     rw [HPO.out] at hl
     have h5 := X.reads_length HRD.out.1
     rw [List.length_map] at h5
     exact reads_many (by rw [List.length_append]; simp; omega) l hl
    clear hk
    gi_wp2
    refine ⟨?_, ⟨⟨?_, ?_, ?_⟩, HBAD.out⟩⟩
    ·exact ((Kf.below HB1.out).trans (Kf.set HP1.out.b0 (by simp) 0 _)).trans (Kf.set (HP1.out.b1.gb (gb_set _ _ _) (show w.heap.size + 1 ≠ w.heap.size by omega)) (by simp) 0 _)
    ·exact (HP1.out.low.setCell (Nat.le_refl _) _).setCell (Nat.le_succ _) _
    ·exact (HP1.out.b0.put 0 (by simp) _).gb (gb_set _ _ _) (show w.heap.size ≠ w.heap.size + 1 by omega)
    ·exact (HP1.out.b1.gb (gb_set _ _ _) (show w.heap.size + 1 ≠ w.heap.size by omega)).put 0 (by simp) _
   ·have hk' : ((tv.length : Int) == 20000) = false := by simp; omega
    have hk2 : tv.length + 1 ≤ 20000 := by omega
    obtain ⟨it, hit, ht0, ht1, ht2⟩ := info_parts infoIt
    have HB2 : Hid (Below W.heap.size W ((y.alloc (.cells #[.int .i64 t.kind, .string (X.str t.name), .int .i64 t.op, .int .i64 t.a, .int .i64 t.b, .int .i64 t.n, .slice aw lw cw] 44)).alloc (.cells #[.int .i64 t.kind, .string (X.str t.name), .int .i64 t.op, .int .i64 t.a, .int .i64 t.b, .int .i64 t.n, .slice aw lw cw] 44))) := HB1.out.alloc HB1.out.size _
    have HP2 : Hid (PI w ((y.alloc (.cells #[.int .i64 t.kind, .string (X.str t.name), .int .i64 t.op, .int .i64 t.a, .int .i64 t.b, .int .i64 t.n, .slice aw lw cw] 44)).alloc (.cells #[.int .i64 t.kind, .string (X.str t.name), .int .i64 t.op, .int .i64 t.a, .int .i64 t.b, .int .i64 t.n, .slice aw lw cw] 44)) tv (.slice av tv.length cv)) := HP1.out.below (bl1 _ _)
    have HOW2 : Hid (World.ownsRow ((y.alloc (.cells #[.int .i64 t.kind, .string (X.str t.name), .int .i64 t.op, .int .i64 t.a, .int .i64 t.b, .int .i64 t.n, .slice aw lw cw] 44)).alloc (.cells #[.int .i64 t.kind, .string (X.str t.name), .int .i64 t.op, .int .i64 t.a, .int .i64 t.b, .int .i64 t.n, .slice aw lw cw] 44)) (w.heap.size + 3) 2 1 (.slice aw lw cw) lw (iC t.words)) := own_thru HOW.out (bl1 _ _)
    have HNC : Hid (∀ j u, ([.int .i64 t.kind, .string (X.str t.name), .int .i64 t.op, .int .i64 t.a, .int .i64 t.b, .int .i64 t.n, .slice aw lw cw] : List Value)[j]? = some u → ((y.alloc (.cells #[.int .i64 t.kind, .string (X.str t.name), .int .i64 t.op, .int .i64 t.a, .int .i64 t.b, .int .i64 t.n, .slice aw lw cw] 44)).alloc (.cells #[.int .i64 t.kind, .string (X.str t.name), .int .i64 t.op, .int .i64 t.a, .int .i64 t.b, .int .i64 t.n, .slice aw lw cw] 44)).cell? ((⟨y.heap.size + 1, 0, none⟩ : Addr).add j) = some u) := fun j u hu => by
     rw [Addr.add_lit, Nat.zero_add]
     have := row_cell (w := (y.alloc (.cells #[.int .i64 t.kind, .string (X.str t.name), .int .i64 t.op, .int .i64 t.a, .int .i64 t.b, .int .i64 t.n, .slice aw lw cw] 44))) (a := #[.int .i64 t.kind, .string (X.str t.name), .int .i64 t.op, .int .i64 t.a, .int .i64 t.b, .int .i64 t.n, .slice aw lw cw]) (t := 44) (k := j) (u := u) (by simpa using hu)
     simpa using this
    have HSZ2 : Hid (w.heap.size + 3 ≤ ((y.alloc (.cells #[.int .i64 t.kind, .string (X.str t.name), .int .i64 t.op, .int .i64 t.a, .int .i64 t.b, .int .i64 t.n, .slice aw lw cw] 44)).alloc (.cells #[.int .i64 t.kind, .string (X.str t.name), .int .i64 t.op, .int .i64 t.a, .int .i64 t.b, .int .i64 t.n, .slice aw lw cw] 44)).heap.size) := by show _ ≤ _; have := HB2.out.size; have := HWN.out; omega
    have HNEW : Hid (X.reads (pre ++ [ws]) = some ((tv ++ [((t, Value.slice aw lw cw) : X.It × Value)]).map (·.1))) := by
     show _ = _
     rw [reads_snoc HRD.out.1 (HH.out.1 rfl)]
     simp
    gi_wp2_with (gi_at_builtin; refine wpListIn_append_own _ rfl _ _ 22 rfl (w.heap.size + 3) 44 it _ 7 80 Tryz.underlying22 hit ht0 ht1 ht2 rfl (by decide) (.slice av tv.length cv) tv.length _ rfl HP2.out.own ⟨y.heap.size + 1, 0, none⟩ 1 1 [.int .i64 t.kind, .string (X.str t.name), .int .i64 t.op, .int .i64 t.a, .int .i64 t.b, .int .i64 t.n, .slice aw lw cw] rfl rfl HNC.out (by intro u hu; simp at hu; rcases hu with rfl | rfl | rfl | rfl | rfl | rfl | rfl <;> rfl) (by unfold maxLen; omega) (by omega) HSZ2.out ?_; intro v' w3 hown' hgrow _; obtain ⟨g', cap', rfl⟩ := ownsRow_succ hown'; have HO3 : Hid _ := hown'; have HG3 : Hid _ := hgrow; have HNB : Hid (∀ b, b < w.heap.size + 3 → some b ≠ (Value.slice av tv.length cv).ownBlock) := (fun b hb e => by have := (HP2.out.own.lt b e.symm).1; omega); have HB4 : Hid (Bx w3 (w.heap.size + 2) [.slice av tv.length cv]) := HP2.out.b4.gbO hgrow (HNB.out _ (by omega)); have d4 := HB4.out.c 0 _ rfl; have g4 := HB4.out.f 0; have l4 := HB4.out.lt; clear hown' hgrow)
    have hits : ItO (w.heap.size + 3) ((y.alloc (.cells #[.int .i64 t.kind, .string (X.str t.name), .int .i64 t.op, .int .i64 t.a, .int .i64 t.b, .int .i64 t.n, .slice aw lw cw] 44)).alloc (.cells #[.int .i64 t.kind, .string (X.str t.name), .int .i64 t.op, .int .i64 t.a, .int .i64 t.b, .int .i64 t.n, .slice aw lw cw] 44)) (tv ++ [(t, .slice aw lw cw)]) := fun p hp => by
     rcases List.mem_append.1 hp with hp | hp
     ·exact HP2.out.its p hp
     ·simp at hp; subst hp; exact ⟨HH.out.2.2, aw, lw, cw, rfl, HOW2.out⟩
    have hits3 := (hits.kept HG3.out (fun b o e ho cs fr => by obtain ⟨-, cur, rfl⟩ := own_cells HP2.out.own b o e ho; intro h; cases h)).keptB (gb_set w3 ⟨w.heap.size + 2, 0, none⟩ (.slice (some ⟨g', 0, none⟩) (tv.length + 1) cap')) (show w.heap.size + 2 < w.heap.size + 3 by omega)
    have hlow : Below w.heap.size w (w3.setCell ⟨w.heap.size + 2, 0, none⟩ (.slice (some ⟨g', 0, none⟩) (tv.length + 1) cap')) := (below_grownB HP2.out.low HP2.out.own HG3.out HSZ2.out (by omega)).setCell (by simp) _
    have hll : (tv ++ [((t, Value.slice aw lw cw) : X.It × Value)]).length = tv.length + 1 := by simp
    refine ⟨?_, ⟨tv ++ [(t, .slice aw lw cw)], some ⟨g', 0, none⟩, cap', ?_, HNEW.out, by rw [hll]; exact hk2⟩⟩
    ·exact (Kf.below HB2.out).trans ((Kf.gb HG3.out (fun b o e ho => (own_cells HP2.out.own b o e ho).1)).trans (Kf.set HB4.out (by simp) 0 _))
    ·rw [hll]
     refine ⟨hlow, HT.out.below hlow, ?_, ?_, HB4.out.put 0 (by simp) _, ?_, hits3, hz7⟩
     ·exact (HP2.out.b0.gbO HG3.out (HNB.out _ (by omega))).gb (gb_set _ _ _) (show w.heap.size ≠ w.heap.size + 2 by omega)
     ·exact (HP2.out.b1.gbO HG3.out (HNB.out _ (by omega))).gb (gb_set _ _ _) (show w.heap.size + 1 ≠ w.heap.size + 2 by omega)
     ·rw [hll, List.flatMap_append]
      have ho3 : w3.ownsRow (w.heap.size + 3) 44 7 (.slice (some ⟨g', 0, none⟩) (tv.length + 1) cap') (tv.length + 1) (tv.flatMap itF ++ [.int .i64 t.kind, .string (X.str t.name), .int .i64 t.op, .int .i64 t.a, .int .i64 t.b, .int .i64 t.n, .slice aw lw cw]) := HO3.out
      have := ho3.kept (gb_set w3 ⟨w.heap.size + 2, 0, none⟩ (.slice (some ⟨g', 0, none⟩) (tv.length + 1) cap')) (.inr (fun e => by have := (ho3.lt (w.heap.size + 2) e).1; omega))
      exact this
 case done =>
  rintro D pre W hD rfl ⟨tv, av, cv, hPI, hrd, hcnt⟩ hK
  have c0 := hPI.b0.c 0 _ rfl
  have c1 := hPI.b1.c 0 _ rfl
  have c4 := hPI.b4.c 0 _ rfl
  have f0 := hPI.b0.f 0
  have f1 := hPI.b1.f 0
  have HPI : Hid (PI w W tv (.slice av tv.length cv)) := hPI
  have HRD : Hid (X.reads (X.wl s.data.toList) = some (tv.map (·.1)) ∧ tv.length ≤ 20000) := ⟨hrd, hcnt⟩
  have HKD : Hid _ := hK
  clear hPI hrd hcnt hK HPI0 HS0
  gi_wp2
  obtain ⟨e1, e2, e3, e4, e5, e6⟩ := HPI.out.fin (Nat.le_trans HSZ.out hD) HKD.out 0
  have HR : Hid (X.parse s.data.toList = (tv.map (·.1), 0)) := by
   show _ = _
   unfold X.parse
   rw [if_neg (by rw [len_list]; omega), HRD.out.1]
   simp only [List.length_map]
   rw [if_pos HRD.out.2]
  refine ⟨by simp, .inl ⟨_, _, rfl, run_takeDeferred e1, ?_⟩⟩
  refine ⟨.tuple #[.slice av tv.length cv, .int .i64 0], ?_, ?_⟩
  ·simp [results, Tryz.results38, go_sem, e2, e3]
  ·rw [HR.out]
   exact ⟨tv, av, cv, rfl, rfl, e4, e5, e6⟩
 case stop =>
  rintro D pre W hD - ⟨⟨h1, h2, h3⟩, h4⟩ hK
  have c0 := h2.c 0 _ rfl
  have c1 := h3.c 0 _ rfl
  gi_wp2
  have g := gb_put (W := W) (l := D) (.deferred none)
  have e2 := (h2.gb g (noCells_ne hK rfl h2 (by simp))).c 0 _ rfl
  have e3 := (h3.gb g (noCells_ne hK rfl h3 (by simp))).c 0 _ rfl
  refine ⟨by simp, .inl ⟨_, _, rfl, run_takeDeferred hK, ?_⟩⟩
  refine ⟨.tuple #[.slice none 0 0, .int .i64 2], ?_, ?_⟩
  ·simp [results, Tryz.results38, go_sem, e2, e3]
  ·exact ParseOut.none h4 (below_gb h1 g (Nat.le_trans HSZ.out hD) h1.size)

end Go.Proofs.YtgjingleolhkbaaGreatDoor
