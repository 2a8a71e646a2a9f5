/- The words of each line, handed out one by one. -/
import Derived.Test.YtbkjiipelmfbjaaGreatDoorAsWords
import Derived.Test.YtbkjiipelmfbjaaGreatDoorAsReadB
import Derived.RangeFuncNested
import Derived.RangeFuncBound
import Derived.RangeFuncCalls
import Derived.RangeFuncLeaves
import Derived.Shelf.RegionOpen
import Derived.OwnWalkIn
import Derived.TacticsInMore
import Derived.LoopNIn
import Derived.LoopIn
namespace Go.Proofs.YtbkjiipelmfbjaaGreatDoor
open Go.RowKit Go.Shelf
attribute [local go_sem] Oper.semAt_some
set_option linter.unusedVariables false
set_option linter.unusedSimpArgs false

theorem words_small {l : X.By} (h : l.length ≤ 200000) : (X.wordsOf l).length ≤ 200000 ∧ ∀ x ∈ X.wordsOf l, x.length ≤ 200000 := by
  have h1 := X.fieldsGo_len (X.ahead l) []
  have h2 : (X.ahead l).length ≤ l.length := List.Sublist.length_le (List.takeWhile_sublist _)
  have h3 : ∀ ws : List X.By, (ws.map fun w => w.length + 1).sum ≤ 200001 → ws.length ≤ 200001 ∧ ∀ x ∈ ws, x.length ≤ 200000 := by
    intro ws
    induction ws with
    | nil => simp
    | cons w ws ih =>
      intro h
      simp only [List.map_cons, List.sum_cons] at h
      have := ih (by omega)
      refine ⟨?_, fun x hx => ?_⟩
      · have h4 : ws.length ≤ (ws.map fun w => w.length + 1).sum := by
          clear ih this h
          induction ws with
          | nil => simp
          | cons v ws ih2 => simp only [List.map_cons, List.sum_cons, List.length_cons]; omega
        simp only [List.length_cons]; omega
      · rcases List.mem_cons.1 hx with rfl | hx
        · omega
        · exact this.2 x hx
  have h5 : (X.wordsOf l) = X.fieldsGo [] (X.ahead l) := rfl
  rw [h5]
  obtain ⟨h6, h7⟩ := h3 (X.fieldsGo [] (X.ahead l)) (by simp at h1; omega)
  refine ⟨?_, h7⟩
  by_cases hc : (X.fieldsGo [] (X.ahead l)).length ≤ 200000
  · exact hc
  · exfalso
    have h8 : ∀ ws : List X.By, (∀ w ∈ ws, 1 ≤ w.length) → 2 * ws.length ≤ (ws.map fun w => w.length + 1).sum := by
      intro ws
      induction ws with
      | nil => simp
      | cons w ws ih =>
        intro hh
        have := ih (fun x hx => hh x (by simp [hx]))
        have := hh w (by simp)
        simp only [List.map_cons, List.sum_cons, List.length_cons]; omega
    have h9 : ∀ (m cur : X.By), ∀ w ∈ X.fieldsGo cur m, 1 ≤ w.length := by
      intro m
      induction m with
      | nil => intro cur w hw; unfold X.fieldsGo at hw; split at hw
               · simp at hw
               · rename_i hne; simp at hw; subst hw; exact Nat.pos_of_ne_zero (fun e => hne (List.eq_nil_of_length_eq_zero e))
      | cons c m ih =>
        intro cur w hw
        unfold X.fieldsGo at hw
        split at hw
        · split at hw
          · exact ih _ w hw
          · rename_i hne
            rcases List.mem_cons.1 hw with rfl | hw
            · exact Nat.pos_of_ne_zero (fun e => hne (List.eq_nil_of_length_eq_zero e))
            · exact ih _ w hw
        · exact ih _ w hw
    have := h8 _ (h9 (X.ahead l) [])
    simp at h1
    omega
theorem str_of_own {w : World} {B g c : Nat} {ws : List X.By} (h : w.ownsRow B 9 1 (.slice (some ⟨g, 0, none⟩) ws.length c) ws.length (sC ws)) (hs : ∀ x ∈ ws, x.length ≤ 200000) : StrV w (some ⟨g, 0, none⟩) ws.length c ws := by
  rcases h.2 with ⟨e1, -⟩ | ⟨g', cap, cur, e1, hb, hh, h1, h2, -⟩
  · cases e1
  · cases e1
    refine ⟨rfl, ⟨h1, h2⟩, hs, .inr ⟨_, 0, rfl, fun i hi => ?_⟩⟩
    rw [Nat.zero_add, h.cellAt i (by omega)]
    unfold sC
    rw [List.getElem?_map]
    simp [List.getD, hi]

/-- What was handed out so far, and what is still to come. -/
def wlOf (ls : List X.By) : List (List X.By) := (ls.map X.wordsOf).filter fun ws => decide (ws ≠ [])
theorem wl_eq (s : X.By) : X.wl s = wlOf (X.lines s) := rfl

set_option maxRecDepth 100000 in
set_option maxHeartbeats 8000000 in
theorem lines1_in (n l Bs : Nat) (s : ByteArray) (hs : s.size ≤ 200000) (J Jx : List (List X.By) → World → Prop)
    (hJb : ∀ pre A B, J pre A → Below A.heap.size A B → J pre B) (hJt : ∀ pre A, J pre A → Tab A)
    (hY : ∀ (pre : List (List X.By)) (ws : List X.By) (g c : Nat) (W : World), J pre W → StrV W (some ⟨g, 0, none⟩) ws.length c ws → ws ≠ [] → ws.length ≤ 200000 → (∃ post, X.wl s.data.toList = pre ++ [ws] ++ post) →
      YieldAt Fence.wide (n - 1) Tryz.prog l #[.slice (some ⟨g, 0, none⟩) ws.length c] W fun e W' => (e = .returned (.bool true) ∧ J (pre ++ [ws]) W') ∨ (e = .returned (.bool false) ∧ Jx (pre ++ [ws]) W'))
    (W : World) (hBs : W.cell? ⟨Bs, 0, none⟩ = some (.string s)) (h0 : J [] W) :
    CallsIn Fence.wide n Tryz.prog 18 #[.func (.yield l) #[] #[], .pointer (some ⟨Bs, 0, none⟩)] W fun e W' => (∃ v, e = .returned v) ∧
      (J (X.wl s.data.toList) W' ∨ (∃ pre post, X.wl s.data.toList = pre ++ post ∧ Jx pre W')) := by
  have hcut := fun (r : ByteArray) (m : Int) (w : World) (h : r.size ≤ 200000) (hm : w.cell? ⟨1, 0, none⟩ = some (.int .i64 m)) => Tryz.strings_Cut r { data := #[10] } m w (by omega) hm
  refine callsIn_of_wp Tryz.func18 rfl trivial ?_ rfl
  simp only [Tryz.ntmps18, List.size_toArray, List.length_cons, List.length_nil, Nat.reduceAdd, Nat.reduceSub, Array.replicate_succ, Array.replicate_zero, List.push_toArray, List.append_toArray, List.nil_append, List.cons_append]
  gi_wp2
  gi_loopw [3, 4] (fun rv mv wr => ∃ (r : ByteArray) (more : Bool) (pre : List (List X.By)), rv = .string r ∧ mv = .bool more ∧ r.size ≤ 200000 ∧ Hid (J pre wr ∧ X.wl s.data.toList = pre ++ (if more = true then wlOf (X.lines r.data.toList) else [])))
    (fun rv mv wr => match rv, mv with | .string r, .bool true => r.size + 2 | .string r, _ => 1 | _, _ => 0)
  case atStart => exact ⟨s, true, [], rfl, rfl, hs, h0, by simp [wl_eq]⟩
  case round =>
    obtain ⟨r, more, pre, rfl, rfl, hr, HI⟩ := hrel
    cases more with
    | false =>
      gi_wp2
      go_end0
      exact ⟨⟨_, rfl⟩, .inl (by have := HI.out.2; simp at this; rw [this]; exact HI.out.1)⟩
    | true =>
      obtain ⟨m, hm⟩ := (hJt _ _ HI.out.1).ml
      have HTW : Hid (Tab wr) := hJt _ _ HI.out.1
      obtain ⟨a, r', b, hcr, hln, hal, hrl, hms⟩ : ∃ (a r' : X.By) (b : Bool), Go.Lib.cut r.data.toList [10] = (a, r', b) ∧ X.lines r.data.toList = a :: (if b = true then X.lines r' else []) ∧ a.length ≤ 200000 ∧ r'.length ≤ 200000 ∧ (b = true → r'.length < r.size) := by
        rcases cut_line r.data.toList with ⟨a, r', h1, h2, h3⟩ | ⟨h1, h2⟩
        · rw [len_list] at h3
          exact ⟨a, r', true, h1, by rw [h2]; simp, by omega, by omega, fun _ => by omega⟩
        · exact ⟨r.data.toList, [], false, h1, by rw [h2]; simp, by rw [len_list]; exact hr, by simp, fun h => by cases h⟩
      have hc1 : Calls Tryz.prog 19 #[.string r, .string { data := #[10] }] wr fun e w' => e = .returned (.tuple #[.string (X.str a), .string (X.str r'), .bool b]) ∧ Below wr.heap.size wr w' := by
        refine (hcut r m wr hr hm).mono ?_
        rintro e w' ⟨rfl, k, rfl⟩
        refine ⟨?_, below_drew' (Below.refl _ _) k⟩
        show Ending.returned (.tuple #[.string ⟨(Go.Lib.cut r.data.toList [10]).1.toArray⟩, .string ⟨(Go.Lib.cut r.data.toList [10]).2.1.toArray⟩, .bool (Go.Lib.cut r.data.toList [10]).2.2]) = _
        rw [hcr]
        rfl
      have hw := fun w h => wordsOf_any (X.str a) (by rw [str_size]; exact hal) w h
      rw [str_list] at hw
      have HWL : Hid (X.wl s.data.toList = pre ++ wlOf (a :: (if b = true then X.lines r' else []))) := by
        show _ = _
        have := HI.out.2
        rw [hln] at this
        simpa using this
      obtain ⟨hws1, hws2⟩ := words_small hal
      have hrs : (X.str r').size ≤ 200000 := by rw [str_size]; exact hrl
      have HMS : Hid (b = true → (X.str r').size < r.size) := by rw [str_size]; exact hms
      have HRL : Hid ((X.str r').data.toList = r') := str_list _
      clear hcut hm hcr hln hal hrl hms hBs
      generalize X.str a = sa at *
      generalize X.str r' = sr at *
      gi_wp2
      refine ⟨trivial, (fun h => by cases h), ?_⟩
      refine (callsIn_wide.2 hc1).mono ?_
      rintro e w1 ⟨rfl, hb1⟩
      have HB1 : Hid (Below wr.heap.size wr w1) := hb1
      clear hb1 hc1
      gi_wp2
      refine ⟨trivial, (fun h => by cases h), ?_⟩
      refine (callsIn_wide.2 (hw w1 (HTW.out.below HB1.out))).mono ?_
      rintro e w2 ⟨g, c, rfl, ho, hb2⟩
      have HB2 : Hid (Below wr.heap.size wr w2) := HB1.out.trans (hb2.mono HB1.out.size)
      have HJ2 : Hid (J pre w2) := hJb _ _ _ HI.out.1 HB2.out
      have HSV : Hid (StrV w2 (some ⟨g, 0, none⟩) (X.wordsOf a).length c (X.wordsOf a)) := str_of_own ho hws2
      clear ho hb2 hw hws2
      by_cases hne : X.wordsOf a = []
      · have HWL2 : Hid (X.wl s.data.toList = pre ++ (if b = true then wlOf (X.lines sr.data.toList) else [])) := by
          show _ = _
          rw [HWL.out, HRL.out]
          unfold wlOf
          rw [List.map_cons, hne]
          cases b <;> simp
        have hl0 : (X.wordsOf a).length = 0 := by rw [hne]; rfl
        rw [hl0]
        clear hne hl0 HSV hY
        gi_wp2
        refine ⟨fun _ h => (by cases h), ?_⟩
        gi_wp2
        go_roundw
        case rel => exact ⟨sr, b, pre, rfl, rfl, hrs, HJ2.out, HWL2.out⟩
        case measure =>
          have := HMS.out
          cases b <;> simp at this ⊢ <;> omega
      · have hwl : X.wl s.data.toList = pre ++ [X.wordsOf a] ++ (if b = true then wlOf (X.lines sr.data.toList) else []) := by
          rw [HWL.out, HRL.out]
          unfold wlOf
          rw [List.map_cons, List.filter_cons_of_pos (by simpa using hne)]
          cases b <;> simp
        obtain ⟨fn, tmps, assign, body, hy, hR⟩ := hY pre (X.wordsOf a) g c w2 HJ2.out HSV.out hne hws1 ⟨_, hwl⟩
        have HWL2 : Hid _ := hwl
        have hl0 : 0 < (X.wordsOf a).length := Nat.pos_of_ne_zero (fun e => hne (List.eq_nil_of_length_eq_zero e))
        generalize X.wordsOf a = ws at *
        clear hwl hne hws1 HSV hY HWL
        have hl1 : (0 : Int) < (ws.length : Int) := by omega
        gi_wp2
        refine ⟨(fun h => by cases h), hR.mono ?_⟩
        rintro e w3 (⟨rfl, hJ3⟩ | ⟨rfl, hJx3⟩)
        · have HJ3 : Hid (J (pre ++ [ws]) w3) := hJ3
          clear hJ3 hR hy
          gi_wp2
          go_roundw
          case rel => exact ⟨sr, b, pre ++ [ws], rfl, rfl, hrs, HJ3.out, HWL2.out⟩
          case measure =>
            have := HMS.out
            cases b <;> simp at this ⊢ <;> omega
        · have HJ3 : Hid (Jx (pre ++ [ws]) w3) := hJx3
          clear hJx3 hR hy
          gi_wp2
          refine bodyPost_ret (results_none rfl _ _ _) rfl ?_
          exact ⟨⟨_, rfl⟩, .inr ⟨pre ++ [ws], _, HWL2.out, HJ3.out⟩⟩

end Go.Proofs.YtbkjiipelmfbjaaGreatDoor
