/- math/bits.TrailingZeros64, as this program has it. -/
import Derived.Test.YtljgpngbkmembaaDoorAMAh
import Derived.Test.YtljgpngbkmembaaDoorAMAb
import Derived.Test.YtljgpngbkmembaaDoorAMAa
import Derived.Test.YtljgpngbkmembaaDoorAMAc
import Derived.Test.YtljgpngbkmembaaDoorAMAd
import Derived.RangeFuncNested
import Derived.RangeFuncBound
import Derived.RangeFuncCalls
import Derived.RangeFuncLeaves
import Derived.Shelf.RegionOpen
import Derived.OwnWalkIn
import Derived.TacticsInMore
import Derived.LoopNIn
import Derived.LoopIn
import Derived.Test.YtljgpngbkmembaaDoorAMAg
import Derived.Deep.RegionHeld3
namespace Go.Proofs.YtljgpngbkmembaaDoor
theorem tz_any (x : Nat) (hx : x < 18446744073709551616) (w : World) (hT : x ≠ 0 → TabAt 1 Lib.deBruijn64tab w) : Calls Tryd.prog 44 #[.int .u64 x] w fun e w' => e = .returned (.int .i64 (Lib.ctz 64 x)) ∧ w' = w :=
  Any7.bits_TrailingZeros64 Tryd.lays29 x hx w hT
theorem wrap_u64' (n : Int) : IntKind.u64.wrap n = n % 18446744073709551616 := by simp [IntKind.wrap, IntKind.signed, IntKind.bits]
end Go.Proofs.YtljgpngbkmembaaDoor

/- A set's numbers, one by one. -/
namespace Go.Proofs.YtljgpngbkmembaaDoor
open Go.RowKit Go.Maps Go.Shelf
attribute [local go_sem] Oper.semAt_some
set_option linter.unusedVariables false
set_option linter.unusedSimpArgs false
/-- What All's closure reads. -/
def AllRd (Bs : Nat) (u : Nat → Nat) (W : World) : Prop := SetAt W Bs 0 u ∧ TabAt 1 Lib.deBruijn64tab W
theorem u64_low {v : Nat} (h0 : 0 < v) (h : v < 18446744073709551616) : bits .and .u64 (v : Int) (IntKind.u64.wrap ((v : Int) - 1)) = ((v &&& (v - 1) : Nat) : Int) := by
  have e : IntKind.u64.wrap ((v : Int) - 1) = ((v - 1 : Nat) : Int) := by rw [wrap_u64']; omega
  rw [e]
  exact u64_and_nat v (v - 1) h (by omega)
set_option maxRecDepth 100000 in
set_option maxHeartbeats 8000000 in
theorem all_goes (Bs : Nat) (u : Nat → Nat) (hu : F.Set7 u) : GoesL Tryd.prog 43 #[.pointer (some ⟨Bs, 0, none⟩)] (fun x : Int => #[.int .i64 x]) (F.els u) (AllRd Bs u) 54 := by
  intro l n J Jx W1 hn hJb hJr hY h0
  refine (callsIn_wide (n := 6)).1 ?_
  refine callsIn_of_wp Tryd.func43 rfl trivial ?_ rfl
  simp only [Tryd.ntmps43, List.size_toArray, List.length_cons, List.length_nil, Nat.reduceAdd, Nat.reduceSub, Array.replicate_succ, Array.replicate_zero, List.push_toArray, List.append_toArray, List.nil_append, List.cons_append]
  have hs := (hJr _ _ h0).1
  have s0 := hs 0 (by decide)
  have s1 := hs 1 (by decide)
  have s2 := hs 2 (by decide)
  have s3 := hs 3 (by decide)
  have s4 := hs 4 (by decide)
  have s5 := hs 5 (by decide)
  have s6 := hs 6 (by decide)
  simp only [Nat.zero_add] at s0 s1 s2 s3 s4 s5 s6
  have HX : ∀ (i : Nat), i < 7 → ∀ W : World, (Instr.index 54 (.agg (setCs u)) (.int .i64 (i : Int))).run Tryd.prog W = .ok (.int .u64 (u i : Int)) W := fun i hi W => set_index u W hi
  unfold setCs at HX
  have HXX : Hid _ := HX
  clear HX
  gi_wp2
  clear s0 s1 s2 s3 s4 s5 s6 hs
  gi_loopw [3, 4, 6] (fun iv rv xv wr => ∃ (i k : Nat), xv = .int .i64 i ∧ i ≤ 7 ∧ Hid ((F.els u).drop k = F.tl u i ∧ k ≤ (F.els u).length) ∧ Hid (J k wr)) (fun _ _ xv _ => 7 - (intOf xv).toNat)
  case atStart => exact ⟨0, 0, rfl, by decide, ⟨F.els_tl u, Nat.zero_le _⟩, h0⟩
  case round =>
    obtain ⟨i, k, rfl, hi, HD, HJ⟩ := hrel
    by_cases h7 : i < 7
    · have hii : (i : Int) < 7 := by omega
      have hi0 : 0 ≤ (i : Int) := by omega
      have HI := HXX.out i h7
      have HUI : Hid (u i < 18446744073709551616) := hu i h7
      have HD2 : Hid ((F.els u).drop k = (F.bitsL (u i)).map (fun j => ((i * 64 + j : Nat) : Int)) ++ F.tl u (i + 1) ∧ k ≤ (F.els u).length) := by
        refine ⟨?_, HD.out.2⟩
        rw [HD.out.1, F.tl_succ u h7]; rfl
      clear HD
      gi_wp2
      clear HI
      gi_loopw [4] (fun rv wq => ∃ (v k : Nat), rv = .int .u64 v ∧ Hid (v < 18446744073709551616) ∧ Hid ((F.els u).drop k = (F.bitsL v).map (fun j => ((i * 64 + j : Nat) : Int)) ++ F.tl u (i + 1) ∧ k ≤ (F.els u).length) ∧ Hid (J k wq)) (fun rv _ => (intOf rv).toNat)
      case atStart => exact ⟨u i, k, rfl, HUI, HD2, HJ⟩
      case round =>
        obtain ⟨v, k, rfl, HV, HD, HJ⟩ := hrel
        by_cases hv0 : v = 0
        · subst hv0
          have HD3 : Hid ((F.els u).drop k = F.tl u (i + 1) ∧ k ≤ (F.els u).length) := by
            refine ⟨?_, HD.out.2⟩
            rw [HD.out.1, F.bitsL_zero]; rfl
          clear HD
          gi_wp2
          go_roundw
          case rel => exact ⟨i + 1, k, rfl, by omega, HD3, HJ⟩
          case measure => simp [intOf]; omega
        · have hv1 : ((v : Int) == 0) = false := by simpa using hv0
          obtain ⟨c, hcc⟩ : ∃ c, Lib.ctz 64 v = c := ⟨_, rfl⟩
          have hc64 : c < 64 := by rw [← hcc]; exact (F.low_bits (by omega) HV.out).1
          have hel : (F.els u).drop k = ((i : Int) * 64 + (c : Int)) :: ((F.bitsL (v &&& (v - 1))).map (fun j => ((i * 64 + j : Nat) : Int)) ++ F.tl u (i + 1)) := by
            rw [HD.out.1, F.bitsL_cons (by omega) HV.out, hcc, List.map_cons, List.cons_append]
            congr 1
          have hx : (F.els u)[k]? = some ((i : Int) * 64 + (c : Int)) := by
            rw [← List.head?_drop, hel]; rfl
          have HD3 : Hid ((F.els u).drop (k + 1) = (F.bitsL (v &&& (v - 1))).map (fun j => ((i * 64 + j : Nat) : Int)) ++ F.tl u (i + 1) ∧ k + 1 ≤ (F.els u).length) := by
            refine ⟨?_, (List.getElem?_eq_some_iff.1 hx).1⟩
            rw [← List.drop_drop, hel]; rfl
          have HLT : Hid (v &&& (v - 1) < v) := by
            show _ < _
            have : v &&& (v - 1) ≤ v - 1 := Nat.and_le_right
            omega
          have htz := tz_any v HV.out wr (fun _ => (hJr _ _ HJ.out).2)
          rw [hcc] at htz
          have HLOW : Hid (bits .and .u64 (v : Int) (IntKind.u64.wrap ((v : Int) - 1)) = ((v &&& (v - 1) : Nat) : Int)) := u64_low (by omega) HV.out
          obtain ⟨fn, tmps, assign, body, hy, hR⟩ := hY k _ wr hx HJ.out
          have hR' := RoundIn.any (m' := 5) hR
          clear hR hx hel hcc HD hv0
          have hi7 : (i : Int) < 7 := by omega
          have hc0 : (0 : Int) ≤ c := by omega
          have hc7 : (c : Int) < 64 := by omega
          have HLOW2 : Hid ((v &&& (v - 1)) < 18446744073709551616) := Nat.lt_trans HLT.out HV.out
          generalize v &&& (v - 1) = v2 at *
          gi_wp2
          refine ⟨trivial, (callsIn_wide.2 htz).mono ?_⟩
          rintro e w2 ⟨rfl, rfl⟩
          clear htz
          gi_wp2
          refine hR'.mono ?_
          rintro e w3 ⟨-, ⟨rfl, hJ3⟩ | ⟨rfl, hJx3⟩⟩
          · have HJ3 : Hid (J (k + 1) w3) := hJ3
            clear hJ3 hR' hy HJ
            gi_wp2
            rw [HLOW.out]
            go_roundw
            case rel => exact ⟨v2, k + 1, rfl, HLOW2, HD3, HJ3⟩
            case measure => have := HLT.out; simp [intOf]; omega
          · have HJ3 : Hid (Jx w3) := hJx3
            clear hJx3 hR' hy HJ
            gi_wp2
            refine bodyPost_ret (results_none rfl _ _ _) rfl ?_
            exact ⟨⟨_, rfl⟩, .inr HJ3.out⟩
    · have : i = 7 := by omega
      subst this
      have HE : Hid (J (F.els u).length wr) := by
        have h := HD.out
        rw [F.tl_end, List.drop_eq_nil_iff] at h
        have hj := HJ.out
        rwa [show k = (F.els u).length by omega] at hj
      gi_wp2
      go_end0
      exact ⟨⟨_, rfl⟩, .inl HE.out⟩
end Go.Proofs.YtljgpngbkmembaaDoor

/- slices.Collect of a set's numbers. -/
namespace Go.Proofs.YtljgpngbkmembaaDoor
open Go.RowKit Go.Maps Go.Shelf
attribute [local go_sem] Oper.semAt_some
set_option linter.unusedVariables false
set_option linter.unusedSimpArgs false
theorem blk_below {W y : World} {b : Nat} {o : Obj} (h : W.heap[b]? = some o) (hb : Below W.heap.size W y) : y.heap[b]? = some o := (hb.block _ (Array.getElem?_eq_some_iff.1 h).1).trans h
theorem blk_obj {W : World} {b l : Nat} {c : Array Value} {T : TypeId} {f : Nat × Nat} {o : Obj} (h : W.heap[b]? = some (.cells c T f)) (hl : W.heap[l]? = some o) (ho : o.isCells = false) (o' : Obj) : (W.putObj l o').heap[b]? = some (.cells c T f) := by
  have hne : b ≠ l := fun e => by
    subst e
    rw [hl] at h
    cases h
    cases ho
  exact (World.putObj_heap_other hne).trans h
theorem own_obj {W : World} {B n l : Nat} {T : TypeId} {v : Value} {xs : List Value} {o : Obj} (h : W.ownsRow B T 1 v n xs) (hl : W.heap[l]? = some o) (ho : o.isCells = false) (o' : Obj) : (W.putObj l o').ownsRow B T 1 v n xs := by
  refine h.kept (gb_put o') ?_
  cases e : v.ownBlock with
  | none => exact .inl rfl
  | some b =>
    obtain ⟨cur, hcur⟩ := own_cells h e
    exact .inr (fun e2 => by
      cases e2
      rw [hl] at hcur
      cases hcur
      cases ho)
theorem blk_put1 {W : World} {b : Nat} {v u : Value} {T : TypeId} (h : W.heap[b]? = some (.cells #[v] T)) : (W.setCell ⟨b, 0, none⟩ u).heap[b]? = some (.cells #[u] T) := by
  have hlt := (Array.getElem?_eq_some_iff.1 h).1
  show (W.heap.modify b _)[b]? = _
  rw [Array.getElem?_eq_getElem (by rw [Array.size_modify]; exact hlt), Array.getElem_modify_self]
  have h2 := (Array.getElem?_eq_some_iff.1 h).2
  rw [h2]
  rfl
/-- What has been put together so far. -/
def AsI (w : World) (b2 : Nat) (xs : List Int) (k : Nat) (W : World) : Prop := ∃ v, Below w.heap.size w W ∧ W.heap[b2]? = some (.cells #[v] 30) ∧ W.ownsRow w.heap.size 3 1 v k ((xs.take k).map iV)
def ColOut (w : World) (xs : List Int) (e : Ending) (W : World) : Prop := ∃ v, e = .returned v ∧ W.ownsRow w.heap.size 3 1 v xs.length (xs.map iV) ∧ Below w.heap.size w W
set_option maxRecDepth 100000 in
set_option maxHeartbeats 8000000 in
theorem appendSeq_any {w : World} {Bs : Nat} {u : Nat → Nat} (hu : F.Set7 u) (hr : AllRd Bs u w) (hBs : Bs < w.heap.size) (h1 : 1 < w.heap.size) :
    Calls Tryd.prog 41 #[.slice none 0 0, .func (.func 43) #[] #[.pointer (some ⟨Bs, 0, none⟩)]] w (ColOut w (F.els u)) := by
  have HR : Hid (∀ W, Below w.heap.size w W → AllRd Bs u W) := fun W hW => ⟨hr.1.sub (below_sub hW), fun j hj => cell_thru hW (hr.2 j hj)⟩
  have HGO : Hid _ := all_goes Bs u hu
  have hel : (F.els u).length ≤ 448 := by
    unfold F.els
    rw [List.length_map]
    exact Nat.le_trans (List.length_filter_le _ _) (by simp)
  obtain ⟨ii, hii, hz0, hz1, hz2⟩ := ainfo infoN
  refine (callsIn_wide (n := 6)).1 ?_
  refine callsIn_of_wp_marks Tryd.func41 rfl trivial ?_ rfl
  simp only [Tryd.ntmps41, List.size_toArray, List.length_cons, List.length_nil, Nat.reduceAdd, Nat.reduceSub, Array.replicate_succ, Array.replicate_zero, List.push_toArray, List.append_toArray, List.nil_append, List.cons_append]
  have HI0 : Hid (AsI w w.heap.size (F.els u) 0 (w.alloc (.cells #[.slice none 0 0] 30))) := ⟨.slice none 0 0, bl1 _ _, World.alloc_heap_new _ _, by rw [List.take_zero]; exact World.ownsRow_nil _ _ _ _⟩
  have HSZ : Hid (w.heap.size + 1 = (w.alloc (.cells #[.slice none 0 0] 30)).heap.size) := by show _ = _; simp
  gi_wp2
  generalize (w.alloc (.cells #[.slice none 0 0] 30)) = W0 at HI0 HSZ ⊢
  refine range_l (β := Int) (gf := 43) (lb := #[.pointer (some ⟨Bs, 0, none⟩)]) (T := 54) HGO.out rfl (enters_of Tryd.func43 (by kernel_rfl) rfl)
    (AsI w w.heap.size (F.els u)) ?a1 (fun _ => rfl) ?assign ?ib ?ip ?rd HI0.out ?body ?done
  case assign =>
    intro l x W K hK
    gi_wp2
    exact hK
  case ib =>
    rintro k A B ⟨v, h1, h2, h3⟩ hB
    exact ⟨v, h1.trans (hB.mono h1.size), blk_below h2 hB, row_below h3 hB⟩
  case ip =>
    rintro k A l o o' hl hlo ho ⟨v, h1, h2, h3⟩
    have hs := HSZ.out
    exact ⟨v, h1.trans (below_put _ _ (by omega)), blk_obj h2 hlo ho o', own_obj h3 hlo ho o'⟩
  case rd =>
    rintro k A ⟨v, h1, h2, h3⟩
    exact HR.out A h1
  case body =>
    rintro lp k x W hk ⟨v, h1, h2, h3⟩
    have HK : Hid ((F.els u)[k]? = some x) := hk
    have HB2 : Hid (W.heap[w.heap.size]? = some (.cells #[v] 30)) := h2
    have H3 : Hid (W.ownsRow w.heap.size 3 1 v k (((F.els u).take k).map iV)) := h3
    have H1 : Hid (Below w.heap.size w W) := h1
    have hkl : k < 448 := by have := (List.getElem?_eq_some_iff.1 hk).1; omega
    have c2 := cell_blk h2 0 (v := v) rfl
    have HA1 : Hid ((W.alloc (.cells #[.int .i64 x] 3)).ownsRow w.heap.size 3 1 v k (((F.els u).take k).map iV)) := row_below h3 (bl1 _ _)
    have HNC : Hid (∀ (q : Nat) u, ([iV x] : List Value)[q]? = some u → (W.alloc (.cells #[.int .i64 x] 3)).cell? ((⟨W.heap.size, 0, none⟩ : Addr).add q) = some u) := fun q u hu => by
      rw [Addr.add_lit, Nat.zero_add]
      exact ncell_at (by simpa [iV] using hu)
    have HBS : Hid (w.heap.size ≤ (W.alloc (.cells #[.int .i64 x] 3)).heap.size) := by show _ ≤ _; have := h1.size; simp; omega
    clear hk h1 h2 h3 HI0
    have HRB : Hid (∀ b, v.ownBlock = some b → b ≠ w.heap.size) := fun b hb => by
      obtain ⟨cur, hcur⟩ := own_cells H3.out hb
      exact blk_ne hcur HB2.out (by decide)
    have HB3 : Hid ((W.alloc (.cells #[.int .i64 x] 3)).heap[w.heap.size]? = some (.cells #[v] 30)) := blk_below HB2.out (bl1 _ _)
    gi_wp2_with (gi_at_builtin; refine wpListIn_append_own _ rfl _ _ 30 rfl w.heap.size 3 ii _ 1 8 Tryd.underlying30 hii hz0 hz1 hz2 rfl (by decide) v k _ rfl HA1.out ⟨W.heap.size, 0, none⟩ 1 1 [iV x] rfl rfl HNC.out (by intro u hu; simp at hu; subst hu; rfl) (by unfold maxLen; omega) (by omega) HBS.out ?_; intro v' w3 hown' hgrow _; obtain ⟨g', cap', rfl⟩ := ownsRow_succ hown'; have HO3 : Hid _ := hown'; have HG3 : Hid _ := hgrow; have HB4 : Hid (w3.heap[w.heap.size]? = some (.cells #[v] 30)) := (hgrow.block _ (Array.getElem?_eq_some_iff.1 HB3.out).1 (fun e => HRB.out _ e.symm rfl)).trans HB3.out; have d2 := cell_blk HB4.out 0 (v := v) rfl; have f2 := blk_fro (o := 0) HB4.out; clear hown' hgrow)
    have hg3 := HG3.out
    have hrow : ∀ b, v.ownBlock = some b → ∃ c T' f, (W.alloc (.cells #[.int .i64 x] 3)).heap[b]? = some (.cells c T' f) ∧ T' ≠ 54 := fun b hb => by
      obtain ⟨cur, hcur⟩ := own_cells HA1.out hb
      exact ⟨cur, _, _, hcur, by decide⟩
    obtain ⟨k1, k2⟩ := keep_gb (B := W0.heap.size) hg3 hrow
    obtain ⟨k3, k4⟩ := keep_gb (T := 54) (B := W0.heap.size) (gb_set w3 ⟨w.heap.size, 0, none⟩ (.slice (some ⟨g', 0, none⟩) (k + 1) cap')) (fun b hb => by cases hb; exact ⟨_, _, _, HB4.out, by decide⟩)
    have hlow : Below w.heap.size w w3 := (H1.out.trans ((bl1 W (.cells #[.int .i64 x] 3)).mono H1.out.size)).grown hg3 (by have := H1.out.size; simp; omega) (fun b hb => (HA1.out.lt b hb).1)
    refine ⟨((Kf.below (bl1 _ _)).trans k1).trans k3, ((KT.below (bl1 _ _)).trans k2).trans k4, .slice (some ⟨g', 0, none⟩) (k + 1) cap', hlow.setCell (Nat.le_refl _) _, blk_put1 HB4.out, ?_⟩
    rw [List.take_add_one, HK.out, List.map_append]
    refine World.ownsRow.kept (w := w3) ?_ (gb_set _ _ _) (.inr (fun e => ?_))
    · exact HO3.out
    · have e2 : g' = w.heap.size := by simpa [Value.ownBlock] using e
      obtain ⟨cur, hcur⟩ := own_cells HO3.out (b := g') rfl
      exact blk_ne hcur HB4.out (by decide) e2
  case done =>
    rintro D W hD ⟨v, h1, h2, h3⟩ hK
    have HB2 : Hid (W.heap[w.heap.size]? = some (.cells #[v] 30)) := h2
    have H3 : Hid (W.ownsRow w.heap.size 3 1 v (F.els u).length (((F.els u).take (F.els u).length).map iV)) := h3
    have H1 : Hid (Below w.heap.size w W) := h1
    have HK : Hid _ := hK
    have c2 := cell_blk h2 0 (v := v) rfl
    clear h1 h2 h3 hK HI0
    gi_wp2
    have hs := HSZ.out
    refine ⟨by simp, .inl ⟨_, _, rfl, run_takeDeferred HK.out, ?_⟩⟩
    refine ⟨v, ?_, v, rfl, ?_, H1.out.trans (below_put _ _ (by omega))⟩
    · simp [results, Tryd.results41, go_sem]
    · have := own_obj H3.out HK.out rfl (.deferred none)
      rwa [List.take_length] at this
theorem collect_any {w : World} {Bs : Nat} {u : Nat → Nat} (hu : F.Set7 u) (hr : AllRd Bs u w) (hBs : Bs < w.heap.size) (h1 : 1 < w.heap.size) :
    Calls Tryd.prog 23 #[.func (.func 43) #[] #[.pointer (some ⟨Bs, 0, none⟩)]] w (ColOut w (F.els u)) := by
  have HA := appendSeq_any hu hr hBs h1
  go_enter Tryd.func23, Tryd.ntmps23
  go_wp2_with fail
  refine HA.mono ?_
  rintro e y ⟨v, rfl, ho, hb⟩
  have HO : Hid _ := ho
  have HB : Hid _ := hb
  clear ho hb
  go_wp2_with fail
  go_ret
  exact ⟨v, rfl, HO.out, HB.out⟩
theorem all_any (u : Nat → Nat) (w : World) : Calls Tryd.prog 25 #[.agg (setCs u)] w fun e w' => e = .returned (.func (.func 43) #[] #[.pointer (some ⟨w.heap.size, 0, none⟩)]) ∧ w' = w.alloc (.cells (setCs u) 54) := by
  unfold setCs
  go_enter Tryd.func25, Tryd.ntmps25
  go_wp2_with fail
  go_ret
  exact ⟨rfl, rfl⟩
end Go.Proofs.YtljgpngbkmembaaDoor

/- A life: a function, and what is live ahead of each operation. -/
namespace Go.Proofs.YtljgpngbkmembaaDoor
open Go.RowKit Go.Maps
set_option linter.unusedVariables false
set_option linter.unusedSimpArgs false
/-- The library's table and that of shapes, as they lie. -/
structure Env (W : World) : Prop where
  shp : Shp W
  tab : TabAt 1 Lib.deBruijn64tab W
  two : 1 < W.heap.size
theorem Env.below {W y : World} (h : Env W) (hb : Below W.heap.size W y) : Env y := ⟨h.shp.below hb, fun j hj => cell_thru hb (h.tab j hj), Nat.lt_of_lt_of_le h.two hb.size⟩
/-- A life, as it lies. -/
structure LfV (W : World) (b : Nat) (f : F.Fn) (a : Option Addr) (n c ga : Nat) (U : Nat → Nat → Nat) : Prop where
  c0 : W.cell? ⟨b, 0, none⟩ = some (.string f.name)
  c1 : W.cell? ⟨b, 1, none⟩ = some (.int .i64 f.params)
  c2 : W.cell? ⟨b, 2, none⟩ = some (.int .i64 f.temps)
  c3 : W.cell? ⟨b, 3, none⟩ = some (.slice a n c)
  c4 : W.cell? ⟨b, 4, none⟩ = some (.slice (some ⟨ga, 0, none⟩) n n)
  ops : OpsV W a n c f.code
  sets : ∀ i, i < n → SetAt W ga (i * 7) (U i)
  env : Env W
/-- What is so of a life, wherever it lies. -/
structure LfU (f : F.Fn) (n : Nat) (U : Nat → Nat → Nat) : Prop where
  may : F.mayF f = true
  cnt : f.code.length = n
  s7 : ∀ i, i < n → F.Set7 (U i)
  lv : ∀ i, i < n → ∀ t, t < 448 → (F.mem (U i) t = true ↔ F.Lv f i (t : Int))
theorem LfV.below {W y : World} {b : Nat} {f : F.Fn} {a : Option Addr} {n c ga : Nat} {U : Nat → Nat → Nat} (h : LfV W b f a n c ga U) (hb : Below W.heap.size W y) : LfV y b f a n c ga U :=
  ⟨cell_thru hb h.c0, cell_thru hb h.c1, cell_thru hb h.c2, cell_thru hb h.c3, cell_thru hb h.c4, h.ops.below hb, fun i hi => (h.sets i hi).sub (below_sub hb), h.env.below hb⟩
theorem LfV.setsV {W : World} {b : Nat} {f : F.Fn} {a : Option Addr} {n c ga : Nat} {U : Nat → Nat → Nat} (h : LfV W b f a n c ga U) (hn : n ≤ 20000) : SetsV W (some ⟨ga, 0, none⟩) n n U :=
  ⟨(fun e => by cases e), ⟨Nat.le_refl _, by unfold maxLen; omega⟩, .inr ⟨ga, 0, rfl, fun q hq => by rw [Nat.zero_add]; exact h.sets q hq⟩⟩
def NlOut (w : World) (f : F.Fn) (a : Option Addr) (n c : Nat) (e : Ending) (W : World) : Prop := ∃ (b ga : Nat) (U : Nat → Nat → Nat), e = .returned (.pointer (some ⟨b, 0, none⟩)) ∧ LfV W b f a n c ga U ∧ LfU f n U ∧ (w.heap.size ≤ b ∧ w.heap.size ≤ ga) ∧ Below w.heap.size w W
set_option maxRecDepth 100000 in
set_option maxHeartbeats 8000000 in
theorem newLife_any {w : World} {f : F.Fn} {a : Option Addr} {n c : Nat} (h : OpsV w a n c f.code) (hm : F.mayF f = true) (he : Env w) :
    Calls Tryd.prog 22 #[fnV f a n c] w (NlOut w f a n c) := by
  have HO : Hid _ := h
  have HM : Hid (F.mayF f = true) := hm
  have HE : Hid _ := he
  have HLV : Hid (∀ W, Below w.heap.size w W → Calls Tryd.prog 40 #[.slice a n c, .func (.func 39) #[] #[]] W (LvsOut W f n)) := fun W hW => lives_any (h.below hW) hm (he.below hW).shp
  have hC := h.count
  have HC : Hid (f.code.length = n) := hC
  have x0 := Bx.new w #[.string f.name, .int .i64 f.params, .int .i64 f.temps, .slice a n c] 24
  have b0 := bl1 w (.cells #[.string f.name, .int .i64 f.params, .int .i64 f.temps, .slice a n c] 24)
  obtain ⟨W0, hW0⟩ : ∃ W0, w.alloc (.cells #[.string f.name, .int .i64 f.params, .int .i64 f.temps, .slice a n c] 24) = W0 := ⟨_, rfl⟩
  rw [hW0] at x0 b0
  have HX0 : Hid (Bx W0 w.heap.size [.string f.name, .int .i64 f.params, .int .i64 f.temps, .slice a n c]) := x0
  have HB0 : Hid (Below w.heap.size w W0) := b0
  obtain ⟨nm0, hnm0⟩ : ∃ q, f.name = q := ⟨_, rfl⟩
  obtain ⟨params, hpar⟩ : ∃ q, f.params = q := ⟨_, rfl⟩
  obtain ⟨T, htm⟩ : ∃ q, f.temps = q := ⟨_, rfl⟩
  unfold fnV
  rw [hnm0, hpar, htm] at hW0 HX0 ⊢
  have d0 := HX0.out.c 0 _ rfl
  have d1 := HX0.out.c 1 _ rfl
  have d2 := HX0.out.c 2 _ rfl
  have d3 := HX0.out.c 3 _ rfl
  have HSK : Hid (∀ z : World, Below W0.heap.size W0 z → z.cell? ⟨w.heap.size, 0, none⟩ = some (.string nm0) ∧ z.cell? ⟨w.heap.size, 1, none⟩ = some (.int .i64 params) ∧ z.cell? ⟨w.heap.size, 2, none⟩ = some (.int .i64 T) ∧ z.cell? ⟨w.heap.size, 3, none⟩ = some (.slice a n c)) := fun z hz => ⟨cell_thru hz d0, cell_thru hz d1, cell_thru hz d2, cell_thru hz d3⟩
  clear h hm he hC x0 b0 d0 d1 d2 d3
  go_enter Tryd.func22, Tryd.ntmps22
  go_wp2_with fail
  clear hW0
  go_region_held3 (fun w' : World => w'.cell? ⟨w.heap.size, 0, none⟩ = some (.string nm0) ∧ w'.cell? ⟨w.heap.size, 1, none⟩ = some (.int .i64 params) ∧ w'.cell? ⟨w.heap.size, 2, none⟩ = some (.int .i64 T) ∧ w'.cell? ⟨w.heap.size, 3, none⟩ = some (.slice a n c)) (first | (exact HSK.out _ (Below.refl _ _).drew) | (exact HSK.out _ HB1.out) | (exact HSK.out _ HB2.out)) (first | (go_at_call 40; refine (HLV.out _ HB0.out.drew).mono ?_; rintro e y ⟨ga, U, rfl, hga, hba, hset, hs7, hlv, hb⟩; have HB1 : Hid (Below W0.heap.size W0 y) := (Below.refl _ _).drew.trans hb; have HR : Hid ((∀ i, i < n → SetAt y ga (i * 7) (U i)) ∧ (∀ i, i < n → F.Set7 (U i)) ∧ (∀ i, i < n → ∀ t, t < 448 → (F.mem (U i) t = true ↔ F.Lv f i (t : Int)))) := ⟨hset, hs7, hlv⟩; have HB2 : Hid (Below W0.heap.size W0 (y.alloc (.cells #[.string nm0, .int .i64 params, .int .i64 T, .slice a n c, .slice (some ⟨ga, 0, none⟩) n n] 74))) := HB1.out.alloc HB1.out.size _; have HGA : Hid (W0.heap.size ≤ ga) := hga; clear hb hset hs7 hlv hba hga))
  have hx := Bx.new y #[.string nm0, .int .i64 params, .int .i64 T, .slice a n c, .slice (some ⟨ga, 0, none⟩) n n] 74
  have hbz : Below w.heap.size w (y.alloc (.cells #[.string nm0, .int .i64 params, .int .i64 T, .slice a n c, .slice (some ⟨ga, 0, none⟩) n n] 74)) := HB0.out.trans (HB2.out.mono HB0.out.size)
  have hge : w.heap.size ≤ y.heap.size ∧ w.heap.size ≤ ga := ⟨Nat.le_trans HB0.out.size HB1.out.size, Nat.le_trans HB0.out.size HGA.out⟩
  have HRES : Hid (NlOut w f a n c (.returned (.pointer (some ⟨y.heap.size, 0, none⟩))) (y.alloc (.cells #[.string nm0, .int .i64 params, .int .i64 T, .slice a n c, .slice (some ⟨ga, 0, none⟩) n n] 74))) := by
    refine ⟨y.heap.size, ga, U, rfl, ⟨?_, ?_, ?_, hx.c 3 _ rfl, hx.c 4 _ rfl, HO.out.below hbz, fun i hi => (HR.out.1 i hi).sub (below_sub (bl1 _ _)), HE.out.below hbz⟩, ⟨HM.out, HC.out, HR.out.2.1, HR.out.2.2⟩, hge, hbz⟩
    · rw [hnm0]; exact hx.c 0 _ rfl
    · rw [hpar]; exact hx.c 1 _ rfl
    · rw [htm]; exact hx.c 2 _ rfl
  clear hx hbz hge hnm0 hpar htm
  go_wp2_with fail
  go_ret
  exact HRES.out
set_option maxRecDepth 100000 in
set_option maxHeartbeats 8000000 in
theorem beh_any {w : World} {b : Nat} {f : F.Fn} {a : Option Addr} {n c ga i : Nat} {U : Nat → Nat → Nat} (h : LfV w b f a n c ga U) (hu : LfU f n U) (hi : i < n) :
    Calls Tryd.prog 24 #[.pointer (some ⟨b, 0, none⟩), .int .i64 i] w fun e w' => e = .returned (.agg (setCs (F.orAll U (F.nxt (F.at_ f i) i)))) ∧ Below w.heap.size w w' := by
  have hhd := F.may_head hu.may
  have hn2 : n ≤ 20000 := by have := hu.cnt; omega
  obtain ⟨v, hv⟩ : ∃ v, F.orAll U (F.nxt (F.at_ f i) i) = v := ⟨_, rfl⟩
  have HBH : Hid (∀ W, Below w.heap.size w W → Calls Tryd.prog 42 #[.slice a n c, .slice (some ⟨ga, 0, none⟩) n n, .int .i64 i] W fun e w' => e = .returned (.agg (setCs v)) ∧ Below W.heap.size W w') := fun W hW => by
    rw [← hv]
    exact behind_any (h.below hW).ops hu.may hi ((h.below hW).setsV hn2) hu.s7 (h.below hW).env.shp
  rw [hv]
  have x0 := Bx.new w (setCs F.zero7) 54
  have b0 := bl1 w (.cells (setCs F.zero7) 54)
  obtain ⟨W0, hW0⟩ : ∃ W0, w.alloc (.cells (setCs F.zero7) 54) = W0 := ⟨_, rfl⟩
  rw [hW0] at x0 b0
  change w.alloc (.cells #[.int .u64 0, .int .u64 0, .int .u64 0, .int .u64 0, .int .u64 0, .int .u64 0, .int .u64 0] 54) = W0 at hW0
  have HX0 : Hid (Bx W0 w.heap.size (setCs F.zero7).toList) := x0
  have HB0 : Hid (Below w.heap.size w W0) := b0
  have h3 := h.c3
  have h4 := h.c4
  have HSK : Hid (∀ z : World, Below w.heap.size w z → z.cell? ⟨b, 3, none⟩ = some (.slice a n c) ∧ z.cell? ⟨b, 4, none⟩ = some (.slice (some ⟨ga, 0, none⟩) n n)) := fun z hz => ⟨cell_thru hz h3, cell_thru hz h4⟩
  clear h hu hv x0 b0 hhd h3 h4
  unfold setCs at HBH ⊢
  go_enter Tryd.func24, Tryd.ntmps24
  go_wp2_with fail
  clear hW0
  refine wp_region_held_drew (S := (fun w' : World => w'.cell? ⟨b, 3, none⟩ = some (.slice a n c) ∧ w'.cell? ⟨b, 4, none⟩ = some (.slice (some ⟨ga, 0, none⟩) n n))) (by kernel_rfl) (HSK.out _ HB0.out.drew) (fun hHeld => ?_)
  refine tkr (i := 0) (v := ?_) (tA rfl) (by kernel_rfl) (fun _ _ _ h => h) (Or.inl ⟨by rfl, ?_⟩) (by assumption) ?_
  rotate_left
  · (intro w hSw; (try dsimp only at hSw); go_simp <;> with_reducible rfl)
  simp only [Act.put, List.setIfInBounds_toArray, List.set_cons_zero, List.set_cons_succ]
  refine tkr (i := 1) (v := ?_) (tA rfl) (by kernel_rfl) (fun _ _ _ h => h) (Or.inl ⟨by rfl, ?_⟩) (by assumption) ?_
  rotate_left
  · (intro w hSw; (try dsimp only at hSw); go_simp <;> with_reducible rfl)
  simp only [Act.put, List.setIfInBounds_toArray, List.set_cons_zero, List.set_cons_succ]
  refine tkr (i := 2) (v := ?_) (tA rfl) (by kernel_rfl) (fun _ _ _ h => h) (Or.inl ⟨by rfl, ?_⟩) (by assumption) ?_
  rotate_left
  · (intro w hSw; (try dsimp only at hSw); go_simp <;> with_reducible rfl)
  simp only [Act.put, List.setIfInBounds_toArray, List.set_cons_zero, List.set_cons_succ]
  refine tkr (i := 3) (v := ?_) (tA rfl) (by kernel_rfl) (fun _ _ _ h => h) (Or.inl ⟨by rfl, ?_⟩) (by assumption) ?_
  rotate_left
  · (intro w hSw; (try dsimp only at hSw); go_simp <;> with_reducible rfl)
  simp only [Act.put, List.setIfInBounds_toArray, List.set_cons_zero, List.set_cons_succ]
  refine tkr (i := 4) (v := ?_) (tA rfl) (by kernel_rfl) (fun _ _ _ h => h) (Or.inl ⟨by rfl, ?_⟩) (by assumption) ?_
  rotate_left
  · (intro w hSw; (try dsimp only at hSw); go_simp <;> with_reducible rfl)
  simp only [Act.put, List.setIfInBounds_toArray, List.set_cons_zero, List.set_cons_succ]
  refine tkr (i := 5) (v := ?_) (tA rfl) (by kernel_rfl) (fun _ _ _ h => h) (Or.inl ⟨by rfl, ?_⟩) (by assumption) ?_
  rotate_left
  · (intro w hSw; (try dsimp only at hSw); go_simp <;> with_reducible rfl)
  simp only [Act.put, List.setIfInBounds_toArray, List.set_cons_zero, List.set_cons_succ]
  refine tkr (i := 6) (v := ?_) (tA rfl) (by kernel_rfl) (fun _ _ _ h => h) (Or.inl ⟨by rfl, ?_⟩) (by assumption) ?_
  rotate_left
  · (intro w hSw; (try dsimp only at hSw); go_simp <;> with_reducible rfl)
  simp only [Act.put, List.setIfInBounds_toArray, List.set_cons_zero, List.set_cons_succ]
  refine tkr (i := 7) (v := ?_) (tA rfl) (by kernel_rfl) (fun _ _ _ h => h) (Or.inl ⟨by rfl, ?_⟩) (by assumption) ?_
  rotate_left
  · (intro w hSw; (try dsimp only at hSw); go_simp <;> with_reducible rfl)
  simp only [Act.put, List.setIfInBounds_toArray, List.set_cons_zero, List.set_cons_succ]
  refine tkr (i := 8) (v := ?_) (tA rfl) (by kernel_rfl) (fun _ _ _ h => h) (Or.inl ⟨by rfl, ?_⟩) (by assumption) ?_
  rotate_left
  · (intro w hSw; (try dsimp only at hSw); go_simp <;> with_reducible rfl)
  simp only [Act.put, List.setIfInBounds_toArray, List.set_cons_zero, List.set_cons_succ]
  refine tkr (i := 9) (v := ?_) (tA rfl) (by kernel_rfl) (fun _ _ _ h => h) (Or.inl ⟨by rfl, ?_⟩) (by assumption) ?_
  rotate_left
  · (intro w hSw; (try dsimp only at hSw); go_simp <;> with_reducible rfl)
  simp only [Act.put, List.setIfInBounds_toArray, List.set_cons_zero, List.set_cons_succ]
  refine wpAnyH_ready (rs := [10]) (by kernel_rfl) (by simp) ?_
  refine AllReadyH.cons (tA rfl) (fun K hK => ?_) AllReadyH.nil
  go_simp
  refine Calls.mono (HBH.out _ HB0.out.drew) ?_
  rintro e y ⟨rfl, hb⟩
  have HB1 : Hid (Below w.heap.size w y) := HB0.out.drew.trans (hb.mono HB0.out.drew.size)
  have HX1 : Hid (Bx y w.heap.size (setCs F.zero7).toList) := HX0.out.drew.below hb
  clear hb
  try go_wp2_with fail
  refine hK.out _ _ (HSK.out _ HB1.out) (fun hHeld => ?_)
  clear hK K
  try simp only [Act.put, List.setIfInBounds_toArray, List.set_cons_zero, List.set_cons_succ]
  have e0 := HX1.out.c 0 _ rfl
  have f0 := HX1.out.f 0
  have e1 := HX1.out.c 1 _ rfl
  have f1 := HX1.out.f 1
  have e2 := HX1.out.c 2 _ rfl
  have f2 := HX1.out.f 2
  have e3 := HX1.out.c 3 _ rfl
  have f3 := HX1.out.f 3
  have e4 := HX1.out.c 4 _ rfl
  have f4 := HX1.out.f 4
  have e5 := HX1.out.c 5 _ rfl
  have f5 := HX1.out.f 5
  have e6 := HX1.out.c 6 _ rfl
  have f6 := HX1.out.f 6
  have HBB : Hid (Bx (put7 y w.heap.size v) w.heap.size (setCs v).toList ∧ Below w.heap.size w (put7 y w.heap.size v)) := ⟨put7_bx HX1.out, HB1.out.trans (put7_below _ (Nat.le_refl _))⟩
  refine wpAnyH_ready (rs := [11]) (by kernel_rfl) (by simp) ?_
  refine AllReadyH.cons (tA rfl) (fun K hK => ?_) AllReadyH.nil
  clear hHeld
  go_simp
  refine hK.out _ _ (HSK.out _ HBB.out.2) (fun hHeld => ?_)
  clear hK K hHeld
  try simp only [Act.put, List.setIfInBounds_toArray, List.set_cons_zero, List.set_cons_succ]
  refine wpAnyH_done (by kernel_rfl) ?_ _
  clear e0 e1 e2 e3 e4 e5 e6 f0 f1 f2 f3 f4 f5 f6
  have g0 := HBB.out.1.c 0 _ rfl
  have g1 := HBB.out.1.c 1 _ rfl
  have g2 := HBB.out.1.c 2 _ rfl
  have g3 := HBB.out.1.c 3 _ rfl
  have g4 := HBB.out.1.c 4 _ rfl
  have g5 := HBB.out.1.c 5 _ rfl
  have g6 := HBB.out.1.c 6 _ rfl
  unfold put7 at g0 g1 g2 g3 g4 g5 g6
  go_wp2_with fail
  refine bodyPost_ret (v := .agg (setCs v)) ?_ rfl ?_
  · simp [results, Tryd.results24, go_sem, g0, g1, g2, g3, g4, g5, g6, setCs]
  · exact ⟨rfl, HBB.out.2⟩
set_option maxRecDepth 100000 in
set_option maxHeartbeats 8000000 in
theorem first_any {w : World} {b : Nat} {f : F.Fn} {a : Option Addr} {n c ga : Nat} {U : Nat → Nat → Nat} (h : LfV w b f a n c ga U) (hn : 1 ≤ n) (hn2 : n ≤ 20000) :
    Calls Tryd.prog 26 #[.pointer (some ⟨b, 0, none⟩)] w fun e w' => e = .returned (.agg (setCs (U 0))) ∧ Below w.heap.size w w' := by
  have x0 := Bx.new w (setCs F.zero7) 54
  have b0 := bl1 w (.cells (setCs F.zero7) 54)
  have h4 := cell_thru b0 h.c4
  have hs := (h.sets 0 (by omega)).sub (below_sub b0)
  rw [Nat.zero_mul] at hs
  obtain ⟨v, hv⟩ : ∃ v, U 0 = v := ⟨_, rfl⟩
  rw [hv] at hs ⊢
  obtain ⟨W0, hW0⟩ : ∃ W0, w.alloc (.cells (setCs F.zero7) 54) = W0 := ⟨_, rfl⟩
  rw [hW0] at x0 b0 h4 hs
  change w.alloc (.cells #[.int .u64 0, .int .u64 0, .int .u64 0, .int .u64 0, .int .u64 0, .int .u64 0, .int .u64 0] 54) = W0 at hW0
  have HBB : Hid (Bx (put7 W0 w.heap.size v) w.heap.size (setCs v).toList ∧ Below w.heap.size w (put7 W0 w.heap.size v)) := ⟨put7_bx x0, b0.trans (put7_below _ (Nat.le_refl _))⟩
  have HX0 : Hid (Bx W0 w.heap.size (setCs F.zero7).toList) := x0
  have s0 := hs 0 (by decide)
  have s1 := hs 1 (by decide)
  have s2 := hs 2 (by decide)
  have s3 := hs 3 (by decide)
  have s4 := hs 4 (by decide)
  have s5 := hs 5 (by decide)
  have s6 := hs 6 (by decide)
  simp only [Nat.zero_add] at s0 s1 s2 s3 s4 s5 s6
  have e0 := HX0.out.c 0 _ rfl
  have f0 := HX0.out.f 0
  have e1 := HX0.out.c 1 _ rfl
  have f1 := HX0.out.f 1
  have e2 := HX0.out.c 2 _ rfl
  have f2 := HX0.out.f 2
  have e3 := HX0.out.c 3 _ rfl
  have f3 := HX0.out.f 3
  have e4 := HX0.out.c 4 _ rfl
  have f4 := HX0.out.f 4
  have e5 := HX0.out.c 5 _ rfl
  have f5 := HX0.out.f 5
  have e6 := HX0.out.c 6 _ rfl
  have f6 := HX0.out.f 6
  have hn0 : 0 < (n : Int) := by omega
  clear h hv hs x0 b0
  go_enter Tryd.func26, Tryd.ntmps26
  go_wp2_with fail
  have g0 := HBB.out.1.c 0 _ rfl
  have g1 := HBB.out.1.c 1 _ rfl
  have g2 := HBB.out.1.c 2 _ rfl
  have g3 := HBB.out.1.c 3 _ rfl
  have g4 := HBB.out.1.c 4 _ rfl
  have g5 := HBB.out.1.c 5 _ rfl
  have g6 := HBB.out.1.c 6 _ rfl
  unfold put7 at g0 g1 g2 g3 g4 g5 g6
  refine bodyPost_ret (v := .agg (setCs v)) ?_ rfl ?_
  · simp [results, Tryd.results26, go_sem, g0, g1, g2, g3, g4, g5, g6, setCs]
  · exact ⟨rfl, HBB.out.2⟩
end Go.Proofs.YtljgpngbkmembaaDoor

/- The pairs of temps that are live at the beginning. -/
namespace Go.Proofs.YtljgpngbkmembaaDoor
open Go.RowKit Go.Maps Go.Shelf
attribute [local go_sem] Oper.semAt_some
set_option linter.unusedVariables false
set_option linter.unusedSimpArgs false
namespace F
/-- The numbers below p. -/
def upto (p : Int) : List Int := (List.range p.toNat).map Int.ofNat
def rowF (l : List Int) (one : Int) : List (Int × Int) := (l.filter fun o => decide (one < o)).map fun o => (one, o)
/-- The pairs of a list's numbers, the lesser one first. -/
def pairsF (l : List Int) : List (Int × Int) := l.flatMap (rowF l)
/-- Those that came ahead of the k-th number's with the m-th. -/
def doneF (l : List Int) (k m : Nat) : List (Int × Int) := (l.take k).flatMap (rowF l) ++ (match l[k]? with | none => [] | some one => ((l.take m).filter fun o => decide (one < o)).map fun o => (one, o))
theorem done_full (l : List Int) (k : Nat) (one : Int) (h : l[k]? = some one) : doneF l k l.length = doneF l (k + 1) 0 := by
  unfold doneF
  rw [h, List.take_length, List.take_add_one, h, List.flatMap_append]
  simp only [List.take_zero, List.filter_nil, List.map_nil]
  cases l[k + 1]? <;> simp [rowF]
theorem done_end (l : List Int) : doneF l l.length 0 = pairsF l := by
  unfold doneF pairsF
  rw [List.take_length, List.getElem?_eq_none (Nat.le_refl _), List.append_nil]
theorem done_skip {l : List Int} {k m : Nat} {one o : Int} (h1 : l[k]? = some one) (h2 : l[m]? = some o) (h : ¬ one < o) : doneF l k (m + 1) = doneF l k m := by
  unfold doneF
  rw [h1, List.take_add_one, h2]
  simp [h]
theorem done_go {l : List Int} {k m : Nat} {one o : Int} (h1 : l[k]? = some one) (h2 : l[m]? = some o) (h : one < o) : doneF l k (m + 1) = doneF l k m ++ [(one, o)] := by
  unfold doneF
  rw [h1, List.take_add_one, h2]
  simp [h]
theorem done_pre {l : List Int} {k m : Nat} {one : Int} (h1 : l[k]? = some one) : ∃ r, pairsF l = doneF l k m ++ r := by
  unfold doneF pairsF
  rw [h1]
  simp only
  have e : l = l.take k ++ one :: l.drop (k + 1) := by
    obtain ⟨hk, rfl⟩ := List.getElem?_eq_some_iff.1 h1
    rw [← List.drop_eq_getElem_cons hk, List.take_append_drop]
  have e2 : l = l.take m ++ l.drop m := (List.take_append_drop m l).symm
  refine ⟨((l.drop m).filter fun o => decide (one < o)).map (fun o => (one, o)) ++ (l.drop (k + 1)).flatMap (rowF l), ?_⟩
  conv => lhs; arg 2; rw [e]
  rw [List.flatMap_append, List.flatMap_cons, List.append_assoc]
  congr 1
  rw [← List.append_assoc]
  congr 1
  unfold rowF
  rw [← List.map_append, ← List.filter_append, List.take_append_drop]
theorem at_append {α : Type} {xs A r : List α} {x : α} (h : xs = A ++ x :: r) : xs[A.length]? = some x := by
  rw [h, List.getElem?_append_right (Nat.le_refl _)]
  simp
theorem done_at {l : List Int} {k m : Nat} {one o : Int} (h1 : l[k]? = some one) (h2 : l[m]? = some o) (h : one < o) : (pairsF l)[(doneF l k m).length]? = some (one, o) := by
  obtain ⟨r, hr⟩ := done_pre (m := m + 1) h1
  rw [done_go h1 h2 h, List.append_assoc] at hr
  exact at_append hr
end F
theorem Bx.abv {A B : World} {b m : Nat} {vs : List Value} (h : Bx A b vs) (ha : Abv m A B) (hb : m ≤ b) : Bx B b vs := by
  have hk := ha.2 b hb h.lt
  exact ⟨fun j u hj => (World.cell?_of_block (w := A) (a := ⟨b, j, none⟩) hk).trans (h.c j u hj), fun o => (World.frozen?_of_block (w := A) (a := ⟨b, o, none⟩) hk).trans (h.f o), Nat.lt_of_lt_of_le h.lt ha.1⟩
theorem Abv.bel {W A Z : World} {B m : Nat} (h : Abv B W A) (hb : Below m A Z) (hm : W.heap.size ≤ m) : Abv B W Z := ⟨Nat.le_trans h.1 hb.size, fun k hk hl => (hb.block k (by omega)).trans (h.2 k hk hl)⟩
/-- Where the loop's variable is a box of its own: what is assigned is told by a1, of the value and the box. -/
theorem range_a2 {P : Program} {n : Nat} {β : Type} {g : Operand} {ps : Array Tmp} {assign body : Code} {Q : Exit → Act → World → Prop} {a : Act} {w : World} {gf : Nat} {lb : Array Value} {enc : β → Array Value} {xs : List β} {Rd : World → Prop}
    (T : TypeId) (v : β → Value) (hit : Goes P gf lb enc xs Rd)
    (hg : a.eval g = .func (.func gf) #[] lb) (eg : ∀ args w, (callFunc gf args).run P w = .ok (.enter gf args) w)
    (I : Nat → World → Prop) (Ix : World → Prop) (cx : Code) (a1 : β → Nat → Act)
    (henc : ∀ x, (enc x).size = ps.size) (hsz : ∀ k A, I k A → w.heap.size ≤ A.heap.size)
    (hassign : ∀ (l s : Nat) (x : β) (W : World) (K : Act → World → Prop), W.heap.size = s → K (a1 x s) (W.alloc (.cells #[v x] T)) → assign.wpIn (Fence.wide.inRound l) (n - 1 - 1) P (Exit.then K (fun _ _ _ => False)) { tmps := (ps.zip (enc x)).foldl (fun t (p, v) => t.setIfInBounds p v) a.tmps, defers := [] } W)
    (hI : ∀ k A B, I k A → Below w.heap.size A B → I k B) (hIx : ∀ A B, Ix A → Below w.heap.size A B → Ix B) (hRd : ∀ k A, I k A → Rd A)
    (h0 : I 0 w)
    (hbody : ∀ (l k b7 : Nat) (x : β) (W : World), xs[k]? = some x → I k W → w.heap.size ≤ b7 → Bx W b7 [v x] → w.heap.size < l → l < W.heap.size → (∃ r, W.heap[l]? = some (.loop r)) → body.wpIn (Fence.wide.inRound l) (n - 1 - 1) P (REnd w.heap.size cx (I (k + 1)) Ix W) (a1 x b7) W)
    (hdone : ∀ (D : Nat) (W : World), w.heap.size ≤ D → I xs.length W → W.heap[D]? = some (.deferred (some [])) → Q .normal { a with defers := { target := .collected D, args := #[] } :: a.defers } W)
    (hstop : ∀ (D : Nat) (W : World), w.heap.size ≤ D → Ix W → W.heap[D]? = some (.deferred (some [])) → cx.wpIn Fence.wide n P Q { a with defers := { target := .collected D, args := #[] } :: a.defers } W) :
    (Code.rangeFunc g ps assign body).wpIn Fence.wide n P Q a w :=
  range_a hit hg eg I Ix cx (fun x a' W => ∃ b7, w.heap.size ≤ b7 ∧ Bx W b7 [v x] ∧ a' = a1 x b7) henc hI hIx hRd (fun x a' A l o o' hl ho ⟨b7, h1, h2, h3⟩ => ⟨b7, h1, h2.obj hl ho o', h3⟩) h0
    (fun l k x W K hi hK => hassign l _ x W K rfl (hK _ _ (bl1 _ _) ⟨W.heap.size, hsz k W hi, Bx.new _ _ _, rfl⟩)) (fun l k x a' W hx hi ⟨b7, h1, h2, e⟩ h3 h4 hr => by subst e; exact hbody l k b7 x W hx hi h1 h2 h3 h4 hr) hdone hstop
/-- A round's contract serves within a round of another loop. -/
theorem RoundIn.inRnd {n : Nat} {P : Program} {l l₀ : Nat} {f : FuncId} {tmps : Array Value} {assign body : Code} {w : World} {R : Ending → World → Prop} (h : RoundIn Fence.wide n P l f tmps assign body w R) : RoundIn (Fence.wide.inRound l₀) n P l f tmps assign body w R := h
/-- What hands out a list to a round comes to. -/
def HOut (J : Nat → World → Prop) (Jx : World → Prop) (N : Nat) (e : Ending) (W : World) : Prop := (e = .returned (.bool true) ∧ J N W) ∨ (e = .returned (.bool false) ∧ Jx W)
/-- The outer loop's state, the inner one's. -/
structure ApI (J : Nat → World → Prop) (s b5 l n0 : Nat) (u : Nat → Nat) (N : Nat) (W : World) : Prop where
  j : J N W
  b3 : Bx W s [.func (.yield l) #[] #[]]
  b4 : Bx W (s + 1) [.bool false]
  b5 : Bx W b5 (setCs u).toList
theorem ApI.bel {J : Nat → World → Prop} {s b5 l n0 m N : Nat} {u : Nat → Nat} {A B : World} (h : ApI J s b5 l n0 u N A) (hJ : ∀ k A B, J k A → Below n0 A B → J k B) (hb : Below m A B) (h1 : n0 ≤ m) (h2 : s + 1 < m) (h3 : b5 < m) : ApI J s b5 l n0 u N B :=
  ⟨hJ _ _ _ h.j (hb.mono h1), h.b3.bel hb (by omega), h.b4.bel hb h2, h.b5.bel hb h3⟩
set_option maxRecDepth 100000 in
set_option maxHeartbeats 8000000 in
theorem apartFirst_any {w : World} {b : Nat} {f : F.Fn} {a : Option Addr} {n c ga : Nat} {U : Nat → Nat → Nat} (hu : LfU f n U) (l n0 : Nat) (J : Nat → World → Prop) (Jx : World → Prop)
    (hn : n0 ≤ w.heap.size) (hJ : ∀ k A B, J k A → Below n0 A B → J k B) (hJx : ∀ A B, Jx A → Below n0 A B → Jx B) (hR : ∀ k A, J k A → n0 ≤ A.heap.size ∧ LfV A b f a n c ga U) (hRx : ∀ A, Jx A → n0 ≤ A.heap.size)
    (hY : ∀ k (x : Int × Int) W, (F.pairsF (F.els (F.insAll (U 0) (F.upto f.params))))[k]? = some x → J k W → YieldAt Fence.wide 0 Tryd.prog l #[.agg #[.int .i64 x.1, .int .i64 x.2]] W (YOut n0 W (J (k + 1)) Jx)) (h0 : J 0 w) :
    Calls Tryd.prog 61 #[.pointer (some ⟨b, 0, none⟩), .func (.yield l) #[] #[]] w (HOut J Jx (F.pairsF (F.els (F.insAll (U 0) (F.upto f.params)))).length) := by
  have hhd := F.may_head hu.may
  have hn1 : 1 ≤ n := by have := hu.cnt; omega
  have hn2 : n ≤ 20000 := by have := hu.cnt; omega
  obtain ⟨pn, hpn⟩ : ∃ pn : Nat, f.params = (pn : Int) := ⟨f.params.toNat, by omega⟩
  have hpn4 : pn ≤ 400 := by omega
  have HUP : Hid (F.upto f.params = (List.range pn).map Int.ofNat) := by show _ = _; unfold F.upto; rw [hpn, Int.toNat_natCast]
  have HU7 : Hid (F.Set7 (U 0)) := hu.s7 0 (by omega)
  have HRR : Hid (∀ k A, J k A → n0 ≤ A.heap.size ∧ LfV A b f a n c ga U) := hR
  have HPN : Hid (f.params = (pn : Int)) := hpn
  have HJ : Hid (∀ k A B, J k A → Below n0 A B → J k B) := hJ
  have HJX : Hid (∀ A B, Jx A → Below n0 A B → Jx B) := hJx
  have HRX : Hid (∀ A, Jx A → n0 ≤ A.heap.size) := hRx
  have HFI : Hid (∀ W k, J k W → Calls Tryd.prog 26 #[.pointer (some ⟨b, 0, none⟩)] W fun e w' => e = .returned (.agg (setCs (U 0))) ∧ Below W.heap.size W w') := fun W k hW => first_any (hR k W hW).2 hn1 hn2
  clear hhd hu hpn
  have HJ0 : Hid (J 0 w) := h0
  clear h0 hR hJ hJx hRx
  obtain ⟨W0, hW0⟩ : ∃ W0, (w.alloc (.cells #[.func (.yield l) #[] #[]] 105)).alloc (.cells #[.bool false] 4) = W0 := ⟨_, rfl⟩
  have HI0 : Hid (J 0 W0 ∧ Bx W0 w.heap.size [.func (.yield l) #[] #[]] ∧ Bx W0 (w.heap.size + 1) [.bool false]) := by
    have x1 := Bx.new w #[.func (.yield l) #[] #[]] 105
    have b1 := bl1 w (.cells #[.func (.yield l) #[] #[]] 105)
    obtain ⟨A1, hA1⟩ : ∃ A1, w.alloc (.cells #[.func (.yield l) #[] #[]] 105) = A1 := ⟨_, rfl⟩
    have s1 : A1.heap.size = w.heap.size + 1 := by rw [← hA1]; simp
    rw [hA1] at x1 b1 hW0
    have x2 := Bx.new A1 #[.bool false] 4
    have b2 := bl1 A1 (.cells #[.bool false] 4)
    rw [hW0, s1] at x2
    rw [hW0] at b2
    exact ⟨HJ.out _ _ _ HJ0.out ((b1.trans (b2.mono b1.size)).mono hn), x1.below b2, x2⟩
  refine (callsIn_wide (n := 6)).1 ?_
  refine callsIn_of_wp_marks Tryd.func61 rfl trivial ?_ rfl
  simp only [Tryd.ntmps61, List.size_toArray, List.length_cons, List.length_nil, Nat.reduceAdd, Nat.reduceSub, Array.replicate_succ, Array.replicate_zero, List.push_toArray, List.append_toArray, List.nil_append, List.cons_append]
  gi_wp2
  refine ⟨trivial, (callsIn_wide.2 (HFI.out _ 0 HI0.out.1)).mono ?_⟩
  rintro e y1 ⟨rfl, hb1⟩
  obtain ⟨W2, hW2⟩ : ∃ W2, y1.alloc (.cells (setCs (U 0)) 54) = W2 := ⟨_, rfl⟩
  have hs0 : n0 ≤ W0.heap.size := (HRR.out _ _ HI0.out.1).1
  have hs1 : n0 ≤ y1.heap.size := Nat.le_trans hs0 hb1.size
  have HI2 : Hid (ApI J w.heap.size y1.heap.size l n0 (U 0) 0 W2) := by
    have h1 : Below y1.heap.size y1 W2 := by rw [← hW2]; exact bl1 _ _
    have hx := Bx.new y1 (setCs (U 0)) 54
    rw [hW2] at hx
    exact ⟨HJ.out _ _ _ (HJ.out _ _ _ HI0.out.1 (hb1.mono hs0)) (h1.mono hs1), (HI0.out.2.1.below hb1).below h1, (HI0.out.2.2.below hb1).below h1, hx⟩
  have HBB : Hid (w.heap.size + 1 < y1.heap.size ∧ n0 ≤ y1.heap.size ∧ n0 ≤ w.heap.size) := ⟨Nat.lt_of_lt_of_le HI0.out.2.2.lt hb1.size, hs1, hn⟩
  obtain ⟨b5, hb5⟩ : ∃ b5, y1.heap.size = b5 := ⟨_, rfl⟩
  rw [hb5] at HI2 HBB
  have hp1 := (HRR.out _ _ HI2.out.j).2.c1
  rw [HPN.out] at hp1
  change y1.alloc (.cells #[.int .u64 (U 0 0 : Int), .int .u64 (U 0 1 : Int), .int .u64 (U 0 2 : Int), .int .u64 (U 0 3 : Int), .int .u64 (U 0 4 : Int), .int .u64 (U 0 5 : Int), .int .u64 (U 0 6 : Int)] 54 ) = W2 at hW2
  unfold setCs
  clear hb1 hW0 hs0 hs1 hn
  gi_wp2
  clear hW2 hb5 hp1
  gi_loopw [6, 16] (fun pv xv wr => ∃ (i : Nat), xv = .int .i64 i ∧ i ≤ pn ∧ Hid (ApI J w.heap.size b5 l n0 (F.insAll (U 0) ((F.upto f.params).take i)) 0 wr)) (fun _ xv _ => pn - (intOf xv).toNat)
  case atStart => exact ⟨0, rfl, Nat.zero_le _, by show ApI _ _ _ _ _ _ _ _; rw [List.take_zero]; exact HI2.out⟩
  case round =>
    obtain ⟨i, rfl, hi, HI⟩ := hrel
    by_cases hin : i < pn
    · have hil : (i : Int) < pn := by omega
      have HAD : Hid _ := add_bx (t := i) HI.out.b5 (F.insAll_set7 HU7.out _) (by omega)
      have HK : Hid ((F.upto f.params)[i]? = some (i : Int)) := by show _ = _; rw [HUP.out, List.getElem?_map, List.getElem?_range hin]; rfl
      gi_wp2
      refine ⟨trivial, (callsIn_wide.2 HAD.out).mono ?_⟩
      rintro e y ⟨rfl, hx, hup⟩
      have HN : Hid (ApI J w.heap.size b5 l n0 (F.insAll (U 0) ((F.upto f.params).take (i + 1))) 0 y) := by
        have h5 := HBB.out
        have hnw := (HRR.out _ _ HI.out.j).1
        refine ⟨HJ.out _ _ _ HI.out.j (hup.below (by omega) hnw), HI.out.b3.upd hup (by omega), HI.out.b4.upd hup (by omega), ?_⟩
        rw [F.insAll_take (U 0) _ HK.out]
        exact hx
      clear hx hup HAD
      gi_wp2
      go_roundw
      case rel => exact ⟨i + 1, by go_num, by omega, HN⟩
      case measure => simp [intOf]; omega
    · have hnn : ¬ (i : Int) < pn := by omega
      have HI3 : Hid (ApI J w.heap.size b5 l n0 (F.insAll (U 0) (F.upto f.params)) 0 wr) := by
        have h := HI.out
        have e1 : (F.upto f.params).take i = F.upto f.params := List.take_of_length_le (by rw [HUP.out, List.length_map, List.length_range]; omega)
        rw [e1] at h
        exact h
      obtain ⟨u1, hu1⟩ : ∃ u1, F.insAll (U 0) (F.upto f.params) = u1 := ⟨_, rfl⟩
      have HU1 : Hid (F.insAll (U 0) (F.upto f.params) = u1) := hu1
      have HU17 : Hid (F.Set7 u1) := by show F.Set7 u1; rw [← hu1]; exact F.insAll_set7 HU7.out _
      rw [hu1] at HI3
      have e0 := HI3.out.b5.c 0 _ rfl
      have e1 := HI3.out.b5.c 1 _ rfl
      have e2 := HI3.out.b5.c 2 _ rfl
      have e3 := HI3.out.b5.c 3 _ rfl
      have e4 := HI3.out.b5.c 4 _ rfl
      have e5 := HI3.out.b5.c 5 _ rfl
      have e6 := HI3.out.b5.c 6 _ rfl
      have HAL : Hid (Calls Tryd.prog 25 #[.agg (setCs u1)] wr fun e w' => e = .returned (.func (.func 43) #[] #[.pointer (some ⟨wr.heap.size, 0, none⟩)]) ∧ w' = wr.alloc (.cells (setCs u1) 54)) := all_any u1 wr
      unfold setCs at HAL
      clear hu1 HI
      gi_wp2
      refine ⟨trivial, (callsIn_wide.2 HAL.out).mono ?_⟩
      rintro e y ⟨rfl, rfl⟩
      clear HAL e0 e1 e2 e3 e4 e5 e6
      obtain ⟨WL, hWL⟩ : ∃ WL, wr.alloc (.cells (setCs u1) 54) = WL := ⟨_, rfl⟩
      have hbl : Below wr.heap.size wr WL := by rw [← hWL]; exact bl1 _ _
      have hxs := Bx.new wr (setCs u1) 54
      rw [hWL] at hxs
      have HSL : Hid (WL.heap.size = wr.heap.size + 1 ∧ n0 ≤ wr.heap.size ∧ w.heap.size + 1 < wr.heap.size ∧ b5 < wr.heap.size ∧ n0 ≤ w.heap.size ∧ n0 ≤ b5 ∧ w.heap.size + 1 < b5) := ⟨by rw [← hWL]; simp, (HRR.out _ _ HI3.out.j).1, HI3.out.b4.lt, HI3.out.b5.lt, HBB.out.2.2, HBB.out.2.1, HBB.out.1⟩
      have HIL : Hid (ApI J w.heap.size b5 l n0 u1 0 WL) := HI3.out.bel HJ.out hbl HSL.out.2.1 HSL.out.2.2.1 HSL.out.2.2.2.1
      have HXS : Hid (Bx WL wr.heap.size (setCs u1).toList) := hxs
      obtain ⟨Bs, hBs⟩ : ∃ Bs, wr.heap.size = Bs := ⟨_, rfl⟩
      rw [hBs] at HSL HXS ⊢
      have HY : Hid (∀ k (x : Int × Int) W, (F.pairsF (F.els u1))[k]? = some x → J k W → YieldAt Fence.wide 0 Tryd.prog l #[.agg #[.int .i64 x.1, .int .i64 x.2]] W (YOut n0 W (J (k + 1)) Jx)) := by rw [← HU1.out]; exact hY
      change wr.alloc (.cells #[.int .u64 (u1 0 : Int), .int .u64 (u1 1 : Int), .int .u64 (u1 2 : Int), .int .u64 (u1 3 : Int), .int .u64 (u1 4 : Int), .int .u64 (u1 5 : Int), .int .u64 (u1 6 : Int)] 54) = WL at hWL
      have HWL : Hid _ := hWL
      have HRD : Hid (∀ (W : World) (N Bq : Nat), ApI J w.heap.size b5 l n0 u1 N W → Bx W Bq (setCs u1).toList → AllRd Bq u1 W) := fun W N Bq h1 h2 => ⟨h2.set, (HRR.out _ _ h1.j).2.env.tab⟩
      have HGO : Hid (∀ Bq, Goes Tryd.prog 43 #[.pointer (some ⟨Bq, 0, none⟩)] (fun x : Int => #[.int .i64 x]) (F.els u1) (AllRd Bq u1)) := fun Bq => (all_goes Bq u1 HU17.out).goes
      clear hbl hxs hBs hY hWL HI3 HI2 HI0 HJ0 HFI
      gi_wp2
      rw [HWL.out]
      clear HWL
      refine range_a2 (β := Int) (gf := 43) (lb := #[.pointer (some ⟨Bs, 0, none⟩)]) 3 (fun x => .int .i64 x) (HGO.out Bs) rfl (enters_of Tryd.func43 (by kernel_rfl) rfl)
        (fun k W => WL.heap.size ≤ W.heap.size ∧ ApI J w.heap.size b5 l n0 u1 (F.doneF (F.els u1) k 0).length W ∧ Bx W Bs (setCs u1).toList)
        (fun W => Jx W ∧ Bx W (w.heap.size + 1) [.bool false]) .ret ?a1 (fun _ => rfl) (fun _ _ h => h.1) ?assign ?I ?Ix ?rd ?start ?body ?done ?stop
      case assign =>
        intro lo sb x W K hsb hK
        gi_wp2
        exact hK
      case I =>
        rintro k A B ⟨h1, h2, h3⟩ hB
        have hs := HSL.out
        exact ⟨Nat.le_trans h1 hB.size, h2.bel HJ.out hB (by omega) (by omega) (by omega), h3.bel hB (by omega)⟩
      case Ix =>
        rintro A B ⟨h1, h2⟩ hB
        have hs := HSL.out
        exact ⟨HJX.out _ _ h1 (hB.mono (by omega)), h2.bel hB (by omega)⟩
      case rd =>
        rintro k A ⟨h1, h2, h3⟩
        exact HRD.out _ _ _ h2 h3
      case start =>
        refine ⟨Nat.le_refl _, ?_, HXS.out⟩
        have e1 : (F.doneF (F.els u1) 0 0).length = 0 := by unfold F.doneF; simp; cases (F.els u1)[0]? <;> simp
        rw [e1]
        exact HIL.out
      case body =>
        rintro lo k b7 one W hk ⟨hsz, hA, hbs⟩ hb7 hx7 hl1 hl2 ⟨rc, hrc⟩
        have HK : Hid ((F.els u1)[k]? = some one) := hk
        have HA : Hid (ApI J w.heap.size b5 l n0 u1 (F.doneF (F.els u1) k 0).length W) := hA
        have e0 := hA.b5.c 0 _ rfl
        have e1 := hA.b5.c 1 _ rfl
        have e2 := hA.b5.c 2 _ rfl
        have e3 := hA.b5.c 3 _ rfl
        have e4 := hA.b5.c 4 _ rfl
        have e5 := hA.b5.c 5 _ rfl
        have e6 := hA.b5.c 6 _ rfl
        have HAL : Hid (Calls Tryd.prog 25 #[.agg (setCs u1)] W fun e w' => e = .returned (.func (.func 43) #[] #[.pointer (some ⟨W.heap.size, 0, none⟩)]) ∧ w' = W.alloc (.cells (setCs u1) 54)) := all_any u1 W
        unfold setCs at HAL
        obtain ⟨WI, hWI⟩ : ∃ WI, W.alloc (.cells (setCs u1) 54) = WI := ⟨_, rfl⟩
        have hbl : Below W.heap.size W WI := by rw [← hWI]; exact bl1 _ _
        have hs := HSL.out
        have hxn := Bx.new W (setCs u1) 54
        rw [hWI] at hxn
        obtain ⟨Bt, hBt⟩ : ∃ Bt, W.heap.size = Bt := ⟨_, rfl⟩
        have HST : Hid (WI.heap.size = Bt + 1 ∧ WL.heap.size ≤ Bt ∧ W.heap.size = Bt ∧ b7 < Bt ∧ WL.heap.size ≤ b7) := ⟨by rw [← hWI]; simp [hBt], by omega, hBt, by rw [← hBt]; exact hx7.lt, hb7⟩
        rw [hBt] at hxn
        have HSI : Hid (ApI J w.heap.size b5 l n0 u1 (F.doneF (F.els u1) k 0).length WI ∧ Bx WI b7 [.int .i64 one] ∧ Bx WI Bt (setCs u1).toList ∧ Bx WI Bs (setCs u1).toList ∧ Abv WL.heap.size W WI) :=
          ⟨hA.bel HJ.out hbl (by omega) (by omega) (by omega), hx7.below hbl, hxn, hbs.below hbl, Abv.below hbl⟩
        have hrec : WI.heap[lo]? = some (.loop rc) := (hbl.block _ hl2).trans hrc
        change W.alloc (.cells #[.int .u64 (u1 0 : Int), .int .u64 (u1 1 : Int), .int .u64 (u1 2 : Int), .int .u64 (u1 3 : Int), .int .u64 (u1 4 : Int), .int .u64 (u1 5 : Int), .int .u64 (u1 6 : Int)] 54) = WI at hWI
        have HWI : Hid _ := hWI
        have HREC : Hid (WI.heap[lo]? = some (.loop rc)) := hrec
        clear hk hsz hA hbs hb7 hx7 hl1 hl2 hrc hbl hs hxn hWI hrec HIL
        try dsimp only
        gi_wp2
        refine ⟨trivial, (CallsIn.inRound lo (callsIn_wide.2 HAL.out)).mono ?_⟩
        rintro e y ⟨rfl, rfl⟩
        clear HAL e0 e1 e2 e3 e4 e5 e6
        rw [HWI.out]
        clear HWI
        gi_wp2
        refine range_b1 (β := Int) (gf := 43) (lb := #[.pointer (some ⟨Bt, 0, none⟩)]) HREC.out (HGO.out Bt) rfl (enters_of Tryd.func43 (by kernel_rfl) rfl)
          (fun m W' => ApI J w.heap.size b5 l n0 u1 (F.doneF (F.els u1) k m).length W' ∧ Bx W' b7 [.int .i64 one] ∧ Bx W' Bt (setCs u1).toList ∧ Bx W' Bs (setCs u1).toList ∧ Abv WL.heap.size W W')
          (fun W' => Jx W' ∧ Bx W' (w.heap.size + 1) [.bool false] ∧ Abv WL.heap.size W W') .ret ?a2 (fun _ => rfl) ?assign2 ?I2 ?Ix2 ?rd2 HSI.out ?body2 ?done2 ?stop2
        case assign2 =>
          intro li x W' K hK
          gi_wp2
          exact hK
        case I2 =>
          rintro m A B ⟨h1, h2, h3, h4, h5⟩ hB
          have hs := HSL.out
          have ht := HST.out
          exact ⟨h1.bel HJ.out hB (by omega) (by omega) (by omega), h2.bel hB (by omega), h3.bel hB (by omega), h4.bel hB (by omega), h5.bel hB (by omega)⟩
        case Ix2 =>
          rintro A B ⟨h1, h2, h3⟩ hB
          have hs := HSL.out
          have ht := HST.out
          exact ⟨HJX.out _ _ h1 (hB.mono (by omega)), h2.bel hB (by omega), h3.bel hB (by omega)⟩
        case rd2 =>
          rintro m A ⟨h1, h2, h3, h4, h5⟩
          exact HRD.out _ _ _ h1 h3
        case body2 =>
          rintro li m other W' hm ⟨h1, h2, h3, h4, h5⟩ hl3 hl4 -
          have HM : Hid ((F.els u1)[m]? = some other) := hm
          have H1 : Hid (ApI J w.heap.size b5 l n0 u1 (F.doneF (F.els u1) k m).length W' ∧ Bx W' b7 [.int .i64 one] ∧ Bx W' Bt (setCs u1).toList ∧ Bx W' Bs (setCs u1).toList ∧ Abv WL.heap.size W W') := ⟨h1, h2, h3, h4, h5⟩
          have c7 := h2.c 0 _ rfl
          have c3 := h1.b3.c 0 _ rfl
          have c4 := h1.b4.c 0 _ rfl
          have f4 := h1.b4.f 0
          clear hm h1 h2 h3 h4 h5 hl3 hl4 HSI
          by_cases hlt : one < other
          · have hx : (F.pairsF (F.els u1))[(F.doneF (F.els u1) k m).length]? = some (one, other) := F.done_at HK.out HM.out hlt
            have HLT : Hid (one < other) := hlt
            have hd : decide (one < other) = true := decide_eq_true hlt
            obtain ⟨fn, tmps, assign, body, hy, hR⟩ := HY.out _ _ W' hx H1.out.1.j
            have hR' := RoundIn.any (m' := 3) hR
            simp only at hy
            clear hR hx hlt
            gi_wp2
            refine RoundIn.mono (RoundIn.inRnd (RoundIn.any hR')) ?_
            rintro e w3 ⟨hab, ⟨rfl, hJ3⟩ | ⟨rfl, hJ3⟩⟩
            · have HN : Hid (Abv WI.heap.size W' w3 ∧ ApI J w.heap.size b5 l n0 u1 (F.doneF (F.els u1) k (m + 1)).length w3 ∧ Bx w3 b7 [.int .i64 one] ∧ Bx w3 Bt (setCs u1).toList ∧ Bx w3 Bs (setCs u1).toList ∧ Abv WL.heap.size W w3) := by
                obtain ⟨h1, h2, h3, h4, h5⟩ := H1.out
                have hs := HSL.out
                have ht := HST.out
                refine ⟨hab.mono (by omega), ⟨?_, h1.b3.abv hab (by omega), h1.b4.abv hab (by omega), h1.b5.abv hab (by omega)⟩, h2.abv hab (by omega), h3.abv hab (by omega), h4.abv hab (by omega), h5.trans (hab.mono (by omega))⟩
                rw [F.done_go HK.out HM.out HLT.out, List.length_append]
                exact hJ3
              clear hJ3 hR' hy hab c7 c3 c4 f4
              gi_wp2
              exact HN.out
            · have HN : Hid (Jx w3 ∧ Abv n0 W' w3) := ⟨hJ3, hab⟩
              have c4' := (H1.out.1.b4.abv hab (by have := HSL.out; omega)).c 0 _ rfl
              have f4' := (H1.out.1.b4.abv hab (by have := HSL.out; omega)).f 0
              clear hJ3 hR' hy hab c7 c3 c4 f4
              gi_wp2
              have hs := HSL.out
              have ht := HST.out
              have hb4 := (H1.out.1.b4.abv HN.out.2 (by omega)).put 0 (by simp) (.bool false)
              refine ⟨rfl, (HN.out.2.mono (by omega)).trans (Abv.set _ _ _ (by show w.heap.size + 1 < _; omega)), HJX.out _ _ HN.out.1 ((Below.refl _ _).setCell (by show n0 ≤ w.heap.size + 1; omega) _), hb4, ?_⟩
              exact (H1.out.2.2.2.2.trans (HN.out.2.mono (by omega))).trans (Abv.set _ _ _ (by show w.heap.size + 1 < _; omega))
          · have hd : decide (one < other) = false := decide_eq_false hlt
            have HN : Hid (ApI J w.heap.size b5 l n0 u1 (F.doneF (F.els u1) k (m + 1)).length W') := by show ApI _ _ _ _ _ _ _ _; rw [F.done_skip HK.out HM.out hlt]; exact H1.out.1
            clear hlt
            iterate 200 (try (first | go_values | gi_guarded | gi_step | gi_upon | gi_in | gi_back))
            refine ⟨fun _ _ => trivial, ?_⟩
            gi_wp2
            exact ⟨Abv.refl _ _, HN.out, H1.out.2⟩
        case done2 =>
          rintro W' hsz ⟨h1, h2, h3, h4, h5⟩
          have hs := HSL.out
          have ht := HST.out
          refine ⟨h5, Nat.le_trans (by omega) hsz, ?_, h4⟩
          rw [← F.done_full _ _ _ HK.out]
          exact h1
        case stop2 =>
          rintro W' hsz ⟨h1, h2, h3⟩
          gi_wp2
          exact ⟨rfl, h3, h1, h2⟩
      case done =>
        rintro D W hD ⟨h1, h2, h3⟩ hK
        have HK : Hid _ := hK
        have H1 : Hid (ApI J w.heap.size b5 l n0 u1 (F.pairsF (F.els u1)).length W) := by rw [F.done_end] at h2; exact h2
        have c4 := h2.b4.c 0 _ rfl
        have f4 := h2.b4.f 0
        have HWS : Hid (WL.heap.size ≤ W.heap.size) := h1
        clear h1 h2 h3 hK
        gi_wp2
        have hs := HSL.out
        have hws := HWS.out
        have hb := H1.out.b4.put 0 (by simp) (.bool true)
        have hk' : (W.setCell ⟨w.heap.size + 1, 0, none⟩ (.bool true)).heap[D]? = some (.deferred (some [])) := (Below.heap_setCell _ _ _ _ (by show D ≠ w.heap.size + 1; omega)).trans HK.out
        have hb2 := hb.obj hk' rfl (.deferred none)
        have g0 := hb2.c 0 _ rfl
        refine ⟨by simp, .inl ⟨_, _, rfl, run_takeDeferred hk', ?_⟩⟩
        refine ⟨.bool true, ?_, .inl ⟨rfl, ?_⟩⟩
        · simp [results, Tryd.results61, go_sem, g0]
        · rw [HU1.out]
          exact HJ.out _ _ _ (HJ.out _ _ _ H1.out.j ((Below.refl _ _).setCell (by show n0 ≤ w.heap.size + 1; omega) _)) (below_put _ _ (by omega))
      case stop =>
        rintro D W hD ⟨h1, h2⟩ hK
        have HK : Hid _ := hK
        have HJ1 : Hid (Jx W) := h1
        have HB : Hid (Bx W (w.heap.size + 1) [.bool false]) := h2
        have c4 := h2.c 0 _ rfl
        clear h1 h2 hK
        gi_wp2
        have hs := HSL.out
        have hb2 := HB.out.obj HK.out rfl (.deferred none)
        have g0 := hb2.c 0 _ rfl
        refine ⟨by simp, .inl ⟨_, _, rfl, run_takeDeferred HK.out, ?_⟩⟩
        refine ⟨.bool false, ?_, .inr ⟨rfl, ?_⟩⟩
        · simp [results, Tryd.results61, go_sem, g0]
        · exact HJX.out _ _ HJ1.out (below_put _ _ (by omega))
end Go.Proofs.YtljgpngbkmembaaDoor
