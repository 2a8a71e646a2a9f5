/- Proved: InsBack answers true for every instruction and every string of bytes (its second form: at most 1048576 values and letters; the two tables of package ins hold what the program text lays in them, which the card ties): what is written is read as it was and takes its size, what is read is written as it stood. -/
import Derived.Test.YtcllbbdkihmpgaaDoorInsOpen
import Derived.Test.YtcllbbdkihmpgaaDoorInsLive
import Derived.Test.YtcllbbdkihmpgaaDoorInsEq
import Derived.Test.YtcllbbdkihmpgaaDoorInsAllMath
import Derived.Test.YtcllbbdkihmpgaaDoorBulk
import Derived.Deep.RegionHeld3
import Derived.Deep.DrawnRows
namespace Go.Proofs.YtcllbbdkihmpgaaDoor.insBack
open Go.ChangeShapes Go.WideShapes Go.ChangeAt Go.RowKit
open Go.ChangeMaps (open_string shut_string)
set_option linter.unusedVariables false
attribute [local go_sem ↓] Go.wp_at_zero Go.wp_at_succ
attribute [local go_sem high] eqIns

theorem own : ownKnob Tryd.prog.godebug = none := by kernel_rfl
theorem laidO : laidOutB Tryd.prog = true := by kernel_rfl

set_option maxRecDepth 100000 in
set_option maxHeartbeats 16000000 in
theorem walk (op a b n : Int) (wo : (Lit.int .i64 op).wf = true) (wa : (Lit.int .i64 a).wf = true) (wb : (Lit.int .i64 b).wf = true) (wn : (Lit.int .i64 n).wf = true) (s : ByteArray) (ws : s.size ≤ maxLen) (us : s.size ≤ 1048576) (w : World) (ht : Tab w) :
    Calls Tryd.prog 5 #[.agg #[.int .i64 op, .int .i64 a, .int .i64 b, .int .i64 n], .string s] w fun e w' => e = .returned (.bool true) ∧ Below w.heap.size w w' := by
  have hbk : I.encE op a b n = 0 → I.decR (strOfNums (I.encV op a b n)) 0 = decV (insW op a b n) ((strOfNums (I.encV op a b n)).size : Int) 0 := I.dec_back
  have hsz : (strOfNums (I.encV op a b n)).size ≤ 10 := enc_size
  have hln : I.encE op a b n = 0 → ((strOfNums (I.encV op a b n)).size : Int) = I.size op := fun h => by
    rw [← I.psize_size op (I.enc_parts h).1, ← I.enc_len h, strOfNums_size]
  generalize hv : strOfNums (I.encV op a b n) = v at *
  generalize he : I.encE op a b n = ee at *
  have HV : Hid (strOfNums (I.encV op a b n) = v) := hv
  have HE : Hid (I.encE op a b n = ee) := he
  clear hv he
  have sm := I.same_self op a b n
  by_cases h : ee = 0
  · have hbk1 := hbk h
    have hln1 := hln h
    have HBK : Hid _ := hbk1
    have HLN : Hid _ := hln1
    clear hbk hln hbk1 hln1
    subst h
    go_enter Tryd.func5, Tryd.ntmps5
    go_wp2_with fail
    refine (encode_any op a b n _ (ht.alloc _)).mono ?_
    rintro e w1 ⟨rfl, hb1⟩
    rw [HV.out, HE.out]
    have t1 := (ht.alloc _).below hb1
    have ki : ∀ o, w1.cell? ⟨w.heap.size, o, none⟩ = (#[.int .i64 op, .int .i64 a, .int .i64 b, .int .i64 n] : Array Value)[o]? := arr_thru hb1 (fun o => by simp)
    have q1 : Below w.heap.size w w1 := (bl1 _ _).trans (hb1.mono (by simp))
    clear hb1
    go_wp2_with fail
    refine (decode_any v 0 (by omega) _ t1).mono ?_
    rintro e w2 ⟨rfl, hb2⟩
    rw [HBK.out]
    have t2 := t1.below hb2
    have ki2 := arr_thru hb2 ki
    have zi2 : w.heap.size < w2.heap.size := World.block_lt_of_cell? w2 ⟨w.heap.size, 0, none⟩ (ki2 0)
    have z2 := hb2.size
    have q2 : Below w.heap.size w w2 := q1.trans (hb2.mono q1.size)
    clear hb2
    go_wp2_with (go_at_call 11; refine (size_any _ _ (t2.alloc _)).mono ?_; rintro e w3 ⟨rfl, hb3⟩; rw [← HLN.out])
    have t3 := (t2.alloc _).below hb3
    have q3 : Below w.heap.size w w3 := (q2.alloc q2.size _).trans (hb3.mono (by have := q2.size; simp; omega))
    clear hb3
    go_wp2_with fail
    refine (all_any s (by omega) _ t3).mono ?_
    rintro e w6 ⟨hpost, hb6⟩
    unfold I.allPost at hpost
    have t6 := t3.below hb6
    have q6 : Below w.heap.size w w6 := q3.trans (hb6.mono q3.size)
    clear hb6
    cases hal : I.allI s with
    | none =>
      rw [hal] at hpost
      subst hpost
      go_wp2_with (go_at_call 13; refine (live_any _ t6).mono ?_; rintro e w7 ⟨rfl, hb7⟩)
      go_ret
      exact ⟨rfl, q6.trans (hb7.mono q6.size)⟩
    | some l =>
      rw [hal] at hpost
      obtain ⟨lv, rfl, hown⟩ := hpost
      obtain ⟨hE, hB⟩ := I.allI_some hal
      have hll : l.length ≤ s.size := by rw [← byts_len, hB]; exact I.flat_len l hE
      have HE1 : Hid (∀ q ∈ l, q.E = 0) := hE
      have HB1 : Hid (byts s = l.flatMap I.Q.V) := hB
      clear hE hB hal
      rcases Nat.eq_zero_or_pos l.length with h0 | h0
      · obtain rfl : l = [] := List.eq_nil_of_length_eq_zero h0
        obtain ⟨ad, cap, rfl⟩ : ∃ ad cap, lv = .slice ad 0 cap := by
          rcases hown.2 with ⟨e, -⟩ | ⟨g, cap, cur, e, -⟩
          · exact ⟨none, 0, e⟩
          · exact ⟨_, cap, e⟩
        have hs0 : s.size = 0 := by rw [← byts_len, HB1.out]; rfl
        obtain rfl : s = { data := #[] } := by
          obtain ⟨d⟩ := s
          simp [ByteArray.size] at hs0
          subst hs0; rfl
        clear hown
        go_wp2
        refine wp_loop_rounds 1 ?_
        rw [rounds_succ]
        go_wp2_with (go_at_call 13; refine (live_any _ t6).mono ?_; rintro e w7 ⟨rfl, hb7⟩)
        go_ret
        exact ⟨rfl, q6.trans (hb7.mono q6.size)⟩
      · obtain ⟨g, cap, rfl, -, zg⟩ := World.ownsRow.form hown h0
        have hcell : ∀ k j, k < l.length → j < 4 → w6.cell? ⟨g, k * 4 + j, none⟩ = (I.rows l)[k * 4 + j]? := fun k j hk hj => World.ownsRow.cellAt hown _ (by omega)
        have HC : Hid (∀ k j, k < l.length → j < 4 → w6.cell? ⟨g, k * 4 + j, none⟩ = (I.rows l)[k * 4 + j]?) := hcell
        clear hown hcell
        go_wp2
        go_loopg [12, 13] l.length (fun r uv kv wr => ∃ (u : ByteArray) (k : Nat), uv = .string u ∧ kv = .int .i64 k ∧ k ≤ l.length ∧ l.length - k ≤ r ∧ u.size ≤ s.size ∧ Hid (byts u = (l.take k).flatMap I.Q.V) ∧ Below w.heap.size w wr ∧ Below w6.heap.size w6 wr)
        case atStart => exact ⟨{ data := #[] }, 0, rfl, rfl, Nat.zero_le _, Nat.le_refl _, Nat.zero_le _, rfl, q6, Below.refl _ _⟩
        case round =>
          obtain ⟨u, k, rfl, rfl, hk, hr, hu, HU, hb, hbr⟩ := hrel
          have tr := t6.below hbr
          by_cases hlt : k < l.length
          · have hq0 : wr.cell? ⟨g, k * 4, none⟩ = some (.int .i64 (l[k]).op) := cell_thru hbr ((HC.out k 0 hlt (by decide)).trans (I.rows_at l k hlt 0 (by decide)))
            have hq1 : wr.cell? ⟨g, k * 4 + 1, none⟩ = some (.int .i64 (l[k]).a) := cell_thru hbr ((HC.out k 1 hlt (by decide)).trans (I.rows_at l k hlt 1 (by decide)))
            have hq2 : wr.cell? ⟨g, k * 4 + 2, none⟩ = some (.int .i64 (l[k]).b) := cell_thru hbr ((HC.out k 2 hlt (by decide)).trans (I.rows_at l k hlt 2 (by decide)))
            have hq3 : wr.cell? ⟨g, k * 4 + 3, none⟩ = some (.int .i64 (l[k]).n) := cell_thru hbr ((HC.out k 3 hlt (by decide)).trans (I.rows_at l k hlt 3 (by decide)))
            have hqE : (l[k]).E = 0 := HE1.out _ (List.getElem_mem hlt)
            have hts := I.take_snoc l k hlt
            have hcut := I.rows_cut l k hlt
            generalize l[k] = q at *
            have HTS : Hid _ := hts
            have hVs : (strOfNums q.V).size = q.V.length := strOfNums_size _
            have hus : u.size + (strOfNums q.V).size ≤ s.size := by
              have h1 := congrArg List.length HB1.out
              rw [byts_len, hcut, List.length_append, List.length_append] at h1
              have h2 := congrArg List.length HU.out
              rw [byts_len] at h2
              omega
            have hub : byts (u ++ strOfNums q.V) = (l.take (k + 1)).flatMap I.Q.V := by
              rw [byts_append, HU.out, byts_str q.V I.enc_bd, hts]
            have HUB : Hid _ := hub
            have hadd : u.size + (strOfNums q.V).size ≤ 9223372036854775807 := by omega
            clear hts hcut hub
            go_wp2_with fail
            refine (encode_any q.op q.a q.b q.n _ tr).mono ?_
            rintro e w8 ⟨rfl, hb8⟩
            rw [show I.encE q.op q.a q.b q.n = 0 from hqE, show I.encV q.op q.a q.b q.n = q.V from rfl]
            have hz8 := hb8.size
            have hbr8 : Below w6.heap.size w6 w8 := hbr.trans (hb8.mono hbr.size)
            have hb9 : Below w.heap.size w w8 := hb.trans (hb8.mono hb.size)
            clear hb8
            go_wp2
            go_roundg (l.length - (k + 1))
            case measure => omega
            case rel => exact ⟨u ++ strOfNums q.V, k + 1, rfl, by first | rfl | (congr 1; omega), by omega, Nat.le_refl _, by simp; omega, HUB.out, hb9, hbr8⟩
          · obtain rfl : k = l.length := by omega
            have hus : u = s := byts_inj (by rw [HU.out, HB1.out, List.take_length])
            subst hus
            go_wp2_with (go_at_call 13; refine (live_any _ tr).mono ?_; rintro e w9 ⟨rfl, hb9⟩)
            go_ret
            exact ⟨rfl, hb.trans (hb9.mono hb.size)⟩
  · clear hbk hln
    go_enter Tryd.func5, Tryd.ntmps5
    go_wp2_with fail
    refine (encode_any op a b n _ (ht.alloc _)).mono ?_
    rintro e w1 ⟨rfl, hb1⟩
    rw [HV.out, HE.out]
    have t1 := (ht.alloc _).below hb1
    have ki : ∀ o, w1.cell? ⟨w.heap.size, o, none⟩ = (#[.int .i64 op, .int .i64 a, .int .i64 b, .int .i64 n] : Array Value)[o]? := arr_thru hb1 (fun o => by simp)
    have q1 : Below w.heap.size w w1 := (bl1 _ _).trans (hb1.mono (by simp))
    clear hb1
    go_wp2_with fail
    refine (all_any s (by omega) _ t1).mono ?_
    rintro e w6 ⟨hpost, hb6⟩
    unfold I.allPost at hpost
    have t6 := t1.below hb6
    have q6 : Below w.heap.size w w6 := q1.trans (hb6.mono q1.size)
    clear hb6
    cases hal : I.allI s with
    | none =>
      rw [hal] at hpost
      subst hpost
      go_wp2_with (go_at_call 13; refine (live_any _ t6).mono ?_; rintro e w7 ⟨rfl, hb7⟩)
      go_ret
      exact ⟨rfl, q6.trans (hb7.mono q6.size)⟩
    | some l =>
      rw [hal] at hpost
      obtain ⟨lv, rfl, hown⟩ := hpost
      obtain ⟨hE, hB⟩ := I.allI_some hal
      have hll : l.length ≤ s.size := by rw [← byts_len, hB]; exact I.flat_len l hE
      have HE1 : Hid (∀ q ∈ l, q.E = 0) := hE
      have HB1 : Hid (byts s = l.flatMap I.Q.V) := hB
      clear hE hB hal
      rcases Nat.eq_zero_or_pos l.length with h0 | h0
      · obtain rfl : l = [] := List.eq_nil_of_length_eq_zero h0
        obtain ⟨ad, cap, rfl⟩ : ∃ ad cap, lv = .slice ad 0 cap := by
          rcases hown.2 with ⟨e, -⟩ | ⟨g, cap, cur, e, -⟩
          · exact ⟨none, 0, e⟩
          · exact ⟨_, cap, e⟩
        have hs0 : s.size = 0 := by rw [← byts_len, HB1.out]; rfl
        obtain rfl : s = { data := #[] } := by
          obtain ⟨d⟩ := s
          simp [ByteArray.size] at hs0
          subst hs0; rfl
        clear hown
        go_wp2
        refine wp_loop_rounds 1 ?_
        rw [rounds_succ]
        go_wp2_with (go_at_call 13; refine (live_any _ t6).mono ?_; rintro e w7 ⟨rfl, hb7⟩)
        go_ret
        exact ⟨rfl, q6.trans (hb7.mono q6.size)⟩
      · obtain ⟨g, cap, rfl, -, zg⟩ := World.ownsRow.form hown h0
        have hcell : ∀ k j, k < l.length → j < 4 → w6.cell? ⟨g, k * 4 + j, none⟩ = (I.rows l)[k * 4 + j]? := fun k j hk hj => World.ownsRow.cellAt hown _ (by omega)
        have HC : Hid (∀ k j, k < l.length → j < 4 → w6.cell? ⟨g, k * 4 + j, none⟩ = (I.rows l)[k * 4 + j]?) := hcell
        clear hown hcell
        go_wp2
        go_loopg [12, 13] l.length (fun r uv kv wr => ∃ (u : ByteArray) (k : Nat), uv = .string u ∧ kv = .int .i64 k ∧ k ≤ l.length ∧ l.length - k ≤ r ∧ u.size ≤ s.size ∧ Hid (byts u = (l.take k).flatMap I.Q.V) ∧ Below w.heap.size w wr ∧ Below w6.heap.size w6 wr)
        case atStart => exact ⟨{ data := #[] }, 0, rfl, rfl, Nat.zero_le _, Nat.le_refl _, Nat.zero_le _, rfl, q6, Below.refl _ _⟩
        case round =>
          obtain ⟨u, k, rfl, rfl, hk, hr, hu, HU, hb, hbr⟩ := hrel
          have tr := t6.below hbr
          by_cases hlt : k < l.length
          · have hq0 : wr.cell? ⟨g, k * 4, none⟩ = some (.int .i64 (l[k]).op) := cell_thru hbr ((HC.out k 0 hlt (by decide)).trans (I.rows_at l k hlt 0 (by decide)))
            have hq1 : wr.cell? ⟨g, k * 4 + 1, none⟩ = some (.int .i64 (l[k]).a) := cell_thru hbr ((HC.out k 1 hlt (by decide)).trans (I.rows_at l k hlt 1 (by decide)))
            have hq2 : wr.cell? ⟨g, k * 4 + 2, none⟩ = some (.int .i64 (l[k]).b) := cell_thru hbr ((HC.out k 2 hlt (by decide)).trans (I.rows_at l k hlt 2 (by decide)))
            have hq3 : wr.cell? ⟨g, k * 4 + 3, none⟩ = some (.int .i64 (l[k]).n) := cell_thru hbr ((HC.out k 3 hlt (by decide)).trans (I.rows_at l k hlt 3 (by decide)))
            have hqE : (l[k]).E = 0 := HE1.out _ (List.getElem_mem hlt)
            have hts := I.take_snoc l k hlt
            have hcut := I.rows_cut l k hlt
            generalize l[k] = q at *
            have HTS : Hid _ := hts
            have hVs : (strOfNums q.V).size = q.V.length := strOfNums_size _
            have hus : u.size + (strOfNums q.V).size ≤ s.size := by
              have h1 := congrArg List.length HB1.out
              rw [byts_len, hcut, List.length_append, List.length_append] at h1
              have h2 := congrArg List.length HU.out
              rw [byts_len] at h2
              omega
            have hub : byts (u ++ strOfNums q.V) = (l.take (k + 1)).flatMap I.Q.V := by
              rw [byts_append, HU.out, byts_str q.V I.enc_bd, hts]
            have HUB : Hid _ := hub
            have hadd : u.size + (strOfNums q.V).size ≤ 9223372036854775807 := by omega
            clear hts hcut hub
            go_wp2_with fail
            refine (encode_any q.op q.a q.b q.n _ tr).mono ?_
            rintro e w8 ⟨rfl, hb8⟩
            rw [show I.encE q.op q.a q.b q.n = 0 from hqE, show I.encV q.op q.a q.b q.n = q.V from rfl]
            have hz8 := hb8.size
            have hbr8 : Below w6.heap.size w6 w8 := hbr.trans (hb8.mono hbr.size)
            have hb9 : Below w.heap.size w w8 := hb.trans (hb8.mono hb.size)
            clear hb8
            go_wp2
            go_roundg (l.length - (k + 1))
            case measure => omega
            case rel => exact ⟨u ++ strOfNums q.V, k + 1, rfl, by first | rfl | (congr 1; omega), by omega, Nat.le_refl _, by simp; omega, HUB.out, hb9, hbr8⟩
          · obtain rfl : k = l.length := by omega
            have hus : u = s := byts_inj (by rw [HU.out, HB1.out, List.take_length])
            subst hus
            go_wp2_with (go_at_call 13; refine (live_any _ tr).mono ?_; rintro e w9 ⟨rfl, hb9⟩)
            go_ret
            exact ⟨rfl, hb.trans (hb9.mono hb.size)⟩

/-! ### The row -/
theorem contract (H : Type) (enc : TypeId × Value → H) (W : World) (base : Nat) (args : Array Value) (ds gs : List (DataW H)) (before : List MemPlace)
    (hval : ∀ (j : Nat) t v, Tryd.f5.params[j]? = some t → args[j]? = some v → Value.okWide Tryd.prog W .any base t v)
    (hW : DataW.Whole enc Tryd.prog Tryd.f5.params.toList Rows.insBackSpec.vars false W args.toList ds gs before) (hk : Rows.uptoSmall H (ds ++ gs) = true) (hT : Tab W) :
    Calls Tryd.prog 5 args W fun e W' => ∃ v, e = .returned v ∧ Rows.insBackSpec.post enc Tryd.prog Tryd.f5 false true false false W args v W' := by
  have hW' := hW
  obtain ⟨p, q, hA0, hV, rfl, hfz, hnd⟩ := hW
  have hA : DataW.TrodAll enc Tryd.prog W 0 (fun _ => true) true Tryd.f5.params.toList args.toList ds p := hA0
  have hlt := hA.lt
  rw [Tryd.params5] at hA hval
  obtain ⟨v0, vs0, d0, ds0, p0, q0, hargs, rfl, rfl, h0, r0⟩ := trodAll_cons hA
  obtain ⟨v1, vs1, d1, ds1, p1, q1, rfl, rfl, rfl, h1, r1⟩ := trodAll_cons r0
  obtain ⟨rfl, rfl, rfl⟩ := trodAll_nil r1
  obtain rfl : args = #[v0, v1] := by cases args; simp_all
  obtain ⟨rfl, rfl⟩ := trodVars_none hV
  rw [List.append_nil] at hk
  have hk1 := bulks.bound hk
  simp only [Rows.uptoBulkAll] at hk1
  obtain ⟨op0, a0, b0, n0, rfl, wo0, wa0, wb0, wn0⟩ := open_ins (hval 0 23 v0 rfl rfl) h0
  obtain ⟨s1, rfl, rfl, rfl, ws1⟩ := open_string Tryd.underlying9 (hval 1 9 v1 rfl rfl) h1
  have us1 : s1.size ≤ 1048576 := by simp only [Rows.uptoBulk] at hk1; simp at hk1; omega
  clear hA0
  simp only [List.append_nil] at hW'
  refine (walk op0 a0 b0 n0 wo0 wa0 wb0 wn0 s1 ws1 us1 W hT).mono fun e W' ⟨he, hg⟩ => ?_
  subst he
  exact ⟨_, rfl, _, _, _, [], _, [], hW', (trodAll_cons_mk (shut_bool Tryd.underlying4 _) trodAll_mk0), (trodAll_cons_mk (Below.trod laidO (by kernel_rfl) (of_decide_eq_true (by kernel_rfl)) h0 hg (fun x hx => hlt x (by simp [hx]))) (trodAll_cons_mk (shut_string Tryd.underlying9 ws1) trodAll_mk0)), rfl, hg.frame _, fun h => by cases h⟩

theorem laid_met (os : Os) : laidMet Tryd.prog Rows.insBackUptoRow.laid ((laidWorld os).forCall (fun _ _ => 0) ⟨#[], #[.agg #[.int .i64 0, .int .i64 0, .int .i64 0, .int .i64 0], .string ByteArray.empty], []⟩).memory :=
  laidMet_of_run' 8 (by kernel_rfl) (by kernel_rfl)
theorem reads (os : Os) {H : Type} (enc : TypeId × Value → H) : ∃ places, DataW.whole enc Tryd.prog ((laidWorld os).forCall (fun _ _ => 0) ⟨#[], #[.agg #[.int .i64 0, .int .i64 0, .int .i64 0, .int .i64 0], .string ByteArray.empty], []⟩).memory Tryd.f5.params.toList Rows.insBackSpec.vars false (#[.agg #[.int .i64 0, .int .i64 0, .int .i64 0, .int .i64 0], .string ByteArray.empty] : Array Value).toList 8 = some ([.agg [.lit (.int .i64 0), .lit (.int .i64 0), .lit (.int .i64 0), .lit (.int .i64 0)], .lit (.string [])], [], places) :=
  ⟨[], by kernel_rfl⟩

set_option maxRecDepth 100000 in
theorem lifted (os : Os) (started : os.Started) (H : Type) (enc : TypeId × Value → H) (F : Stop.Interp) :
    ReturnsInHanded {} Tryd.checked os 5 .any ((Rows.OpenSpec.upto Rows.insBackSpec).preRow enc Tryd.prog Tryd.f5 Rows.insBackUptoRow.domain false Rows.insBackUptoRow.laid) (((Rows.OpenSpec.upto Rows.insBackSpec).at F).post enc Tryd.prog Tryd.f5 false true false false) := by
  obtain ⟨places, hx⟩ := reads os enc
  refine returnsInHanded_of_row (C := Tryd.checked) (s := Rows.OpenSpec.upto Rows.insBackSpec) own started (by kernel_rfl) Tryd.func5
    (witness_row_at (enc := enc) (C := Tryd.checked) false (laidWorld os) #[.agg #[.int .i64 0, .int .i64 0, .int .i64 0, .int .i64 0], .string ByteArray.empty] rfl (by kernel_rfl) (by kernel_rfl) (by kernel_rfl)
      (OpenSpec.preRow_of_cond 8 hx (by kernel_rfl) (fun k hk => by cases hk; kernel_rfl) (by kernel_rfl) (laid_met os))) ?_
  intro W base args ds gs before hval hW _ hcond _ hL _ _
  exact contract H enc W base args ds gs before hval hW (hcond _ rfl) (tab_of_laid hL)

theorem said : Rows.InsBackUptoSaid :=
  OpenClaim.holds_of_cond 5 Tryd.f5 rfl rfl rfl rfl rfl rfl rfl ⟨rfl, rfl, rfl, rfl, rfl⟩ rfl rfl rfl rfl rfl (by kernel_rfl) Tryd.func5 (by kernel_rfl)
    (of_decide_eq_true (by kernel_rfl)) (by unfold Func.isWrapper; first | (rw [if_pos (by decide +kernel)]; kernel_rfl) | (rw [if_neg (by decide +kernel)]; exact ⟨rfl, rfl⟩))
    (fun os started H enc _ F => by rw [OpenClaim.pre_eq_preRow]; exact lifted os started H enc F)

/-- No parameter wants a stand-in; the program's own looks are off: what the card asks. -/
theorem plain (f : FuncId) (fn : Func) (hf : Tryd.pinned.checked.prog.funcNamed "cotter/cotterlaw03.InsBack" = some f) (hfn : Tryd.pinned.checked.prog.funcs[f]? = some fn) :
    false = Tryd.pinned.checked.prog.looks [] ∧ ∀ (j : Nat) t, fn.params[j]? = some t → Tryd.pinned.checked.prog.wantsStandIn t = false := by
  obtain rfl : f = 5 := Option.some.inj ((show Tryd.prog.funcNamed "cotter/cotterlaw03.InsBack" = some 5 by kernel_rfl).symm.trans hf) |>.symm
  obtain rfl : fn = Tryd.f5 := (Option.some.inj (Tryd.func5.symm.trans hfn)).symm
  refine ⟨by kernel_rfl, fun j t ht => ?_⟩
  rw [Tryd.params5] at ht
  have hm : t ∈ [23, 9] := by simpa using Array.mem_of_getElem? ht
  have hall : ([23, 9].all fun u => !Tryd.prog.wantsStandIn u) = true := by kernel_rfl
  exact (show Tryd.prog.wantsStandIn t = false by simpa using List.all_eq_true.1 hall t hm)

theorem card : Rows.InsBackUptoCardSaid :=
  Claim7.holds_tied_plain_at .later [] _ _ _ _ said (fun _ h => by cases h) (by kernel_rfl) (fun _ h => by cases h) insBackUpto_row_tie rfl ⟨rfl, rfl⟩ (by kernel_rfl) rfl plain (by kernel_rfl)
end Go.Proofs.YtcllbbdkihmpgaaDoor.insBack
namespace Go.Proofs.YtcllbbdkihmpgaaDoor
/-- The statement. -/
theorem insBackUpto_holds : Rows.InsBackUptoCardSaid := insBack.card
#print axioms insBackUpto_holds
end Go.Proofs.YtcllbbdkihmpgaaDoor
