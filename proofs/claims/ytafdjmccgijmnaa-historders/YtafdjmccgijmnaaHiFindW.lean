/- find: an order of acts that are all of one object, or that there is none. -/
import Derived.Test.YtafdjmccgijmnaaHiSearch
import Derived.Deep.CutRange
namespace Go.Proofs.Ytafdjmccgijmnaa
open Go.RowKit A Go.Maps
set_option linter.unusedVariables false
set_option linter.unusedSimpArgs false
/-- What find has made, while it begins. -/
structure FB (w W : World) (ts : List H.Ac) (l : Nat) (g be bm : Option Nat) : Prop where
  low : Below w.heap.size w W
  gi : ∀ ge, g = some ge → W.ownsRow w.heap.size 77 1 (.slice (some ⟨ge, 0, none⟩) l l) l ((H.erls ts l 0).map uV) ∧ be ≠ some ge ∧ bm ≠ some ge
  bi : ∀ b, be = some b → W.cell? ⟨b, 0, none⟩ = some (.slice none 0 0) ∧ W.frozen? ⟨b, 0, none⟩ = false ∧ w.heap.size ≤ b ∧ b < W.heap.size
  mi : ∀ b, bm = some b → W.cell? ⟨b, 0, none⟩ = some (.int .u64 0) ∧ W.frozen? ⟨b, 0, none⟩ = false ∧ w.heap.size ≤ b ∧ b < W.heap.size
  ne : ∀ b, be = some b → bm ≠ some b
section
variable {w W : World} {ts : List H.Ac} {l : Nat} {g be bm : Option Nat}
theorem FB.acts {a : Option Addr} {c : Nat} (h : FB w W ts l g be bm) (ha : ActsV w a l c ts) : ActsV W a l c ts := ha.below h.low
theorem FB.box {p : Addr} {u : Value} (h : FB w W ts l g be bm) (hc : w.cell? p = some u) : W.cell? p = some u := hcell_thru h.low hc
theorem FB.below {y : World} (h : FB w W ts l g be bm) (hb : Below W.heap.size W y) : FB w y ts l g be bm := by
  refine ⟨h.low.trans (hb.mono h.low.size), fun ge e => ?_, fun b e => ?_, fun b e => ?_, h.ne⟩
  · obtain ⟨h1, h2, h3⟩ := h.gi ge e
    exact ⟨hown_thru h1 hb, h2, h3⟩
  · obtain ⟨h1, h2, h3, h4⟩ := h.bi b e
    exact ⟨hcell_thru hb h1, (hb.frozen (p := ⟨b, 0, none⟩) h4).trans h2, h3, Nat.lt_of_lt_of_le h4 hb.size⟩
  · obtain ⟨h1, h2, h3, h4⟩ := h.mi b e
    exact ⟨hcell_thru hb h1, (hb.frozen (p := ⟨b, 0, none⟩) h4).trans h2, h3, Nat.lt_of_lt_of_le h4 hb.size⟩
theorem FB.early {y : World} {ge : Nat} (h : FB w W ts l g be bm) (hE : ER W y ge l (H.erls ts l 0)) : FB w y ts l (some ge) be bm := by
  have hb := h.below hE.low
  have hlt := (hE.row.lt ge rfl).1
  refine ⟨hb.low, fun q e => ?_, hb.bi, hb.mi, h.ne⟩
  cases e
  refine ⟨A.own_base hE.row h.low.size, fun e => ?_, fun e => ?_⟩
  · have := (h.bi _ e).2.2.2; omega
  · have := (h.mi _ e).2.2.2; omega
theorem FB.allocE (h : FB w W ts l g none bm) : FB w (W.alloc (.cells #[.slice none 0 0] 85)) ts l g (some W.heap.size) bm := by
  have hb := h.below (hbl1 W (.cells #[.slice none 0 0] 85))
  refine ⟨hb.low, fun ge e => ⟨(hb.gi ge e).1, fun e2 => ?_, (hb.gi ge e).2.2⟩, fun b e => ?_, hb.mi, fun b e e2 => ?_⟩
  · have := ((h.gi ge e).1.lt ge rfl).2
    simp at e2
    omega
  · cases e
    exact ⟨A.cell_last rfl rfl, World.frozen?_alloc_at _ _ _ _ rfl, h.low.size, by simp⟩
  · cases e
    have := (h.mi _ e2).2.2.2
    omega
theorem FB.allocM (h : FB w W ts l g be none) : FB w (W.alloc (.cells #[.int .u64 0] 77)) ts l g be (some W.heap.size) := by
  have hb := h.below (hbl1 W (.cells #[.int .u64 0] 77))
  refine ⟨hb.low, fun ge e => ⟨(hb.gi ge e).1, (hb.gi ge e).2.1, fun e2 => ?_⟩, hb.bi, fun b e => ?_, fun b e e2 => ?_⟩
  · have := ((h.gi ge e).1.lt ge rfl).2
    simp at e2
    omega
  · cases e
    exact ⟨A.cell_last rfl rfl, World.frozen?_alloc_at _ _ _ _ rfl, h.low.size, by simp⟩
  · cases e2
    have := (h.bi _ e).2.2.2
    omega
/-- The boxes filled. -/
structure FE (w W : World) (ts : List H.Ac) (l be bm ge : Nat) (u : Value) : Prop where
  low : Below w.heap.size w W
  row : W.ownsRow w.heap.size 77 1 (.slice (some ⟨ge, 0, none⟩) l l) l ((H.erls ts l 0).map uV)
  bi : W.cell? ⟨be, 0, none⟩ = some (.slice (some ⟨ge, 0, none⟩) l l)
  mi : W.cell? ⟨bm, 0, none⟩ = some u
  fi : W.frozen? ⟨bm, 0, none⟩ = false
  ne : be ≠ bm ∧ ge ≠ bm ∧ w.heap.size ≤ bm
theorem FE.box {be bm ge : Nat} {u : Value} {p : Addr} {x : Value} (h : FE w W ts l be bm ge u) (hc : w.cell? p = some x) : W.cell? p = some x := hcell_thru h.low hc
theorem FB.end1 {be bm ge : Nat} (h : FB w W ts l (some ge) (some be) (some bm)) : FE w (W.setCell ⟨be, 0, none⟩ (.slice (some ⟨ge, 0, none⟩) l l)) ts l be bm ge (.int .u64 0) := by
  obtain ⟨h1, h2, h3⟩ := h.gi ge rfl
  obtain ⟨b1, b2, b3, b4⟩ := h.bi be rfl
  obtain ⟨m1, m2, m3, m4⟩ := h.mi bm rfl
  have hne : be ≠ bm := fun e => h.ne be rfl (by rw [e])
  refine ⟨h.low.setCell b3 _, h1.kept (gb_setO W ⟨be, 0, none⟩ _) (.inr fun e => ?_), World.cell?_setCell_same' _ _ _ (by rw [b1]; rfl), ?_, by rw [World.frozen?_setCell]; exact m2, hne, fun e => h3 (by rw [e]), m3⟩
  · exact h2 e.symm
  · rw [World.cell?_setCell_far _ ⟨be, 0, none⟩ ⟨bm, 0, none⟩ _ hne]; exact m1
theorem FE.end2 {be bm ge : Nat} {u : Value} (h : FE w W ts l be bm ge u) (n : Nat) : FE w (W.setCell ⟨bm, 0, none⟩ (.int .u64 n)) ts l be bm ge (.int .u64 n) := by
  obtain ⟨n1, n2, n3⟩ := h.ne
  refine ⟨h.low.setCell n3 _, h.row.kept (gb_setO W ⟨bm, 0, none⟩ _) (.inr fun e => n2 (by simpa [Value.ownBlock] using e)), ?_, World.cell?_setCell_same' _ _ _ (by rw [h.mi]; rfl), by rw [World.frozen?_setCell]; exact h.fi, h.ne⟩
  rw [World.cell?_setCell_far _ ⟨bm, 0, none⟩ ⟨be, 0, none⟩ _ (fun e => n1 e.symm)]; exact h.bi
end
theorem ActsV.agr {w y : World} {a : Option Addr} {l c : Nat} {ts : List H.Ac} (h : ActsV w a l c ts) (hk : ∀ b o u, w.cell? ⟨b, o, none⟩ = some u → y.cell? ⟨b, o, none⟩ = some u) : ActsV y a l c ts :=
  ⟨h.count, h.room, h.cells.imp id fun ⟨b, off, e, hc⟩ => ⟨b, off, e, fun i hi j u hu => hk _ _ _ (hc i hi j u hu)⟩⟩
theorem A.AtsV.agr {w y : World} {a : Option Addr} {l c : Nat} {os : List At} (h : AtsV w a l c os) (hk : ∀ b o u, w.cell? ⟨b, o, none⟩ = some u → y.cell? ⟨b, o, none⟩ = some u) : AtsV y a l c os := by
  refine ⟨h.count, h.fits, h.nilOf, h.room, ?_⟩
  rcases h.cells with h0 | ⟨b, off, ha, hc⟩
  · exact .inl h0
  · refine .inr ⟨b, off, ha, fun i hi => ?_⟩
    obtain ⟨k0, k1, k2, a1, l1, c1, k3, V⟩ := hc i hi
    refine ⟨hk _ _ _ k0, hk _ _ _ k1, hk _ _ _ k2, a1, l1, c1, hk _ _ _ k3, V.count, V.fits, V.nilOf, V.room, ?_⟩
    rcases V.cells with h0 | ⟨b', off', ha', hc'⟩
    · exact .inl h0
    · exact .inr ⟨b', off', ha', fun j hj => hk _ _ _ (hc' j hj)⟩
def FOut (w : World) (ts : List H.Ac) (s : List At) (e : Ending) (W : World) : Prop :=
  ∃ r v o, e = .returned (.tuple #[v, .bool r]) ∧ W.ownsRow w.heap.size 3 1 v o.length (o.map nV) ∧ Below w.heap.size w W ∧ (r = true → (H.Pf ts).Ok 0 s o) ∧ (r = false → o = [] ∧ (H.Pf ts).Bad 0 s)
set_option maxRecDepth 100000 in
set_option maxHeartbeats 16000000 in
theorem find_any {w : World} {a ao : Option Addr} {l c lo co : Nat} {ts : List H.Ac} {s : List At} (hA : ActsV w a l c ts) (hl12 : l ≤ 12) (hO : AtsV w ao lo co s) (hlo : lo ≤ 1) (hmay : mayAll s = true) (hargs : ∀ x ∈ ts, (Lit.int .i64 x.arg).wf = true) :
    Calls Try.prog 44 #[.slice ao lo co, .slice a l c] w (FOut w ts s) := by
  have hmf : ∀ (fn : Fn) (first cap : Array Value) (w : World), (Instr.makeFunc fn first cap).run Try.prog w = .ok (.func fn first cap) w := fun _ _ _ _ => rfl
  have hmm := @run_makeMap Try.prog
  obtain ⟨Y0, hY0⟩ : ∃ Y, w.alloc (.cells #[.slice a l c] 23) = Y := ⟨_, rfl⟩
  have hb0 : Below w.heap.size w Y0 := by rw [← hY0]; exact hbl1 _ _
  have HB0 : Hid (Below w.heap.size w Y0) := hb0
  have HBX : Hid (Y0.cell? ⟨w.heap.size, 0, none⟩ = some (.slice a l c)) := by show _ = _; rw [← hY0]; simp
  have HWS : Hid (w.heap.size < Y0.heap.size) := by show _ < _; rw [← hY0]; simp
  have HAV : Hid (ActsV Y0 a l c ts) := hA.below hb0
  have HOV : Hid (AtsV Y0 ao lo co s) := hO.below hb0
  have HOC : Hid (s.length = lo) := hO.count
  have HTC : Hid (ts.length = l) := hA.count
  have HMY : Hid (mayAll s = true) := hmay
  have HARG : Hid (∀ x ∈ ts, (Lit.int .i64 x.arg).wf = true) := hargs
  have HSX : Hid (Y0.drew.cell? ⟨w.heap.size, 0, none⟩ = some (.slice a l c)) := by show _ = _; rw [World.cell?_drew]; exact HBX.out
  have hFB : FB Y0 Y0.drew ts l none none none := ⟨(Below.refl _ _).drew, fun _ e => (by cases e), fun _ e => (by cases e), fun _ e => (by cases e), fun _ e => (by cases e)⟩
  have HFB : Hid (FB Y0 Y0.drew ts l none none none) := hFB
  clear hA hO hmay hargs hb0 hFB
  go_enter Try.func44, Try.ntmps44
  go_upto_region 1 with fail
  go_cut [6, 7] from 12 to 22 (fun s6 s7 wx => ∃ be bm ge, s6 = .pointer (some ⟨be, 0, none⟩) ∧ s7 = .pointer (some ⟨bm, 0, none⟩) ∧ Hid (FE Y0 wx ts l be bm ge (.int .u64 (H.backs ts l))))
  case first =>
    have hFB := HFB.out
    refine wp_region_held_drew (S := (fun w' : World => w'.cell? ⟨w.heap.size, 0, none⟩ = some (.slice a l c))) (by kernel_rfl) HSX.out (fun hHeld => ?_)
    refine tk (i := 0) (v := ?_) (tA rfl) (by kernel_rfl) (fun _ _ _ h => h) (Or.inl ⟨by rfl, ?_⟩) (by assumption) ?_
    rotate_left
    · (intro w hSw; (try dsimp only at hSw); go_simp <;> with_reducible rfl)
    simp only [Act.put, List.setIfInBounds_toArray, List.set_cons_zero, List.set_cons_succ]
    refine tk (i := 2) (v := ?_) (tA rfl) (by kernel_rfl) (fun _ _ _ h => h) (Or.inl ⟨by rfl, ?_⟩) (by assumption) ?_
    rotate_left
    · (intro w hSw; (try dsimp only at hSw); go_simp <;> with_reducible rfl)
    simp only [Act.put, List.setIfInBounds_toArray, List.set_cons_zero, List.set_cons_succ]
    generalize Y0.drew = D0 at hFB hHeld ⊢
    refine wpAnyH_ready (rs := [1, 4, 5]) (by kernel_rfl) (by simp) ?_
    refine AllReadyH.cons (tA rfl) (fun K hK => ?_) (AllReadyH.cons (tA rfl) (fun K hK => ?_) (AllReadyH.cons (tA rfl) (fun K hK => ?_) AllReadyH.nil))
    · have hcall := earlyOf_any (hFB.acts HAV.out) (by omega)
      go_simp
      refine hcall.mono ?_
      rintro e W1 ⟨ge, rfl, hER⟩
      clear hcall
      replace hFB := hFB.early hER
      try go_wp2_with fail
      refine hK.out _ _ (hFB.box HBX.out) (fun hHeld => ?_)
      clear hK K hER
      try simp only [Act.put, List.setIfInBounds_toArray, List.set_cons_zero, List.set_cons_succ]
      refine wpAnyH_ready (rs := [3, 4, 5]) (by kernel_rfl) (by simp) ?_
      refine AllReadyH.cons (tA rfl) (fun K hK => ?_) (AllReadyH.cons (tA rfl) (fun K hK => ?_) (AllReadyH.cons (tA rfl) (fun K hK => ?_) AllReadyH.nil))
      · have hcall := backOf_any (hFB.acts HAV.out) (by omega)
        go_simp
        refine hcall.mono ?_
        rintro e W2 ⟨rfl, hbl⟩
        clear hcall
        replace hFB := hFB.below hbl
        try go_wp2_with fail
        refine hK.out _ _ (hFB.box HBX.out) (fun hHeld => ?_)
        clear hK K hbl
        try simp only [Act.put, List.setIfInBounds_toArray, List.set_cons_zero, List.set_cons_succ]
        refine wpAnyH_ready (rs := [4, 5]) (by kernel_rfl) (by simp) ?_
        refine AllReadyH.cons (tA rfl) (fun K hK => ?_) (AllReadyH.cons (tA rfl) (fun K hK => ?_) AllReadyH.nil)
        · replace hFB := hFB.allocE
          go_simp
          refine hK.out _ _ (hFB.box HBX.out) (fun hHeld => ?_)
          clear hK K
          try simp only [Act.put, List.setIfInBounds_toArray, List.set_cons_zero, List.set_cons_succ]
          generalize W2.alloc (.cells #[.slice none 0 0] 85) = W3 at hFB hHeld ⊢
          refine wpAnyH_ready (rs := [5]) (by kernel_rfl) (by simp) ?_
          refine AllReadyH.cons (tA rfl) (fun K hK => ?_) AllReadyH.nil
          · replace hFB := hFB.allocM
            go_simp
            refine hK.out _ _ (hFB.box HBX.out) (fun hHeld => ?_)
            clear hK K
            try simp only [Act.put, List.setIfInBounds_toArray, List.set_cons_zero, List.set_cons_succ]
            generalize W3.alloc (.cells #[.int .u64 0] 77) = W4 at hFB hHeld ⊢
            refine wpAnyH_ready (rs := [6]) (by kernel_rfl) (by simp) ?_
            refine AllReadyH.cons (tA rfl) (fun K hK => ?_) AllReadyH.nil
            have q1 := (hFB.bi _ rfl).1
            have q2 := (hFB.bi _ rfl).2.1
            have hE1 := hFB.end1
            clear hFB
            go_simp
            refine hK.out _ _ (hE1.box HBX.out) (fun hHeld => ?_)
            clear hK K q1 q2
            try simp only [Act.put, List.setIfInBounds_toArray, List.set_cons_zero, List.set_cons_succ]
            generalize World.setCell _ _ _ = W5 at hE1 hHeld ⊢
            refine wpAnyH_ready (rs := [7]) (by kernel_rfl) (by simp) ?_
            refine AllReadyH.cons (tA rfl) (fun K hK => ?_) AllReadyH.nil
            have q5 := hE1.mi
            have q6 := hE1.fi
            have hE2 := hE1.end2 (H.backs ts l)
            clear hE1
            go_simp
            refine hK.out _ _ (hE2.box HBX.out) (fun hHeld => ?_)
            clear hK K q5 q6
            try simp only [Act.put, List.setIfInBounds_toArray, List.set_cons_zero, List.set_cons_succ]
            refine wpAnyH_done (by kernel_rfl) ?_ _
            clear hHeld
            try go_wp2_with fail
            go_meet
            case rel => exact ⟨_, _, _, rfl, rfl, hE2⟩
        · replace hFB := hFB.allocM
          go_simp
          refine hK.out _ _ (hFB.box HBX.out) (fun hHeld => ?_)
          clear hK K
          try simp only [Act.put, List.setIfInBounds_toArray, List.set_cons_zero, List.set_cons_succ]
          generalize W2.alloc (.cells #[.int .u64 0] 77) = W3 at hFB hHeld ⊢
          refine wpAnyH_ready (rs := [4]) (by kernel_rfl) (by simp) ?_
          refine AllReadyH.cons (tA rfl) (fun K hK => ?_) AllReadyH.nil
          · replace hFB := hFB.allocE
            go_simp
            refine hK.out _ _ (hFB.box HBX.out) (fun hHeld => ?_)
            clear hK K
            try simp only [Act.put, List.setIfInBounds_toArray, List.set_cons_zero, List.set_cons_succ]
            generalize W3.alloc (.cells #[.slice none 0 0] 85) = W4 at hFB hHeld ⊢
            refine wpAnyH_ready (rs := [6]) (by kernel_rfl) (by simp) ?_
            refine AllReadyH.cons (tA rfl) (fun K hK => ?_) AllReadyH.nil
            have q1 := (hFB.bi _ rfl).1
            have q2 := (hFB.bi _ rfl).2.1
            have hE1 := hFB.end1
            clear hFB
            go_simp
            refine hK.out _ _ (hE1.box HBX.out) (fun hHeld => ?_)
            clear hK K q1 q2
            try simp only [Act.put, List.setIfInBounds_toArray, List.set_cons_zero, List.set_cons_succ]
            generalize World.setCell _ _ _ = W5 at hE1 hHeld ⊢
            refine wpAnyH_ready (rs := [7]) (by kernel_rfl) (by simp) ?_
            refine AllReadyH.cons (tA rfl) (fun K hK => ?_) AllReadyH.nil
            have q5 := hE1.mi
            have q6 := hE1.fi
            have hE2 := hE1.end2 (H.backs ts l)
            clear hE1
            go_simp
            refine hK.out _ _ (hE2.box HBX.out) (fun hHeld => ?_)
            clear hK K q5 q6
            try simp only [Act.put, List.setIfInBounds_toArray, List.set_cons_zero, List.set_cons_succ]
            refine wpAnyH_done (by kernel_rfl) ?_ _
            clear hHeld
            try go_wp2_with fail
            go_meet
            case rel => exact ⟨_, _, _, rfl, rfl, hE2⟩
      · replace hFB := hFB.allocE
        go_simp
        refine hK.out _ _ (hFB.box HBX.out) (fun hHeld => ?_)
        clear hK K
        try simp only [Act.put, List.setIfInBounds_toArray, List.set_cons_zero, List.set_cons_succ]
        generalize W1.alloc (.cells #[.slice none 0 0] 85) = W2 at hFB hHeld ⊢
        refine wpAnyH_ready (rs := [3, 5]) (by kernel_rfl) (by simp) ?_
        refine AllReadyH.cons (tA rfl) (fun K hK => ?_) (AllReadyH.cons (tA rfl) (fun K hK => ?_) AllReadyH.nil)
        · have hcall := backOf_any (hFB.acts HAV.out) (by omega)
          go_simp
          refine hcall.mono ?_
          rintro e W3 ⟨rfl, hbl⟩
          clear hcall
          replace hFB := hFB.below hbl
          try go_wp2_with fail
          refine hK.out _ _ (hFB.box HBX.out) (fun hHeld => ?_)
          clear hK K hbl
          try simp only [Act.put, List.setIfInBounds_toArray, List.set_cons_zero, List.set_cons_succ]
          refine wpAnyH_ready (rs := [5]) (by kernel_rfl) (by simp) ?_
          refine AllReadyH.cons (tA rfl) (fun K hK => ?_) AllReadyH.nil
          · replace hFB := hFB.allocM
            go_simp
            refine hK.out _ _ (hFB.box HBX.out) (fun hHeld => ?_)
            clear hK K
            try simp only [Act.put, List.setIfInBounds_toArray, List.set_cons_zero, List.set_cons_succ]
            generalize W3.alloc (.cells #[.int .u64 0] 77) = W4 at hFB hHeld ⊢
            refine wpAnyH_ready (rs := [6]) (by kernel_rfl) (by simp) ?_
            refine AllReadyH.cons (tA rfl) (fun K hK => ?_) AllReadyH.nil
            have q1 := (hFB.bi _ rfl).1
            have q2 := (hFB.bi _ rfl).2.1
            have hE1 := hFB.end1
            clear hFB
            go_simp
            refine hK.out _ _ (hE1.box HBX.out) (fun hHeld => ?_)
            clear hK K q1 q2
            try simp only [Act.put, List.setIfInBounds_toArray, List.set_cons_zero, List.set_cons_succ]
            generalize World.setCell _ _ _ = W5 at hE1 hHeld ⊢
            refine wpAnyH_ready (rs := [7]) (by kernel_rfl) (by simp) ?_
            refine AllReadyH.cons (tA rfl) (fun K hK => ?_) AllReadyH.nil
            have q5 := hE1.mi
            have q6 := hE1.fi
            have hE2 := hE1.end2 (H.backs ts l)
            clear hE1
            go_simp
            refine hK.out _ _ (hE2.box HBX.out) (fun hHeld => ?_)
            clear hK K q5 q6
            try simp only [Act.put, List.setIfInBounds_toArray, List.set_cons_zero, List.set_cons_succ]
            refine wpAnyH_done (by kernel_rfl) ?_ _
            clear hHeld
            try go_wp2_with fail
            go_meet
            case rel => exact ⟨_, _, _, rfl, rfl, hE2⟩
        · replace hFB := hFB.allocM
          go_simp
          refine hK.out _ _ (hFB.box HBX.out) (fun hHeld => ?_)
          clear hK K
          try simp only [Act.put, List.setIfInBounds_toArray, List.set_cons_zero, List.set_cons_succ]
          generalize W2.alloc (.cells #[.int .u64 0] 77) = W3 at hFB hHeld ⊢
          refine wpAnyH_ready (rs := [3]) (by kernel_rfl) (by simp) ?_
          refine AllReadyH.cons (tA rfl) (fun K hK => ?_) AllReadyH.nil
          · have hcall := backOf_any (hFB.acts HAV.out) (by omega)
            go_simp
            refine hcall.mono ?_
            rintro e W4 ⟨rfl, hbl⟩
            clear hcall
            replace hFB := hFB.below hbl
            try go_wp2_with fail
            refine hK.out _ _ (hFB.box HBX.out) (fun hHeld => ?_)
            clear hK K hbl
            try simp only [Act.put, List.setIfInBounds_toArray, List.set_cons_zero, List.set_cons_succ]
            refine wpAnyH_ready (rs := [6]) (by kernel_rfl) (by simp) ?_
            refine AllReadyH.cons (tA rfl) (fun K hK => ?_) AllReadyH.nil
            have q1 := (hFB.bi _ rfl).1
            have q2 := (hFB.bi _ rfl).2.1
            have hE1 := hFB.end1
            clear hFB
            go_simp
            refine hK.out _ _ (hE1.box HBX.out) (fun hHeld => ?_)
            clear hK K q1 q2
            try simp only [Act.put, List.setIfInBounds_toArray, List.set_cons_zero, List.set_cons_succ]
            generalize World.setCell _ _ _ = W5 at hE1 hHeld ⊢
            refine wpAnyH_ready (rs := [7]) (by kernel_rfl) (by simp) ?_
            refine AllReadyH.cons (tA rfl) (fun K hK => ?_) AllReadyH.nil
            have q5 := hE1.mi
            have q6 := hE1.fi
            have hE2 := hE1.end2 (H.backs ts l)
            clear hE1
            go_simp
            refine hK.out _ _ (hE2.box HBX.out) (fun hHeld => ?_)
            clear hK K q5 q6
            try simp only [Act.put, List.setIfInBounds_toArray, List.set_cons_zero, List.set_cons_succ]
            refine wpAnyH_done (by kernel_rfl) ?_ _
            clear hHeld
            try go_wp2_with fail
            go_meet
            case rel => exact ⟨_, _, _, rfl, rfl, hE2⟩
      · replace hFB := hFB.allocM
        go_simp
        refine hK.out _ _ (hFB.box HBX.out) (fun hHeld => ?_)
        clear hK K
        try simp only [Act.put, List.setIfInBounds_toArray, List.set_cons_zero, List.set_cons_succ]
        generalize W1.alloc (.cells #[.int .u64 0] 77) = W2 at hFB hHeld ⊢
        refine wpAnyH_ready (rs := [3, 4]) (by kernel_rfl) (by simp) ?_
        refine AllReadyH.cons (tA rfl) (fun K hK => ?_) (AllReadyH.cons (tA rfl) (fun K hK => ?_) AllReadyH.nil)
        · have hcall := backOf_any (hFB.acts HAV.out) (by omega)
          go_simp
          refine hcall.mono ?_
          rintro e W3 ⟨rfl, hbl⟩
          clear hcall
          replace hFB := hFB.below hbl
          try go_wp2_with fail
          refine hK.out _ _ (hFB.box HBX.out) (fun hHeld => ?_)
          clear hK K hbl
          try simp only [Act.put, List.setIfInBounds_toArray, List.set_cons_zero, List.set_cons_succ]
          refine wpAnyH_ready (rs := [4]) (by kernel_rfl) (by simp) ?_
          refine AllReadyH.cons (tA rfl) (fun K hK => ?_) AllReadyH.nil
          · replace hFB := hFB.allocE
            go_simp
            refine hK.out _ _ (hFB.box HBX.out) (fun hHeld => ?_)
            clear hK K
            try simp only [Act.put, List.setIfInBounds_toArray, List.set_cons_zero, List.set_cons_succ]
            generalize W3.alloc (.cells #[.slice none 0 0] 85) = W4 at hFB hHeld ⊢
            refine wpAnyH_ready (rs := [6]) (by kernel_rfl) (by simp) ?_
            refine AllReadyH.cons (tA rfl) (fun K hK => ?_) AllReadyH.nil
            have q1 := (hFB.bi _ rfl).1
            have q2 := (hFB.bi _ rfl).2.1
            have hE1 := hFB.end1
            clear hFB
            go_simp
            refine hK.out _ _ (hE1.box HBX.out) (fun hHeld => ?_)
            clear hK K q1 q2
            try simp only [Act.put, List.setIfInBounds_toArray, List.set_cons_zero, List.set_cons_succ]
            generalize World.setCell _ _ _ = W5 at hE1 hHeld ⊢
            refine wpAnyH_ready (rs := [7]) (by kernel_rfl) (by simp) ?_
            refine AllReadyH.cons (tA rfl) (fun K hK => ?_) AllReadyH.nil
            have q5 := hE1.mi
            have q6 := hE1.fi
            have hE2 := hE1.end2 (H.backs ts l)
            clear hE1
            go_simp
            refine hK.out _ _ (hE2.box HBX.out) (fun hHeld => ?_)
            clear hK K q5 q6
            try simp only [Act.put, List.setIfInBounds_toArray, List.set_cons_zero, List.set_cons_succ]
            refine wpAnyH_done (by kernel_rfl) ?_ _
            clear hHeld
            try go_wp2_with fail
            go_meet
            case rel => exact ⟨_, _, _, rfl, rfl, hE2⟩
        · replace hFB := hFB.allocE
          go_simp
          refine hK.out _ _ (hFB.box HBX.out) (fun hHeld => ?_)
          clear hK K
          try simp only [Act.put, List.setIfInBounds_toArray, List.set_cons_zero, List.set_cons_succ]
          generalize W2.alloc (.cells #[.slice none 0 0] 85) = W3 at hFB hHeld ⊢
          refine wpAnyH_ready (rs := [3]) (by kernel_rfl) (by simp) ?_
          refine AllReadyH.cons (tA rfl) (fun K hK => ?_) AllReadyH.nil
          · have hcall := backOf_any (hFB.acts HAV.out) (by omega)
            go_simp
            refine hcall.mono ?_
            rintro e W4 ⟨rfl, hbl⟩
            clear hcall
            replace hFB := hFB.below hbl
            try go_wp2_with fail
            refine hK.out _ _ (hFB.box HBX.out) (fun hHeld => ?_)
            clear hK K hbl
            try simp only [Act.put, List.setIfInBounds_toArray, List.set_cons_zero, List.set_cons_succ]
            refine wpAnyH_ready (rs := [6]) (by kernel_rfl) (by simp) ?_
            refine AllReadyH.cons (tA rfl) (fun K hK => ?_) AllReadyH.nil
            have q1 := (hFB.bi _ rfl).1
            have q2 := (hFB.bi _ rfl).2.1
            have hE1 := hFB.end1
            clear hFB
            go_simp
            refine hK.out _ _ (hE1.box HBX.out) (fun hHeld => ?_)
            clear hK K q1 q2
            try simp only [Act.put, List.setIfInBounds_toArray, List.set_cons_zero, List.set_cons_succ]
            generalize World.setCell _ _ _ = W5 at hE1 hHeld ⊢
            refine wpAnyH_ready (rs := [7]) (by kernel_rfl) (by simp) ?_
            refine AllReadyH.cons (tA rfl) (fun K hK => ?_) AllReadyH.nil
            have q5 := hE1.mi
            have q6 := hE1.fi
            have hE2 := hE1.end2 (H.backs ts l)
            clear hE1
            go_simp
            refine hK.out _ _ (hE2.box HBX.out) (fun hHeld => ?_)
            clear hK K q5 q6
            try simp only [Act.put, List.setIfInBounds_toArray, List.set_cons_zero, List.set_cons_succ]
            refine wpAnyH_done (by kernel_rfl) ?_ _
            clear hHeld
            try go_wp2_with fail
            go_meet
            case rel => exact ⟨_, _, _, rfl, rfl, hE2⟩
    · replace hFB := hFB.allocE
      go_simp
      refine hK.out _ _ (hFB.box HBX.out) (fun hHeld => ?_)
      clear hK K
      try simp only [Act.put, List.setIfInBounds_toArray, List.set_cons_zero, List.set_cons_succ]
      generalize D0.alloc (.cells #[.slice none 0 0] 85) = W1 at hFB hHeld ⊢
      refine wpAnyH_ready (rs := [1, 5]) (by kernel_rfl) (by simp) ?_
      refine AllReadyH.cons (tA rfl) (fun K hK => ?_) (AllReadyH.cons (tA rfl) (fun K hK => ?_) AllReadyH.nil)
      · have hcall := earlyOf_any (hFB.acts HAV.out) (by omega)
        go_simp
        refine hcall.mono ?_
        rintro e W2 ⟨ge, rfl, hER⟩
        clear hcall
        replace hFB := hFB.early hER
        try go_wp2_with fail
        refine hK.out _ _ (hFB.box HBX.out) (fun hHeld => ?_)
        clear hK K hER
        try simp only [Act.put, List.setIfInBounds_toArray, List.set_cons_zero, List.set_cons_succ]
        refine wpAnyH_ready (rs := [3, 5]) (by kernel_rfl) (by simp) ?_
        refine AllReadyH.cons (tA rfl) (fun K hK => ?_) (AllReadyH.cons (tA rfl) (fun K hK => ?_) AllReadyH.nil)
        · have hcall := backOf_any (hFB.acts HAV.out) (by omega)
          go_simp
          refine hcall.mono ?_
          rintro e W3 ⟨rfl, hbl⟩
          clear hcall
          replace hFB := hFB.below hbl
          try go_wp2_with fail
          refine hK.out _ _ (hFB.box HBX.out) (fun hHeld => ?_)
          clear hK K hbl
          try simp only [Act.put, List.setIfInBounds_toArray, List.set_cons_zero, List.set_cons_succ]
          refine wpAnyH_ready (rs := [5]) (by kernel_rfl) (by simp) ?_
          refine AllReadyH.cons (tA rfl) (fun K hK => ?_) AllReadyH.nil
          · replace hFB := hFB.allocM
            go_simp
            refine hK.out _ _ (hFB.box HBX.out) (fun hHeld => ?_)
            clear hK K
            try simp only [Act.put, List.setIfInBounds_toArray, List.set_cons_zero, List.set_cons_succ]
            generalize W3.alloc (.cells #[.int .u64 0] 77) = W4 at hFB hHeld ⊢
            refine wpAnyH_ready (rs := [6]) (by kernel_rfl) (by simp) ?_
            refine AllReadyH.cons (tA rfl) (fun K hK => ?_) AllReadyH.nil
            have q1 := (hFB.bi _ rfl).1
            have q2 := (hFB.bi _ rfl).2.1
            have hE1 := hFB.end1
            clear hFB
            go_simp
            refine hK.out _ _ (hE1.box HBX.out) (fun hHeld => ?_)
            clear hK K q1 q2
            try simp only [Act.put, List.setIfInBounds_toArray, List.set_cons_zero, List.set_cons_succ]
            generalize World.setCell _ _ _ = W5 at hE1 hHeld ⊢
            refine wpAnyH_ready (rs := [7]) (by kernel_rfl) (by simp) ?_
            refine AllReadyH.cons (tA rfl) (fun K hK => ?_) AllReadyH.nil
            have q5 := hE1.mi
            have q6 := hE1.fi
            have hE2 := hE1.end2 (H.backs ts l)
            clear hE1
            go_simp
            refine hK.out _ _ (hE2.box HBX.out) (fun hHeld => ?_)
            clear hK K q5 q6
            try simp only [Act.put, List.setIfInBounds_toArray, List.set_cons_zero, List.set_cons_succ]
            refine wpAnyH_done (by kernel_rfl) ?_ _
            clear hHeld
            try go_wp2_with fail
            go_meet
            case rel => exact ⟨_, _, _, rfl, rfl, hE2⟩
        · replace hFB := hFB.allocM
          go_simp
          refine hK.out _ _ (hFB.box HBX.out) (fun hHeld => ?_)
          clear hK K
          try simp only [Act.put, List.setIfInBounds_toArray, List.set_cons_zero, List.set_cons_succ]
          generalize W2.alloc (.cells #[.int .u64 0] 77) = W3 at hFB hHeld ⊢
          refine wpAnyH_ready (rs := [3]) (by kernel_rfl) (by simp) ?_
          refine AllReadyH.cons (tA rfl) (fun K hK => ?_) AllReadyH.nil
          · have hcall := backOf_any (hFB.acts HAV.out) (by omega)
            go_simp
            refine hcall.mono ?_
            rintro e W4 ⟨rfl, hbl⟩
            clear hcall
            replace hFB := hFB.below hbl
            try go_wp2_with fail
            refine hK.out _ _ (hFB.box HBX.out) (fun hHeld => ?_)
            clear hK K hbl
            try simp only [Act.put, List.setIfInBounds_toArray, List.set_cons_zero, List.set_cons_succ]
            refine wpAnyH_ready (rs := [6]) (by kernel_rfl) (by simp) ?_
            refine AllReadyH.cons (tA rfl) (fun K hK => ?_) AllReadyH.nil
            have q1 := (hFB.bi _ rfl).1
            have q2 := (hFB.bi _ rfl).2.1
            have hE1 := hFB.end1
            clear hFB
            go_simp
            refine hK.out _ _ (hE1.box HBX.out) (fun hHeld => ?_)
            clear hK K q1 q2
            try simp only [Act.put, List.setIfInBounds_toArray, List.set_cons_zero, List.set_cons_succ]
            generalize World.setCell _ _ _ = W5 at hE1 hHeld ⊢
            refine wpAnyH_ready (rs := [7]) (by kernel_rfl) (by simp) ?_
            refine AllReadyH.cons (tA rfl) (fun K hK => ?_) AllReadyH.nil
            have q5 := hE1.mi
            have q6 := hE1.fi
            have hE2 := hE1.end2 (H.backs ts l)
            clear hE1
            go_simp
            refine hK.out _ _ (hE2.box HBX.out) (fun hHeld => ?_)
            clear hK K q5 q6
            try simp only [Act.put, List.setIfInBounds_toArray, List.set_cons_zero, List.set_cons_succ]
            refine wpAnyH_done (by kernel_rfl) ?_ _
            clear hHeld
            try go_wp2_with fail
            go_meet
            case rel => exact ⟨_, _, _, rfl, rfl, hE2⟩
      · replace hFB := hFB.allocM
        go_simp
        refine hK.out _ _ (hFB.box HBX.out) (fun hHeld => ?_)
        clear hK K
        try simp only [Act.put, List.setIfInBounds_toArray, List.set_cons_zero, List.set_cons_succ]
        generalize W1.alloc (.cells #[.int .u64 0] 77) = W2 at hFB hHeld ⊢
        refine wpAnyH_ready (rs := [1]) (by kernel_rfl) (by simp) ?_
        refine AllReadyH.cons (tA rfl) (fun K hK => ?_) AllReadyH.nil
        · have hcall := earlyOf_any (hFB.acts HAV.out) (by omega)
          go_simp
          refine hcall.mono ?_
          rintro e W3 ⟨ge, rfl, hER⟩
          clear hcall
          replace hFB := hFB.early hER
          try go_wp2_with fail
          refine hK.out _ _ (hFB.box HBX.out) (fun hHeld => ?_)
          clear hK K hER
          try simp only [Act.put, List.setIfInBounds_toArray, List.set_cons_zero, List.set_cons_succ]
          refine wpAnyH_ready (rs := [3]) (by kernel_rfl) (by simp) ?_
          refine AllReadyH.cons (tA rfl) (fun K hK => ?_) AllReadyH.nil
          · have hcall := backOf_any (hFB.acts HAV.out) (by omega)
            go_simp
            refine hcall.mono ?_
            rintro e W4 ⟨rfl, hbl⟩
            clear hcall
            replace hFB := hFB.below hbl
            try go_wp2_with fail
            refine hK.out _ _ (hFB.box HBX.out) (fun hHeld => ?_)
            clear hK K hbl
            try simp only [Act.put, List.setIfInBounds_toArray, List.set_cons_zero, List.set_cons_succ]
            refine wpAnyH_ready (rs := [6]) (by kernel_rfl) (by simp) ?_
            refine AllReadyH.cons (tA rfl) (fun K hK => ?_) AllReadyH.nil
            have q1 := (hFB.bi _ rfl).1
            have q2 := (hFB.bi _ rfl).2.1
            have hE1 := hFB.end1
            clear hFB
            go_simp
            refine hK.out _ _ (hE1.box HBX.out) (fun hHeld => ?_)
            clear hK K q1 q2
            try simp only [Act.put, List.setIfInBounds_toArray, List.set_cons_zero, List.set_cons_succ]
            generalize World.setCell _ _ _ = W5 at hE1 hHeld ⊢
            refine wpAnyH_ready (rs := [7]) (by kernel_rfl) (by simp) ?_
            refine AllReadyH.cons (tA rfl) (fun K hK => ?_) AllReadyH.nil
            have q5 := hE1.mi
            have q6 := hE1.fi
            have hE2 := hE1.end2 (H.backs ts l)
            clear hE1
            go_simp
            refine hK.out _ _ (hE2.box HBX.out) (fun hHeld => ?_)
            clear hK K q5 q6
            try simp only [Act.put, List.setIfInBounds_toArray, List.set_cons_zero, List.set_cons_succ]
            refine wpAnyH_done (by kernel_rfl) ?_ _
            clear hHeld
            try go_wp2_with fail
            go_meet
            case rel => exact ⟨_, _, _, rfl, rfl, hE2⟩
    · replace hFB := hFB.allocM
      go_simp
      refine hK.out _ _ (hFB.box HBX.out) (fun hHeld => ?_)
      clear hK K
      try simp only [Act.put, List.setIfInBounds_toArray, List.set_cons_zero, List.set_cons_succ]
      generalize D0.alloc (.cells #[.int .u64 0] 77) = W1 at hFB hHeld ⊢
      refine wpAnyH_ready (rs := [1, 4]) (by kernel_rfl) (by simp) ?_
      refine AllReadyH.cons (tA rfl) (fun K hK => ?_) (AllReadyH.cons (tA rfl) (fun K hK => ?_) AllReadyH.nil)
      · have hcall := earlyOf_any (hFB.acts HAV.out) (by omega)
        go_simp
        refine hcall.mono ?_
        rintro e W2 ⟨ge, rfl, hER⟩
        clear hcall
        replace hFB := hFB.early hER
        try go_wp2_with fail
        refine hK.out _ _ (hFB.box HBX.out) (fun hHeld => ?_)
        clear hK K hER
        try simp only [Act.put, List.setIfInBounds_toArray, List.set_cons_zero, List.set_cons_succ]
        refine wpAnyH_ready (rs := [3, 4]) (by kernel_rfl) (by simp) ?_
        refine AllReadyH.cons (tA rfl) (fun K hK => ?_) (AllReadyH.cons (tA rfl) (fun K hK => ?_) AllReadyH.nil)
        · have hcall := backOf_any (hFB.acts HAV.out) (by omega)
          go_simp
          refine hcall.mono ?_
          rintro e W3 ⟨rfl, hbl⟩
          clear hcall
          replace hFB := hFB.below hbl
          try go_wp2_with fail
          refine hK.out _ _ (hFB.box HBX.out) (fun hHeld => ?_)
          clear hK K hbl
          try simp only [Act.put, List.setIfInBounds_toArray, List.set_cons_zero, List.set_cons_succ]
          refine wpAnyH_ready (rs := [4]) (by kernel_rfl) (by simp) ?_
          refine AllReadyH.cons (tA rfl) (fun K hK => ?_) AllReadyH.nil
          · replace hFB := hFB.allocE
            go_simp
            refine hK.out _ _ (hFB.box HBX.out) (fun hHeld => ?_)
            clear hK K
            try simp only [Act.put, List.setIfInBounds_toArray, List.set_cons_zero, List.set_cons_succ]
            generalize W3.alloc (.cells #[.slice none 0 0] 85) = W4 at hFB hHeld ⊢
            refine wpAnyH_ready (rs := [6]) (by kernel_rfl) (by simp) ?_
            refine AllReadyH.cons (tA rfl) (fun K hK => ?_) AllReadyH.nil
            have q1 := (hFB.bi _ rfl).1
            have q2 := (hFB.bi _ rfl).2.1
            have hE1 := hFB.end1
            clear hFB
            go_simp
            refine hK.out _ _ (hE1.box HBX.out) (fun hHeld => ?_)
            clear hK K q1 q2
            try simp only [Act.put, List.setIfInBounds_toArray, List.set_cons_zero, List.set_cons_succ]
            generalize World.setCell _ _ _ = W5 at hE1 hHeld ⊢
            refine wpAnyH_ready (rs := [7]) (by kernel_rfl) (by simp) ?_
            refine AllReadyH.cons (tA rfl) (fun K hK => ?_) AllReadyH.nil
            have q5 := hE1.mi
            have q6 := hE1.fi
            have hE2 := hE1.end2 (H.backs ts l)
            clear hE1
            go_simp
            refine hK.out _ _ (hE2.box HBX.out) (fun hHeld => ?_)
            clear hK K q5 q6
            try simp only [Act.put, List.setIfInBounds_toArray, List.set_cons_zero, List.set_cons_succ]
            refine wpAnyH_done (by kernel_rfl) ?_ _
            clear hHeld
            try go_wp2_with fail
            go_meet
            case rel => exact ⟨_, _, _, rfl, rfl, hE2⟩
        · replace hFB := hFB.allocE
          go_simp
          refine hK.out _ _ (hFB.box HBX.out) (fun hHeld => ?_)
          clear hK K
          try simp only [Act.put, List.setIfInBounds_toArray, List.set_cons_zero, List.set_cons_succ]
          generalize W2.alloc (.cells #[.slice none 0 0] 85) = W3 at hFB hHeld ⊢
          refine wpAnyH_ready (rs := [3]) (by kernel_rfl) (by simp) ?_
          refine AllReadyH.cons (tA rfl) (fun K hK => ?_) AllReadyH.nil
          · have hcall := backOf_any (hFB.acts HAV.out) (by omega)
            go_simp
            refine hcall.mono ?_
            rintro e W4 ⟨rfl, hbl⟩
            clear hcall
            replace hFB := hFB.below hbl
            try go_wp2_with fail
            refine hK.out _ _ (hFB.box HBX.out) (fun hHeld => ?_)
            clear hK K hbl
            try simp only [Act.put, List.setIfInBounds_toArray, List.set_cons_zero, List.set_cons_succ]
            refine wpAnyH_ready (rs := [6]) (by kernel_rfl) (by simp) ?_
            refine AllReadyH.cons (tA rfl) (fun K hK => ?_) AllReadyH.nil
            have q1 := (hFB.bi _ rfl).1
            have q2 := (hFB.bi _ rfl).2.1
            have hE1 := hFB.end1
            clear hFB
            go_simp
            refine hK.out _ _ (hE1.box HBX.out) (fun hHeld => ?_)
            clear hK K q1 q2
            try simp only [Act.put, List.setIfInBounds_toArray, List.set_cons_zero, List.set_cons_succ]
            generalize World.setCell _ _ _ = W5 at hE1 hHeld ⊢
            refine wpAnyH_ready (rs := [7]) (by kernel_rfl) (by simp) ?_
            refine AllReadyH.cons (tA rfl) (fun K hK => ?_) AllReadyH.nil
            have q5 := hE1.mi
            have q6 := hE1.fi
            have hE2 := hE1.end2 (H.backs ts l)
            clear hE1
            go_simp
            refine hK.out _ _ (hE2.box HBX.out) (fun hHeld => ?_)
            clear hK K q5 q6
            try simp only [Act.put, List.setIfInBounds_toArray, List.set_cons_zero, List.set_cons_succ]
            refine wpAnyH_done (by kernel_rfl) ?_ _
            clear hHeld
            try go_wp2_with fail
            go_meet
            case rel => exact ⟨_, _, _, rfl, rfl, hE2⟩
      · replace hFB := hFB.allocE
        go_simp
        refine hK.out _ _ (hFB.box HBX.out) (fun hHeld => ?_)
        clear hK K
        try simp only [Act.put, List.setIfInBounds_toArray, List.set_cons_zero, List.set_cons_succ]
        generalize W1.alloc (.cells #[.slice none 0 0] 85) = W2 at hFB hHeld ⊢
        refine wpAnyH_ready (rs := [1]) (by kernel_rfl) (by simp) ?_
        refine AllReadyH.cons (tA rfl) (fun K hK => ?_) AllReadyH.nil
        · have hcall := earlyOf_any (hFB.acts HAV.out) (by omega)
          go_simp
          refine hcall.mono ?_
          rintro e W3 ⟨ge, rfl, hER⟩
          clear hcall
          replace hFB := hFB.early hER
          try go_wp2_with fail
          refine hK.out _ _ (hFB.box HBX.out) (fun hHeld => ?_)
          clear hK K hER
          try simp only [Act.put, List.setIfInBounds_toArray, List.set_cons_zero, List.set_cons_succ]
          refine wpAnyH_ready (rs := [3]) (by kernel_rfl) (by simp) ?_
          refine AllReadyH.cons (tA rfl) (fun K hK => ?_) AllReadyH.nil
          · have hcall := backOf_any (hFB.acts HAV.out) (by omega)
            go_simp
            refine hcall.mono ?_
            rintro e W4 ⟨rfl, hbl⟩
            clear hcall
            replace hFB := hFB.below hbl
            try go_wp2_with fail
            refine hK.out _ _ (hFB.box HBX.out) (fun hHeld => ?_)
            clear hK K hbl
            try simp only [Act.put, List.setIfInBounds_toArray, List.set_cons_zero, List.set_cons_succ]
            refine wpAnyH_ready (rs := [6]) (by kernel_rfl) (by simp) ?_
            refine AllReadyH.cons (tA rfl) (fun K hK => ?_) AllReadyH.nil
            have q1 := (hFB.bi _ rfl).1
            have q2 := (hFB.bi _ rfl).2.1
            have hE1 := hFB.end1
            clear hFB
            go_simp
            refine hK.out _ _ (hE1.box HBX.out) (fun hHeld => ?_)
            clear hK K q1 q2
            try simp only [Act.put, List.setIfInBounds_toArray, List.set_cons_zero, List.set_cons_succ]
            generalize World.setCell _ _ _ = W5 at hE1 hHeld ⊢
            refine wpAnyH_ready (rs := [7]) (by kernel_rfl) (by simp) ?_
            refine AllReadyH.cons (tA rfl) (fun K hK => ?_) AllReadyH.nil
            have q5 := hE1.mi
            have q6 := hE1.fi
            have hE2 := hE1.end2 (H.backs ts l)
            clear hE1
            go_simp
            refine hK.out _ _ (hE2.box HBX.out) (fun hHeld => ?_)
            clear hK K q5 q6
            try simp only [Act.put, List.setIfInBounds_toArray, List.set_cons_zero, List.set_cons_succ]
            refine wpAnyH_done (by kernel_rfl) ?_ _
            clear hHeld
            try go_wp2_with fail
            go_meet
            case rel => exact ⟨_, _, _, rfl, rfl, hE2⟩
  case rest =>
    obtain ⟨be, bm, ge, rfl, rfl, HFE⟩ := hcut
    obtain ⟨Z1, hZ1⟩ : ∃ Y, wc.alloc (.map #[] 0) = Y := ⟨_, rfl⟩
    obtain ⟨Z2, hZ2⟩ : ∃ Y, Z1.alloc (.cells #[.map (some wc.heap.size)] 87) = Y := ⟨_, rfl⟩
    obtain ⟨Z3, hZ3⟩ : ∃ Y, Z2.alloc (.cells #[.slice none 0 0] 27) = Y := ⟨_, rfl⟩
    have e1 : Z1.heap.size = wc.heap.size + 1 := by rw [← hZ1]; simp
    have e2 : Z2.heap.size = wc.heap.size + 2 := by rw [← hZ2, World.size_alloc, e1]
    have e3 : Z3.heap.size = wc.heap.size + 3 := by rw [← hZ3, World.size_alloc, e2]
    obtain ⟨Z4, hZ4⟩ : ∃ Y, (Z3.alloc (.cells #[.nilFunc] 88)).setCell ⟨wc.heap.size + 3, 0, none⟩ (Value.func (.func 65) #[] #[.pointer (some ⟨bm, 0, none⟩), .pointer (some ⟨wc.heap.size + 1, 0, none⟩), .pointer (some ⟨w.heap.size, 0, none⟩), .pointer (some ⟨be, 0, none⟩), .pointer (some ⟨wc.heap.size + 2, 0, none⟩), .pointer (some ⟨wc.heap.size + 3, 0, none⟩)]) = Y := ⟨_, rfl⟩
    have hst : (store ⟨wc.heap.size + 3, 0, none⟩ (Value.func (.func 65) #[] #[.pointer (some ⟨bm, 0, none⟩), .pointer (some ⟨wc.heap.size + 1, 0, none⟩), .pointer (some ⟨w.heap.size, 0, none⟩), .pointer (some ⟨be, 0, none⟩), .pointer (some ⟨wc.heap.size + 2, 0, none⟩), .pointer (some ⟨wc.heap.size + 3, 0, none⟩)])).run Try.prog (Z3.alloc (.cells #[.nilFunc] 88)) = .ok () Z4 := by
      rw [run_store Try.prog _ _ (Value.func (.func 65) #[] #[.pointer (some ⟨bm, 0, none⟩), .pointer (some ⟨wc.heap.size + 1, 0, none⟩), .pointer (some ⟨w.heap.size, 0, none⟩), .pointer (some ⟨be, 0, none⟩), .pointer (some ⟨wc.heap.size + 2, 0, none⟩), .pointer (some ⟨wc.heap.size + 3, 0, none⟩)]) _ rfl, A.cell_last (v := .nilFunc) e3.symm rfl]
      have hfr : (Z3.alloc (.cells #[.nilFunc] 88)).frozen? ⟨wc.heap.size + 3, 0, none⟩ = false := World.frozen?_alloc_at _ _ _ _ e3.symm
      simp [hZ4, hfr]
    have e4 : Z4.heap.size = wc.heap.size + 4 := by rw [← hZ4, World.size_setCell, World.size_alloc, e3]
    have hb1 : Below wc.heap.size wc Z1 := by rw [← hZ1]; exact hbl1 _ _
    have hb2 : Below Z1.heap.size Z1 Z2 := by rw [← hZ2]; exact hbl1 _ _
    have hb3 : Below Z2.heap.size Z2 Z3 := by rw [← hZ3]; exact hbl1 _ _
    have hb4 : Below Z3.heap.size Z3 Z4 := by rw [← hZ4]; exact (hbl1 _ _).setCell (by rw [e3]; exact Nat.le_refl _) _
    have hbZ : Below wc.heap.size wc Z4 := hb1.trans ((hb2.mono (by omega)).trans ((hb3.mono (by omega)).trans (hb4.mono (by omega))))
    have hwb : w.heap.size ≤ wc.heap.size := Nat.le_trans HB0.out.size HFE.out.low.size
    have hlow : Below w.heap.size w Z4 := HB0.out.trans ((HFE.out.low.mono HB0.out.size).trans (hbZ.mono hwb))
    have m1 : Z4.cell? ⟨wc.heap.size + 1, 0, none⟩ = some (.map (some wc.heap.size)) := hcell_thru hb4 (hcell_thru hb3 (by rw [← hZ2]; exact A.cell_last (by rw [e1]) rfl))
    have m2 : Z4.cell? ⟨wc.heap.size + 2, 0, none⟩ = some (.slice none 0 0) := hcell_thru hb4 (by rw [← hZ3]; exact A.cell_last (by rw [e2]) rfl)
    have m3 : Z4.cell? ⟨wc.heap.size + 3, 0, none⟩ = some (Value.func (.func 65) #[] #[.pointer (some ⟨bm, 0, none⟩), .pointer (some ⟨wc.heap.size + 1, 0, none⟩), .pointer (some ⟨w.heap.size, 0, none⟩), .pointer (some ⟨be, 0, none⟩), .pointer (some ⟨wc.heap.size + 2, 0, none⟩), .pointer (some ⟨wc.heap.size + 3, 0, none⟩)]) := by
      rw [← hZ4]
      refine World.cell?_setCell_same' _ _ _ ?_
      rw [A.cell_last (v := .nilFunc) e3.symm rfl]
      rfl
    have hSV : SV w wc.heap.size ts s Z4 (.slice none 0 0) [] 0 := by
      refine ⟨hlow, hwb, by omega, m2, ?_, World.ownsRow_nil _ _ _ _, #[], 0, ?_, ⟨by simp, Go.MapKept.stamped_empty 0, by simp⟩, Nat.le_refl _, by simp⟩
      · rw [hb4.frozen (p := ⟨wc.heap.size + 2, 0, none⟩) (by show wc.heap.size + 2 < Z3.heap.size; omega), ← hZ3]
        exact World.frozen?_alloc_at _ _ _ _ (by rw [e2])
      · rw [hb4.block _ (by omega), hb3.block _ (by omega), hb2.block _ (by omega), ← hZ1]
        exact (Go.MapKept.heap_alloc wc _).1
    have hK : ∀ W', Agr wc.heap.size Z4 W' (.slice none 0 0) → ∀ b o u, wc.cell? ⟨b, o, none⟩ = some u → W'.cell? ⟨b, o, none⟩ = some u := fun W' hW b o u hc => hW b o u (by have : b < wc.heap.size := World.block_lt_of_cell? wc ⟨b, o, none⟩ hc; omega) (by simp [Value.ownBlock]) (hcell_thru hbZ hc)
    have hC : Rob wc.heap.size Z4 (.slice none 0 0) (Cst wc.heap.size bm w.heap.size be ge a l c ts) := fun W' hW => by
      refine ⟨hK W' hW _ _ _ HFE.out.mi, hW _ _ _ (by omega) (by simp [Value.ownBlock]) m1, hK W' hW _ _ _ (hcell_thru HFE.out.low HBX.out), hK W' hW _ _ _ HFE.out.bi, ?_, (HAV.out.below HFE.out.low).agr (hK W' hW), fun k hk => hK W' hW _ _ _ ?_⟩
      · exact hW _ _ _ (by omega) (by simp [Value.ownBlock]) m3
      · rw [HFE.out.row.cellAt k (by omega), List.getElem?_map]
        have : k < ts.length := by rw [HTC.out]; exact hk
        simp [H.erls, this, HTC.out, hk, uV]
    have hO : Rob wc.heap.size Z4 (.slice none 0 0) (fun W' => AtsV W' ao lo co s) := fun W' hW => (HOV.out.below HFE.out.low).agr (hK W' hW)
    have hsr := search_any hl12 HTC.out (by rw [HOC.out]; exact hlo) HARG.out 12 0 s Z4 (.slice none 0 0) [] 0 ao lo co (Nat.le_trans (H.left_le _ _) (by show ts.length ≤ 12; rw [HTC.out]; exact hl12)) (Nat.le_refl _) (by decide) hC hO (H.Like.refl s) HMY.out hSV (by have := H.cost12; omega)
    have HLW : Hid (w.heap.size ≤ wc.heap.size) := hwb
    clear hC hO hSV hK hlow hwb hbZ hb1 hb2 hb3 hb4 m1 m2
    go_wp2_with fail
    refine hsr.mono ?_
    rintro e y ⟨r, v', pre', rfl, hS, hG, hyes, hno⟩
    have HS : Hid _ := hS
    have HYES : Hid _ := hyes
    have HNO : Hid _ := hno
    have bx := hS.box
    clear hS hG hyes hno hsr
    go_wp2_with fail
    go_ret2
    refine ⟨r, v', pre', rfl, A.own_base HS.out.row (by have := HLW.out; omega), HS.out.low, fun e => ?_, fun e => HNO.out e⟩
    obtain ⟨o, ho, hok⟩ := HYES.out e
    rw [ho]
    exact hok
end Go.Proofs.Ytafdjmccgijmnaa
