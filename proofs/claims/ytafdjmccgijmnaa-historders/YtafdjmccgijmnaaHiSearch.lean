/- The search itself. -/
import Derived.Test.YtafdjmccgijmnaaHiSV
import Derived.Deep.AppendLies
namespace Go.Proofs.Ytafdjmccgijmnaa
open Go.RowKit A Go.Maps
set_option linter.unusedVariables false
set_option linter.unusedSimpArgs false
/-- What find's closure reads, and never turns. -/
structure Cst (bM bm bl be ge : Nat) (a : Option Addr) (l c : Nat) (ts : List H.Ac) (W : World) : Prop where
  fm : W.cell? ⟨bm, 0, none⟩ = some (.int .u64 (H.backs ts l))
  fn : W.cell? ⟨bM + 1, 0, none⟩ = some (.map (some bM))
  fl : W.cell? ⟨bl, 0, none⟩ = some (.slice a l c)
  fe : W.cell? ⟨be, 0, none⟩ = some (.slice (some ⟨ge, 0, none⟩) l l)
  fs : W.cell? ⟨bM + 3, 0, none⟩ = some (.func (.func 65) #[] #[.pointer (some ⟨bm, 0, none⟩), .pointer (some ⟨bM + 1, 0, none⟩), .pointer (some ⟨bl, 0, none⟩), .pointer (some ⟨be, 0, none⟩), .pointer (some ⟨bM + 2, 0, none⟩), .pointer (some ⟨bM + 3, 0, none⟩)])
  acts : ActsV W a l c ts
  erl : ∀ k, k < l → W.cell? ⟨ge, k, none⟩ = some (.int .u64 (H.erl ts k l))
def SOut (w0 : World) (bM : Nat) (ts : List H.Ac) (s0 : List At) (W : World) (v : Value) (pre : List Nat) (n d : Nat) (s : List At) (e : Ending) (W' : World) : Prop :=
  ∃ r v' pre', e = .returned (.bool r) ∧ SV w0 bM ts s0 W' v' pre' n ∧ Gn bM W W' v v' ∧ (r = true → ∃ o, pre' = pre ++ o ∧ (H.Pf ts).Ok d s o) ∧ (r = false → pre' = pre ∧ (H.Pf ts).Bad d s)
theorem infoInt : (Try.prog.info? 3).map (fun i => (i.zero, i.size, i.bytes)) = some (some (.int .i64 0), 1, 8) := by kernel_rfl
theorem SV.form {w0 : World} {bM : Nat} {ts : List H.Ac} {s0 : List At} {W : World} {v : Value} {pre : List Nat} {n : Nat} (h : SV w0 bM ts s0 W v pre n) (hp : 0 < pre.length) : ∃ g c, v = .slice (some ⟨g, 0, none⟩) pre.length c ∧ pre.length ≤ c ∧ c ≤ maxLen := by
  rcases h.row.2 with ⟨-, e⟩ | ⟨g, cap, cur, e, -, -, h1, h2, -⟩
  · omega
  · exact ⟨g, cap, e, h1, h2⟩
theorem left_zero {σ : Type} {p : H.Pb σ} {d : Nat} (h : p.left d ≤ 0) : p.all d = true := by
  rw [H.all_iff]
  intro k hk hm
  unfold H.Pb.left at h
  have h0 := List.length_eq_zero_iff.1 (Nat.le_zero.1 h)
  cases hd : d.testBit k with
  | true => rfl
  | false =>
    have : k ∈ (List.range p.n).filter (fun k => !(d.testBit k)) := List.mem_filter.2 ⟨List.mem_range.2 hk, by rw [hd]; rfl⟩
    rw [h0] at this
    cases this
set_option maxRecDepth 100000 in
set_option maxHeartbeats 16000000 in
theorem search_any {w0 : World} {bM bm bl be ge : Nat} {a : Option Addr} {l c : Nat} {ts : List H.Ac} {s0 : List At} (hl12 : l ≤ 12) (hts : ts.length = l) (hs0 : s0.length ≤ 1) (hargs : ∀ x ∈ ts, (Lit.int .i64 x.arg).wf = true) :
    ∀ (f d : Nat) (s : List At) (W : World) (v : Value) (pre : List Nat) (n : Nat) (ao : Option Addr) (lo co : Nat), (H.Pf ts).left d ≤ f → pre.length + f ≤ 12 → d < 2 ^ 60 → Rob bM W v (Cst bM bm bl be ge a l c ts) → Rob bM W v (fun W' => AtsV W' ao lo co s) → H.Like s0 s → mayAll s = true → SV w0 bM ts s0 W v pre n → n + H.cost f ≤ 20000000000000 →
      Calls Try.prog 65 #[.int .u64 d, .slice ao lo co, .pointer (some ⟨bm, 0, none⟩), .pointer (some ⟨bM + 1, 0, none⟩), .pointer (some ⟨bl, 0, none⟩), .pointer (some ⟨be, 0, none⟩), .pointer (some ⟨bM + 2, 0, none⟩), .pointer (some ⟨bM + 3, 0, none⟩)] W (SOut w0 bM ts s0 W v pre (n + H.cost f) d s) := by
  have HARG : Hid (∀ x ∈ ts, (Lit.int .i64 x.arg).wf = true) := hargs
  have HTS : Hid (ts.length = l) := hts
  clear hargs hts
  intro f
  induction f with
  | zero =>
    intro d s W v pre n ao lo co hleft hpre hd hC hO hlike hmay hS hn
    have HC : Hid (Rob bM W v (Cst bM bm bl be ge a l c ts)) := hC
    have HO : Hid (Rob bM W v (fun W' => AtsV W' ao lo co s)) := hO
    have HS : Hid (SV w0 bM ts s0 W v pre n) := hS
    have HLK : Hid (H.Like s0 s) := hlike
    have HMY : Hid (mayAll s = true) := hmay
    have HLO : Hid (lo = s.length) := (hO.now).count.symm
    have hlo1 : lo ≤ 1 := by rw [HLO.out, hlike.len]; exact hs0
    have HAS : Hid ((H.Pf ts).all d = H.sub (H.backs ts l) d) := by
      show _ = _
      rw [H.all_sub (by rw [HTS.out]; omega) hd, HTS.out]
    have hb60 := H.backs_lt ts l (by omega)
    have k0 := (hC.now).fm
    have hall := hasAll_any d (H.backs ts l) (by omega) (by omega) W
    obtain ⟨ad, had⟩ : ∃ x, H.sub (H.backs ts l) d = x := ⟨_, rfl⟩
    rw [had] at hall HAS
    clear had
    obtain ⟨bk, hbk⟩ : ∃ x, H.backs ts l = x := ⟨_, rfl⟩
    rw [hbk] at hall k0
    clear hbk hC hO hS hlike hmay hb60
    have hz := left_zero hleft
    rw [HAS.out] at hz
    cases ad with
    | true =>
      go_enter Try.func65, Try.ntmps65
      go_wp2_with fail
      refine hall.mono ?_
      rintro e y ⟨rfl, hy⟩
      rw [hy]
      clear hy hall
      go_wp2_with fail
      go_ret
      exact ⟨true, v, pre, rfl, HS.out.mono (by omega), Gn.refl _ _ _, fun _ => ⟨[], by simp, HAS.out⟩, fun e => by cases e⟩
    | false => cases hz
  | succ f ih =>
    intro d s W v pre n ao lo co hleft hpre hd hC hO hlike hmay hS hn
    have HC : Hid (Rob bM W v (Cst bM bm bl be ge a l c ts)) := hC
    have HO : Hid (Rob bM W v (fun W' => AtsV W' ao lo co s)) := hO
    have HS : Hid (SV w0 bM ts s0 W v pre n) := hS
    have HLK : Hid (H.Like s0 s) := hlike
    have HMY : Hid (mayAll s = true) := hmay
    have HLO : Hid (lo = s.length) := (hO.now).count.symm
    have hlo1 : lo ≤ 1 := by rw [HLO.out, hlike.len]; exact hs0
    have HAS : Hid ((H.Pf ts).all d = H.sub (H.backs ts l) d) := by
      show _ = _
      rw [H.all_sub (by rw [HTS.out]; omega) hd, HTS.out]
    have hb60 := H.backs_lt ts l (by omega)
    have k0 := (hC.now).fm
    have hall := hasAll_any d (H.backs ts l) (by omega) (by omega) W
    obtain ⟨ad, had⟩ : ∃ x, H.sub (H.backs ts l) d = x := ⟨_, rfl⟩
    rw [had] at hall HAS
    clear had
    obtain ⟨bk, hbk⟩ : ∃ x, H.backs ts l = x := ⟨_, rfl⟩
    rw [hbk] at hall k0
    clear hbk hC hO hS hlike hmay hb60
    have HIH : Hid _ := ih
    clear ih
    have hcost := H.cost_pos f
    have HCS : Hid (H.cost (f + 1) = 1 + 12 * H.cost f) := rfl
    cases ad with
    | true =>
      go_enter Try.func65, Try.ntmps65
      go_wp2_with fail
      refine hall.mono ?_
      rintro e y ⟨rfl, hy⟩
      rw [hy]
      clear hy hall
      go_wp2_with fail
      go_ret
      exact ⟨true, v, pre, rfl, HS.out.mono (by omega), Gn.refl _ _ _, fun _ => ⟨[], by simp, HAS.out⟩, fun e => by cases e⟩
    | false =>
      have HP8 : Hid (∀ x ∈ s, x.items.length ≤ 8) := fun x hx => by
        obtain ⟨i, hi, rfl⟩ := List.getElem_of_mem hx
        have := may_item HMY.out hi
        simpa [List.getD, hi] using this
      have HFT : Hid (∀ x ∈ s, AtFit x) := (HO.out.now).fits
      have hplace := placeOf_any (HO.out.now) hlo1 HP8.out d
      obtain ⟨ow, ct, z0, z1, z2, z3, z4, z5, z6, z7, hpf⟩ : ∃ ow ct z0 z1 z2 z3 z4 z5 z6 z7, H.pof d s = [.int .u64 d, .int .i64 ow, .int .i64 ct, .int .i64 z0, .int .i64 z1, .int .i64 z2, .int .i64 z3, .int .i64 z4, .int .i64 z5, .int .i64 z6, .int .i64 z7] := by
        cases s with
        | nil => exact ⟨_, _, _, _, _, _, _, _, _, _, rfl⟩
        | cons x r => exact ⟨_, _, _, _, _, _, _, _, _, _, rfl⟩
      have HPF : Hid (H.pof d s = [.int .u64 d, .int .i64 ow, .int .i64 ct, .int .i64 z0, .int .i64 z1, .int .i64 z2, .int .i64 z3, .int .i64 z4, .int .i64 z5, .int .i64 z6, .int .i64 z7]) := hpf
      rw [hpf] at hplace
      clear hpf
      go_enter Try.func65, Try.ntmps65
      go_wp2_with fail
      refine hall.mono ?_
      rintro e y ⟨rfl, hy⟩
      rw [hy]
      clear hy hall k0
      go_wp2_with fail
      refine hplace.mono ?_
      rintro e y1 ⟨rfl, hy1⟩
      clear hplace
      obtain ⟨Y2, hY2⟩ : ∃ Y, y1.alloc (.cells #[.int .u64 d, .int .i64 ow, .int .i64 ct, .int .i64 z0, .int .i64 z1, .int .i64 z2, .int .i64 z3, .int .i64 z4, .int .i64 z5, .int .i64 z6, .int .i64 z7] 91) = Y := ⟨_, rfl⟩
      have hb2 : Below W.heap.size W Y2 := by rw [← hY2]; exact hy1.trans ((hbl1 _ _).mono hy1.size)
      have HG2 : Hid (Gn bM W Y2 v v) := Gn.below hb2 v
      have HS2 : Hid (SV w0 bM ts s0 Y2 v pre n) := HS.out.below hb2
      have hm2 := (HC.out.go HG2.out).now.fn
      have e0 : Y2.cell? ⟨y1.heap.size, 0, none⟩ = some (.int .u64 d) := by rw [← hY2]; simp
      have e1 : Y2.cell? ⟨y1.heap.size, 1, none⟩ = some (.int .i64 ow) := by rw [← hY2]; simp
      have e2 : Y2.cell? ⟨y1.heap.size, 2, none⟩ = some (.int .i64 ct) := by rw [← hY2]; simp
      have e3 : Y2.cell? ⟨y1.heap.size, 3, none⟩ = some (.int .i64 z0) := by rw [← hY2]; simp
      have e4 : Y2.cell? ⟨y1.heap.size, 4, none⟩ = some (.int .i64 z1) := by rw [← hY2]; simp
      have e5 : Y2.cell? ⟨y1.heap.size, 5, none⟩ = some (.int .i64 z2) := by rw [← hY2]; simp
      have e6 : Y2.cell? ⟨y1.heap.size, 6, none⟩ = some (.int .i64 z3) := by rw [← hY2]; simp
      have e7 : Y2.cell? ⟨y1.heap.size, 7, none⟩ = some (.int .i64 z4) := by rw [← hY2]; simp
      have e8 : Y2.cell? ⟨y1.heap.size, 8, none⟩ = some (.int .i64 z5) := by rw [← hY2]; simp
      have e9 : Y2.cell? ⟨y1.heap.size, 9, none⟩ = some (.int .i64 z6) := by rw [← hY2]; simp
      have e10 : Y2.cell? ⟨y1.heap.size, 10, none⟩ = some (.int .i64 z7) := by rw [← hY2]; simp
      have hbw : W.heap.size ≤ y1.heap.size := hy1.size
      have hy1Y : y1.heap.size < Y2.heap.size := by rw [← hY2]; simp
      clear hy1 hb2
      rcases HS2.out.look hs0 hd HFT.out HMY.out HLK.out with hlook | ⟨hlook, hbad⟩
      rotate_left
      · rw [HPF.out] at hlook
        have HBAD : Hid ((H.Pf ts).Bad d s) := hbad
        clear hbad
        have hEM : Below Y2.heap.size Y2 (Y2.alloc (.cells #[] 93)) := hbl1 _ _
        have HSE : Hid (SV w0 bM ts s0 (Y2.alloc (.cells #[] 93)) v pre n) := HS2.out.below hEM
        have HGE : Hid (Gn bM W (Y2.alloc (.cells #[] 93)) v v) := HG2.out.trans (Gn.below hEM v)
        clear hEM hbw hy1Y
        go_wp2_with fail
        go_ret
        exact ⟨false, v, pre, rfl, HSE.out.mono (by omega), HGE.out, fun e => (by cases e), fun _ => ⟨rfl, HBAD.out⟩⟩
      rw [HPF.out] at hlook
      have hEM : Below Y2.heap.size Y2 (Y2.alloc (.cells #[] 93)) := hbl1 _ _
      obtain ⟨Y3, hY3⟩ : ∃ Y, Y2.alloc (.cells #[] 93) = Y := ⟨_, rfl⟩
      rw [hY3] at hEM
      have HG3 : Hid (Gn bM W Y3 v v) := HG2.out.trans (Gn.below hEM v)
      have HS3 : Hid (SV w0 bM ts s0 Y3 v pre n) := HS2.out.below hEM
      have hl3 := (HC.out.go HG3.out).now.fl
      have HHB : Hid (y1.heap.size ≠ bM + 2 ∧ v.ownBlock ≠ some y1.heap.size) := by
        have h1 := HS.out.siz
        refine ⟨by omega, fun e => ?_⟩
        have := (HS.out.row.lt _ e).2
        omega
      have HHE : Hid (Rob bM Y3 v (fun W' => W'.cell? ⟨y1.heap.size, 0, none⟩ = some (.int .u64 d) ∧ W'.cell? ⟨y1.heap.size, 1, none⟩ = some (.int .i64 ow) ∧ W'.cell? ⟨y1.heap.size, 2, none⟩ = some (.int .i64 ct) ∧ W'.cell? ⟨y1.heap.size, 3, none⟩ = some (.int .i64 z0) ∧ W'.cell? ⟨y1.heap.size, 4, none⟩ = some (.int .i64 z1) ∧ W'.cell? ⟨y1.heap.size, 5, none⟩ = some (.int .i64 z2) ∧ W'.cell? ⟨y1.heap.size, 6, none⟩ = some (.int .i64 z3) ∧ W'.cell? ⟨y1.heap.size, 7, none⟩ = some (.int .i64 z4) ∧ W'.cell? ⟨y1.heap.size, 8, none⟩ = some (.int .i64 z5) ∧ W'.cell? ⟨y1.heap.size, 9, none⟩ = some (.int .i64 z6) ∧ W'.cell? ⟨y1.heap.size, 10, none⟩ = some (.int .i64 z7))) := fun W' hW => by
        refine ⟨?_, ?_, ?_, ?_, ?_, ?_, ?_, ?_, ?_, ?_, ?_⟩
        all_goals
          refine hW _ _ _ HHB.out.1 HHB.out.2 (hcell_thru hEM ?_)
          assumption
      clear hEM hbw hy1Y
      go_wp2_with fail
      have HC3 : Hid (Rob bM Y3 v (Cst bM bm bl be ge a l c ts)) := HC.out.go HG3.out
      have HO3 : Hid (Rob bM Y3 v (fun W' => AtsV W' ao lo co s)) := HO.out.go HG3.out
      obtain ⟨cf, hcf⟩ : ∃ x, H.cost f = x := ⟨_, rfl⟩
      have HCF : Hid (H.cost f = cf) := hcf
      rw [hcf] at HCS hcost
      clear hcf e0 e1 e2 e3 e4 e5 e6 e7 e8 e9 e10 hl3 hm2 hlook
      have hn' : n + (1 + 12 * cf) ≤ 20000000000000 := by rw [← HCS.out]; exact hn
      clear hn
      generalize y1.heap.size = hb at *
      generalize Y2.heap.size = hb2 at *
      go_loopg [14, 15, 16, 17, 33] l (fun r q14 q15 q16 q17 iv wq => ∃ (k : Nat) (v1 : Value), r = l - k ∧ iv = .int .i64 k ∧ k ≤ l ∧ Hid (SV w0 bM ts s0 wq v1 pre (n + k * cf)) ∧ Hid (Gn bM Y3 wq v v1) ∧ Hid (∀ j, j < k → (H.Pf ts).free d j = true → ∀ s', (H.Pf ts).step s j = some s' → (H.Pf ts).Bad (H.wth d j) s'))
      case atStart => exact ⟨0, v, rfl, rfl, Nat.zero_le _, by rw [Nat.zero_mul]; exact HS3.out, Gn.refl _ _ _, (fun j hj => absurd hj (Nat.not_lt_zero _) : ∀ j, j < 0 → (H.Pf ts).free d j = true → ∀ s', (H.Pf ts).step s j = some s' → (H.Pf ts).Bad (H.wth d j) s')⟩
      case round =>
        obtain ⟨k, v1, rfl, rfl, hk, HSK, HGK, HBK⟩ := hrel
        have HCK : Hid (Rob bM wr v1 (Cst bM bm bl be ge a l c ts)) := HC3.out.go HGK.out
        have HOK : Hid (Rob bM wr v1 (fun W' => AtsV W' ao lo co s)) := HO3.out.go HGK.out
        by_cases hlt : k < l
        · have hii : (k : Int) < l := by omega
          have hin : 0 ≤ (k : Int) := by omega
          have hkc : (k + 1) * cf ≤ 12 * cf := Nat.mul_le_mul_right cf (by omega)
          rw [Nat.add_mul, Nat.one_mul] at hkc
          obtain ⟨b, off, rfl, c0, c1, c2, c3, c4, c5, c6⟩ := HCK.out.now.acts.at hlt
          obtain ⟨Y1, hY1⟩ : ∃ Y, wr.alloc (.cells #[.int .i64 (ts.getD k H.noAc).th, .int .i64 (ts.getD k H.noAc).dd, .string (ts.getD k H.noAc).nm, .int .i64 (ts.getD k H.noAc).arg, .int .i64 (ts.getD k H.noAc).call, .int .i64 (ts.getD k H.noAc).back, .int .i64 (ts.getD k H.noAc).ans] 42) = Y := ⟨_, rfl⟩
          have hbY : Below wr.heap.size wr Y1 := by rw [← hY1]; exact hbl1 _ _
          have HGY : Hid (Gn bM wr Y1 v1 v1) := Gn.below hbY v1
          have HSY : Hid (SV w0 bM ts s0 Y1 v1 pre (n + k * cf)) := HSK.out.below hbY
          have HBY : Hid (wr.heap.size ≤ Y1.heap.size) := hbY.size
          have g1 := (HCK.out.go HGY.out).now.fe
          have g2 := (HCK.out.go HGY.out).now.erl k hlt
          have HFR : Hid ((H.Pf ts).free d k = (!(d.testBit k) && H.sub (H.erl ts k l) d)) := by
            show _ = _
            rw [H.free_sub (by rw [HTS.out]; omega) hd, HTS.out]
          have HST : Hid ((H.Pf ts).step s k = if H.goes s (ts.getD k H.noAc) = true then some (H.made s (ts.getD k H.noAc)).1 else none) := rfl
          have HWF : Hid ((Lit.int .i64 (ts.getD k H.noAc).arg).wf = true) := HARG.out _ (by simp [List.getD, show k < ts.length by rw [HTS.out]; exact hlt])
          have he60 := H.erl_lt ts k l (by omega)
          have hhas := has_any d k (by omega) (by omega) Y1
          have hsub := hasAll_any d (H.erl ts k l) (by omega) (by omega) Y1
          have hdo := hdo_any ((HOK.out.go HGY.out).now) (by omega) (may_items HMY.out) (ts.getD k H.noAc) HWF.out
          have HSTEP : Hid (∀ (P : Prop), P → True) := fun _ _ => trivial
          obtain ⟨el, hel⟩ : ∃ x, H.erl ts k l = x := ⟨_, rfl⟩
          rw [hel] at g2 HFR hsub
          obtain ⟨x, hx⟩ : ∃ x, ts.getD k H.noAc = x := ⟨_, rfl⟩
          rw [hx] at c0 c1 c2 c3 c4 c5 c6 hY1 HST HWF hdo
          clear hel hx he60 hbY
          obtain ⟨gs, hgs⟩ : ∃ q, H.goes s x = q := ⟨_, rfl⟩
          obtain ⟨s1, hs1⟩ : ∃ q, (H.made s x).1 = q := ⟨_, rfl⟩
          have HL1 : Hid (H.Like s0 s1) := by rw [← hs1]; exact HLK.out.made x
          have HM1 : Hid (mayAll s1 = true) := by show _ = _; rw [← hs1]; exact H.made_may HMY.out x
          rw [hgs, hs1] at hdo HST
          clear hgs hs1
          obtain ⟨th, dd, nm, arg, call, back, ans⟩ := x
          unfold H.Ac.v at hdo
          simp only at c0 c1 c2 c3 c4 c5 c6 hY1 HWF hdo
          have d0 : Y1.cell? ⟨wr.heap.size, 0, none⟩ = some (.int .i64 th) := by rw [← hY1]; simp
          have d1 : Y1.cell? ⟨wr.heap.size, 1, none⟩ = some (.int .i64 dd) := by rw [← hY1]; simp
          have d2 : Y1.cell? ⟨wr.heap.size, 2, none⟩ = some (.string nm) := by rw [← hY1]; simp
          have d3 : Y1.cell? ⟨wr.heap.size, 3, none⟩ = some (.int .i64 arg) := by rw [← hY1]; simp
          have d4 : Y1.cell? ⟨wr.heap.size, 4, none⟩ = some (.int .i64 call) := by rw [← hY1]; simp
          have d5 : Y1.cell? ⟨wr.heap.size, 5, none⟩ = some (.int .i64 back) := by rw [← hY1]; simp
          have d6 : Y1.cell? ⟨wr.heap.size, 6, none⟩ = some (.int .i64 ans) := by rw [← hY1]; simp
          have HNX : Hid (∀ (P : Nat → Prop), P k → (∀ j, j < k → P j) → ∀ j, j < k + 1 → P j) := fun P hP hj j hjk => by
            by_cases e : j = k
            · subst e; exact hP
            · exact hj j (by omega)
          cases hbit : d.testBit k with
          | true =>
            rw [hbit] at hhas HFR
            have HBN : Hid (∀ j, j < k + 1 → (H.Pf ts).free d j = true → ∀ s', (H.Pf ts).step s j = some s' → (H.Pf ts).Bad (H.wth d j) s') := HNX.out _ (fun hf => by rw [HFR.out] at hf; cases hf) HBK.out
            clear hbit hsub hdo
            go_wp2_with fail
            refine hhas.mono ?_
            rintro e y ⟨rfl, hy⟩
            rw [hy]
            clear hy hhas
            go_wp2_with fail
            go_roundg (l - (k + 1))
            case measure => omega
            case rel => exact ⟨k + 1, v1, rfl, by go_num, by omega, HSY.out.mono (by rw [Nat.add_mul, Nat.one_mul]; omega), HGK.out.trans HGY.out, HBN⟩
          | false =>
            rw [hbit] at hhas HFR
            clear hbit
            cases hsb : H.sub el d with
            | false =>
              rw [hsb] at hsub HFR
              have HBN : Hid (∀ j, j < k + 1 → (H.Pf ts).free d j = true → ∀ s', (H.Pf ts).step s j = some s' → (H.Pf ts).Bad (H.wth d j) s') := HNX.out _ (fun hf => by rw [HFR.out] at hf; cases hf) HBK.out
              clear hsb hdo
              go_wp2_with fail
              refine hhas.mono ?_
              rintro e y ⟨rfl, hy⟩
              rw [hy]
              clear hy hhas
              go_wp2_with fail
              refine hsub.mono ?_
              rintro e y ⟨rfl, hy⟩
              rw [hy]
              clear hy hsub
              go_wp2_with fail
              go_roundg (l - (k + 1))
              case measure => omega
              case rel => exact ⟨k + 1, v1, rfl, by go_num, by omega, HSY.out.mono (by rw [Nat.add_mul, Nat.one_mul]; omega), HGK.out.trans HGY.out, HBN⟩
            | true =>
              rw [hsb] at hsub HFR
              clear hsb
              go_wp2_with fail
              refine hhas.mono ?_
              rintro e y ⟨rfl, hy⟩
              rw [hy]
              clear hy hhas
              go_wp2_with fail
              refine hsub.mono ?_
              rintro e y ⟨rfl, hy⟩
              rw [hy]
              clear hy hsub
              go_wp2_with fail
              refine hdo.mono ?_
              rintro e y2 ⟨g, rfl, hstay, hgY, hb2⟩
              clear hdo
              have HG2 : Hid (Gn bM Y1 y2 v1 v1) := Gn.below hb2 v1
              have HSY2 : Hid (SV w0 bM ts s0 y2 v1 pre (n + k * cf)) := HSY.out.below hb2
              have HRO : Hid (Rob bM y2 v1 (fun W' => AtsV W' (some ⟨g, 0, none⟩) lo lo s1)) := fun W' hW => hstay W' (fun b o u hB hc => hW b o u (by have := HSY.out.siz; omega) (fun e => by have := (HSY.out.row.lt b e).2; omega) hc)
              clear hstay hb2 hgY
              cases gs with
              | false =>
                have HBN : Hid (∀ j, j < k + 1 → (H.Pf ts).free d j = true → ∀ s', (H.Pf ts).step s j = some s' → (H.Pf ts).Bad (H.wth d j) s') := HNX.out _ (fun _ s' hs' => by rw [HST.out] at hs'; cases hs') HBK.out
                go_wp2_with fail
                go_roundg (l - (k + 1))
                case measure => omega
                case rel => exact ⟨k + 1, v1, rfl, by go_num, by omega, HSY2.out.mono (by rw [Nat.add_mul, Nat.one_mul]; omega), (HGK.out.trans HGY.out).trans HG2.out, HBN⟩
              | true =>
                obtain ⟨i1, hi1, hz10, hz11, hz12⟩ := hinfo infoInt
                obtain ⟨Z, hZ⟩ : ∃ Y, y2.alloc (.cells #[.int .i64 k] 3) = Y := ⟨_, rfl⟩
                have hbZ : Below y2.heap.size y2 Z := by rw [← hZ]; exact hbl1 _ _
                have HGZ : Hid (Gn bM y2 Z v1 v1) := Gn.below hbZ v1
                have HSZ : Hid (SV w0 bM ts s0 Z v1 pre (n + k * cf)) := HSY2.out.below hbZ
                have HNC : Hid (∀ j u, ([.int .i64 k] : List Value)[j]? = some u → Z.cell? ((⟨y2.heap.size, 0, none⟩ : Addr).add j) = some u) := by
                  intro j u hu
                  match j, hu with
                  | 0, hu => simp at hu; subst hu; rw [← hZ]; exact A.cell_last (by simp) (by simp)
                  | j + 1, hu => simp at hu
                have bx := HSY2.out.box
                have hsz := HSZ.out.siz
                go_wp2_with (first | (at_builtin; go_loud (refine wpList_append_lies _ rfl _ _ 27 rfl (bM + 4) 3 i1 _ 1 8 Try.underlying27 hi1 hz10 hz11 hz12 rfl (by decide) v1 pre.length (pre.map nV) rfl HSZ.out.row ⟨y2.heap.size, 0, none⟩ 1 1 [.int .i64 k] rfl rfl HNC.out (by intro u hu; simp at hu; subst hu; rfl) (by decide) (by unfold maxLen; omega) (by omega) hsz Z.heap.size rfl ?_; intro ga ca w1 ho1 hg1 hat1 hlt1; obtain ⟨⟨hbx, hfz⟩, hgrow⟩ := HSZ.out.grow hg1)) | fail)
                obtain ⟨hS6, hG6⟩ := hgrow (.slice (some ⟨ga, 0, none⟩) (pre.length + 1) ca) k ho1 (by
                  rcases hat1 with e | e
                  · exact .inl e.symm
                  · exact .inr fun q hq => by simp [Value.ownBlock] at hq; omega)
                obtain ⟨W6, hW6⟩ : ∃ Y, w1.setCell ⟨bM + 2, 0, none⟩ (.slice (some ⟨ga, 0, none⟩) (pre.length + 1) ca) = Y := ⟨_, rfl⟩
                rw [hW6] at hS6 hG6 ⊢
                obtain ⟨v2, hv2⟩ : ∃ q, Value.slice (some ⟨ga, 0, none⟩) (pre.length + 1) ca = q := ⟨_, rfl⟩
                rw [hv2] at hS6 hG6
                have HS6 : Hid (SV w0 bM ts s0 W6.drew v2 (pre ++ [k]) (n + k * cf)) := hS6.below (Below.refl _ _).drew
                have HG6 : Hid (Gn bM wr W6.drew v1 v2) := ((HGY.out.trans HG2.out).trans HGZ.out).trans (hG6.trans (Gn.below (Below.refl _ _).drew v2))
                have HC6 : Hid (Rob bM W6.drew v2 (Cst bM bm bl be ge (some ⟨b, off, none⟩) l c ts)) := HCK.out.go HG6.out
                have HR6 : Hid (Rob bM W6.drew v2 (fun W' => AtsV W' (some ⟨g, 0, none⟩) lo lo s1)) := (HRO.out.go HGZ.out).go (hG6.trans (Gn.below (Below.refl _ _).drew v2))
                have HF6 : Hid (W6.drew.cell? ⟨bM + 3, 0, none⟩ = some (.func (.func 65) #[] #[.pointer (some ⟨bm, 0, none⟩), .pointer (some ⟨bM + 1, 0, none⟩), .pointer (some ⟨bl, 0, none⟩), .pointer (some ⟨be, 0, none⟩), .pointer (some ⟨bM + 2, 0, none⟩), .pointer (some ⟨bM + 3, 0, none⟩)])) := HC6.out.now.fs
                have HFK : Hid ((H.Pf ts).free d k = true) := by show _ = _; rw [HFR.out]; rfl
                have HSK1 : Hid ((H.Pf ts).step s k = some s1) := by show _ = _; rw [HST.out]; rfl
                have hlf := H.left_lt (p := H.Pf ts) (show k < (H.Pf ts).n by show k < ts.length; rw [HTS.out]; exact hlt) HFK.out
                have hwd := H.wth_lt (k := k) hd (by omega)
                have hrec := HIH.out (H.wth d k) s1 W6.drew v2 (pre ++ [k]) (n + k * cf) (some ⟨g, 0, none⟩) lo lo (by omega) (by rw [List.length_append]; show pre.length + 1 + f ≤ 12; omega) hwd HC6.out HR6.out HL1.out HM1.out HS6.out (by rw [HCF.out]; omega)
                have hwith := with_any d k (by omega) (by omega) W6.drew
                obtain ⟨dk, hdk⟩ : ∃ q, H.wth d k = q := ⟨_, rfl⟩
                have HDK : Hid (H.wth d k = dk) := hdk
                rw [hdk] at hrec hwith
                clear hdk hlf hwd hS6 hG6 hgrow hv2 hW6 hat1 hlt1 hbx hfz ho1 hg1 bx hsz hZ hbZ d0 d1 d2 d3 d4 d5 d6 g1 g2 c0 c1 c2 c3 c4 c5 c6 hY1
                refine wp_region_held_drew (S := (fun w' : World => w'.cell? ⟨bM + 3, 0, none⟩ = some (.func (.func 65) #[] #[.pointer (some ⟨bm, 0, none⟩), .pointer (some ⟨bM + 1, 0, none⟩), .pointer (some ⟨bl, 0, none⟩), .pointer (some ⟨be, 0, none⟩), .pointer (some ⟨bM + 2, 0, none⟩), .pointer (some ⟨bM + 3, 0, none⟩)]))) (by kernel_rfl) HF6.out (fun hHeld => ?_)
                refine tk (i := 0) (v := ?_) (tA rfl) (by kernel_rfl) (fun _ _ _ h => h) (Or.inl ⟨by rfl, ?_⟩) (by assumption) ?_
                rotate_left
                · (intro w hSw; (try dsimp only at hSw); go_simp <;> with_reducible rfl)
                simp only [Act.put, List.setIfInBounds_toArray, List.set_cons_zero, List.set_cons_succ]
                refine tk (i := 1) (v := ?_) (tA rfl) (by kernel_rfl) (fun _ _ _ h => h) (Or.inl ⟨by rfl, ?_⟩) (by assumption) ?_
                rotate_left
                · (intro w hSw; (try dsimp only at hSw); go_simp <;> with_reducible rfl)
                simp only [Act.put, List.setIfInBounds_toArray, List.set_cons_zero, List.set_cons_succ]
                refine tk (i := 2) (v := ?_) (tA rfl) (by kernel_rfl) (fun _ _ _ h => h) (Or.inl ⟨by rfl, ?_⟩) (by assumption) ?_
                rotate_left
                · (intro w hSw; (try dsimp only at hSw); go_simp <;> with_reducible rfl)
                simp only [Act.put, List.setIfInBounds_toArray, List.set_cons_zero, List.set_cons_succ]
                refine tk (i := 4) (v := ?_) (tA rfl) (by kernel_rfl) (fun _ _ _ h => h) (Or.inl ⟨by rfl, ?_⟩) (by assumption) ?_
                rotate_left
                · (intro w hSw; (try dsimp only at hSw); go_simp <;> with_reducible rfl)
                simp only [Act.put, List.setIfInBounds_toArray, List.set_cons_zero, List.set_cons_succ]
                refine wpAnyH_ready (rs := [3]) (by kernel_rfl) (by simp) ?_
                refine AllReadyH.cons (tA rfl) (fun K hK => ?_) AllReadyH.nil
                go_simp
                refine hwith.mono ?_
                rintro e y ⟨rfl, hy⟩
                rw [hy]
                clear hy hwith
                try go_wp2_with fail
                refine hK.out _ _ hHeld (fun hHeld => ?_)
                clear hK K
                try simp only [Act.put, List.setIfInBounds_toArray, List.set_cons_zero, List.set_cons_succ]
                refine wpAnyH_ready (rs := [5]) (by kernel_rfl) (by simp) ?_
                refine AllReadyH.cons (tA rfl) (fun K hK => ?_) AllReadyH.nil
                go_simp
                refine hrec.mono ?_
                rintro e y7 ⟨r, v3, pre3, rfl, hS7, hG7, hyes, hno⟩
                have HS7 : Hid (SV w0 bM ts s0 y7 v3 pre3 (n + k * cf + H.cost f)) := hS7
                have HG7 : Hid (Gn bM W6.drew y7 v2 v3) := hG7
                have HYES : Hid (r = true → ∃ o, pre3 = pre ++ [k] ++ o ∧ (H.Pf ts).Ok dk s1 o) := hyes
                have HNO : Hid (r = false → pre3 = pre ++ [k] ∧ (H.Pf ts).Bad dk s1) := hno
                have hF7 := (HC6.out.go HG7.out).now.fs
                clear hS7 hG7 hyes hno
                try go_wp2_with fail
                refine hK.out _ _ hF7 (fun hHeld => ?_)
                clear hK K hF7
                try simp only [Act.put, List.setIfInBounds_toArray, List.set_cons_zero, List.set_cons_succ]
                refine wpAnyH_done (by kernel_rfl) ?_ _
                clear hHeld
                cases r with
                | true =>
                  obtain ⟨o, ho, hok⟩ := HYES.out rfl
                  have HOO : Hid (pre3 = pre ++ [k] ++ o) := ho
                  have HOK2 : Hid ((H.Pf ts).Ok dk s1 o) := hok
                  clear ho hok HYES HNO
                  go_wp2_with fail
                  go_ret
                  refine ⟨true, v3, pre3, rfl, HS7.out.mono (by rw [HCS.out, HCF.out]; omega), ((HG3.out.trans HGK.out).trans HG6.out).trans HG7.out, fun _ => ?_, fun e => by cases e⟩
                  exact ⟨k :: o, by rw [HOO.out]; simp, by show k < ts.length; rw [HTS.out]; exact hlt, HFK.out, s1, HSK1.out, by rw [HDK.out]; exact HOK2.out⟩
                | false =>
                  obtain ⟨hp3, hbad⟩ := HNO.out rfl
                  subst hp3
                  have HBN : Hid (∀ j, j < k + 1 → (H.Pf ts).free d j = true → ∀ s', (H.Pf ts).step s j = some s' → (H.Pf ts).Bad (H.wth d j) s') := HNX.out _ (fun _ s' hs' => by rw [HSK1.out] at hs'; cases hs'; rw [HDK.out]; exact hbad) HBK.out
                  obtain ⟨g3, c3, hv3, hpc, hmx⟩ := SV.form HS7.out (by simp)
                  rw [List.length_append, List.length_cons, List.length_nil, Nat.zero_add] at hv3 hpc
                  have hmx : c3 ≤ 9223372036854775807 := hmx
                  clear HYES HNO
                  subst hv3
                  have bx := HS7.out.box
                  have fz := HS7.out.fro
                  have HCUT : Hid _ := HS7.out.cut
                  have hgc := gn_box (W := y7) (bM := bM) (v := .slice (some ⟨g3, 0, none⟩) (pre.length + 1) c3) trivial (v' := .slice (some ⟨g3, 0, none⟩) pre.length c3) (.inl rfl)
                  have HGC : Hid _ := hgc
                  clear hgc hbad
                  go_wp2_with fail
                  go_roundg (l - (k + 1))
                  case measure => omega
                  case rel => exact ⟨k + 1, .slice (some ⟨g3, 0, none⟩) pre.length c3, rfl, by go_num, by omega, HCUT.out.mono (by rw [Nat.add_mul, Nat.one_mul, HCF.out]; omega), ((HGK.out.trans HG6.out).trans HG7.out).trans HGC.out, HBN⟩
        · obtain rfl : k = l := by omega
          have hii : ¬ (k : Int) < k := by omega
          have HBAD : Hid ((H.Pf ts).Bad d s) := fun o ho => by
            cases o with
            | nil =>
              have h1 : (H.Pf ts).all d = true := ho
              rw [HAS.out] at h1
              cases h1
            | cons j r =>
              obtain ⟨hj, hf, s', hs', hok⟩ := ho
              exact HBK.out j (by have := HTS.out; have : j < ts.length := hj; omega) hf s' hs' r hok
          have hkc : k * cf ≤ 12 * cf := Nat.mul_le_mul_right cf hl12
          obtain ⟨W9, hup, hS9, hG9⟩ := HSK.out.put hd HFT.out HMY.out HLK.out HBAD.out (by unfold maxLen; omega)
          have HS9 : Hid (SV w0 bM ts s0 W9 v1 pre (n + k * cf + 1)) := hS9
          have HG9 : Hid (Gn bM wr W9 v1 v1) := hG9
          rw [HPF.out] at hup
          have f1 := HCK.out.now.fn
          obtain ⟨e0, e1, e2, e3, e4, e5, e6, e7, e8, e9, e10⟩ := (HHE.out.go HGK.out).now
          clear hS9 hG9
          go_wp2_with fail
          go_ret
          exact ⟨false, v1, pre, rfl, HS9.out.mono (by rw [HCS.out]; omega), (HG3.out.trans HGK.out).trans HG9.out, fun e => (by cases e), fun _ => ⟨rfl, HBAD.out⟩⟩
end Go.Proofs.Ytafdjmccgijmnaa
