/- The document's table of what is live. -/
import Derived.Test.YtljgpngbkmembaaDoorAMAb
import Derived.Test.YtljgpngbkmembaaDoorAMAc
namespace Go.Proofs.YtljgpngbkmembaaDoor
open Go.RowKit Go.Maps
set_option linter.unusedVariables false
set_option linter.unusedSimpArgs false
theorem NumV.far {w : World} {a : Option Addr} {l c : Nat} {zs : List Int} (h : NumV w a l c zs) {q o : Nat} (hp : ∀ p, a = some p → q ≠ p.block) (v : Value) : NumV (w.setCell ⟨q, o, none⟩ v) a l c zs :=
  ⟨h.count, h.fits, h.nilOf, h.room, h.cells.imp id fun ⟨b, off, e, hc⟩ => ⟨b, off, e, fun i hi => (World.cell?_setCell_far _ ⟨q, o, none⟩ ⟨b, off + i, none⟩ _ (hp ⟨b, off, none⟩ e)).trans (hc i hi)⟩⟩
def TabOut (w : World) (f : F.Fn) (n T : Nat) (e : Ending) (W : World) : Prop := ∃ g h m, e = .returned (.slice (some ⟨g, 0, none⟩) n n) ∧ TP w.heap.size W g n T n h m ∧ (∀ i, i < n → ∀ t, t < T → (m i t = true ↔ F.Lv f i t)) ∧ Below w.heap.size w W
/-- How the table's passes stand: what is set is live, and where nothing was set what was gone through is closed. -/
structure TI (f : F.Fn) (n T : Nat) (m : Nat → Nat → Bool) (more : Bool) (p t0 : Nat) (c0 : Nat) : Prop where
  sound : F.Sound f n T m
  few : F.cntF n T m + (if more = true then 1 else 0) ≤ c0
  rows : more = false → ∀ i, p ≤ i → i < n → ∀ t, t < T → F.ClosedAt f m i t
  here : more = false → ∀ t, t < t0 → t < T → 1 ≤ p → F.ClosedAt f m (p - 1) t
theorem TI.go {f : F.Fn} {n T : Nat} {m : Nat → Nat → Bool} {more : Bool} {p t0 c0 : Nat} (h : TI f n T m more p t0 c0) (hc : F.ClosedAt f m (p - 1) t0) : TI f n T m more p (t0 + 1) c0 :=
  ⟨h.sound, h.few, h.rows, fun e t ht hT hp => by
    by_cases e2 : t = t0
    · subst e2; exact hc
    · exact h.here e t (by omega) hT hp⟩
theorem TI.put {f : F.Fn} {n T : Nat} {m : Nat → Nat → Bool} {more : Bool} {p t0 c0 : Nat} (h : TI f n T m more p t0 c0) (hp : 1 ≤ p) (hpn : p ≤ n) (ht : t0 < T) (h0 : m (p - 1) t0 = false) (hl : F.Lv f (p - 1) t0) : TI f n T (F.upd2 m (p - 1) t0) true p (t0 + 1) c0 :=
  ⟨F.sound_upd h.sound hl, by
    have h1 := F.cntF_upd (n := n) (i := p - 1) (by omega) ht h0
    have h2 := h.few
    simp only [if_true]
    omega, fun e => (by cases e), fun e => (by cases e)⟩
theorem TI.next {f : F.Fn} {n T : Nat} {m : Nat → Nat → Bool} {more : Bool} {p c0 : Nat} (h : TI f n T m more p T c0) (hp : 1 ≤ p) : TI f n T m more (p - 1) 0 c0 :=
  ⟨h.sound, h.few, fun e i hi hn t ht => by
    by_cases e2 : i = p - 1
    · subst e2; exact h.here e t ht ht hp
    · exact h.rows e i (by omega) hn t ht, fun e t ht => (by omega)⟩
set_option maxRecDepth 100000 in
set_option maxHeartbeats 16000000 in
theorem rtable_any {w : World} {f : F.Fn} {a : Option Addr} {n c T : Nat} (h : OpsV w a n c f.code) (hm : F.mayF f = true) (hT : f.temps = T) (hsz : ∀ x ∈ f.code, x.args.length * 8 ≤ 140737488355328) : Calls Tryd.prog 27 #[fnV f a n c] w (TabOut w f n T) := by
  have hmax : maxLen = 9223372036854775807 := rfl
  have HO : Hid (OpsV w a n c f.code) := h
  have HC : Hid (f.code.length = n) := h.count
  have HMAY : Hid (F.mayF f = true) := hm
  have HT : Hid (f.temps = T) := hT
  have HSZ : Hid (∀ x ∈ f.code, x.args.length * 8 ≤ 140737488355328) := hsz
  have hhd := F.may_head hm
  have hT400 : T ≤ 400 := by rw [hT] at hhd; omega
  have hn1 : 1 ≤ n := by have := h.count; omega
  have hn2 : n ≤ 20000 := by have := h.count; omega
  have hrm := h.room
  have HBEH : Hid (∀ W i, Below w.heap.size w W → i < n → Calls Tryd.prog 28 #[fnV f a n c, .int .i64 i] W (RdOut W ((F.nxt (F.at_ f i) i).map Int.ofNat))) := fun W i hW hi => by
    rw [← F.nxz_nxt hm (by rw [HC.out]; exact hi)]
    exact rbehind_any (h.below hW) hi
  have HFI : Hid (∀ i, i < n → OpFit (F.at_ f i)) := fun i hi => h.fit hi
  clear hhd h hm hsz
  obtain ⟨nm0, hnm0⟩ : ∃ q, f.name = q := ⟨_, rfl⟩
  obtain ⟨params, hpar⟩ : ∃ q, f.params = q := ⟨_, rfl⟩
  unfold fnV at HBEH ⊢
  rw [hnm0, hpar, hT] at HBEH ⊢
  clear hnm0 hpar hT
  obtain ⟨W0, hW0⟩ : ∃ W0, w.alloc (.cells #[.string nm0, .int .i64 params, .int .i64 T, .slice a n c] 24) = W0 := ⟨_, rfl⟩
  have hb0 : Below w.heap.size w W0 := by rw [← hW0]; exact bl1 _ _
  have HB0 : Hid (Below w.heap.size w W0) := hb0
  have hsz0 : W0.heap.size = w.heap.size + 1 := by rw [← hW0]; simp
  have HS0 : Hid (W0.heap.size = w.heap.size + 1) := hsz0
  have d0 : W0.cell? ⟨w.heap.size, 0, none⟩ = some (.string nm0) := by rw [← hW0]; exact ncell_at rfl
  have d1 : W0.cell? ⟨w.heap.size, 1, none⟩ = some (.int .i64 params) := by rw [← hW0]; exact ncell_at rfl
  have d2 : W0.cell? ⟨w.heap.size, 2, none⟩ = some (.int .i64 T) := by rw [← hW0]; exact ncell_at rfl
  have d3 : W0.cell? ⟨w.heap.size, 3, none⟩ = some (.slice a n c) := by rw [← hW0]; exact ncell_at rfl
  have HD : Hid (∀ y, Below W0.heap.size W0 y → y.cell? ⟨w.heap.size, 0, none⟩ = some (.string nm0) ∧ y.cell? ⟨w.heap.size, 1, none⟩ = some (.int .i64 params) ∧ y.cell? ⟨w.heap.size, 2, none⟩ = some (.int .i64 T) ∧ y.cell? ⟨w.heap.size, 3, none⟩ = some (.slice a n c)) := fun y hy => ⟨cell_thru hy d0, cell_thru hy d1, cell_thru hy d2, cell_thru hy d3⟩
  have HWB : Hid (∀ y, Below W0.heap.size W0 y → Below w.heap.size w y) := fun y hy => HB0.out.trans (hy.mono HB0.out.size)
  obtain ⟨g, hg⟩ : ∃ g, W0.heap.size = g := ⟨_, rfl⟩
  have HG : Hid (W0.heap.size = g) := hg
  have hmk := makeBs W0 n (by omega)
  have HTP0 : Hid (TP g (W0.alloc (.cells (List.replicate n (.slice none 0 0)).toArray 61)) g n T 0 (fun _ => 0) (fun _ _ => false)) := by
    have := TP.start W0 n (fun _ => 0) (fun _ _ => false) T
    rw [hg] at this
    exact this
  have HB1 : Hid (Below g W0 (W0.alloc (.cells (List.replicate n (.slice none 0 0)).toArray 61))) := by show Below _ _ _; rw [← hg]; exact bl1 _ _
  obtain ⟨W1, hW1⟩ : ∃ W1, W0.alloc (.cells (List.replicate n (.slice none 0 0)).toArray 61) = W1 := ⟨_, rfl⟩
  rw [hW1] at hmk HTP0 HB1
  rw [hg] at hmk HD HWB
  clear hb0 hsz0 hg hW1
  go_enter Tryd.func27, Tryd.ntmps27
  go_wp2_with fail
  clear hmk d0 d1 d2 d3
  go_loopg [4] n (fun r iv wq => ∃ (k : Nat) (h : Nat → Nat), r = n - k ∧ iv = .int .i64 k ∧ k ≤ n ∧ Hid (TP g wq g n T k h (fun _ _ => false)) ∧ Hid (Below g W0 wq))
  case atStart => exact ⟨0, fun _ => 0, rfl, rfl, Nat.zero_le _, HTP0, HB1⟩
  case round =>
    obtain ⟨k, h, rfl, rfl, hk, HTP, HB⟩ := hrel
    obtain ⟨d0, d1, d2, d3⟩ := HD.out wr HB.out
    by_cases hkn : k < n
    · have hki : (k : Int) < n := by omega
      have hk0 : 0 ≤ (k : Int) := by omega
      have hmk := makeBl wr T (by omega)
      have HT2 : Hid (TP g ((wr.alloc (.cells (List.replicate T (.bool false)).toArray 4)).setCell ⟨g, k, none⟩ (.slice (some ⟨wr.heap.size, 0, none⟩) T T)) g n T (k + 1) (fun i => if i = k then wr.heap.size else h i) (fun _ _ => false)) := HTP.out.row hkn (fun _ => rfl)
      have hba : Below wr.heap.size wr (wr.alloc (.cells (List.replicate T (.bool false)).toArray 4)) := bl1 _ _
      have HTA : Hid _ := HTP.out.below hba
      have HB2 : Hid (Below g W0 ((wr.alloc (.cells (List.replicate T (.bool false)).toArray 4)).setCell ⟨g, k, none⟩ (.slice (some ⟨wr.heap.size, 0, none⟩) T T))) := by
        have h1 := HB.out.trans (hba.mono (by rw [← HG.out]; exact HB.out.size))
        exact h1.setCell (Nat.le_refl _) _
      obtain ⟨u0, hu0⟩ := HTA.out.slot k hkn
      have hf0 := HTA.out.fro k
      obtain ⟨WA, hWA⟩ : ∃ WA, wr.alloc (.cells (List.replicate T (.bool false)).toArray 4) = WA := ⟨_, rfl⟩
      rw [hWA] at hmk HT2 HB2 hu0 hf0
      clear hWA hba HTA
      go_wp2_with fail
      go_roundg (n - (k + 1))
      case measure => omega
      case rel => exact ⟨k + 1, _, rfl, by go_num, by omega, HT2, HB2⟩
    · have hkk : n = k := by omega
      subst hkk
      have hki : ¬ (n : Int) < n := by omega
      have HHI : Hid (∀ i, i < n → h i < wr.heap.size) := fun i hi => (HTP.out.rg i hi).2.1
      go_wp2_with fail
      go_loopg [5, 6, 7, 8, 9, 10, 11] (F.cntF n T (fun _ _ => false) + 1) (fun r z5 z6 z7 z8 z9 z10 z11 wq => ∃ (m : Nat → Nat → Bool) (more : Bool), r = F.cntF n T m + (if more = true then 1 else 0) ∧ z5 = .bool more ∧ Hid (TP g wq g n T n h m) ∧ Hid (TI f n T m more 0 0 r) ∧ Hid (Below g W0 wq))
      case atStart => exact ⟨fun _ _ => false, true, rfl, rfl, HTP, ⟨fun i hi t ht e => (by cases e), Nat.le_refl _, fun e => (by cases e), fun e => (by cases e)⟩, HB⟩
      case round =>
        obtain ⟨m, more, rfl, rfl, HTP1, HTI, HB1⟩ := hrel
        cases more with
        | false =>
          have HLV : Hid (∀ i, i < n → ∀ t, t < T → (m i t = true ↔ F.Lv f i t)) := fun i hi t ht => F.closed_lv HMAY.out HT.out (by rw [HC.out]; exact HTI.out.sound) (fun i hi t ht => HTI.out.rows rfl i (Nat.zero_le _) (by rw [← HC.out]; exact hi) t ht) (by rw [HC.out]; exact hi) ht
          go_wp2_with fail
          go_ret
          exact (⟨g, h, m, rfl, ⟨by have := HTP1.out.ge; have := HS0.out; have := HG.out; omega, HTP1.out.lt, HTP1.out.fro, HTP1.out.slot, HTP1.out.rows, HTP1.out.cell, HTP1.out.rf, fun i hi => ⟨by have := (HTP1.out.rg i hi).1; have := HS0.out; have := HG.out; omega, (HTP1.out.rg i hi).2⟩, HTP1.out.inj⟩, HLV.out, HWB.out _ HB1.out⟩ : TabOut w f n T _ _)
        | true =>
        have HTI0 : Hid (TI f n T m false n 0 (F.cntF n T m)) := ⟨HTI.out.sound, Nat.le_refl _, fun _ i hi hn => (by omega), fun _ t ht => (by omega)⟩
        obtain ⟨d0, d1, d2, d3⟩ := HD.out wr HB1.out
        have HW4 : Hid (Below wr.heap.size wr wr) := Below.refl _ _
        obtain ⟨W4, hW4⟩ : ∃ q, q = wr := ⟨_, rfl⟩
        subst hW4
        go_wp2_with fail
        clear d0 d1 d2 d3
        go_loopg [5, 6, 7, 8, 9, 10, 11] n (fun r z5 z6 z7 z8 z9 z10 z11 wq => ∃ (p : Nat) (z : Int) (m' : Nat → Nat → Bool) (more : Bool), r = p ∧ z5 = .bool more ∧ z6 = .int .i64 z ∧ Hid (z = (p : Int) - 1) ∧ p ≤ n ∧ Hid (TP g wq g n T n h m') ∧ Hid (TI f n T m' more p 0 (F.cntF n T m)) ∧ Hid (Below g W0 wq))
        case atStart => exact ⟨n, (n : Int) - 1, m, false, rfl, rfl, rfl, rfl, Nat.le_refl _, HTP1, HTI0, HB1⟩
        case round =>
          obtain ⟨p, z, m', more, hgp, rfl, rfl, HZ, hp, HTP2, HTI2, HB2⟩ := hrel
          have HGP : Hid _ := hgp
          clear hgp
          cases p with
          | zero =>
            have hz : ¬ 0 ≤ z := by have := HZ.out; omega
            have HTI3 : Hid (TI f n T m' more 0 0 (F.cntF n T m' + (if more = true then 1 else 0))) := ⟨HTI2.out.sound, Nat.le_refl _, HTI2.out.rows, HTI2.out.here⟩
            have HLE : Hid (F.cntF n T m' + (if more = true then 1 else 0) ≤ F.cntF n T m) := HTI2.out.few
            go_wp2_with fail
            go_roundg (F.cntF n T m' + (if more = true then 1 else 0))
            case measure => have := HLE.out; first | omega | (simp only [if_true]; omega)
            case rel => exact ⟨m', more, rfl, rfl, HTP2, HTI3, HB2⟩
          | succ q =>
            have hz : z = (q : Int) := by have := HZ.out; omega
            subst hz
            clear HZ
            have hq0 : 0 ≤ (q : Int) := by omega
            have hqn : q < n := by omega
            have hqi : (q : Int) < n := by omega
            obtain ⟨d0, d1, d2, d3⟩ := HD.out wr HB2.out
            have hbe := HBEH.out wr q (HWB.out _ HB2.out) hqn
            obtain ⟨W3, hW3⟩ : ∃ q, q = wr := ⟨_, rfl⟩
            subst hW3
            have HH3 : Hid (∀ i, i < n → h i < W3.heap.size) := fun i hi => (HTP2.out.rg i hi).2.1
            go_wp2_with fail
            refine hbe.mono ?_
            rintro e y1 ⟨a2, c2, rfl, hn2, hb1, hp2⟩
            have HNX : Hid (NumV y1 a2 ((F.nxt (F.at_ f q) q).map Int.ofNat).length c2 ((F.nxt (F.at_ f q) q).map Int.ofNat)) := hn2
            have HY1 : Hid (Below W3.heap.size W3 y1) := hb1
            have HB3 : Hid (Below g W0 y1) := HB2.out.trans (hb1.mono (by rw [← HG.out]; exact HB2.out.size))
            have HP2 : Hid (∀ p, a2 = some p → W3.heap.size ≤ p.block) := hp2
            clear hbe hn2 hb1 hp2 d0 d1 d2 d3
            obtain ⟨d0, d1, d2, d3⟩ := HD.out y1 HB3.out
            obtain ⟨b, off, r1, hab, ho, ha1⟩ := (HO.out.below (HWB.out _ HB3.out)).at hqn
            subst hab
            have HARG : Hid ((F.at_ f q).args.length * 8 ≤ 140737488355328) := HSZ.out _ (by unfold F.at_; simp [List.getD, show q < f.code.length by rw [HC.out]; exact hqn])
            have hrd := rReads_any (w := y1) (F.at_ f q) r1 (HFI.out q hqn) ha1 HARG.out
            obtain ⟨o0, o1, o2, o3, o4, o5, o6, o7, o8⟩ := ho
            have hatq : f.code.getD q F.noOp = F.at_ f q := rfl
            rw [hatq] at o0 o1 o2 o3 o4 o5 o6 o8
            unfold opV at hrd
            obtain ⟨nx, hnx⟩ : ∃ nx, ((F.nxt (F.at_ f q) q).map Int.ofNat).length = nx := ⟨_, rfl⟩
            have HNL : Hid (((F.nxt (F.at_ f q) q).map Int.ofNat).length = nx) := hnx
            rw [hnx] at HNX
            rw [hnx]
            clear hnx ha1
            go_wp2_with fail
            refine hrd.mono ?_
            rintro e y2 ⟨a3, c3, rfl, hn3, hb2, hp3⟩
            have HNX2 : Hid (NumV y2 a2 nx c2 ((F.nxt (F.at_ f q) q).map Int.ofNat)) := HNX.out.below hb2
            have hnxr := HNX2.out.room
            have HB4 : Hid (Below g W0 y2) := HB3.out.trans (hb2.mono (by rw [← HG.out]; exact HB3.out.size))
            have HY2 : Hid (Below W3.heap.size W3 y2) := HY1.out.trans (hb2.mono HY1.out.size)
            have HP3 : Hid (∀ p, a3 = some p → W3.heap.size ≤ p.block) := fun p hp => Nat.le_trans HY1.out.size (hp3 p hp)
            obtain ⟨rx, hrx⟩ : ∃ rx, (F.rd (F.at_ f q)).length = rx := ⟨_, rfl⟩
            rw [hrx] at hn3
            rw [hrx]
            have HRD2 : Hid (NumV y2 a3 rx c3 (F.rd (F.at_ f q))) := hn3
            have HTP3 : Hid (TP g y2 g n T n h m') := HTP2.out.below HY2.out
            clear hrd hn3 hb2 hp3 hrx o0 o1 o2 o3 o4 o5 o6 o7 o8 d0 d1 d2 d3 hatq
            go_wp2_with fail
            go_loopg [5, 9, 10, 11] T (fun r z5 iv z10 z11 wq => ∃ (t : Nat) (m2 : Nat → Nat → Bool) (more2 : Bool), r = T - t ∧ z5 = .bool more2 ∧ iv = .int .i64 t ∧ t ≤ T ∧ Hid (TP g wq g n T n h m2) ∧ Hid (TI f n T m2 more2 (q + 1) t (F.cntF n T m)) ∧ Hid (Below g W0 wq) ∧ Hid (NumV wq a2 nx c2 ((F.nxt (F.at_ f q) q).map Int.ofNat)) ∧ Hid (NumV wq a3 rx c3 (F.rd (F.at_ f q))))
            case atStart => exact ⟨0, m', more, rfl, rfl, rfl, Nat.zero_le _, HTP3, HTI2, HB4, HNX2, HRD2⟩
            case round =>
              obtain ⟨t, m2, more2, rfl, rfl, rfl, ht, HTP4, HTI4, HB5, HNX3, HRD3⟩ := hrel
              obtain ⟨d0, d1, d2, d3⟩ := HD.out wr HB5.out
              by_cases htT : t < T
              · have hti : (t : Int) < T := by omega
                have ht0 : 0 ≤ (t : Int) := by omega
                have t1 := HTP4.out.rows q hqn
                have t2 := HTP4.out.cell q hqn t htT
                obtain ⟨bq, hbq⟩ : ∃ b, m2 q t = b := ⟨_, rfl⟩
                have HBQ : Hid (m2 q t = bq) := hbq
                rw [hbq] at t2
                clear hbq
                cases bq with
                | true =>
                  have HTI5 : Hid (TI f n T m2 more2 (q + 1) (t + 1) (F.cntF n T m)) := HTI4.out.go (.inl HBQ.out)
                  go_wp2_with fail
                  go_roundg (T - (t + 1))
                  case measure => omega
                  case rel => exact ⟨t + 1, m2, more2, rfl, rfl, by go_num, by omega, HTP4, HTI5, HB5, HNX3, HRD3⟩
                | false =>
                have hhas := rhas_any HRD3.out (t : Int)
                obtain ⟨b0, hb0⟩ : ∃ b0, decide ((t : Int) ∈ F.rd (F.at_ f q)) = b0 := ⟨_, rfl⟩
                have HB0 : Hid (b0 = F.hits f m2 q t 0) := by
                  show _ = _
                  rw [← hb0]
                  unfold F.hits
                  simp
                rw [hb0] at hhas
                obtain ⟨W5, hW5⟩ : ∃ q, q = wr := ⟨_, rfl⟩
                subst hW5
                clear hb0
                go_wp2_with fail
                refine hhas.mono ?_
                rintro e y ⟨rfl, hy⟩
                rw [hy]
                clear hy hhas t1 t2 d0 d1 d2 d3
                go_wp2_with fail
                go_loopg [10, 11] nx (fun r z10 iv wq => ∃ (k : Nat) (b : Bool), r = nx - k ∧ z10 = .bool b ∧ iv = .int .i64 k ∧ k ≤ nx ∧ Hid (b = F.hits f m2 q t k) ∧ Hid (Below W5.heap.size W5 wq))
                case atStart => exact ⟨0, b0, rfl, rfl, rfl, Nat.zero_le _, HB0, Below.refl _ _⟩
                case round =>
                  obtain ⟨k, b1, rfl, rfl, rfl, hk, HB1K, HBK⟩ := hrel
                  have HB6 : Hid (Below g W0 wr) := HB5.out.trans (HBK.out.mono (by rw [← HG.out]; exact HB5.out.size))
                  obtain ⟨d0, d1, d2, d3⟩ := HD.out wr HB6.out
                  have HTP5 : Hid (TP g wr g n T n h m2) := HTP4.out.below HBK.out
                  by_cases hkn : k < nx
                  · have hki : (k : Int) < nx := by omega
                    have hk0 : 0 ≤ (k : Int) := by omega
                    cases b1 with
                    | true =>
                      have HN2 : Hid (true = F.hits f m2 q t (k + 1)) := by show _ = _; rw [F.hits_succ, ← HB1K.out]; rfl
                      go_wp2_with fail
                      go_roundg (nx - (k + 1))
                      case measure => omega
                      case rel => exact ⟨k + 1, true, rfl, rfl, by go_num, by omega, HN2, HBK⟩
                    | false =>
                    obtain ⟨bn, on, hab2, cn⟩ := (HNX3.out.below HBK.out).at hkn
                    subst hab2
                    have HJ : Hid (((F.nxt (F.at_ f q) q).map Int.ofNat).getD k 0 = ((F.nxt (F.at_ f q) q).getD k 0 : Nat)) := by
                      show _ = _
                      simp only [List.getD, List.getElem?_map]
                      cases (F.nxt (F.at_ f q) q)[k]? <;> rfl
                    have HJN : Hid ((F.nxt (F.at_ f q) q).getD k 0 < n) := by
                      show _ < _
                      have hk' : k < (F.nxt (F.at_ f q) q).length := by
                        have := HNL.out
                        rw [List.length_map] at this
                        omega
                      rw [← HC.out]
                      exact F.nxt_in HMAY.out (by rw [HC.out]; exact hqn) _ (by simp [List.getD, hk'])
                    have HSU : Hid (F.hits f m2 q t (k + 1) = (false || (m2 ((F.nxt (F.at_ f q) q).getD k 0) t && decide (F.wr (F.at_ f q) ≠ (t : Int))))) := by show _ = _; rw [F.hits_succ, ← HB1K.out]
                    obtain ⟨jj, hjj⟩ : ∃ jj, (F.nxt (F.at_ f q) q).getD k 0 = jj := ⟨_, rfl⟩
                    rw [hjj] at HJ HJN HSU
                    rw [HJ.out] at cn
                    clear hjj
                    have hjn := HJN.out
                    have hji : (jj : Int) < n := by omega
                    have hj0 : 0 ≤ (jj : Int) := by omega
                    have t3 := HTP5.out.rows jj hjn
                    have t4 := HTP5.out.cell jj hjn t htT
                    obtain ⟨bj, hbj⟩ : ∃ b, m2 jj t = b := ⟨_, rfl⟩
                    rw [hbj] at t4 HSU
                    clear hbj
                    cases bj with
                    | false =>
                      have HN2 : Hid (false = F.hits f m2 q t (k + 1)) := by show _ = _; rw [HSU.out]; rfl
                      go_wp2_with fail
                      go_roundg (nx - (k + 1))
                      case measure => omega
                      case rel => exact ⟨k + 1, false, rfl, rfl, by go_num, by omega, HN2, HBK⟩
                    | true =>
                    obtain ⟨b2, off2, r2, hab3, ho2, -⟩ := (HO.out.below (HWB.out _ HB6.out)).at hqn
                    obtain ⟨o0, o1, o2, o3, o4, o5, o6, o7, o8⟩ := ho2
                    cases hab3
                    have hatq : f.code.getD q F.noOp = F.at_ f q := rfl
                    rw [hatq] at o0 o1 o2 o3 o4 o5 o6 o8
                    have hwr := rWrites_any (F.at_ f q) r2 wr
                    obtain ⟨wz, hwz⟩ : ∃ wz, F.wr (F.at_ f q) = wz := ⟨_, rfl⟩
                    rw [hwz] at hwr HSU
                    unfold opV at hwr
                    have HN2 : Hid ((wz != (t : Int)) = F.hits f m2 q t (k + 1)) := by
                      show _ = _
                      rw [HSU.out]
                      by_cases e : wz = (t : Int) <;> simp [e]
                    clear hwz hatq
                    go_wp2_with fail
                    refine hwr.mono ?_
                    rintro e y6 ⟨rfl, hy6⟩
                    have HBK2 : Hid (Below W5.heap.size W5 y6) := HBK.out.trans (hy6.mono HBK.out.size)
                    clear hwr hy6
                    go_wp2_with fail
                    go_roundg (nx - (k + 1))
                    case measure => omega
                    case rel => exact ⟨k + 1, wz != (t : Int), rfl, rfl, by go_num, by omega, HN2, HBK2⟩
                  · have hkk : ¬ (k : Int) < nx := by omega
                    have hknx : k = nx := by omega
                    have HHN : Hid (b1 = F.hits f m2 q t (F.nxt (F.at_ f q) q).length) := by
                      show _ = _
                      rw [HB1K.out, hknx, ← HNL.out, List.length_map]
                    have HNX4 : Hid (NumV wr a2 nx c2 ((F.nxt (F.at_ f q) q).map Int.ofNat)) := HNX3.out.below HBK.out
                    have HRD4 : Hid (NumV wr a3 rx c3 (F.rd (F.at_ f q))) := HRD3.out.below HBK.out
                    clear hknx
                    cases b1 with
                    | false =>
                      have HTI5 : Hid (TI f n T m2 more2 (q + 1) (t + 1) (F.cntF n T m)) := HTI4.out.go (.inr HHN.out.symm)
                      go_wp2_with fail
                      go_roundg (T - (t + 1))
                      case measure => omega
                      case rel => exact ⟨t + 1, m2, more2, rfl, rfl, by go_num, by omega, HTP5, HTI5, HB6, HNX4, HRD4⟩
                    | true =>
                      have HLVT : Hid (F.Lv f q t) := F.hits_lv HMAY.out HT.out (by rw [HC.out]; exact HTI4.out.sound) (by rw [HC.out]; exact hqn) htT HHN.out.symm
                      have HTI5 : Hid (TI f n T (F.upd2 m2 q t) true (q + 1) (t + 1) (F.cntF n T m)) := HTI4.out.put (by omega) (by omega) htT HBQ.out HLVT.out
                      have HTP6 : Hid (TP g (wr.setCell ⟨h q, t, none⟩ (.bool true)) g n T n h (F.upd2 m2 q t)) := HTP5.out.set hqn htT
                      have HB7 : Hid (Below g W0 (wr.setCell ⟨h q, t, none⟩ (.bool true))) := HB6.out.setCell (HTP5.out.rg q hqn).1 _
                      have HNX5 : Hid (NumV (wr.setCell ⟨h q, t, none⟩ (.bool true)) a2 nx c2 ((F.nxt (F.at_ f q) q).map Int.ofNat)) := HNX4.out.far (fun p hp => by have h1 := HP2.out p hp; have h2 := HH3.out q hqn; omega) _
                      have HRD5 : Hid (NumV (wr.setCell ⟨h q, t, none⟩ (.bool true)) a3 rx c3 (F.rd (F.at_ f q))) := HRD4.out.far (fun p hp => by have h1 := HP3.out p hp; have h2 := HH3.out q hqn; omega) _
                      have t3 := HTP5.out.rows q hqn
                      have t4 := HTP5.out.cell q hqn t htT
                      have t5 := HTP5.out.rf q hqn t
                      go_wp2_with fail
                      go_roundg (T - (t + 1))
                      case measure => omega
                      case rel => exact ⟨t + 1, F.upd2 m2 q t, true, rfl, rfl, by go_num, by omega, HTP6, HTI5, HB7, HNX5, HRD5⟩
              · have htt : ¬ (t : Int) < T := by omega
                have htT2 : t = T := by omega
                have HTI5 : Hid (TI f n T m2 more2 q 0 (F.cntF n T m)) := (by
                  have := HTI4.out
                  rw [htT2] at this
                  exact this.next (by omega))
                clear htT2
                go_wp2_with fail
                go_roundg q
                case measure => have := HGP.out; omega
                case rel => exact ⟨q, (q : Int) - 1, m2, more2, rfl, rfl, by go_num, rfl, by omega, HTP4, HTI5, HB5⟩
end Go.Proofs.YtljgpngbkmembaaDoor

/- Lists of lists of temps, as they are made, and as they lie. -/
namespace Go.Proofs.YtljgpngbkmembaaDoor
open Go.RowKit Go.Maps
set_option linter.unusedVariables false
set_option linter.unusedSimpArgs false
namespace F
def goesTo (f : Fn) (tab : Nat → Nat → Bool) (i t k : Nat) : Bool := (List.range k).any fun q => tab ((nxt (at_ f i) i).getD q 0) t
theorem goesTo_succ (f : Fn) (tab : Nat → Nat → Bool) (i t k : Nat) : goesTo f tab i t (k + 1) = (goesTo f tab i t k || tab ((nxt (at_ f i) i).getD k 0) t) := by
  unfold goesTo
  rw [List.range_succ, List.any_append]
  simp
/-- The temps that are live behind a place, of the first so many. -/
def outs (f : Fn) (tab : Nat → Nat → Bool) (i T : Nat) : List Int := ((List.range T).filter fun t => goesTo f tab i t (nxt (at_ f i) i).length).map Int.ofNat
def firsts (tab : Nat → Nat → Bool) (T : Nat) : List Int := ((List.range T).filter fun t => tab 0 t).map Int.ofNat
theorem outs_succ (f : Fn) (tab : Nat → Nat → Bool) (i T : Nat) : outs f tab i (T + 1) = if goesTo f tab i T (nxt (at_ f i) i).length = true then outs f tab i T ++ [(T : Int)] else outs f tab i T := by
  unfold outs
  rw [List.range_succ, List.filter_append, List.map_append]
  split
  · next h => simp [h]
  · next h => simp [h]
theorem firsts_succ (tab : Nat → Nat → Bool) (T : Nat) : firsts tab (T + 1) = if tab 0 T = true then firsts tab T ++ [(T : Int)] else firsts tab T := by
  unfold firsts
  rw [List.range_succ, List.filter_append, List.map_append]
  split
  · next h => simp [h]
  · next h => simp [h]
theorem outs_len (f : Fn) (tab : Nat → Nat → Bool) (i T : Nat) : (outs f tab i T).length ≤ T := by
  unfold outs
  rw [List.length_map]
  have := List.length_filter_le (fun t => goesTo f tab i t (nxt (at_ f i) i).length) (List.range T)
  rwa [List.length_range] at this
theorem firsts_len (tab : Nat → Nat → Bool) (T : Nat) : (firsts tab T).length ≤ T := by
  unfold firsts
  rw [List.length_map]
  have := List.length_filter_le (fun t => tab 0 t) (List.range T)
  rwa [List.length_range] at this
theorem outs_fit (f : Fn) (tab : Nat → Nat → Bool) (i : Nat) {T : Nat} (hT : T ≤ 400) : ∀ z ∈ outs f tab i T, (Lit.int .i64 z).wf = true := by
  intro z hz
  unfold outs at hz
  obtain ⟨t, ht, rfl⟩ := List.mem_map.1 hz
  have := List.mem_range.1 (List.mem_filter.1 ht).1
  show (decide (IntKind.i64.min ≤ (t : Int)) && decide ((t : Int) ≤ IntKind.i64.max)) = true
  have e1 : IntKind.i64.min = -9223372036854775808 := by decide
  have e2 : IntKind.i64.max = 9223372036854775807 := by decide
  rw [e1, e2, Bool.and_eq_true, decide_eq_true_eq, decide_eq_true_eq]
  omega
theorem firsts_fit (tab : Nat → Nat → Bool) {T : Nat} (hT : T ≤ 400) : ∀ z ∈ firsts tab T, (Lit.int .i64 z).wf = true := by
  intro z hz
  unfold firsts at hz
  obtain ⟨t, ht, rfl⟩ := List.mem_map.1 hz
  have := List.mem_range.1 (List.mem_filter.1 ht).1
  show (decide (IntKind.i64.min ≤ (t : Int)) && decide ((t : Int) ≤ IntKind.i64.max)) = true
  have e1 : IntKind.i64.min = -9223372036854775808 := by decide
  have e2 : IntKind.i64.max = 9223372036854775807 := by decide
  rw [e1, e2, Bool.and_eq_true, decide_eq_true_eq, decide_eq_true_eq]
  omega
end F
/-- Lists, as they lie. -/
structure LsV (w : World) (a : Option Addr) (n c : Nat) (ls : List (List Int)) : Prop where
  count : ls.length = n
  room : n ≤ c ∧ c ≤ maxLen
  cells : n = 0 ∨ ∃ b off, a = some ⟨b, off, none⟩ ∧ ∀ i, i < n → ∃ ai ci, w.cell? ⟨b, off + i, none⟩ = some (.slice ai (ls.getD i []).length ci) ∧ NumV w ai (ls.getD i []).length ci (ls.getD i [])
theorem LsV.sub {w y : World} {a : Option Addr} {n c : Nat} {ls : List (List Int)} (h : LsV w a n c ls) (hs : Sub w y) : LsV y a n c ls :=
  ⟨h.count, h.room, h.cells.imp id fun ⟨b, off, e, hc⟩ => ⟨b, off, e, fun i hi => by
    obtain ⟨ai, ci, h1, h2⟩ := hc i hi
    exact ⟨ai, ci, hs _ _ _ h1, h2.sub hs⟩⟩⟩
theorem LsV.below {w y : World} {a : Option Addr} {n c : Nat} {ls : List (List Int)} (h : LsV w a n c ls) (hb : Below w.heap.size w y) : LsV y a n c ls := h.sub (below_sub hb)
theorem LsV.at {w : World} {a : Option Addr} {n c : Nat} {ls : List (List Int)} (h : LsV w a n c ls) {i : Nat} (hi : i < n) : ∃ b off ai ci, a = some ⟨b, off, none⟩ ∧ w.cell? ⟨b, off + i, none⟩ = some (.slice ai (ls.getD i []).length ci) ∧ NumV w ai (ls.getD i []).length ci (ls.getD i []) := by
  rcases h.cells with h0 | ⟨b, off, e, hc⟩
  · omega
  · obtain ⟨ai, ci, h1, h2⟩ := hc i hi
    exact ⟨b, off, ai, ci, e, h1, h2⟩
/-- A row of lists of one's own, while it grows. -/
structure LI (B : Nat) (W : World) (ov : Value) (ls : List (List Int)) : Prop where
  rows : ∃ vs, W.ownsRow B 30 1 ov ls.length vs ∧ ∀ k, k < ls.length → ∃ ai ci, vs[k]? = some (.slice ai (ls.getD k []).length ci) ∧ NumV W ai (ls.getD k []).length ci (ls.getD k []) ∧ ∀ p, ai = some p → p.block < W.heap.size ∧ ov.ownBlock ≠ some p.block
variable {B : Nat} {W y : World} {ov : Value} {ls : List (List Int)}
theorem LI.nil (B : Nat) (W : World) : LI B W (.slice none 0 0) [] := ⟨⟨[], World.ownsRow_nil _ _ _ _, fun k hk => by simp at hk⟩⟩
theorem LI.below (h : LI B W ov ls) (hb : Below W.heap.size W y) : LI B y ov ls := by
  obtain ⟨vs, h1, h2⟩ := h.rows
  refine ⟨⟨vs, row_below h1 hb, fun k hk => ?_⟩⟩
  obtain ⟨ai, ci, h3, h4, h5⟩ := h2 k hk
  exact ⟨ai, ci, h3, h4.below hb, fun p hp => ⟨Nat.lt_of_lt_of_le (h5 p hp).1 hb.size, (h5 p hp).2⟩⟩
theorem LI.push (h : LI B W ov ls) {al : Option Addr} {cl : Nat} {l : List Int} (hl : NumV W al l.length cl l) (hfar : ∀ p, al = some p → p.block < W.heap.size ∧ ov.ownBlock ≠ some p.block) {vs : List Value} {g cp : Nat} (hvs : W.ownsRow B 30 1 ov ls.length vs) (ho : y.ownsRow B 30 1 (.slice (some ⟨g, 0, none⟩) (ls.length + 1) cp) (ls.length + 1) (vs ++ [.slice al l.length cl])) (hg : W.grownBy y ov.ownBlock) (hat : ov.ownBlock = some g ∨ g = W.heap.size)
    (hin : ∀ k, k < ls.length → ∃ ai ci, vs[k]? = some (.slice ai (ls.getD k []).length ci) ∧ NumV W ai (ls.getD k []).length ci (ls.getD k []) ∧ ∀ p, ai = some p → p.block < W.heap.size ∧ ov.ownBlock ≠ some p.block) :
    LI B y (.slice (some ⟨g, 0, none⟩) (ls.length + 1) cp) (ls ++ [l]) := by
  have hvl : vs.length = ls.length := by have := hvs.1; simpa using this
  have mv : ∀ {ai : Option Addr} {ci n : Nat} {zs : List Int}, NumV W ai n ci zs → (∀ p, ai = some p → p.block < W.heap.size ∧ ov.ownBlock ≠ some p.block) → NumV y ai n ci zs := fun {ai ci n zs} hn hp => ⟨hn.count, hn.fits, hn.nilOf, hn.room, hn.cells.imp id fun ⟨b, off, e, hc⟩ => ⟨b, off, e, fun i hi => (World.cell?_of_block (a := ⟨b, off + i, none⟩) (hg.block b (hp ⟨b, off, none⟩ e).1 (Ne.symm (hp ⟨b, off, none⟩ e).2))).trans (hc i hi)⟩⟩
  have fr : ∀ {ai : Option Addr}, (∀ p, ai = some p → p.block < W.heap.size ∧ ov.ownBlock ≠ some p.block) → ∀ p, ai = some p → p.block < y.heap.size ∧ (Value.slice (some ⟨g, 0, none⟩) (ls.length + 1) cp).ownBlock ≠ some p.block := fun {ai} hp p e => by
    obtain ⟨h1, h2⟩ := hp p e
    refine ⟨Nat.lt_of_lt_of_le h1 hg.size, fun e2 => ?_⟩
    have e3 : g = p.block := by simpa [Value.ownBlock] using e2
    rcases hat with e4 | e4
    · rw [e3] at e4; exact h2 e4
    · omega
  refine ⟨⟨vs ++ [.slice al l.length cl], by rw [List.length_append]; exact ho, fun k hk => ?_⟩⟩
  rw [List.length_append, List.length_singleton] at hk
  by_cases e : k = ls.length
  · subst e
    have e1 : (ls ++ [l]).getD ls.length [] = l := by simp [List.getD]
    rw [e1]
    exact ⟨al, cl, by rw [← hvl]; simp, mv hl hfar, fr hfar⟩
  · have e1 : (ls ++ [l]).getD k [] = ls.getD k [] := by simp only [List.getD]; rw [List.getElem?_append_left (by omega)]
    rw [e1]
    obtain ⟨ai, ci, h3, h4, h5⟩ := hin k (by omega)
    exact ⟨ai, ci, by rw [List.getElem?_append_left (by omega)]; exact h3, mv h4 h5, fr h5⟩
theorem LI.form (h : LI B W ov ls) : ∃ a c, ov = .slice a ls.length c ∧ ls.length ≤ c ∧ c ≤ maxLen := by
  obtain ⟨vs, h1, -⟩ := h.rows
  rcases h1.2 with ⟨e, e2⟩ | ⟨g, cap, cur, e, -⟩
  · exact ⟨none, 0, by rw [e, e2], by omega, by unfold maxLen; omega⟩
  · subst e
    have := row_room h1
    exact ⟨_, cap, rfl, this.1, this.2⟩
theorem LI.far (h : LI B W ov ls) : ∀ g, ov.ownBlock = some g → B ≤ g ∧ g < W.heap.size := fun g hg => by
  obtain ⟨vs, h1, -⟩ := h.rows
  exact h1.lt g hg
theorem LI.view {a : Option Addr} {c n : Nat} (h : LI B W (.slice a n c) ls) (hn : ls.length = n) : LsV W a n c ls := by
  obtain ⟨vs, h1, h2⟩ := h.rows
  rw [hn] at h1
  have hrm := row_room h1
  refine ⟨hn, hrm, ?_⟩
  rcases h1.2 with ⟨e, e2⟩ | ⟨g, cap, cur, e, -⟩
  · exact .inl e2
  · simp only [Value.slice.injEq] at e
    obtain ⟨rfl, -, rfl⟩ := e
    refine .inr ⟨g, 0, rfl, fun i hi => ?_⟩
    obtain ⟨ai, ci, h3, h4, -⟩ := h2 i (by omega)
    refine ⟨ai, ci, ?_, h4⟩
    rw [Nat.zero_add, h1.cellAt i (by omega)]
    exact h3
end Go.Proofs.YtljgpngbkmembaaDoor

/- The document's May: may a function be? -/
namespace Go.Proofs.YtljgpngbkmembaaDoor
open Go.RowKit Go.Maps
set_option linter.unusedVariables false
set_option linter.unusedSimpArgs false
def headB (params T : Int) (l : Nat) : Bool := decide (0 ≤ params) && (decide (params ≤ T) && (decide (T ≤ 400) && (decide (1 ≤ l) && decide (l ≤ 20000))))
set_option maxRecDepth 100000 in
set_option maxHeartbeats 8000000 in
theorem rMay_any {w : World} {f : F.Fn} {a : Option Addr} {l c : Nat} (h : OpsV w a l c f.code) : Calls Tryd.prog 17 #[fnV f a l c] w fun e w' => e = .returned (.bool (F.mayF f)) ∧ Below w.heap.size w w' := by
  have hmax : maxLen = 9223372036854775807 := rfl
  have HO : Hid (OpsV w a l c f.code) := h
  have HC : Hid (f.code.length = l) := h.count
  have hrm := h.room
  obtain ⟨R, hR⟩ : ∃ R, F.mayF f = R := ⟨_, rfl⟩
  have HR : Hid (R = (F.headOk f && ((List.range l).all (fun i => F.opOk f.temps l (F.at_ f i)) && !(F.falls (F.at_ f (l - 1)))))) := by show _ = _; rw [← hR, ← HC.out]; rfl
  have HHD : Hid (F.headOk f = headB f.params f.temps l) := by show _ = _; rw [← HC.out]; rfl
  rw [hR]
  clear h hR
  have HOP : Hid (∀ W x r, NumV W r.a r.l r.c x.args → Calls Tryd.prog 32 #[fnV f a l c, opV x r] W fun e w' => e = .returned (.bool (F.opOk f.temps l x)) ∧ Below W.heap.size W w') := fun W x r hr => rop_any x r hrm hr
  obtain ⟨nm0, hnm0⟩ : ∃ q, f.name = q := ⟨_, rfl⟩
  obtain ⟨params, hpar⟩ : ∃ q, f.params = q := ⟨_, rfl⟩
  obtain ⟨T, htm⟩ : ∃ q, f.temps = q := ⟨_, rfl⟩
  unfold fnV at HOP ⊢
  rw [hnm0, hpar, htm] at HOP ⊢
  rw [hpar, htm] at HHD
  rw [htm] at HR
  clear hnm0 hpar htm
  have HB : Hid (Below w.heap.size w (w.alloc (.cells #[.string nm0, .int .i64 params, .int .i64 T, .slice a l c] 24))) := bl1 _ _
  have HBAD : Hid (headB params T l = false → R = false) := fun e => by rw [HR.out, HHD.out, e]; rfl
  by_cases h1 : params < 0
  · have HRF := HBAD.out (by unfold headB; rw [decide_eq_false (by omega : ¬ 0 ≤ params)]; rfl)
    subst HRF
    go_enter Tryd.func17, Tryd.ntmps17
    go_wp2_with fail
    go_ret
    exact ⟨rfl, HB.out⟩
  by_cases h2 : T < params
  · have HRF := HBAD.out (by unfold headB; rw [decide_eq_false (by omega : ¬ params ≤ T)]; simp)
    subst HRF
    go_enter Tryd.func17, Tryd.ntmps17
    go_wp2_with fail
    go_ret
    exact ⟨rfl, HB.out⟩
  by_cases h3 : 400 < T
  · have HRF := HBAD.out (by unfold headB; rw [decide_eq_false (by omega : ¬ T ≤ 400)]; simp)
    subst HRF
    go_enter Tryd.func17, Tryd.ntmps17
    go_wp2_with fail
    go_ret
    exact ⟨rfl, HB.out⟩
  by_cases h4 : l < 1
  · have h4i : (l : Int) < 1 := by omega
    have HRF := HBAD.out (by unfold headB; rw [decide_eq_false (by omega : ¬ 1 ≤ l)]; simp)
    subst HRF
    go_enter Tryd.func17, Tryd.ntmps17
    go_wp2_with fail
    go_ret
    exact ⟨rfl, HB.out⟩
  have h4i : ¬ (l : Int) < 1 := by omega
  by_cases h5 : 20000 < l
  · have h5i : (20000 : Int) < l := by omega
    have HRF := HBAD.out (by unfold headB; rw [decide_eq_false (by omega : ¬ l ≤ 20000)]; simp)
    subst HRF
    go_enter Tryd.func17, Tryd.ntmps17
    go_wp2_with fail
    go_ret
    exact ⟨rfl, HB.out⟩
  have h5i : ¬ (20000 : Int) < l := by omega
  have HGOOD : Hid (R = ((List.range l).all (fun i => F.opOk T l (F.at_ f i)) && !(F.falls (F.at_ f (l - 1))))) := by
    show _ = _
    rw [HR.out, HHD.out]
    unfold headB
    rw [decide_eq_true (by omega : 0 ≤ params), decide_eq_true (by omega : params ≤ T), decide_eq_true (by omega : T ≤ 400), decide_eq_true (by omega : 1 ≤ l), decide_eq_true (by omega : l ≤ 20000)]
    rfl
  clear HBAD HR HHD
  obtain ⟨b, off, r0, hab, -, -⟩ := HO.out.at (i := 0) (by omega)
  subst hab
  obtain ⟨W0, hW0⟩ : ∃ W0, w.alloc (.cells #[.string nm0, .int .i64 params, .int .i64 T, .slice (some ⟨b, off, none⟩) l c] 24) = W0 := ⟨_, rfl⟩
  have HB0 : Hid (Below w.heap.size w W0) := by show Below _ _ _; rw [← hW0]; exact bl1 _ _
  have d0 : W0.cell? ⟨w.heap.size, 0, none⟩ = some (.string nm0) := by rw [← hW0]; exact ncell_at rfl
  have d1 : W0.cell? ⟨w.heap.size, 1, none⟩ = some (.int .i64 params) := by rw [← hW0]; exact ncell_at rfl
  have d2 : W0.cell? ⟨w.heap.size, 2, none⟩ = some (.int .i64 T) := by rw [← hW0]; exact ncell_at rfl
  have d3 : W0.cell? ⟨w.heap.size, 3, none⟩ = some (.slice (some ⟨b, off, none⟩) l c) := by rw [← hW0]; exact ncell_at rfl
  have HD : Hid (∀ y, Below W0.heap.size W0 y → (y.cell? ⟨w.heap.size, 0, none⟩ = some (.string nm0) ∧ y.cell? ⟨w.heap.size, 1, none⟩ = some (.int .i64 params) ∧ y.cell? ⟨w.heap.size, 2, none⟩ = some (.int .i64 T) ∧ y.cell? ⟨w.heap.size, 3, none⟩ = some (.slice (some ⟨b, off, none⟩) l c))) := fun y hy => ⟨cell_thru hy d0, cell_thru hy d1, cell_thru hy d2, cell_thru hy d3⟩
  go_enter Tryd.func17, Tryd.ntmps17
  go_wp2_with fail
  clear d0 d1 d2 d3 hW0 HB
  go_loopg [3, 4] l (fun g iv z4 wq => ∃ (i : Nat), g = l - i ∧ iv = .int .i64 i ∧ i ≤ l ∧ Hid (∀ k, k < i → F.opOk T l (F.at_ f k) = true) ∧ Hid (Below W0.heap.size W0 wq))
  case atStart => exact ⟨0, rfl, rfl, Nat.zero_le _, (fun i hi => by omega : ∀ k, k < 0 → F.opOk T l (F.at_ f k) = true), Below.refl _ _⟩
  case round =>
    obtain ⟨i, rfl, rfl, hi, HAL, HBI⟩ := hrel
    have HBW : Hid (Below w.heap.size w wr) := HB0.out.trans (HBI.out.mono HB0.out.size)
    obtain ⟨d0, d1, d2, d3⟩ := HD.out wr HBI.out
    by_cases hil : i < l
    · have hii : (i : Int) < l := by omega
      have hi0 : 0 ≤ (i : Int) := by omega
      obtain ⟨b', off', r, e, ho, ha⟩ := (HO.out.below HBW.out).at hil
      cases e
      have hop := HOP.out wr.drew (F.at_ f i) r (ha.sub (Sub.drew wr))
      have HNX : Hid (F.opOk T l (F.at_ f i) = true → ∀ k, k < i + 1 → F.opOk T l (F.at_ f k) = true) := fun e k hk => by
        by_cases e2 : k = i
        · subst e2; exact e
        · exact HAL.out k (by omega)
      have HNO : Hid (F.opOk T l (F.at_ f i) = false → R = false) := fun e => by rw [HGOOD.out, F.all_range_no hil e]; rfl
      obtain ⟨ok, hok⟩ : ∃ ok, F.opOk T l (F.at_ f i) = ok := ⟨_, rfl⟩
      rw [hok] at hop HNX HNO
      have hatq : f.code.getD i F.noOp = F.at_ f i := rfl
      rw [hatq] at ho
      obtain ⟨x, hx⟩ : ∃ x, F.at_ f i = x := ⟨_, rfl⟩
      rw [hx] at ho hop
      clear hok hatq hx ha
      obtain ⟨xop, xwhat, xnm, xd, xa, xb, xn, xargs, xdest⟩ := x
      obtain ⟨xra, xrl, xrc⟩ := r
      obtain ⟨o0, o1, o2, o3, o4, o5, o6, o7, o8⟩ := ho
      simp only at o0 o1 o2 o3 o4 o5 o6 o7 o8
      unfold opV at hop
      simp only at hop
      have HS : Hid ((wr.drew.cell? ⟨w.heap.size, 0, none⟩ = some (.string nm0) ∧ wr.drew.cell? ⟨w.heap.size, 1, none⟩ = some (.int .i64 params) ∧ wr.drew.cell? ⟨w.heap.size, 2, none⟩ = some (.int .i64 T) ∧ wr.drew.cell? ⟨w.heap.size, 3, none⟩ = some (.slice (some ⟨b, off, none⟩) l c)) ∧ wr.drew.cell? ⟨b, off + i * 9, none⟩ = some (.int .i64 xop) ∧ wr.drew.cell? ⟨b, off + i * 9 + 1, none⟩ = some (.int .i64 xwhat) ∧ wr.drew.cell? ⟨b, off + i * 9 + 2, none⟩ = some (.string xnm) ∧ wr.drew.cell? ⟨b, off + i * 9 + 3, none⟩ = some (.int .i64 xd) ∧ wr.drew.cell? ⟨b, off + i * 9 + 4, none⟩ = some (.int .i64 xa) ∧ wr.drew.cell? ⟨b, off + i * 9 + 5, none⟩ = some (.int .i64 xb) ∧ wr.drew.cell? ⟨b, off + i * 9 + 6, none⟩ = some (.int .i64 xn) ∧ wr.drew.cell? ⟨b, off + i * 9 + 7, none⟩ = some (.slice xra xrl xrc) ∧ wr.drew.cell? ⟨b, off + i * 9 + 8, none⟩ = some (.int .i64 xdest)) := by
        simp only [World.cell?_drew]
        exact ⟨⟨d0, d1, d2, d3⟩, o0, o1, o2, o3, o4, o5, o6, o7, o8⟩
      have HKEEP : Hid (∀ y, Below wr.drew.heap.size wr.drew y → (y.cell? ⟨w.heap.size, 0, none⟩ = some (.string nm0) ∧ y.cell? ⟨w.heap.size, 1, none⟩ = some (.int .i64 params) ∧ y.cell? ⟨w.heap.size, 2, none⟩ = some (.int .i64 T) ∧ y.cell? ⟨w.heap.size, 3, none⟩ = some (.slice (some ⟨b, off, none⟩) l c)) ∧ y.cell? ⟨b, off + i * 9, none⟩ = some (.int .i64 xop) ∧ y.cell? ⟨b, off + i * 9 + 1, none⟩ = some (.int .i64 xwhat) ∧ y.cell? ⟨b, off + i * 9 + 2, none⟩ = some (.string xnm) ∧ y.cell? ⟨b, off + i * 9 + 3, none⟩ = some (.int .i64 xd) ∧ y.cell? ⟨b, off + i * 9 + 4, none⟩ = some (.int .i64 xa) ∧ y.cell? ⟨b, off + i * 9 + 5, none⟩ = some (.int .i64 xb) ∧ y.cell? ⟨b, off + i * 9 + 6, none⟩ = some (.int .i64 xn) ∧ y.cell? ⟨b, off + i * 9 + 7, none⟩ = some (.slice xra xrl xrc) ∧ y.cell? ⟨b, off + i * 9 + 8, none⟩ = some (.int .i64 xdest)) := fun y hy => by
        obtain ⟨⟨a0, a1, a2, a3⟩, c0, c1, c2, c3, c4, c5, c6, c7, c8⟩ := HS.out
        exact ⟨⟨cell_thru hy a0, cell_thru hy a1, cell_thru hy a2, cell_thru hy a3⟩, cell_thru hy c0, cell_thru hy c1, cell_thru hy c2, cell_thru hy c3, cell_thru hy c4, cell_thru hy c5, cell_thru hy c6, cell_thru hy c7, cell_thru hy c8⟩
      clear o0 o1 o2 o3 o4 o5 o6 o7 o8 d0 d1 d2
      go_wp2_with fail
      refine wp_region_held_drew (S := (fun w' : World => (w'.cell? ⟨w.heap.size, 0, none⟩ = some (.string nm0) ∧ w'.cell? ⟨w.heap.size, 1, none⟩ = some (.int .i64 params) ∧ w'.cell? ⟨w.heap.size, 2, none⟩ = some (.int .i64 T) ∧ w'.cell? ⟨w.heap.size, 3, none⟩ = some (.slice (some ⟨b, off, none⟩) l c)) ∧ w'.cell? ⟨b, off + i * 9, none⟩ = some (.int .i64 xop) ∧ w'.cell? ⟨b, off + i * 9 + 1, none⟩ = some (.int .i64 xwhat) ∧ w'.cell? ⟨b, off + i * 9 + 2, none⟩ = some (.string xnm) ∧ w'.cell? ⟨b, off + i * 9 + 3, none⟩ = some (.int .i64 xd) ∧ w'.cell? ⟨b, off + i * 9 + 4, none⟩ = some (.int .i64 xa) ∧ w'.cell? ⟨b, off + i * 9 + 5, none⟩ = some (.int .i64 xb) ∧ w'.cell? ⟨b, off + i * 9 + 6, none⟩ = some (.int .i64 xn) ∧ w'.cell? ⟨b, off + i * 9 + 7, none⟩ = some (.slice xra xrl xrc) ∧ w'.cell? ⟨b, off + i * 9 + 8, none⟩ = some (.int .i64 xdest))) (by kernel_rfl) HS.out (fun hHeld => ?_)
      refine tk (i := 0) (v := ?_) (tA rfl) (by kernel_rfl) (fun _ _ _ h => h) (Or.inl ⟨by rfl, ?_⟩) (by assumption) ?_
      rotate_left
      · (intro w hSw; (try dsimp only at hSw); go_simp <;> with_reducible rfl)
      simp only [Act.put, List.setIfInBounds_toArray, List.set_cons_zero, List.set_cons_succ]
      refine tk (i := 1) (v := ?_) (tA rfl) (by kernel_rfl) (fun _ _ _ h => h) (Or.inl ⟨by rfl, ?_⟩) (by assumption) ?_
      rotate_left
      · (intro w hSw; (try dsimp only at hSw); go_simp <;> with_reducible rfl)
      simp only [Act.put, List.setIfInBounds_toArray, List.set_cons_zero, List.set_cons_succ]
      refine tk (i := 2) (v := ?_) (tA rfl) (by kernel_rfl) (fun _ _ _ h => h) (Or.inl ⟨by rfl, ?_⟩) (by assumption) ?_
      rotate_left
      · (intro w hSw; (try dsimp only at hSw); go_simp <;> with_reducible rfl)
      simp only [Act.put, List.setIfInBounds_toArray, List.set_cons_zero, List.set_cons_succ]
      refine tk (i := 3) (v := ?_) (tA rfl) (by kernel_rfl) (fun _ _ _ h => h) (Or.inl ⟨by rfl, ?_⟩) (by assumption) ?_
      rotate_left
      · (intro w hSw; (try dsimp only at hSw); go_simp <;> with_reducible rfl)
      simp only [Act.put, List.setIfInBounds_toArray, List.set_cons_zero, List.set_cons_succ]
      refine tk (i := 4) (v := ?_) (tA rfl) (by kernel_rfl) (fun _ _ _ h => h) (Or.inl ⟨by rfl, ?_⟩) (by assumption) ?_
      rotate_left
      · (intro w hSw; (try dsimp only at hSw); go_simp <;> with_reducible rfl)
      simp only [Act.put, List.setIfInBounds_toArray, List.set_cons_zero, List.set_cons_succ]
      refine tk (i := 5) (v := ?_) (tA rfl) (by kernel_rfl) (fun _ _ _ h => h) (Or.inl ⟨by rfl, ?_⟩) (by assumption) ?_
      rotate_left
      · (intro w hSw; (try dsimp only at hSw); go_simp <;> with_reducible rfl)
      simp only [Act.put, List.setIfInBounds_toArray, List.set_cons_zero, List.set_cons_succ]
      refine wpAnyH_ready (rs := [6]) (by kernel_rfl) (by simp) ?_
      refine AllReadyH.cons (tA rfl) (fun K hK => ?_) AllReadyH.nil
      go_simp
      refine hop.mono ?_
      rintro e y ⟨rfl, hy⟩
      have HY : Hid (Below wr.heap.size wr y) := (Below.refl _ _).drew.trans hy
      have HS2 : Hid _ := HKEEP.out y hy
      clear hy hop
      try go_wp2_with fail
      refine hK.out _ _ HS2.out (fun hHeld => ?_)
      clear hK K
      try simp only [Act.put, List.setIfInBounds_toArray, List.set_cons_zero, List.set_cons_succ]
      refine tk (i := 7) (v := ?_) (tA rfl) (by kernel_rfl) (fun _ _ _ h => h) (Or.inl ⟨by rfl, ?_⟩) (by assumption) ?_
      rotate_left
      · (intro w hSw; (try dsimp only at hSw); go_simp <;> with_reducible rfl)
      simp only [Act.put, List.setIfInBounds_toArray, List.set_cons_zero, List.set_cons_succ]
      refine wpAnyH_done (by kernel_rfl) ?_ _
      clear hHeld
      have HBI2 : Hid (Below W0.heap.size W0 y) := HBI.out.trans (HY.out.mono HBI.out.size)
      have HBW2 : Hid (Below w.heap.size w y) := HBW.out.trans (HY.out.mono HBW.out.size)
      cases ok with
      | false =>
        have HRF := HNO.out rfl
        subst HRF
        clear HNX HNO
        go_wp2_with fail
        go_ret
        exact ⟨rfl, HBW2.out⟩
      | true =>
        have HN : Hid _ := HNX.out rfl
        clear HNX HNO
        go_wp2_with fail
        go_roundg (l - (i + 1))
        case measure => omega
        case rel => exact ⟨i + 1, rfl, by go_num, by omega, HN, HBI2⟩
    · have hil2 : i = l := by omega
      have hii : ¬ (i : Int) < l := by omega
      have HRL : Hid (R = !(F.falls (F.at_ f (l - 1)))) := by show _ = _; rw [HGOOD.out, F.all_range_yes (fun k hk => HAL.out k (by omega))]; rfl
      clear hil2
      obtain ⟨lm, hlm⟩ : ∃ lm, l = lm + 1 := ⟨l - 1, by omega⟩
      subst hlm
      obtain ⟨b', off', r, e, ho, -⟩ := (HO.out.below HBW.out).at (i := lm) (by omega)
      cases e
      have hatq : f.code.getD lm F.noOp = F.at_ f lm := rfl
      rw [hatq] at ho
      rw [Nat.add_sub_cancel] at HRL
      obtain ⟨x, hx⟩ : ∃ x, F.at_ f lm = x := ⟨_, rfl⟩
      rw [hx] at ho HRL
      clear hatq hx
      obtain ⟨xop, xwhat, xnm, xd, xa, xb, xn, xargs, xdest⟩ := x
      have o0 := ho.1
      simp only at o0
      have HRO : Hid (R = (decide (xop = 11) || (decide (xop = 14) || (decide (xop = 15) || decide (xop = 16))))) := by show _ = _; rw [HRL.out]; unfold F.falls; simp
      clear ho HRL HGOOD
      have hlmi : (((lm + 1 : Nat) : Int) - 1) = (lm : Int) := by omega
      have hlm0 : 0 ≤ (lm : Int) := by omega
      have hlm1 : (lm : Int) < ((lm + 1 : Nat) : Int) := by omega
      by_cases g11 : xop = 11
      · have HV : R = true := by rw [HRO.out, decide_eq_true g11]; rfl
        subst HV
        have e11 : (xop == 11) = true := by simpa using g11
        clear g11
        go_wp2_with fail
        go_ret
        exact ⟨rfl, HBW.out⟩
      have e11 : (xop == 11) = false := by simpa using g11
      by_cases g14 : xop = 14
      · have HV : R = true := by rw [HRO.out, decide_eq_true g14]; simp
        subst HV
        have e14 : (xop == 14) = true := by simpa using g14
        clear g11 g14
        go_wp2_with fail
        go_ret
        exact ⟨rfl, HBW.out⟩
      have e14 : (xop == 14) = false := by simpa using g14
      by_cases g15 : xop = 15
      · have HV : R = true := by rw [HRO.out, decide_eq_true g15]; simp
        subst HV
        have e15 : (xop == 15) = true := by simpa using g15
        clear g11 g14 g15
        go_wp2_with fail
        go_ret
        exact ⟨rfl, HBW.out⟩
      have e15 : (xop == 15) = false := by simpa using g15
      by_cases g16 : xop = 16
      · have HV : R = true := by rw [HRO.out, decide_eq_true g16]; simp
        subst HV
        have e16 : (xop == 16) = true := by simpa using g16
        clear g11 g14 g15 g16
        go_wp2_with fail
        go_ret
        exact ⟨rfl, HBW.out⟩
      have e16 : (xop == 16) = false := by simpa using g16
      have HV : R = false := by rw [HRO.out, decide_eq_false g11, decide_eq_false g14, decide_eq_false g15, decide_eq_false g16]; rfl
      subst HV
      clear g11 g14 g15 g16
      go_wp2_with fail
      go_ret
      exact ⟨rfl, HBW.out⟩
end Go.Proofs.YtljgpngbkmembaaDoor
