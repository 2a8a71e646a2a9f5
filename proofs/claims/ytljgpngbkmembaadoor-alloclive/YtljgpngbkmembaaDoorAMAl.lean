/- The document's Live. -/
import Derived.Test.YtljgpngbkmembaaDoorAMAk
import Derived.Test.YtljgpngbkmembaaDoorAMAc
namespace Go.Proofs.YtljgpngbkmembaaDoor
open Go.RowKit Go.Maps
set_option linter.unusedVariables false
set_option linter.unusedSimpArgs false
theorem infoLi : (Tryd.prog.info? 30).map (fun i => (i.zero, i.size, i.bytes)) = some (some (.slice none 0 0), 1, 24) := by kernel_rfl
/-- Two lists that lie in unlike blocks, if any. -/
def Apart (a b : Option Addr) : Prop := ∀ p q, a = some p → b = some q → p.block ≠ q.block
theorem Apart.symm {a b : Option Addr} (h : Apart a b) : Apart b a := fun p q hp hq e => h q p hq hp e.symm
theorem apart_kept {a b : Option Addr} {n c m d : Nat} (h : Apart a b) : (Value.slice a n c).ownBlock = none ∨ (Value.slice a n c).ownBlock ≠ (Value.slice b m d).ownBlock := by
  cases a with
  | none => exact .inl rfl
  | some p =>
    refine .inr fun e => ?_
    cases b with
    | none => simp [Value.ownBlock] at e
    | some q => exact h p q rfl rfl (by simpa [Value.ownBlock] using e)
theorem apart_grown {a b : Option Addr} {n c g N : Nat} (h : Apart a b) (hat : (Value.slice a n c).ownBlock = some g ∨ g = N) (hb : ∀ p, b = some p → p.block < N) : Apart (some ⟨g, 0, none⟩) b := by
  intro p q hp hq
  cases hp
  rcases hat with e | e
  · cases a with
    | none => simp [Value.ownBlock] at e
    | some r =>
      have : r.block = g := by simpa [Value.ownBlock] using e
      intro e2
      exact h r q rfl hq (by rw [this]; exact e2)
  · have := hb q hq
    intro e2
    have e3 : g = q.block := e2
    omega
theorem NumV.grown {W y : World} {ob : Option Nat} {ai : Option Addr} {n ci : Nat} {zs : List Int} (hn : NumV W ai n ci zs) (hg : W.grownBy y ob) (hp : ∀ p, ai = some p → p.block < W.heap.size ∧ ob ≠ some p.block) : NumV y ai n ci zs := ⟨hn.count, hn.fits, hn.nilOf, hn.room, hn.cells.imp id fun ⟨b, off, e, hc⟩ => ⟨b, off, e, fun i hi => (World.cell?_of_block (a := ⟨b, off + i, none⟩) (hg.block b (hp ⟨b, off, none⟩ e).1 (Ne.symm (hp ⟨b, off, none⟩ e).2))).trans (hc i hi)⟩⟩
theorem row_base {w : World} {B B' : Nat} {v : Value} {e : TypeId} {size n : Nat} {xs : List Value} (o : w.ownsRow B e size v n xs) (h : B' ≤ B) : w.ownsRow B' e size v n xs := by
  refine ⟨o.1, ?_⟩
  rcases o.2 with h1 | ⟨g, cap, cur, h1, h2, h3⟩
  · exact .inl h1
  · exact .inr ⟨g, cap, cur, h1, Nat.le_trans h h2, h3⟩
theorem row_grown {w y : World} {B : Nat} {e : TypeId} {k n c m : Nat} {a : Option Addr} {xs : List Value} {ob : Option Nat} (o : w.ownsRow B e k (.slice a n c) m xs) (hg : w.grownBy y ob) (hp : ∀ p, a = some p → ob ≠ some p.block) : y.ownsRow B e k (.slice a n c) m xs := o.kept hg (by
  cases a with
  | none => exact .inl rfl
  | some p => exact .inr (fun e => hp p rfl (by rw [← e]; rfl)))
/-- The first temps: as they were, or, at the first place, so far. -/
def FT (B : Nat) (W : World) (i t : Nat) (tab : Nat → Nat → Bool) (af : Option Addr) (nf cf : Nat) (af2 : Option Addr) (nf2 cf2 : Nat) : Prop := (1 ≤ i → af2 = af ∧ nf2 = nf ∧ cf2 = cf) ∧ (i = 0 → (F.firsts tab t).length = nf2 ∧ W.ownsRow B 3 1 (.slice af2 nf2 cf2) nf2 ((F.firsts tab t).map iV))
/-- The first temps, ahead of a place. -/
def FI (B : Nat) (W : World) (i T : Nat) (tab : Nat → Nat → Bool) (ov : Value) (af : Option Addr) (nf cf : Nat) : Prop := (i = 0 → af = none ∧ nf = 0 ∧ cf = 0) ∧ (1 ≤ i → (F.firsts tab T).length = nf ∧ W.ownsRow B 3 1 (.slice af nf cf) nf ((F.firsts tab T).map iV) ∧ ∀ p, af = some p → p.block < W.heap.size ∧ ov.ownBlock ≠ some p.block)
def LvOut (w : World) (f : F.Fn) (n T : Nat) (tab : Nat → Nat → Bool) (e : Ending) (W : World) : Prop := Below w.heap.size w W ∧ if F.mayF f = true then ∃ a c a2 c2, e = .returned (.tuple #[.slice a n c, .slice a2 (F.firsts tab T).length c2, .int .i64 0]) ∧ LsV W a n c ((List.range n).map fun i => F.outs f tab i T) ∧ W.ownsRow w.heap.size 3 1 (.slice a2 (F.firsts tab T).length c2) (F.firsts tab T).length ((F.firsts tab T).map iV) else e = .returned (.tuple #[.slice none 0 0, .slice none 0 0, .int .i64 1])
theorem TP.congr {B : Nat} {W : World} {g n T k : Nat} {h : Nat → Nat} {m m' : Nat → Nat → Bool} (ht : TP B W g n T k h m) (he : ∀ i, i < k → ∀ t, t < T → m i t = m' i t) : TP B W g n T k h m' :=
  ⟨ht.ge, ht.lt, ht.fro, ht.slot, ht.rows, fun i hi t htT => by rw [← he i hi t htT]; exact ht.cell i hi t htT, ht.rf, ht.rg, ht.inj⟩
set_option maxRecDepth 100000 in
set_option maxHeartbeats 16000000 in
theorem rLive_any {w : World} {f : F.Fn} {a : Option Addr} {n c : Nat} (h : OpsV w a n c f.code) (hsz : ∀ x ∈ f.code, x.args.length * 8 ≤ 140737488355328) {tab : Nat → Nat → Bool} (htab : ∀ i t, tab i t = true ↔ F.Lv f i t) : Calls Tryd.prog 12 #[fnV f a n c] w (LvOut w f n f.temps.toNat tab) := by
  have hmax : maxLen = 9223372036854775807 := rfl
  obtain ⟨ii, hiI, hz0, hz1, hz2⟩ := ainfo infoN
  obtain ⟨il, hil, hy0, hy1, hy2⟩ := ainfo infoLi
  have HO : Hid (OpsV w a n c f.code) := h
  have HC : Hid (f.code.length = n) := h.count
  have HTAB : Hid (∀ i t, tab i t = true ↔ F.Lv f i t) := htab
  have hrm := h.room
  have HMAY : Hid (∀ W, Below w.heap.size w W → Calls Tryd.prog 17 #[fnV f a n c] W fun e w' => e = .returned (.bool (F.mayF f)) ∧ Below W.heap.size W w') := fun W hW => rMay_any (h.below hW)
  have HTBL : Hid (∀ W, Below w.heap.size w W → F.mayF f = true → Calls Tryd.prog 27 #[fnV f a n c] W (TabOut W f n f.temps.toNat)) := fun W hW hm => rtable_any (h.below hW) hm (by have := F.may_head hm; omega) hsz
  have HBEH : Hid (F.mayF f = true → ∀ W i, Below w.heap.size w W → i < n → Calls Tryd.prog 28 #[fnV f a n c, .int .i64 i] W (RdOut W ((F.nxt (F.at_ f i) i).map Int.ofNat))) := fun hm W i hW hi => by
    rw [← F.nxz_nxt hm (by rw [h.count]; exact hi)]
    exact rbehind_any (h.below hW) hi
  have HHD : Hid (F.mayF f = true → f.temps = (f.temps.toNat : Int) ∧ f.temps.toNat ≤ 400 ∧ 1 ≤ n ∧ n ≤ 20000) := fun hm => by
    have h1 := F.may_head hm
    have h2 := h.count
    omega
  have HNIN : Hid (F.mayF f = true → ∀ i, i < n → ∀ j ∈ F.nxt (F.at_ f i) i, j < n) := fun hm i hi j hj => by
    have := F.nxt_in hm (by rw [h.count]; exact hi) j hj
    rwa [h.count] at this
  clear h hsz htab
  obtain ⟨mm, hmm⟩ : ∃ q, F.mayF f = q := ⟨_, rfl⟩
  obtain ⟨nm0, hnm0⟩ : ∃ q, f.name = q := ⟨_, rfl⟩
  obtain ⟨params, hpar⟩ : ∃ q, f.params = q := ⟨_, rfl⟩
  obtain ⟨temps, htm⟩ : ∃ q, f.temps = q := ⟨_, rfl⟩
  have HLV : Hid (LvOut w f n f.temps.toNat tab = fun e W => Below w.heap.size w W ∧ if mm = true then ∃ a c a2 c2, e = .returned (.tuple #[.slice a n c, .slice a2 (F.firsts tab f.temps.toNat).length c2, .int .i64 0]) ∧ LsV W a n c ((List.range n).map fun i => F.outs f tab i f.temps.toNat) ∧ W.ownsRow w.heap.size 3 1 (.slice a2 (F.firsts tab f.temps.toNat).length c2) (F.firsts tab f.temps.toNat).length ((F.firsts tab f.temps.toNat).map iV) else e = .returned (.tuple #[.slice none 0 0, .slice none 0 0, .int .i64 1])) := by
    show _ = _
    rw [← hmm]
    rfl
  unfold fnV at HMAY HTBL HBEH ⊢
  rw [hmm] at HMAY HTBL HBEH HHD HNIN
  rw [hnm0, hpar, htm] at HMAY HTBL HBEH ⊢
  rw [htm] at HHD HLV
  clear hmm hnm0 hpar htm
  obtain ⟨W0, hW0⟩ : ∃ W0, w.alloc (.cells #[.string nm0, .int .i64 params, .int .i64 temps, .slice a n c] 24) = W0 := ⟨_, rfl⟩
  have hb0 : Below w.heap.size w W0 := by rw [← hW0]; exact bl1 _ _
  have HB0 : Hid (Below w.heap.size w W0) := hb0
  have d0 : W0.cell? ⟨w.heap.size, 0, none⟩ = some (.string nm0) := by rw [← hW0]; exact ncell_at rfl
  have d1 : W0.cell? ⟨w.heap.size, 1, none⟩ = some (.int .i64 params) := by rw [← hW0]; exact ncell_at rfl
  have d2 : W0.cell? ⟨w.heap.size, 2, none⟩ = some (.int .i64 temps) := by rw [← hW0]; exact ncell_at rfl
  have d3 : W0.cell? ⟨w.heap.size, 3, none⟩ = some (.slice a n c) := by rw [← hW0]; exact ncell_at rfl
  have HD : Hid (∀ y, Below W0.heap.size W0 y → y.cell? ⟨w.heap.size, 0, none⟩ = some (.string nm0) ∧ y.cell? ⟨w.heap.size, 1, none⟩ = some (.int .i64 params) ∧ y.cell? ⟨w.heap.size, 2, none⟩ = some (.int .i64 temps) ∧ y.cell? ⟨w.heap.size, 3, none⟩ = some (.slice a n c)) := fun y hy => ⟨cell_thru hy d0, cell_thru hy d1, cell_thru hy d2, cell_thru hy d3⟩
  have HWB : Hid (∀ y, Below W0.heap.size W0 y → Below w.heap.size w y) := fun y hy => HB0.out.trans (hy.mono HB0.out.size)
  have hmay := HMAY.out W0 hb0
  rw [HLV.out]
  clear hb0
  go_enter Tryd.func12, Tryd.ntmps12
  go_wp2_with fail
  refine hmay.mono ?_
  rintro e y0 ⟨rfl, hy0b⟩
  have HY0 : Hid (Below W0.heap.size W0 y0) := hy0b
  clear hmay hy0b d0 d1 d2 d3 hW0
  obtain ⟨d0, d1, d2, d3⟩ := HD.out y0 HY0.out
  cases mm with
  | false =>
    go_wp2_with fail
    go_ret3
    exact ⟨HWB.out _ HY0.out, rfl⟩
  | true =>
    obtain ⟨hT0, hT400, hn1, hn2⟩ := HHD.out rfl
    obtain ⟨T, hTe⟩ : ∃ T, temps.toNat = T := ⟨_, rfl⟩
    rw [hTe] at hT0 hT400 HLV HTBL
    try rw [hTe]
    have htbl := HTBL.out y0 (HWB.out _ HY0.out) rfl
    subst hT0
    clear hTe
    go_wp2_with fail
    refine htbl.mono ?_
    rintro e y1 ⟨g, hr, m, rfl, htp, hlv, hb1⟩
    have HTP1 : Hid (TP y0.heap.size y1 g n T n hr tab) := htp.congr fun i hi t ht => by
      have h1 := hlv i hi t ht
      have h2 := HTAB.out i t
      cases e1 : m i t <;> cases e2 : tab i t <;> simp_all
    have HY1 : Hid (Below W0.heap.size W0 y1) := HY0.out.trans (hb1.mono HY0.out.size)
    clear htbl htp hlv hb1 d0 d1 d2 d3 HTBL HMAY HTAB
    go_wp2_with fail
    go_loopg [6, 7, 8, 9, 10, 11, 12, 13] n (fun r z6 z7 iv z9 z10 z11 z12 z13 wq => ∃ (i : Nat) (ao : Option Addr) (co : Nat) (af : Option Addr) (nf cf : Nat), r = n - i ∧ z6 = .slice ao i co ∧ z7 = .slice af nf cf ∧ iv = .int .i64 i ∧ i ≤ n ∧ i ≤ co ∧ co ≤ maxLen ∧ Hid (LI y1.heap.size wq (.slice ao i co) ((List.range i).map fun k => F.outs f tab k T)) ∧ Hid (FI y1.heap.size wq i T tab (.slice ao i co) af nf cf) ∧ Hid (Below y1.heap.size y1 wq))
    case atStart => exact ⟨0, none, 0, none, 0, 0, rfl, rfl, rfl, rfl, Nat.zero_le _, Nat.le_refl _, Nat.zero_le _, LI.nil _ _, ⟨fun _ => ⟨rfl, rfl, rfl⟩, fun e => (by omega)⟩, Below.refl _ _⟩
    case round =>
      obtain ⟨i, ao, co, af, nf, cf, rfl, rfl, rfl, rfl, hi, hic, hcm, HLI, HFI, HB1⟩ := hrel
      have HBW0 : Hid (Below W0.heap.size W0 wr) := HY1.out.trans (HB1.out.mono HY1.out.size)
      obtain ⟨d0, d1, d2, d3⟩ := HD.out wr HBW0.out
      by_cases hin : i < n
      · have hii : (i : Int) < n := by omega
        have hi0 : 0 ≤ (i : Int) := by omega
        have hbe := HBEH.out (by first | rfl | trivial) wr i (HWB.out _ HBW0.out) hin
        obtain ⟨W3, hW3⟩ : ∃ q, q = wr := ⟨_, rfl⟩
        subst hW3
        go_wp2_with fail
        refine hbe.mono ?_
        rintro e y2 ⟨an, cn, rfl, hn2, hb2, -⟩
        obtain ⟨nx, hnx⟩ : ∃ nx, ((F.nxt (F.at_ f i) i).map Int.ofNat).length = nx := ⟨_, rfl⟩
        have HNL : Hid (((F.nxt (F.at_ f i) i).map Int.ofNat).length = nx) := hnx
        rw [hnx] at hn2
        rw [hnx]
        have HNX : Hid (NumV y2 an nx cn ((F.nxt (F.at_ f i) i).map Int.ofNat)) := hn2
        have hnxr := hn2.room
        have HY2 : Hid (Below W3.heap.size W3 y2) := hb2
        have HB2 : Hid (Below y1.heap.size y1 y2) := HB1.out.trans (hb2.mono HB1.out.size)
        have HBW2 : Hid (Below W0.heap.size W0 y2) := HY1.out.trans (HB2.out.mono HY1.out.size)
        have HLI2 : Hid (LI y1.heap.size y2 (.slice ao i co) ((List.range i).map fun k => F.outs f tab k T)) := HLI.out.below hb2
        have HTP2 : Hid (TP y0.heap.size y2 g n T n hr tab) := HTP1.out.below HB2.out
        have HFI2 : Hid (FI y1.heap.size y2 i T tab (.slice ao i co) af nf cf) := ⟨HFI.out.1, fun e => by
          obtain ⟨h1, h2, h3⟩ := HFI.out.2 e
          exact ⟨h1, row_below h2 hb2, fun p hp => ⟨Nat.lt_of_lt_of_le (h3 p hp).1 hb2.size, (h3 p hp).2⟩⟩⟩
        clear hbe hn2 hb2 hnx d0 d1 d2 d3
        obtain ⟨W5, hW5⟩ : ∃ q, q = y2 := ⟨_, rfl⟩
        subst hW5
        have HF0 : Hid (FT W5.heap.size W5 i 0 tab af nf cf af nf cf) := ⟨fun _ => ⟨rfl, rfl, rfl⟩, fun e => by
          obtain ⟨rfl, rfl, rfl⟩ := HFI2.out.1 e
          exact ⟨rfl, World.ownsRow_nil _ _ _ _⟩⟩
        go_wp2_with fail
        go_loopg [7, 10, 11, 12, 13] T (fun r z7 z10 iv z12 z13 wq => ∃ (t : Nat) (al : Option Addr) (nl cl : Nat) (af2 : Option Addr) (nf2 cf2 : Nat), r = T - t ∧ z7 = .slice af2 nf2 cf2 ∧ z10 = .slice al nl cl ∧ iv = .int .i64 t ∧ t ≤ T ∧ Hid (wq.ownsRow W5.heap.size 3 1 (.slice al nl cl) nl ((F.outs f tab i t).map iV)) ∧ Hid ((F.outs f tab i t).length = nl) ∧ Hid (FT W5.heap.size wq i t tab af nf cf af2 nf2 cf2) ∧ Hid (i = 0 → Apart af2 al) ∧ Hid (Below W5.heap.size W5 wq))
        case atStart => exact ⟨0, none, 0, 0, af, nf, cf, rfl, rfl, rfl, rfl, Nat.zero_le _, World.ownsRow_nil _ _ _ _, rfl, HF0, (fun _ => fun p q _ hq => (by cases hq) : i = 0 → Apart af none), Below.refl _ _⟩
        case round =>
          obtain ⟨t, al, nl, cl, af2, nf2, cf2, rfl, rfl, rfl, rfl, ht, HLR, HLN, HFT, HDIS, HBT⟩ := hrel
          have HBWT : Hid (Below W0.heap.size W0 wr) := HBW2.out.trans (HBT.out.mono HBW2.out.size)
          obtain ⟨d0, d1, d2, d3⟩ := HD.out wr HBWT.out
          by_cases htT : t < T
          · have hti : (t : Int) < T := by omega
            have ht0 : 0 ≤ (t : Int) := by omega
            have HTP6 : Hid (TP y0.heap.size wr g n T n hr tab) := HTP2.out.below HBT.out
            have HNX6 : Hid (NumV wr an nx cn ((F.nxt (F.at_ f i) i).map Int.ofNat)) := HNX.out.below HBT.out
            obtain ⟨W6, hW6⟩ : ∃ q, q = wr := ⟨_, rfl⟩
            subst hW6
            go_wp2_with fail
            clear d0 d1 d2 d3
            go_loopg [12, 13] nx (fun r z12 iv wq => ∃ (k : Nat) (b : Bool), r = nx - k ∧ z12 = .bool b ∧ iv = .int .i64 k ∧ k ≤ nx ∧ wq = W6 ∧ Hid (b = F.goesTo f tab i t k))
            case atStart => exact ⟨0, false, rfl, rfl, rfl, Nat.zero_le _, rfl, rfl⟩
            case round =>
              obtain ⟨k, b1, rfl, rfl, rfl, hk, hwr, HB1K⟩ := hrel
              subst hwr
              by_cases hkn : k < nx
              · have hki : (k : Int) < nx := by omega
                have hk0 : 0 ≤ (k : Int) := by omega
                cases b1 with
                | true =>
                  have HN2 : Hid (true = F.goesTo f tab i t (k + 1)) := by show _ = _; rw [F.goesTo_succ, ← HB1K.out]; rfl
                  go_wp2_with fail
                  go_roundg (nx - (k + 1))
                  case measure => omega
                  case rel => exact ⟨k + 1, true, rfl, rfl, by go_num, by omega, rfl, HN2⟩
                | false =>
                obtain ⟨bn, on, hab2, cn1⟩ := HNX6.out.at hkn
                subst hab2
                have HJ : Hid (((F.nxt (F.at_ f i) i).map Int.ofNat).getD k 0 = ((F.nxt (F.at_ f i) i).getD k 0 : Nat)) := by
                  show _ = _
                  simp only [List.getD, List.getElem?_map]
                  cases (F.nxt (F.at_ f i) i)[k]? <;> rfl
                have HJN : Hid ((F.nxt (F.at_ f i) i).getD k 0 < n) := by
                  show _ < _
                  have hk' : k < (F.nxt (F.at_ f i) i).length := by
                    have := HNL.out
                    rw [List.length_map] at this
                    omega
                  exact HNIN.out (by first | rfl | trivial) i hin _ (by simp [List.getD, hk'])
                have HSU : Hid (F.goesTo f tab i t (k + 1) = (false || tab ((F.nxt (F.at_ f i) i).getD k 0) t)) := by show _ = _; rw [F.goesTo_succ, ← HB1K.out]
                obtain ⟨jj, hjj⟩ : ∃ jj, (F.nxt (F.at_ f i) i).getD k 0 = jj := ⟨_, rfl⟩
                rw [hjj] at HJ HJN HSU
                rw [HJ.out] at cn1
                clear hjj
                have hjn := HJN.out
                have hji : (jj : Int) < n := by omega
                have hj0 : 0 ≤ (jj : Int) := by omega
                have t3 := HTP6.out.rows jj hjn
                have t4 := HTP6.out.cell jj hjn t htT
                obtain ⟨bj, hbj⟩ : ∃ b, tab jj t = b := ⟨_, rfl⟩
                rw [hbj] at t4 HSU
                clear hbj
                have HN2 : Hid (bj = F.goesTo f tab i t (k + 1)) := by show _ = _; rw [HSU.out]; rfl
                go_wp2_with fail
                go_roundg (nx - (k + 1))
                case measure => omega
                case rel => exact ⟨k + 1, bj, rfl, rfl, by go_num, by omega, rfl, HN2⟩
              · have hkk : ¬ (k : Int) < nx := by omega
                have hknx : k = nx := by omega
                have HGO : Hid (F.goesTo f tab i t (F.nxt (F.at_ f i) i).length = b1) := by
                  show _ = _
                  rw [HB1K.out, hknx, ← HNL.out, List.length_map]
                have HNLT : Hid (nl ≤ T) := by
                  show _ ≤ _
                  rw [← HLN.out]
                  have := F.outs_len f tab i t
                  omega
                have hnlt := HNLT.out
                clear hknx
                cases b1 with
                | false =>
                  have HL9 : Hid (wr.ownsRow W5.heap.size 3 1 (.slice al nl cl) nl ((F.outs f tab i (t + 1)).map iV)) := by
                    show World.ownsRow _ _ _ _ _ _ _
                    rw [F.outs_succ, HGO.out, if_neg (by decide)]
                    exact HLR.out
                  have HLN9 : Hid ((F.outs f tab i (t + 1)).length = nl) := by
                    show _ = _
                    rw [F.outs_succ, HGO.out, if_neg (by decide)]
                    exact HLN.out
                  have HTP9 : Hid (TP y0.heap.size wr g n T n hr tab) := HTP6
                  have HFR : Hid (i = 0 → (F.firsts tab t).length = nf2 ∧ wr.ownsRow W5.heap.size 3 1 (.slice af2 nf2 cf2) nf2 ((F.firsts tab t).map iV)) := HFT.out.2
                  clear HGO HB1K
                  cases i with
                  | succ i0 =>
                    have ei : ((((i0 + 1 : Nat) : Int)) == 0) = false := by
                      have : ¬ (((i0 + 1 : Nat) : Int)) = 0 := by omega
                      simpa using this
                    have HF9 : Hid (FT W5.heap.size wr (i0 + 1) (t + 1) tab af nf cf af2 nf2 cf2) := ⟨fun _ => HFT.out.1 (by omega), fun e => (by omega)⟩
                    have HD9 : Hid (i0 + 1 = 0 → Apart af2 al) := fun e => (by omega)
                    go_wp2_with fail
                    go_roundg (T - (t + 1))
                    case measure => omega
                    case rel => exact ⟨t + 1, al, nl, cl, af2, nf2, cf2, rfl, rfl, rfl, by go_num, by omega, HL9, HLN9, HF9, HD9, HBT⟩
                  | zero =>
                    have t7 := HTP9.out.rows 0 (by omega)
                    have t8 := HTP9.out.cell 0 (by omega) t htT
                    have hn0 : (0 : Int) < n := by omega
                    obtain ⟨b0, hb0⟩ : ∃ b, tab 0 t = b := ⟨_, rfl⟩
                    have HB00 : Hid (tab 0 t = b0) := hb0
                    rw [hb0] at t8
                    clear hb0
                    cases b0 with
                    | false =>
                      have HF9 : Hid (FT W5.heap.size wr 0 (t + 1) tab af nf cf af2 nf2 cf2) := ⟨fun e => (by omega), fun _ => by
                        have := HFR.out (by first | rfl | trivial)
                        rw [F.firsts_succ, HB00.out, if_neg (by decide)]
                        exact this⟩
                      have HD9 : Hid (0 = 0 → Apart af2 al) := HDIS.out
                      go_wp2_with fail
                      go_roundg (T - (t + 1))
                      case measure => omega
                      case rel => exact ⟨t + 1, al, nl, cl, af2, nf2, cf2, rfl, rfl, rfl, by go_num, by omega, HL9, HLN9, HF9, HD9, HBT⟩
                    | true =>
                      obtain ⟨HFL, HFW⟩ := HFR.out (by first | rfl | trivial)
                      have HFLx : Hid ((F.firsts tab t).length = nf2) := HFL
                      have HFWx : Hid (wr.ownsRow W5.heap.size 3 1 (.slice af2 nf2 cf2) nf2 ((F.firsts tab t).map iV)) := HFW
                      have HNF2 : Hid (nf2 ≤ T) := by
                        show _ ≤ _
                        rw [← HFL]
                        have := F.firsts_len tab t
                        omega
                      have hnf2 := HNF2.out
                      have HSZ3 : Hid (W5.heap.size ≤ wr.heap.size) := HBT.out.size
                      clear HFL HFW
                      have HN3 : Hid (∀ (j : Nat) u, ([.int .i64 (t : Int)] : List Value)[j]? = some u → (wr.alloc (.cells #[.int .i64 (t : Int)] 3)).cell? ((⟨wr.heap.size, 0, none⟩ : Addr).add j) = some u) := by
                        intro j u hu
                        rw [Addr.add_lit, Nat.zero_add]
                        exact ncell_at (by simpa using hu)
                      have HRW3 : Hid ((wr.alloc (.cells #[.int .i64 (t : Int)] 3)).ownsRow W5.heap.size 3 1 (.slice af2 nf2 cf2) nf2 ((F.firsts tab t).map iV)) := row_below HFWx.out (bl1 _ _)
                      have HBS3 : Hid (W5.heap.size ≤ (wr.alloc (.cells #[.int .i64 (t : Int)] 3)).heap.size) := by
                        show _ ≤ _
                        rw [World.size_alloc]
                        have := HSZ3.out
                        omega
                      go_wp2_with (first | (at_builtin; refine wpList_append_lies _ rfl _ _ 30 rfl W5.heap.size 3 ii _ 1 8 Tryd.underlying30 hiI hz0 hz1 hz2 rfl (by decide) (.slice af2 nf2 cf2) nf2 ((F.firsts tab t).map iV) rfl HRW3.out _ 1 1 [.int .i64 (t : Int)] rfl rfl HN3.out (by intro u hu; simp at hu; subst hu; rfl) (by decide) (by omega) (by omega) HBS3.out _ rfl ?_) | fail)
                      intro g3 c3 w3 ho3 hg3 hat3 hlt3
                      have HB3 : Hid (Below W5.heap.size W5 w3) := (HBT.out.trans ((bl1 wr _).mono HBT.out.size)).trans (grown_below hg3 (B := W5.heap.size) (fun g e => (HFWx.out.lt g e).1) HBS3.out)
                      have HAP : Hid (Apart af2 al) := HDIS.out (by first | rfl | trivial)
                      have HL3 : Hid (w3.ownsRow W5.heap.size 3 1 (.slice al nl cl) nl ((F.outs f tab 0 (t + 1)).map iV)) := (row_below HL9.out (bl1 wr _)).kept hg3 (apart_kept HAP.out.symm)
                      have HD9 : Hid (0 = 0 → Apart (some ⟨g3, 0, none⟩) al) := fun _ => apart_grown HAP.out hat3 (fun p hp => by have := (HL9.out.lt p.block (by rw [hp]; rfl)).2; first | omega | (simp; omega))
                      have HF9 : Hid (FT W5.heap.size w3 0 (t + 1) tab af nf cf (some ⟨g3, 0, none⟩) (nf2 + 1) c3) := ⟨fun e => (by omega), fun _ => by
                        rw [F.firsts_succ, HB00.out, if_pos rfl]
                        refine ⟨by rw [List.length_append, HFLx.out]; rfl, ?_⟩
                        rw [List.map_append]
                        exact ho3⟩
                      clear ho3 hg3 hat3 hlt3 HN3 HRW3 HBS3
                      go_wp2_with fail
                      go_roundg (T - (t + 1))
                      case measure => omega
                      case rel => exact ⟨t + 1, al, nl, cl, some ⟨g3, 0, none⟩, nf2 + 1, c3, rfl, rfl, rfl, by go_num, by omega, HL3, HLN9, HF9, HD9, HB3⟩
                | true =>
                  have HSZ1 : Hid (W5.heap.size ≤ wr.heap.size) := HBT.out.size
                  have HN1 : Hid (∀ (j : Nat) u, ([.int .i64 (t : Int)] : List Value)[j]? = some u → (wr.alloc (.cells #[.int .i64 (t : Int)] 3)).cell? ((⟨wr.heap.size, 0, none⟩ : Addr).add j) = some u) := by
                    intro j u hu
                    rw [Addr.add_lit, Nat.zero_add]
                    exact ncell_at (by simpa using hu)
                  have HRW1 : Hid ((wr.alloc (.cells #[.int .i64 (t : Int)] 3)).ownsRow W5.heap.size 3 1 (.slice al nl cl) nl ((F.outs f tab i t).map iV)) := row_below HLR.out (bl1 _ _)
                  have HBS1 : Hid (W5.heap.size ≤ (wr.alloc (.cells #[.int .i64 (t : Int)] 3)).heap.size) := by
                    show _ ≤ _
                    rw [World.size_alloc]
                    have := HSZ1.out
                    omega
                  go_wp2_with (first | (at_builtin; refine wpList_append_lies _ rfl _ _ 30 rfl W5.heap.size 3 ii _ 1 8 Tryd.underlying30 hiI hz0 hz1 hz2 rfl (by decide) (.slice al nl cl) nl ((F.outs f tab i t).map iV) rfl HRW1.out _ 1 1 [.int .i64 (t : Int)] rfl rfl HN1.out (by intro u hu; simp at hu; subst hu; rfl) (by decide) (by omega) (by omega) HBS1.out _ rfl ?_) | fail)
                  intro g1 c1 w1 ho1 hg1 hat1 hlt1
                  have HB9 : Hid (Below W5.heap.size W5 w1) := (HBT.out.trans ((bl1 wr _).mono HBT.out.size)).trans (grown_below hg1 (B := W5.heap.size) (fun g e => (HLR.out.lt g e).1) HBS1.out)
                  have HL9 : Hid (w1.ownsRow W5.heap.size 3 1 (.slice (some ⟨g1, 0, none⟩) (nl + 1) c1) (nl + 1) ((F.outs f tab i (t + 1)).map iV)) := by
                    show World.ownsRow _ _ _ _ _ _ _
                    rw [F.outs_succ, HGO.out, if_pos rfl, List.map_append]
                    exact ho1
                  have HLN9 : Hid ((F.outs f tab i (t + 1)).length = nl + 1) := by
                    show _ = _
                    rw [F.outs_succ, HGO.out, if_pos rfl, List.length_append, HLN.out]
                    rfl
                  have HTP9 : Hid (TP y0.heap.size w1 g n T n hr tab) := HTP2.out.below HB9.out
                  have HFR : Hid (i = 0 → (F.firsts tab t).length = nf2 ∧ w1.ownsRow W5.heap.size 3 1 (.slice af2 nf2 cf2) nf2 ((F.firsts tab t).map iV)) := fun e => by
                    obtain ⟨h1, h2⟩ := HFT.out.2 e
                    exact ⟨h1, (row_below h2 (bl1 wr _)).kept hg1 (apart_kept (HDIS.out e))⟩
                  have HDIS9 : Hid (i = 0 → Apart af2 (some ⟨g1, 0, none⟩)) := fun e => (apart_grown (HDIS.out e).symm hat1 (fun p hp => by have h1 := ((HFT.out.2 e).2.lt p.block (by rw [hp]; rfl)).2; first | omega | (simp; omega))).symm
                  clear HGO HB1K ho1 hg1 hat1 hlt1 HN1 HRW1 HBS1
                  cases i with
                  | succ i0 =>
                    have ei : ((((i0 + 1 : Nat) : Int)) == 0) = false := by
                      have : ¬ (((i0 + 1 : Nat) : Int)) = 0 := by omega
                      simpa using this
                    have HF9 : Hid (FT W5.heap.size w1 (i0 + 1) (t + 1) tab af nf cf af2 nf2 cf2) := ⟨fun _ => HFT.out.1 (by omega), fun e => (by omega)⟩
                    have HD9 : Hid (i0 + 1 = 0 → Apart af2 (some ⟨g1, 0, none⟩)) := fun e => (by omega)
                    go_wp2_with fail
                    go_roundg (T - (t + 1))
                    case measure => omega
                    case rel => exact ⟨t + 1, (some ⟨g1, 0, none⟩), (nl + 1), c1, af2, nf2, cf2, rfl, rfl, rfl, by go_num, by omega, HL9, HLN9, HF9, HD9, HB9⟩
                  | zero =>
                    have t7 := HTP9.out.rows 0 (by omega)
                    have t8 := HTP9.out.cell 0 (by omega) t htT
                    have hn0 : (0 : Int) < n := by omega
                    obtain ⟨b0, hb0⟩ : ∃ b, tab 0 t = b := ⟨_, rfl⟩
                    have HB00 : Hid (tab 0 t = b0) := hb0
                    rw [hb0] at t8
                    clear hb0
                    cases b0 with
                    | false =>
                      have HF9 : Hid (FT W5.heap.size w1 0 (t + 1) tab af nf cf af2 nf2 cf2) := ⟨fun e => (by omega), fun _ => by
                        have := HFR.out (by first | rfl | trivial)
                        rw [F.firsts_succ, HB00.out, if_neg (by decide)]
                        exact this⟩
                      have HD9 : Hid (0 = 0 → Apart af2 (some ⟨g1, 0, none⟩)) := HDIS9.out
                      go_wp2_with fail
                      go_roundg (T - (t + 1))
                      case measure => omega
                      case rel => exact ⟨t + 1, (some ⟨g1, 0, none⟩), (nl + 1), c1, af2, nf2, cf2, rfl, rfl, rfl, by go_num, by omega, HL9, HLN9, HF9, HD9, HB9⟩
                    | true =>
                      obtain ⟨HFL, HFW⟩ := HFR.out (by first | rfl | trivial)
                      have HFLx : Hid ((F.firsts tab t).length = nf2) := HFL
                      have HFWx : Hid (w1.ownsRow W5.heap.size 3 1 (.slice af2 nf2 cf2) nf2 ((F.firsts tab t).map iV)) := HFW
                      have HNF2 : Hid (nf2 ≤ T) := by
                        show _ ≤ _
                        rw [← HFL]
                        have := F.firsts_len tab t
                        omega
                      have hnf2 := HNF2.out
                      have HSZ3 : Hid (W5.heap.size ≤ w1.heap.size) := HB9.out.size
                      clear HFL HFW
                      have HN3 : Hid (∀ (j : Nat) u, ([.int .i64 (t : Int)] : List Value)[j]? = some u → (w1.alloc (.cells #[.int .i64 (t : Int)] 3)).cell? ((⟨w1.heap.size, 0, none⟩ : Addr).add j) = some u) := by
                        intro j u hu
                        rw [Addr.add_lit, Nat.zero_add]
                        exact ncell_at (by simpa using hu)
                      have HRW3 : Hid ((w1.alloc (.cells #[.int .i64 (t : Int)] 3)).ownsRow W5.heap.size 3 1 (.slice af2 nf2 cf2) nf2 ((F.firsts tab t).map iV)) := row_below HFWx.out (bl1 _ _)
                      have HBS3 : Hid (W5.heap.size ≤ (w1.alloc (.cells #[.int .i64 (t : Int)] 3)).heap.size) := by
                        show _ ≤ _
                        rw [World.size_alloc]
                        have := HSZ3.out
                        omega
                      go_wp2_with (first | (at_builtin; refine wpList_append_lies _ rfl _ _ 30 rfl W5.heap.size 3 ii _ 1 8 Tryd.underlying30 hiI hz0 hz1 hz2 rfl (by decide) (.slice af2 nf2 cf2) nf2 ((F.firsts tab t).map iV) rfl HRW3.out _ 1 1 [.int .i64 (t : Int)] rfl rfl HN3.out (by intro u hu; simp at hu; subst hu; rfl) (by decide) (by omega) (by omega) HBS3.out _ rfl ?_) | fail)
                      intro g3 c3 w3 ho3 hg3 hat3 hlt3
                      have HB3 : Hid (Below W5.heap.size W5 w3) := (HB9.out.trans ((bl1 w1 _).mono HB9.out.size)).trans (grown_below hg3 (B := W5.heap.size) (fun g e => (HFWx.out.lt g e).1) HBS3.out)
                      have HAP : Hid (Apart af2 (some ⟨g1, 0, none⟩)) := HDIS9.out (by first | rfl | trivial)
                      have HL3 : Hid (w3.ownsRow W5.heap.size 3 1 (.slice (some ⟨g1, 0, none⟩) (nl + 1) c1) (nl + 1) ((F.outs f tab 0 (t + 1)).map iV)) := (row_below HL9.out (bl1 w1 _)).kept hg3 (apart_kept HAP.out.symm)
                      have HD9 : Hid (0 = 0 → Apart (some ⟨g3, 0, none⟩) (some ⟨g1, 0, none⟩)) := fun _ => apart_grown HAP.out hat3 (fun p hp => by have := (HL9.out.lt p.block (by rw [hp]; rfl)).2; first | omega | (simp; omega))
                      have HF9 : Hid (FT W5.heap.size w3 0 (t + 1) tab af nf cf (some ⟨g3, 0, none⟩) (nf2 + 1) c3) := ⟨fun e => (by omega), fun _ => by
                        rw [F.firsts_succ, HB00.out, if_pos rfl]
                        refine ⟨by rw [List.length_append, HFLx.out]; rfl, ?_⟩
                        rw [List.map_append]
                        exact ho3⟩
                      clear ho3 hg3 hat3 hlt3 HN3 HRW3 HBS3
                      go_wp2_with fail
                      go_roundg (T - (t + 1))
                      case measure => omega
                      case rel => exact ⟨t + 1, (some ⟨g1, 0, none⟩), (nl + 1), c1, some ⟨g3, 0, none⟩, nf2 + 1, c3, rfl, rfl, rfl, by go_num, by omega, HL3, HLN9, HF9, HD9, HB3⟩
          · have htt : ¬ (t : Int) < T := by omega
            have ht2 : t = T := by omega
            rw [ht2] at HLR HLN HFT
            have HLIW := HLI2.out.below HBT.out
            obtain ⟨vs, hvs, hvin⟩ := HLIW.rows
            have hll : ((List.range i).map fun k => F.outs f tab k T).length = i := by simp
            rw [hll] at hvs hvin
            have HVS : Hid (wr.ownsRow y1.heap.size 30 1 (.slice ao i co) i vs) := hvs
            have HVI : Hid (∀ k, k < i → ∃ ai ci, vs[k]? = some (.slice ai (((List.range i).map fun k => F.outs f tab k T).getD k []).length ci) ∧ NumV wr ai (((List.range i).map fun k => F.outs f tab k T).getD k []).length ci (((List.range i).map fun k => F.outs f tab k T).getD k []) ∧ ∀ p, ai = some p → p.block < wr.heap.size ∧ (Value.slice ao i co).ownBlock ≠ some p.block) := hvin
            have HOVF : Hid (∀ g, (Value.slice ao i co).ownBlock = some g → y1.heap.size ≤ g ∧ g < W5.heap.size) := HLI2.out.far
            have HSZ4 : Hid (y1.heap.size ≤ wr.heap.size) := Nat.le_trans HB2.out.size HBT.out.size
            have hin9 : i ≤ 20000 := by omega
            clear ht2 HLIW hvs hvin hll
            have HN4 : Hid (∀ (j : Nat) u, ([.slice al nl cl] : List Value)[j]? = some u → (wr.alloc (.cells #[.slice al nl cl] 30)).cell? ((⟨wr.heap.size, 0, none⟩ : Addr).add j) = some u) := by
              intro j u hu
              rw [Addr.add_lit, Nat.zero_add]
              exact ncell_at (by simpa using hu)
            have HRW4 : Hid ((wr.alloc (.cells #[.slice al nl cl] 30)).ownsRow y1.heap.size 30 1 (.slice ao i co) i vs) := row_below HVS.out (bl1 _ _)
            have HBS4 : Hid (y1.heap.size ≤ (wr.alloc (.cells #[.slice al nl cl] 30)).heap.size) := by
              show _ ≤ _
              rw [World.size_alloc]
              have := HSZ4.out
              omega
            go_wp2_with (first | (at_builtin; refine wpList_append_lies _ rfl _ _ 29 rfl y1.heap.size 30 il _ 1 24 Tryd.underlying29 hil hy0 hy1 hy2 rfl (by decide) (.slice ao i co) i vs rfl HRW4.out _ 1 1 [.slice al nl cl] rfl rfl HN4.out (by intro u hu; simp at hu; subst hu; rfl) (by decide) (by omega) (by omega) HBS4.out _ rfl ?_) | fail)
            intro g4 c4 w4 ho4 hg4 hat4 hlt4
            have hza : Below wr.heap.size wr (wr.alloc (.cells #[.slice al nl cl] 30)) := bl1 _ _
            have hat5 : (Value.slice ao i co).ownBlock = some g4 ∨ g4 = (wr.alloc (.cells #[.slice al nl cl] 30)).heap.size := by rw [World.size_alloc]; exact hat4
            have HLNV : NumV (wr.alloc (.cells #[.slice al nl cl] 30)) al (F.outs f tab i T).length cl (F.outs f tab i T) := by
              rw [HLN.out]
              exact (num_of_row HLR.out HLN.out (F.outs_fit f tab i hT400)).below hza
            have HLFAR : ∀ p, al = some p → p.block < (wr.alloc (.cells #[.slice al nl cl] 30)).heap.size ∧ (Value.slice ao i co).ownBlock ≠ some p.block := fun p hp => by
              have h1 := HLR.out.lt p.block (by rw [hp]; rfl)
              refine ⟨Nat.lt_of_lt_of_le h1.2 hza.size, fun e => ?_⟩
              have := (HOVF.out p.block e).2
              omega
            have HLIA : LI y1.heap.size (wr.alloc (.cells #[.slice al nl cl] 30)) (.slice ao i co) ((List.range i).map fun k => F.outs f tab k T) := (HLI2.out.below HBT.out).below hza
            have hll : ((List.range i).map fun k => F.outs f tab k T).length = i := by simp
            have HLI4 : Hid (LI y1.heap.size w4 (.slice (some ⟨g4, 0, none⟩) (i + 1) c4) ((List.range (i + 1)).map fun k => F.outs f tab k T)) := by
              have := HLIA.push (y := w4) HLNV HLFAR (vs := vs) (g := g4) (cp := c4) (by rw [hll]; exact HRW4.out) (by rw [hll, HLN.out]; exact ho4) hg4 hat5 (fun k hk => by
                rw [hll] at hk
                obtain ⟨ai, ci, h3, h4, h5⟩ := HVI.out k hk
                exact ⟨ai, ci, h3, h4.below hza, fun p hp => ⟨Nat.lt_of_lt_of_le (h5 p hp).1 hza.size, (h5 p hp).2⟩⟩)
              rw [hll] at this
              show LI _ _ _ _
              rw [List.range_succ, List.map_append]
              exact this
            have HGR : Hid (∀ (q : Option Addr), (∀ p : Addr, q = some p → p.block < wr.heap.size ∧ (Value.slice ao i co).ownBlock ≠ some p.block) → ∀ p : Addr, q = some p → p.block < w4.heap.size ∧ (Value.slice (some ⟨g4, 0, none⟩) (i + 1) c4).ownBlock ≠ some p.block) := fun q hq p hp => by
              obtain ⟨h1, h2⟩ := hq p hp
              have h3 := hza.size
              refine ⟨by have := hg4.size; omega, fun e2 => ?_⟩
              have e3 : g4 = p.block := by simpa [Value.ownBlock] using e2
              rcases hat5 with e4 | e4
              · rw [e3] at e4; exact h2 e4
              · omega
            have HFI4 : Hid (FI y1.heap.size w4 (i + 1) T tab (.slice (some ⟨g4, 0, none⟩) (i + 1) c4) af2 nf2 cf2) := ⟨fun e => (by omega), fun _ => by
              by_cases e0 : i = 0
              · obtain ⟨h1, h2⟩ := HFT.out.2 e0
                have hq : ∀ p : Addr, af2 = some p → p.block < wr.heap.size ∧ (Value.slice ao i co).ownBlock ≠ some p.block := fun p hp => by
                  have h3 := h2.lt p.block (by rw [hp]; rfl)
                  refine ⟨h3.2, fun e => ?_⟩
                  have := (HOVF.out p.block e).2
                  omega
                exact ⟨h1, row_grown (row_base (row_below h2 hza) HB2.out.size) hg4 (fun p hp => (hq p hp).2), HGR.out af2 hq⟩
              · obtain ⟨h1, h2, h3⟩ := HFI2.out.2 (by omega)
                obtain ⟨rfl, rfl, rfl⟩ := HFT.out.1 (by omega)
                have hq : ∀ p : Addr, af2 = some p → p.block < wr.heap.size ∧ (Value.slice ao i co).ownBlock ≠ some p.block := fun p hp => ⟨Nat.lt_of_lt_of_le (h3 p hp).1 HBT.out.size, (h3 p hp).2⟩
                exact ⟨h1, row_grown (row_below (row_below h2 HBT.out) hza) hg4 (fun p hp => (hq p hp).2), HGR.out af2 hq⟩⟩
            have HB4 : Hid (Below y1.heap.size y1 w4) := ((HB2.out.trans (HBT.out.mono HB2.out.size)).trans (hza.mono HSZ4.out)).trans (grown_below hg4 (B := y1.heap.size) (fun g e => (HOVF.out g e).1) HBS4.out)
            have hrm4 : i + 1 ≤ c4 ∧ c4 ≤ maxLen := row_room ho4
            clear ho4 hg4 hat4 hlt4 hza hat5 HLNV HLFAR HLIA hll HN4 HRW4 HBS4
            go_wp2_with fail
            go_roundg (n - (i + 1))
            case measure => omega
            case rel => exact ⟨i + 1, some ⟨g4, 0, none⟩, c4, af2, nf2, cf2, rfl, rfl, rfl, by go_num, by omega, hrm4.1, hrm4.2, HLI4, HFI4, HB4⟩
      · have hin2 : i = n := by omega
        have hii : ¬ (i : Int) < n := by omega
        have HFN : Hid ((F.firsts tab T).length = nf ∧ wr.ownsRow w.heap.size 3 1 (.slice af nf cf) nf ((F.firsts tab T).map iV)) := ⟨(HFI.out.2 (by omega)).1, row_base (HFI.out.2 (by omega)).2.1 (Nat.le_trans HB0.out.size HY1.out.size)⟩
        subst hin2
        go_wp2_with fail
        go_ret3
        refine ⟨HWB.out _ HBW0.out, ?_⟩
        try rw [if_pos rfl]
        obtain ⟨h1, h2⟩ := HFN.out
        exact ⟨ao, co, af, cf, by rw [h1]; rfl, HLI.out.view (by simp), by rw [h1]; exact h2⟩
end Go.Proofs.YtljgpngbkmembaaDoor

/- Whether places are right: what the document asks. No walk. -/
namespace Go.Proofs.YtljgpngbkmembaaDoor
open Go.RowKit Go.Maps
set_option linter.unusedVariables false
set_option linter.unusedSimpArgs false
namespace F
def wAt (ws : List Int) (t : Int) : Int := ws.getD t.toNat 0
def placeOk (ws : List Int) (slots : Int) (t : Nat) : Bool := (decide (1 ≤ wAt ws t) && decide (wAt ws t ≤ 4)) || (decide (8 ≤ wAt ws t) && decide (wAt ws t < 8 + slots))
def leaves (o : Op) : Bool := decide (o.op = 6) || (decide (7 ≤ o.op) && decide (o.op ≤ 10))
/-- Two temps, the second one written while the first one is live behind: they are at one place, and no copy. -/
def bad1 (ws : List Int) (o : Op) (d t : Int) : Bool := decide (0 ≤ d) && (decide (t ≠ d) && (decide (wAt ws t = wAt ws d) && !(decide (o.op = 2) && decide (t = o.a))))
/-- A temp that is live while another function has the registers is in one. -/
def bad2 (ws : List Int) (o : Op) (d t : Int) : Bool := leaves o && (decide (t ≠ d) && decide (wAt ws t < 8))
def okOne (ws : List Int) (o : Op) (t : Int) : Bool := !(bad1 ws o (wr o) t || bad2 ws o (wr o) t)
def okRow (ws : List Int) (o : Op) (l : List Int) : Bool := (List.range l.length).all fun k => okOne ws o (l.getD k 0)
/-- The first temps, and the parameters. -/
def ext (fs : List Int) : Nat → List Int
  | 0 => fs
  | p + 1 => if (p : Int) ∈ ext fs p then ext fs p else ext fs p ++ [(p : Int)]
def pairOk (ws : List Int) (l : List Int) (i : Nat) : Bool := (List.range i).all fun k => !decide (wAt ws (l.getD i 0) = wAt ws (l.getD k 0))
def rightB (f : Fn) (tab : Nat → Nat → Bool) (ws : List Int) (slots : Int) : Bool :=
  mayF f && (decide ((ws.length : Int) = f.temps) && (decide (0 ≤ slots) && (decide (slots ≤ 400) &&
    ((List.range f.temps.toNat).all (placeOk ws slots) && ((List.range f.code.length).all (fun i => okRow ws (at_ f i) (outs f tab i f.temps.toNat)) &&
      (List.range (ext (firsts tab f.temps.toNat) f.params.toNat).length).all (pairOk ws (ext (firsts tab f.temps.toNat) f.params.toNat)))))))
theorem ext_in {T : Nat} {fs : List Int} (h : ∀ x ∈ fs, 0 ≤ x ∧ x < T) : ∀ {p : Nat}, p ≤ T → ∀ x ∈ ext fs p, 0 ≤ x ∧ x < T
  | 0, _, x, hx => h x hx
  | p + 1, hp, x, hx => by
    rw [ext] at hx
    split at hx
    · exact ext_in h (by omega) x hx
    · rw [List.mem_append, List.mem_singleton] at hx
      rcases hx with hx | rfl
      · exact ext_in h (by omega) x hx
      · omega
theorem ext_len (fs : List Int) : ∀ p, (ext fs p).length ≤ fs.length + p
  | 0 => Nat.le_refl _
  | p + 1 => by
    have := ext_len fs p
    rw [ext]
    split
    · omega
    · rw [List.length_append, List.length_singleton]; omega
theorem outs_in (f : Fn) (tab : Nat → Nat → Bool) (i T : Nat) : ∀ x ∈ outs f tab i T, 0 ≤ x ∧ x < T := by
  intro x hx
  unfold outs at hx
  obtain ⟨t, ht, rfl⟩ := List.mem_map.1 hx
  have := List.mem_range.1 (List.mem_filter.1 ht).1
  constructor
  · exact Int.natCast_nonneg t
  · show (t : Int) < T; omega
theorem firsts_in (tab : Nat → Nat → Bool) (T : Nat) : ∀ x ∈ firsts tab T, 0 ≤ x ∧ x < T := by
  intro x hx
  unfold firsts at hx
  obtain ⟨t, ht, rfl⟩ := List.mem_map.1 hx
  have := List.mem_range.1 (List.mem_filter.1 ht).1
  constructor
  · exact Int.natCast_nonneg t
  · show (t : Int) < T; omega
theorem getD_in {P : Int → Prop} {l : List Int} (h : ∀ x ∈ l, P x) {k : Nat} (hk : k < l.length) : P (l.getD k 0) := h _ (by simp [List.getD, hk])
end F
theorem NumV.w {w : World} {a : Option Addr} {l c : Nat} {ws : List Int} (h : NumV w a l c ws) {t : Int} (h0 : 0 ≤ t) (h1 : t < l) : ∃ b off, a = some ⟨b, off, none⟩ ∧ w.cell? ⟨b, off + t.toNat, none⟩ = some (.int .i64 (F.wAt ws t)) := h.at (i := t.toNat) (by omega)
end Go.Proofs.YtljgpngbkmembaaDoor

/- Places, one by one: registers, slots, what leaves the function. -/
namespace Go.Proofs.YtljgpngbkmembaaDoor
open Go.RowKit Go.Maps
set_option linter.unusedVariables false
set_option linter.unusedSimpArgs false
def F.isReg (p : Int) : Bool := decide (1 ≤ p) && decide (p ≤ 4)
def F.isSlot (p slots : Int) : Bool := decide (8 ≤ p) && decide (p < 8 + slots)
set_option maxRecDepth 100000 in
theorem isRegister_any (p : Int) (w : World) : Calls Tryd.prog 52 #[.int .i64 p] w fun e w' => e = .returned (.bool (F.isReg p)) ∧ w' = w := by
  have HR : Hid (F.isReg p = (decide (1 ≤ p) && decide (p ≤ 4))) := rfl
  obtain ⟨R, hR⟩ : ∃ R, F.isReg p = R := ⟨_, rfl⟩
  rw [hR] at HR ⊢
  clear hR
  by_cases h1 : 1 ≤ p
  · have HV : R = decide (p ≤ 4) := by rw [HR.out, decide_eq_true h1]; rfl
    subst HV
    go_enter Tryd.func52, Tryd.ntmps52
    go_wp2
    go_ret
    exact ⟨rfl, rfl⟩
  · have HV : R = false := by rw [HR.out, decide_eq_false h1]; rfl
    subst HV
    go_enter Tryd.func52, Tryd.ntmps52
    go_wp2
    go_ret
    exact ⟨rfl, rfl⟩
set_option maxRecDepth 100000 in
theorem isSlot_any (p slots : Int) (h0 : 0 ≤ slots) (h4 : slots ≤ 400) (w : World) : Calls Tryd.prog 53 #[.int .i64 p, .int .i64 slots] w fun e w' => e = .returned (.bool (F.isSlot p slots)) ∧ w' = w := by
  have HR : Hid (F.isSlot p slots = (decide (8 ≤ p) && decide (p < 8 + slots))) := rfl
  obtain ⟨R, hR⟩ : ∃ R, F.isSlot p slots = R := ⟨_, rfl⟩
  rw [hR] at HR ⊢
  clear hR
  by_cases h1 : 8 ≤ p
  · have HV : R = decide (p < 8 + slots) := by rw [HR.out, decide_eq_true h1]; rfl
    subst HV
    go_enter Tryd.func53, Tryd.ntmps53
    go_wp2
    go_ret
    exact ⟨rfl, rfl⟩
  · have HV : R = false := by rw [HR.out, decide_eq_false h1]; rfl
    subst HV
    go_enter Tryd.func53, Tryd.ntmps53
    go_wp2
    go_ret
    exact ⟨rfl, rfl⟩
set_option maxRecDepth 100000 in
theorem after_any (p : Int) (h0 : 0 ≤ p) (h4 : p ≤ 1000) (w : World) : Calls Tryd.prog 69 #[.int .i64 p] w fun e w' => e = .returned (.int .i64 (if p = 4 then 8 else p + 1)) ∧ w' = w := by
  by_cases h : p = 4
  · rw [if_pos h]
    subst h
    go_enter Tryd.func69, Tryd.ntmps69
    go_wp2
    go_ret
    exact ⟨rfl, rfl⟩
  · rw [if_neg h]
    have e1 : (p == 4) = false := by simpa using h
    go_enter Tryd.func69, Tryd.ntmps69
    go_wp2
    go_ret
    exact ⟨rfl, rfl⟩
set_option maxRecDepth 100000 in
theorem leaves_any (x : F.Op) (r : Ar) (w : World) : Calls Tryd.prog 63 #[opV x r] w fun e w' => e = .returned (.bool (decide (6 ≤ x.op) && decide (x.op ≤ 10))) ∧ Below w.heap.size w w' := by
  obtain ⟨op, what, nm, d, a, b, n, args, dest⟩ := x
  obtain ⟨ra, rl, rc⟩ := r
  unfold opV
  simp only
  by_cases h : 6 ≤ op ∧ op ≤ 10
  · obtain ⟨h1, h2⟩ := h
    rw [decide_eq_true h1, decide_eq_true h2]
    rcases (show op = 6 ∨ op = 7 ∨ op = 8 ∨ op = 9 ∨ op = 10 by omega) with rfl | rfl | rfl | rfl | rfl
    all_goals
      go_enter Tryd.func63, Tryd.ntmps63
      go_wp2
      go_ret
      exact ⟨rfl, bl1 _ _⟩
  · have HV : (decide (6 ≤ op) && decide (op ≤ 10)) = false := by
      rw [← Bool.not_eq_true, Bool.and_eq_true, decide_eq_true_eq, decide_eq_true_eq]
      exact h
    rw [HV]
    have e6 : (op == 6) = false := by have : ¬ op = 6 := by omega
                                      simpa using this
    have e7 : (op == 7) = false := by have : ¬ op = 7 := by omega
                                      simpa using this
    have e8 : (op == 8) = false := by have : ¬ op = 8 := by omega
                                      simpa using this
    have e9 : (op == 9) = false := by have : ¬ op = 9 := by omega
                                      simpa using this
    have e10 : (op == 10) = false := by have : ¬ op = 10 := by omega
                                        simpa using this
    clear h HV
    go_enter Tryd.func63, Tryd.ntmps63
    go_wp2
    go_ret
    exact ⟨rfl, bl1 _ _⟩
end Go.Proofs.YtljgpngbkmembaaDoor
