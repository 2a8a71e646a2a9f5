/- Of each place, those behind which it may come. -/
import Derived.Test.YtljgpngbkmembaaDoorAMAd
import Derived.Test.YtljgpngbkmembaaDoorAMAb
import Derived.ChangeKeysEq
namespace Go.Proofs.YtljgpngbkmembaaDoor
open Go.RowKit Go.Maps Go.Shelf
attribute [local go_sem] Oper.semAt_some
set_option linter.unusedVariables false
set_option linter.unusedSimpArgs false
theorem infoIs : (Tryd.prog.info? 30).map (fun i => (i.zero, i.size, i.bytes)) = some (some (.slice none 0 0), 1, 24) := by kernel_rfl
set_option maxRecDepth 100000 in
theorem makeIs (w : World) (N : Nat) (hN : N ≤ 65536) :
    (Instr.makeSlice 29 (.int .i64 N) (.int .i64 N)).run Tryd.prog w = .ok (.slice (some ⟨w.heap.size, 0, none⟩) N N) (w.alloc (.cells (List.replicate N (.slice none 0 0)).toArray 30)) := by
  obtain ⟨i, hi, h0, h1, h2⟩ := ainfo infoIs
  have := run_make (P := Tryd.prog) w 29 30 i (.slice none 0 0) Tryd.underlying29 hi h0 .i64 .i64 N N (by omega) (by omega) (by rw [h2]; omega) (by omega)
  rw [this, h1, Int.toNat_natCast]
  congr 3
  unfold madeCells
  apply Array.ext
  · simp
  · intro i h1 h2
    simp [Value.cells, Nat.mod_one]
/-- What has been noted when m operations, and k of the next one's places, have been gone through. -/
structure CmI (w : World) (f : F.Fn) (n m k : Nat) (vs : Nat → Value) (L : Nat → List Int) (W : World) : Prop where
  low : Below w.heap.size w W
  bx : Bx W (w.heap.size + 1) [.slice (some ⟨w.heap.size, 0, none⟩) n n]
  fr : FR w.heap.size W w.heap.size n vs L
  mem : ∀ i, i < n → ∀ a, a ∈ L i ↔ ∃ q : Nat, a = (q : Int) ∧ ((q < m ∧ i ∈ F.nxt (F.at_ f q) q) ∨ (q = m ∧ i ∈ (F.nxt (F.at_ f m) m).take k))
  len : ∀ i, (L i).length ≤ 2 * m + k
  nb : ∀ i, i < n → (vs i).ownBlock ≠ some (w.heap.size + 1)
def CmOut (w : World) (f : F.Fn) (n : Nat) (e : Ending) (W : World) : Prop := ∃ g vs L, e = .returned (.slice (some ⟨g, 0, none⟩) n n) ∧ FR w.heap.size W g n vs L ∧ (∀ i, i < n → ∀ a, a ∈ L i ↔ ∃ q : Nat, a = (q : Int) ∧ q < n ∧ i ∈ F.nxt (F.at_ f q) q) ∧ Below w.heap.size w W
set_option maxRecDepth 100000 in
set_option maxHeartbeats 8000000 in
theorem come_any {w : World} {f : F.Fn} {a : Option Addr} {n c : Nat} (h : OpsV w a n c f.code) (hm : F.mayF f = true) (ht : Shp w) :
    Calls Tryd.prog 56 #[.slice a n c] w (CmOut w f n) := by
  have hC := h.count
  have hhd := F.may_head hm
  have hn2 : n ≤ 20000 := by omega
  have HNX : Hid (∀ m, m < n → ∀ j ∈ F.nxt (F.at_ f m) m, j < n) := fun m hm2 j hj => by have := F.nxt_in hm (by omega : m < f.code.length) j hj; omega
  have HGO : Hid (∀ m Bc Bi, m < n → GoesL Tryd.prog 71 #[.pointer (some ⟨Bc, 0, none⟩), .pointer (some ⟨Bi, 0, none⟩)] (fun x : Nat => #[.int .i64 (x : Int)]) (F.nxt (F.at_ f m) m) (NxtRd Bc Bi a n c m f.code) 46) := fun m Bc Bi hm2 => by
    have ho := F.may_op hm (i := m) (by omega)
    have hop := F.op_kind ho
    refine next_goes Bc Bi a n c m f.code hm2 ⟨by show 0 ≤ (F.at_ f m).op; omega, hop.2⟩ (fun hld => ?_)
    show 0 ≤ (F.at_ f m).dest
    have hld : F.leads (F.at_ f m) = true := hld
    unfold F.leads at hld
    unfold F.opOk at ho
    rw [Bool.or_eq_true, decide_eq_true_eq, decide_eq_true_eq] at hld
    rcases hld with e | e <;> simp [e, F.inT] at ho <;> omega
  have HO : Hid _ := h
  have HT : Hid _ := ht
  have HMK := makeIs w n (by omega)
  obtain ⟨ii, hii, hz0, hz1, hz2⟩ := ainfo infoN
  clear h ht hm hhd hC
  refine (callsIn_wide (n := 6)).1 ?_
  refine callsIn_of_wp_marks Tryd.func56 rfl trivial ?_ rfl
  simp only [Tryd.ntmps56, List.size_toArray, List.length_cons, List.length_nil, Nat.reduceAdd, Nat.reduceSub, Array.replicate_succ, Array.replicate_zero, List.push_toArray, List.append_toArray, List.nil_append, List.cons_append]
  obtain ⟨W0, hW0⟩ : ∃ W0, (w.alloc (.cells (List.replicate n (.slice none 0 0)).toArray 30)).alloc (.cells #[.slice (some ⟨w.heap.size, 0, none⟩) n n] 29) = W0 := ⟨_, rfl⟩
  have HI0 : Hid (CmI w f n 0 0 (fun _ => .slice none 0 0) (fun _ => []) W0) := by
    have hb1 := bl1 w (.cells (List.replicate n (.slice none 0 0)).toArray 30)
    have fr := FR.start w n
    obtain ⟨A1, hA1⟩ : ∃ A1, w.alloc (.cells (List.replicate n (.slice none 0 0)).toArray 30) = A1 := ⟨_, rfl⟩
    have s1 : A1.heap.size = w.heap.size + 1 := by rw [← hA1]; simp
    rw [hA1] at fr hb1 hW0
    have x := Bx.new A1 #[.slice (some ⟨w.heap.size, 0, none⟩) n n] 29
    rw [hW0, s1] at x
    refine ⟨?_, x, ?_, fun i hi a => ⟨(fun h => by cases h), (fun hq => ?_)⟩, fun i => Nat.zero_le _, (fun i hi e => by cases e)⟩
    · rw [← hW0]; exact hb1.alloc hb1.size _
    · rw [← hW0]; exact fr.below (bl1 _ _)
    · obtain ⟨q, -, h⟩ := hq
      rcases h with ⟨h, -⟩ | ⟨-, h⟩
      · omega
      · simp at h
  simp only [List.toArray_replicate] at hW0
  gi_wp2
  clear hW0
  refine wpIn_loop_ghost (fun g a' W => ∃ (m : Nat) (Ds : List Nat) (vs : Nat → Value) (L : Nat → List Int) (u4 u5 u12 u13 u14 u15 u16 u17 u18 u19 u20 u21 u22 u23 u24 u25 u26 u27 u28 u29 : Value), g = n - m ∧ a' = { tmps := #[.slice a n c, undef, .slice none 0 0, .pointer (some ⟨w.heap.size + 1, 0, none⟩), u4, u5, .slice a n c, .int .i64 n, .slice (some ⟨w.heap.size, 0, none⟩) n n, .slice a n c, .int .i64 n, .int .i64 m, u12, u13, u14, u15, u16, u17, u18, u19, u20, u21, u22, u23, u24, u25, u26, u27, u28, u29], defers := Ds.map mk } ∧ m ≤ n ∧ Hid (CmI w f n m 0 vs L W) ∧ Hid (Mk w.heap.size W Ds)) n ⟨0, [], _, _, undef, undef, undef, undef, undef, undef, undef, undef, undef, undef, undef, undef, undef, undef, undef, undef, undef, undef, undef, undef, rfl, rfl, Nat.zero_le _, HI0, Mk.nil _ _⟩ ?_
  rintro g a' W ⟨m, Ds, vs, L, u4, u5, u12, u13, u14, u15, u16, u17, u18, u19, u20, u21, u22, u23, u24, u25, u26, u27, u28, u29, rfl, rfl, hmn, HI, HM⟩
  clear HI0
  by_cases hin : m < n
  · have hm0 : (m : Int) < n := by omega
    have hi0 : 0 ≤ (m : Int) := by omega
    have HW3 : Hid (Bx (((W.alloc (.cells #[.int .i64 m] 3)).alloc (.cells #[.slice a n c] 22)).alloc (.cells #[.int .i64 m] 3)) W.heap.size [.int .i64 m] ∧ Bx (((W.alloc (.cells #[.int .i64 m] 3)).alloc (.cells #[.slice a n c] 22)).alloc (.cells #[.int .i64 m] 3)) (W.heap.size + 1) [.slice a n c] ∧ Bx (((W.alloc (.cells #[.int .i64 m] 3)).alloc (.cells #[.slice a n c] 22)).alloc (.cells #[.int .i64 m] 3)) (W.heap.size + 2) [.int .i64 m] ∧ Below W.heap.size W (((W.alloc (.cells #[.int .i64 m] 3)).alloc (.cells #[.slice a n c] 22)).alloc (.cells #[.int .i64 m] 3)) ∧ W.heap.size + 3 = (((W.alloc (.cells #[.int .i64 m] 3)).alloc (.cells #[.slice a n c] 22)).alloc (.cells #[.int .i64 m] 3)).heap.size) := by
      have x1 := Bx.new W #[.int .i64 m] 3
      have b1 := bl1 W (.cells #[.int .i64 m] 3)
      obtain ⟨A1, hA1⟩ : ∃ A1, W.alloc (.cells #[.int .i64 m] 3) = A1 := ⟨_, rfl⟩
      have s1 : A1.heap.size = W.heap.size + 1 := by rw [← hA1]; simp
      rw [hA1] at x1 b1 ⊢
      have x2 := Bx.new A1 #[.slice a n c] 22
      have b2 := bl1 A1 (.cells #[.slice a n c] 22)
      obtain ⟨A2, hA2⟩ : ∃ A2, A1.alloc (.cells #[.slice a n c] 22) = A2 := ⟨_, rfl⟩
      have s2 : A2.heap.size = W.heap.size + 2 := by rw [← hA2]; simp [s1]
      rw [hA2] at x2 b2 ⊢
      have x3 := Bx.new A2 #[.int .i64 m] 3
      have b3 := bl1 A2 (.cells #[.int .i64 m] 3)
      rw [s1] at x2
      rw [s2] at x3
      exact ⟨(x1.below b2).below b3, x2.below b3, x3, b1.trans ((b2.mono b1.size).trans (b3.mono (Nat.le_trans b1.size b2.size))), by simp [s2]⟩
    gi_wp2
    refine ⟨trivial, (callsIn_wide.2 (next_any a n c m _)).mono ?_⟩
    rintro e y ⟨rfl, rfl⟩
    simp only [World.size_alloc]
    generalize (((W.alloc (.cells #[.int .i64 m] 3)).alloc (.cells #[.slice a n c] 22)).alloc (.cells #[.int .i64 m] 3)) = W3 at HW3 ⊢
    have HDL : Hid (∀ D ∈ Ds, D < W.heap.size) := HM.out.lt
    have HM3 : Hid (Mk w.heap.size W3 Ds) := HM.out.below HW3.out.2.2.2.1
    have HI3 : Hid (CmI w f n m 0 vs L W3) := ⟨HI.out.low.trans (HW3.out.2.2.2.1.mono HI.out.low.size), HI.out.bx.below HW3.out.2.2.2.1, HI.out.fr.below HW3.out.2.2.2.1, HI.out.mem, HI.out.len, HI.out.nb⟩
    have HBW : Hid (w.heap.size + 1 < W.heap.size) := HI.out.bx.lt
    have HNB : Hid (∀ i, i < n → ∀ b, (vs i).ownBlock = some b → b < W.heap.size ∨ W.heap.size + 2 < b) := fun i hi b hb => by
      obtain ⟨cur, hcur⟩ := own_cells (HI.out.fr.own i hi) hb
      have := (Array.getElem?_eq_some_iff.1 hcur).1
      omega
    obtain ⟨b4, hb4⟩ : ∃ b4, W.heap.size = b4 := ⟨_, rfl⟩
    rw [hb4] at HW3 HDL HBW HNB ⊢
    clear HI HM hb4
    gi_wp2
    refine range_l (β := Nat) (gf := 71) (lb := #[.pointer (some ⟨b4 + 1, 0, none⟩), .pointer (some ⟨b4 + 2, 0, none⟩)]) (T := 46) (HGO.out m (b4 + 1) (b4 + 2) hin) rfl (enters_of Tryd.func71 (by kernel_rfl) rfl)
      (fun k W' => ∃ vs L, CmI w f n m k vs L W' ∧ Bx W' b4 [.int .i64 m] ∧ Bx W' (b4 + 1) [.slice a n c] ∧ Bx W' (b4 + 2) [.int .i64 m] ∧ Mk w.heap.size W' Ds ∧ (∀ i, i < n → ∀ b, (vs i).ownBlock = some b → b < b4 ∨ b4 + 2 < b)) ?a1 (fun _ => rfl) ?assign ?ib ?ip ?rd ⟨vs, L, HI3.out, HW3.out.1, HW3.out.2.1, HW3.out.2.2.1, HM3.out, HNB.out⟩ ?body ?done
    case assign =>
      intro l x W K hK
      gi_wp2
      exact hK
    case ib =>
      rintro k A B ⟨vs, L, h1, h2, h3, h4, h5, h6⟩ hB
      exact ⟨vs, L, ⟨h1.low.trans (hB.mono h1.low.size), h1.bx.below hB, h1.fr.below hB, h1.mem, h1.len, h1.nb⟩, h2.below hB, h3.below hB, h4.below hB, h5.below hB, h6⟩
    case ip =>
      rintro k A l o o' hl hlo ho ⟨vs, L, h1, h2, h3, h4, h5, h6⟩
      have hs := HW3.out.2.2.2.2
      have hw := HBW.out
      exact ⟨vs, L, ⟨h1.low.trans (below_put _ _ (by omega)), h1.bx.obj hlo ho o', h1.fr.put hlo ho o', h1.mem, h1.len, h1.nb⟩, h2.obj hlo ho o', h3.obj hlo ho o', h4.obj hlo ho o', h5.put (fun D hD => by have := HDL.out D hD; omega) o', h6⟩
    case rd =>
      rintro k A ⟨vs, L, h1, h2, h3, h4, h5, h6⟩
      exact ⟨h3.c 0 _ rfl, h4.c 0 _ rfl, HO.out.below h1.low, HT.out.below h1.low⟩
    case body =>
      rintro lp k j Y hk ⟨vs, L, h1, h2, h3, h4, h5, h6⟩
      have HK : Hid ((F.nxt (F.at_ f m) m)[k]? = some j) := hk
      have H1 : Hid (CmI w f n m k vs L Y) := h1
      have H2 : Hid (Bx Y b4 [.int .i64 m]) := h2
      have H3 : Hid (Bx Y (b4 + 1) [.slice a n c]) := h3
      have H4 : Hid (Bx Y (b4 + 2) [.int .i64 m]) := h4
      have H5 : Hid (Mk w.heap.size Y Ds) := h5
      have hjn : j < n := HNX.out m hin j (List.mem_of_getElem? hk)
      have hjl : (j : Int) < n := by omega
      have hj0 : 0 ≤ (j : Int) := by omega
      have hb4 := h2.lt
      have hlen := h1.len j
      have hk2 : k < 2 := by
        have := (List.getElem?_eq_some_iff.1 hk).1
        unfold F.nxt at this
        split at this <;> split at this <;> simp at this <;> omega
      have HRW : Hid (Y.ownsRow w.heap.size 3 1 (vs j) (L j).length ((L j).map iV)) := h1.fr.own j hjn
      have HSK : Hid (∀ z : World, Below Y.heap.size Y z → (fun w' : World => w'.cell? ⟨w.heap.size + 1, 0, none⟩ = some (.slice (some ⟨w.heap.size, 0, none⟩) n n) ∧ w'.cell? ⟨b4, 0, none⟩ = some (.int .i64 m)) z) := fun z hz => ⟨cell_thru hz (h1.bx.c 0 _ rfl), cell_thru hz (h2.c 0 _ rfl)⟩
      have cj : Y.cell? ⟨w.heap.size, j, none⟩ = some (vs j) := h1.fr.cell j hjn
      have HB1 : Hid (Below Y.heap.size Y (Y.alloc (.cells #[.int .i64 m] 3)).drew) := (bl1 _ _).drew
      have HW1 : Hid ((Y.alloc (.cells #[.int .i64 m] 3)).drew.ownsRow w.heap.size 3 1 (vs j) (L j).length ((L j).map iV)) := row_below HRW.out HB1.out
      have HNC : Hid (∀ i u, ([iV m] : List Value)[i]? = some u → (Y.alloc (.cells #[.int .i64 m] 3)).drew.cell? ((⟨Y.heap.size, 0, none⟩ : Addr).add i) = some u) := fun i u hu => by
        rw [Addr.add_lit, Nat.zero_add]
        exact (World.cell?_drew ..).trans (ncell_at (by simpa [iV] using hu))
      have HCJ : Hid ((Y.alloc (.cells #[.int .i64 m] 3)).drew.cell? ⟨w.heap.size, j, none⟩ = some (vs j)) := cell_thru HB1.out cj
      have HLW : Hid (w.heap.size ≤ Y.heap.size) := h1.low.size
      have HGL : Hid (w.heap.size < Y.heap.size) := h1.fr.lt
      have cjd : (Y.alloc (.cells #[.int .i64 m] 3)).drew.cell? ⟨w.heap.size, j, none⟩ = some (vs j) := HCJ.out
      have H6 : Hid (∀ i, i < n → ∀ b, (vs i).ownBlock = some b → b < b4 ∨ b4 + 2 < b) := h6
      have HB4 : Hid (w.heap.size + 1 < b4 ∧ b4 + 2 < Y.heap.size) := ⟨HBW.out, h4.lt⟩
      have hrow : ∀ b, (vs j).ownBlock = some b → ∃ cur, (Y.alloc (.cells #[.int .i64 m] 3)).drew.heap[b]? = some (.cells cur 3) := fun b hb => own_cells HW1.out hb
      have HCK : Hid (∀ Z : World, (Y.alloc (.cells #[.int .i64 m] 3)).drew.grownBy Z (vs j).ownBlock → Z.cell? ⟨w.heap.size + 1, 0, none⟩ = some (.slice (some ⟨w.heap.size, 0, none⟩) n n) ∧ Z.cell? ⟨b4, 0, none⟩ = some (.int .i64 m)) := fun Z hg => by
        obtain ⟨p1, p2⟩ := HSK.out _ HB1.out
        refine ⟨hg.cell p1 (fun e => ?_), hg.cell p2 (fun e => by have := h6 j hjn b4 e.symm; omega)⟩
        exact h1.nb j hjn e.symm
      have HEND : Hid (∀ x1 cp (Y6 : World), Y6.ownsRow w.heap.size 3 1 (.slice (some ⟨x1, 0, none⟩) ((L j).length + 1) cp) ((L j).length + 1) ((L j).map iV ++ [iV m]) → (Y.alloc (.cells #[.int .i64 m] 3)).drew.grownBy Y6 (vs j).ownBlock → ((vs j).ownBlock = some x1 ∨ x1 = Y.heap.size + 1) →
          Kf W3.heap.size Y (Y6.setCell ⟨w.heap.size, j, none⟩ (.slice (some ⟨x1, 0, none⟩) ((L j).length + 1) cp)) ∧ KT 46 W3.heap.size Y (Y6.setCell ⟨w.heap.size, j, none⟩ (.slice (some ⟨x1, 0, none⟩) ((L j).length + 1) cp)) ∧ ∃ vs' L', CmI w f n m (k + 1) vs' L' (Y6.setCell ⟨w.heap.size, j, none⟩ (.slice (some ⟨x1, 0, none⟩) ((L j).length + 1) cp)) ∧ Bx (Y6.setCell ⟨w.heap.size, j, none⟩ (.slice (some ⟨x1, 0, none⟩) ((L j).length + 1) cp)) b4 [.int .i64 m] ∧ Bx (Y6.setCell ⟨w.heap.size, j, none⟩ (.slice (some ⟨x1, 0, none⟩) ((L j).length + 1) cp)) (b4 + 1) [.slice a n c] ∧ Bx (Y6.setCell ⟨w.heap.size, j, none⟩ (.slice (some ⟨x1, 0, none⟩) ((L j).length + 1) cp)) (b4 + 2) [.int .i64 m] ∧ Mk w.heap.size (Y6.setCell ⟨w.heap.size, j, none⟩ (.slice (some ⟨x1, 0, none⟩) ((L j).length + 1) cp)) Ds ∧ (∀ i, i < n → ∀ b, (vs' i).ownBlock = some b → b < b4 ∨ b4 + 2 < b)) := by
        intro x1 cp Y6 ho hg hat
        have hs3 := HW3.out.2.2.2.2
        have hfd : FR w.heap.size (Y.alloc (.cells #[.int .i64 m] 3)).drew w.heap.size n vs L := h1.fr.below HB1.out
        have hH : (Y.alloc (.cells #[.int .i64 m] 3)).drew.heap.size ≤ Y.heap.size + 1 := by simp
        have hfr := hfd.push hjn hg ho hat (.inl hH)
        obtain ⟨cs6, hcs6⟩ := hfd.blk
        have hg6 : Y6.heap[w.heap.size]? = some (.cells cs6 30) := (hg.block _ (Array.getElem?_eq_some_iff.1 hcs6).1 (fun e => hfd.rowg hjn e.symm)).trans hcs6
        have hrow : ∀ b, (vs j).ownBlock = some b → ∃ c T' f, (Y.alloc (.cells #[.int .i64 m] 3)).drew.heap[b]? = some (.cells c T' f) ∧ T' ≠ 46 := fun b hb => by
          obtain ⟨cur, hcur⟩ := own_cells (hfd.own j hjn) hb
          exact ⟨cur, _, _, hcur, by decide⟩
        obtain ⟨kf1, kt1⟩ := keep_gb (B := W3.heap.size) hg hrow
        obtain ⟨kf2, kt2⟩ := keep_gb (T := 46) (B := W3.heap.size) (gb_set Y6 ⟨w.heap.size, j, none⟩ (.slice (some ⟨x1, 0, none⟩) ((L j).length + 1) cp)) (fun b hb => by cases hb; exact ⟨cs6, _, _, hg6, by decide⟩)
        have hbx : ∀ {q : Nat} {v : Value}, Bx Y q [v] → q ≠ w.heap.size → (∀ b, (vs j).ownBlock = some b → b ≠ q) → Bx (Y6.setCell ⟨w.heap.size, j, none⟩ (.slice (some ⟨x1, 0, none⟩) ((L j).length + 1) cp)) q [v] := fun {q v} hx hq hr =>
          (((hx.below HB1.out).gb hg (fun e => hr q e.symm rfl))).far (Ne.symm hq) _
        refine ⟨((Kf.below HB1.out).trans kf1).trans kf2, ((KT.below HB1.out).trans kt1).trans kt2, _, _, ⟨?_, ?_, hfr, ?_, ?_, ?_⟩, ?_, ?_, ?_, ?_, ?_⟩
        · refine ((h1.low.trans (HB1.out.mono h1.low.size)).grown hg (Nat.le_trans h1.low.size HB1.out.size) (fun b hb => ?_)).setCell (Nat.le_refl _) _
          exact (h1.fr.own j hjn |>.lt b hb).1
        · exact hbx h1.bx (by omega) (fun b hb e => h1.nb j hjn (by rw [hb, e]))
        · intro i hi a
          have hk' := HK.out
          by_cases e : i = j
          · subst e
            simp only [if_true]
            rw [List.mem_append, List.mem_singleton, h1.mem i hi, List.take_add_one, hk']
            constructor
            · rintro (⟨q, rfl, hq⟩ | rfl)
              · refine ⟨q, rfl, hq.imp id (fun h => ⟨h.1, List.mem_append_left _ h.2⟩)⟩
              · exact ⟨m, rfl, .inr ⟨rfl, List.mem_append_right _ (by simp)⟩⟩
            · rintro ⟨q, rfl, hq | ⟨hq, hq2⟩⟩
              · exact .inl ⟨q, rfl, .inl hq⟩
              · exact .inr (by rw [hq])
          · simp only [if_neg e]
            rw [h1.mem i hi, List.take_add_one, hk']
            constructor
            · rintro ⟨q, rfl, hq⟩
              exact ⟨q, rfl, hq.imp id (fun h => ⟨h.1, List.mem_append_left _ h.2⟩)⟩
            · rintro ⟨q, rfl, hq | ⟨hq, hq2⟩⟩
              · exact ⟨q, rfl, .inl hq⟩
              · rcases List.mem_append.1 hq2 with h | h
                · exact ⟨q, rfl, .inr ⟨hq, h⟩⟩
                · simp at h; exact absurd h e
        · intro i
          by_cases e : i = j
          · subst e; simp only [if_true, List.length_append, List.length_cons, List.length_nil]; have := h1.len i; omega
          · simp only [if_neg e]; have := h1.len i; omega
        · intro i hi
          by_cases e : i = j
          · rw [if_pos e]
            intro hb
            have hb' : x1 = w.heap.size + 1 := by simpa [Value.ownBlock] using hb
            rcases hat with hat | hat
            · exact h1.nb j hjn (by rw [hat, hb'])
            · have := h1.bx.lt; omega
          · rw [if_neg e]
            exact h1.nb i hi
        · exact hbx h2 (by have := HBW.out; omega) (fun b hb => by have := h6 j hjn b hb; omega)
        · exact hbx h3 (by have := HBW.out; omega) (fun b hb => by have := h6 j hjn b hb; omega)
        · exact hbx h4 (by have := HBW.out; omega) (fun b hb => by have := h6 j hjn b hb; omega)
        · exact (((h5.below HB1.out).kf (keep_gb (T := 46) hg hrow).1).kf (keep_gb (T := 46) (gb_set Y6 ⟨w.heap.size, j, none⟩ (.slice (some ⟨x1, 0, none⟩) ((L j).length + 1) cp)) (fun b hb => by cases hb; exact ⟨cs6, _, _, hg6, by decide⟩)).1)
        · intro i hi b hb
          by_cases e : i = j
          · rw [if_pos e] at hb
            have hb' : x1 = b := by simpa [Value.ownBlock] using hb
            rw [← hb']
            rcases hat with hat | hat
            · exact h6 j hjn _ hat
            · have := h4.lt; omega
          · rw [if_neg e] at hb
            exact h6 i hi b hb
      clear hk h1 h2 h3 h4 h5 h6 hrow HI3 HM3
      gi_wp2
      refine region_round (S := (fun w' : World => w'.cell? ⟨w.heap.size + 1, 0, none⟩ = some (.slice (some ⟨w.heap.size, 0, none⟩) n n) ∧ w'.cell? ⟨b4, 0, none⟩ = some (.int .i64 m))) (by kernel_rfl) (by kernel_rfl) (by rintro ⟨_, _, hh⟩; exact hh) (HSK.out _ (Below.refl _ _).drew) (fun hHeld => ?_)
      refine tkr (i := 0) (v := ?_) (tA rfl) (by kernel_rfl) (fun _ _ _ h => h) (Or.inl ⟨by rfl, ?_⟩) (by assumption) ?_
      rotate_left
      · (intro w hSw; (try dsimp only at hSw); go_simp <;> with_reducible rfl)
      simp only [Act.put, List.setIfInBounds_toArray, List.set_cons_zero, List.set_cons_succ]
      refine tkr (i := 1) (v := ?_) (tA rfl) (by kernel_rfl) (fun _ _ _ h => h) (Or.inl ⟨by rfl, ?_⟩) (by assumption) ?_
      rotate_left
      · (intro w hSw; (try dsimp only at hSw); go_simp <;> with_reducible rfl)
      simp only [Act.put, List.setIfInBounds_toArray, List.set_cons_zero, List.set_cons_succ]
      refine tkr (i := 2) (v := ?_) (tA rfl) (by kernel_rfl) (fun _ _ _ h => h) (Or.inl ⟨by rfl, ?_⟩) (by assumption) ?_
      rotate_left
      · (intro w hSw; (try dsimp only at hSw); go_simp <;> with_reducible rfl)
      simp only [Act.put, List.setIfInBounds_toArray, List.set_cons_zero, List.set_cons_succ]
      refine tkr (i := 3) (v := ?_) (tA rfl) (by kernel_rfl) (fun _ _ _ h => h) (Or.inl ⟨by rfl, ?_⟩) (by assumption) ?_
      rotate_left
      · (intro w hSw; (try dsimp only at hSw); go_simp <;> with_reducible rfl)
      simp only [Act.put, List.setIfInBounds_toArray, List.set_cons_zero, List.set_cons_succ]
      refine tkr (i := 4) (v := ?_) (tA rfl) (by kernel_rfl) (fun _ _ _ h => h) (Or.inl ⟨by rfl, ?_⟩) (by assumption) ?_
      rotate_left
      · (intro w hSw; (try dsimp only at hSw); go_simp <;> with_reducible rfl)
      simp only [Act.put, List.setIfInBounds_toArray, List.set_cons_zero, List.set_cons_succ]
      refine tkr (i := 6) (v := ?_) (tA rfl) (by kernel_rfl) (fun _ _ _ h => h) (Or.inl ⟨by rfl, ?_⟩) (by assumption) ?_
      rotate_left
      · (intro w hSw; (try dsimp only at hSw); go_simp <;> with_reducible rfl)
      simp only [Act.put, List.setIfInBounds_toArray, List.set_cons_zero, List.set_cons_succ]
      refine wpAnyH_ready (rs := [5, 7]) (by kernel_rfl) (by simp) ?_
      refine AllReadyH.cons (tA rfl) (fun K hK => ?_) (AllReadyH.cons (tA rfl) (fun K hK => ?_) AllReadyH.nil)
      · go_simp
        refine hK.out _ _ (by first | exact HSK.out _ (Below.refl _ _).drew | exact HSK.out _ HB1.out) (fun hHeld => ?_)
        clear hK K
        try simp only [Act.put, List.setIfInBounds_toArray, List.set_cons_zero, List.set_cons_succ]
        refine wpAnyH_ready (rs := [7]) (by kernel_rfl) (by simp) ?_
        refine AllReadyH.cons (tA rfl) (fun K hK => ?_) AllReadyH.nil
        go_simp
        refine hK.out _ _ (by first | exact HSK.out _ (Below.refl _ _).drew | exact HSK.out _ HB1.out) (fun hHeld => ?_)
        clear hK K
        try simp only [Act.put, List.setIfInBounds_toArray, List.set_cons_zero, List.set_cons_succ]
        refine wpAnyH_ready (rs := [8]) (by kernel_rfl) (by simp) ?_
        refine AllReadyH.cons (tA rfl) (fun K hK => ?_) AllReadyH.nil
        refine step_append_lies _ (by rfl) _ _ 30 (by rfl) w.heap.size 3 ii _ 1 8 Tryd.underlying30 hii hz0 hz1 hz2 (by rfl) (by decide) (vs j) (L j).length _ (by rfl) HW1.out ⟨Y.heap.size, 0, none⟩ 1 1 [iV m] (by rfl) (by rfl) HNC.out (by intro u hu; simp at hu; subst hu; rfl) (by decide) (by unfold maxLen; omega) (by omega) (by have := HLW.out; simp; omega) (Y.heap.size + 1) (by simp) ?_
        intro x1 cp Y6 ho6 hg6 hat6 hlt6
        have HO6 : Hid (Y6.ownsRow w.heap.size 3 1 (.slice (some ⟨x1, 0, none⟩) ((L j).length + 1) cp) ((L j).length + 1) ((L j).map iV ++ [iV m])) := ho6
        have HG6 : Hid ((Y.alloc (.cells #[.int .i64 m] 3)).drew.grownBy Y6 (vs j).ownBlock) := hg6
        have HAT6 : Hid ((vs j).ownBlock = some x1 ∨ x1 = Y.heap.size + 1) := hat6
        have HFD : Hid (FR w.heap.size (Y.alloc (.cells #[.int .i64 m] 3)).drew w.heap.size n vs L) := H1.out.fr.below HB1.out
        have m6 : Y6.cell? ⟨w.heap.size, j, none⟩ = some (vs j) := hg6.cell HCJ.out (fun e => HFD.out.rowg hjn e.symm)
        have z6 : Y6.frozen? ⟨w.heap.size, j, none⟩ = false := (hg6.frozen_far ⟨w.heap.size, j, none⟩ HFD.out.lt (fun e => HFD.out.rowg hjn e.symm)).trans HFD.out.gcell
        have HC8 : Hid (Y6.cell? ⟨w.heap.size + 1, 0, none⟩ = some (.slice (some ⟨w.heap.size, 0, none⟩) n n) ∧ Y6.cell? ⟨b4, 0, none⟩ = some (.int .i64 m)) := HCK.out Y6 HG6.out
        refine hK.out _ _ HC8.out (fun hHeld => ?_)
        clear hK K ho6 hg6 hat6
        try simp only [Act.put, List.setIfInBounds_toArray, List.set_cons_zero, List.set_cons_succ]
        refine tkr (i := 9) (v := ?_) (tA rfl) (by kernel_rfl) (fun _ _ _ h => h) (Or.inl ⟨by rfl, ?_⟩) (by assumption) ?_
        rotate_left
        · (intro w hSw; (try dsimp only at hSw); go_simp <;> with_reducible rfl)
        simp only [Act.put, List.setIfInBounds_toArray, List.set_cons_zero, List.set_cons_succ]
        refine wpAnyH_ready (rs := [10]) (by kernel_rfl) (by simp) ?_
        refine AllReadyH.cons (tA rfl) (fun K hK => ?_) AllReadyH.nil
        clear hHeld
        go_simp
        refine hK.out _ _ ⟨(World.cell?_setCell_far _ ⟨w.heap.size, j, none⟩ ⟨w.heap.size + 1, 0, none⟩ _ (by simp)).trans HC8.out.1, (World.cell?_setCell_far _ ⟨w.heap.size, j, none⟩ ⟨b4, 0, none⟩ _ (by have := HB4.out; simp; omega)).trans HC8.out.2⟩ (fun hHeld => ?_)
        clear hK K hHeld
        try simp only [Act.put, List.setIfInBounds_toArray, List.set_cons_zero, List.set_cons_succ]
        refine wpAnyH_done (by kernel_rfl) ?_ _
        gi_wp2
        exact HEND.out _ _ _ HO6.out HG6.out HAT6.out
      · go_simp
        refine hK.out _ _ (by first | exact HSK.out _ (Below.refl _ _).drew | exact HSK.out _ HB1.out) (fun hHeld => ?_)
        clear hK K
        try simp only [Act.put, List.setIfInBounds_toArray, List.set_cons_zero, List.set_cons_succ]
        refine wpAnyH_ready (rs := [5]) (by kernel_rfl) (by simp) ?_
        refine AllReadyH.cons (tA rfl) (fun K hK => ?_) AllReadyH.nil
        go_simp
        refine hK.out _ _ (by first | exact HSK.out _ (Below.refl _ _).drew | exact HSK.out _ HB1.out) (fun hHeld => ?_)
        clear hK K
        try simp only [Act.put, List.setIfInBounds_toArray, List.set_cons_zero, List.set_cons_succ]
        refine wpAnyH_ready (rs := [8]) (by kernel_rfl) (by simp) ?_
        refine AllReadyH.cons (tA rfl) (fun K hK => ?_) AllReadyH.nil
        refine step_append_lies _ (by rfl) _ _ 30 (by rfl) w.heap.size 3 ii _ 1 8 Tryd.underlying30 hii hz0 hz1 hz2 (by rfl) (by decide) (vs j) (L j).length _ (by rfl) HW1.out ⟨Y.heap.size, 0, none⟩ 1 1 [iV m] (by rfl) (by rfl) HNC.out (by intro u hu; simp at hu; subst hu; rfl) (by decide) (by unfold maxLen; omega) (by omega) (by have := HLW.out; simp; omega) (Y.heap.size + 1) (by simp) ?_
        intro x1 cp Y6 ho6 hg6 hat6 hlt6
        have HO6 : Hid (Y6.ownsRow w.heap.size 3 1 (.slice (some ⟨x1, 0, none⟩) ((L j).length + 1) cp) ((L j).length + 1) ((L j).map iV ++ [iV m])) := ho6
        have HG6 : Hid ((Y.alloc (.cells #[.int .i64 m] 3)).drew.grownBy Y6 (vs j).ownBlock) := hg6
        have HAT6 : Hid ((vs j).ownBlock = some x1 ∨ x1 = Y.heap.size + 1) := hat6
        have HFD : Hid (FR w.heap.size (Y.alloc (.cells #[.int .i64 m] 3)).drew w.heap.size n vs L) := H1.out.fr.below HB1.out
        have m6 : Y6.cell? ⟨w.heap.size, j, none⟩ = some (vs j) := hg6.cell HCJ.out (fun e => HFD.out.rowg hjn e.symm)
        have z6 : Y6.frozen? ⟨w.heap.size, j, none⟩ = false := (hg6.frozen_far ⟨w.heap.size, j, none⟩ HFD.out.lt (fun e => HFD.out.rowg hjn e.symm)).trans HFD.out.gcell
        have HC8 : Hid (Y6.cell? ⟨w.heap.size + 1, 0, none⟩ = some (.slice (some ⟨w.heap.size, 0, none⟩) n n) ∧ Y6.cell? ⟨b4, 0, none⟩ = some (.int .i64 m)) := HCK.out Y6 HG6.out
        refine hK.out _ _ HC8.out (fun hHeld => ?_)
        clear hK K ho6 hg6 hat6
        try simp only [Act.put, List.setIfInBounds_toArray, List.set_cons_zero, List.set_cons_succ]
        refine tkr (i := 9) (v := ?_) (tA rfl) (by kernel_rfl) (fun _ _ _ h => h) (Or.inl ⟨by rfl, ?_⟩) (by assumption) ?_
        rotate_left
        · (intro w hSw; (try dsimp only at hSw); go_simp <;> with_reducible rfl)
        simp only [Act.put, List.setIfInBounds_toArray, List.set_cons_zero, List.set_cons_succ]
        refine wpAnyH_ready (rs := [10]) (by kernel_rfl) (by simp) ?_
        refine AllReadyH.cons (tA rfl) (fun K hK => ?_) AllReadyH.nil
        clear hHeld
        go_simp
        refine hK.out _ _ ⟨(World.cell?_setCell_far _ ⟨w.heap.size, j, none⟩ ⟨w.heap.size + 1, 0, none⟩ _ (by simp)).trans HC8.out.1, (World.cell?_setCell_far _ ⟨w.heap.size, j, none⟩ ⟨b4, 0, none⟩ _ (by have := HB4.out; simp; omega)).trans HC8.out.2⟩ (fun hHeld => ?_)
        clear hK K hHeld
        try simp only [Act.put, List.setIfInBounds_toArray, List.set_cons_zero, List.set_cons_succ]
        refine wpAnyH_done (by kernel_rfl) ?_ _
        gi_wp2
        exact HEND.out _ _ _ HO6.out HG6.out HAT6.out
    case done =>
      rintro D Y hD ⟨vs, L, h1, h2, h3, h4, h5, h6⟩ hK
      have hs3 := HW3.out.2.2.2.2
      have HEND : Hid (CmI w f n (m + 1) 0 vs L Y ∧ Mk w.heap.size Y (D :: Ds)) := by
        refine ⟨⟨h1.low, h1.bx, h1.fr, fun i hi a => ?_, fun i => ?_, h1.nb⟩, h5.cons hK (by have := HBW.out; omega) (fun E hE => by have := HDL.out E hE; omega)⟩
        · rw [h1.mem i hi]
          rw [List.take_length]
          constructor
          · rintro ⟨q, rfl, hq | ⟨hq, hq2⟩⟩
            · exact ⟨q, rfl, .inl ⟨by omega, hq.2⟩⟩
            · subst hq; exact ⟨q, rfl, .inl ⟨by omega, hq2⟩⟩
          · rintro ⟨q, rfl, hq | ⟨hq, hq2⟩⟩
            · by_cases e : q = m
              · subst e; exact ⟨q, rfl, .inr ⟨rfl, hq.2⟩⟩
              · exact ⟨q, rfl, .inl ⟨by omega, hq.2⟩⟩
            · simp at hq2
        · have h9 := h1.len i
          have : (F.nxt (F.at_ f m) m).length ≤ 2 := by unfold F.nxt; split <;> split <;> simp
          omega
      clear h1 h2 h3 h4 h5 h6 hK HI3 HM3 HNB
      gi_wp2
      refine ⟨n - (m + 1), by omega, m + 1, D :: Ds, vs, L, _, _, _, _, _, _, _, _, _, _, _, _, _, _, _, _, _, _, _, _, rfl, rfl, by omega, HEND.out.1, HEND.out.2⟩
  · have hmn2 : m = n := by omega
    have hmn3 : ¬ (m : Int) < n := by omega
    have c3 := HI.out.bx.c 0 _ rfl
    gi_wp2
    refine leave_marks Ds W HM.out (fun W' hb hc => ?_)
    refine ⟨.slice (some ⟨w.heap.size, 0, none⟩) n n, ?_, w.heap.size, vs, L, rfl, HI.out.fr.cells hc, fun i hi a => ?_, HI.out.low.trans hb⟩
    · simp [results, Tryd.results56, go_sem]
    · rw [HI.out.mem i hi]
      constructor
      · rintro ⟨q, rfl, hq | ⟨-, hq⟩⟩
        · exact ⟨q, rfl, by omega, hq.2⟩
        · simp at hq
      · rintro ⟨q, rfl, h1, h2⟩
        exact ⟨q, rfl, .inl ⟨by omega, h2⟩⟩
end Go.Proofs.YtljgpngbkmembaaDoor

/- What Lives has made, as it lies. -/
namespace Go.Proofs.YtljgpngbkmembaaDoor
open Go.RowKit Go.Maps
set_option linter.unusedVariables false
set_option linter.unusedSimpArgs false
theorem info_u64 : ∃ i, Tryd.prog.info? 52 = some i := by
  have h : (Tryd.prog.info? 52).isSome = true := by kernel_rfl
  exact Option.isSome_iff_exists.1 h
theorem cell_u64 : Tryd.prog.cellsOf 52 = 1 := by kernel_rfl
theorem plain_u64 : Tryd.prog.plainKey 52 = true := by kernel_rfl
def eqS (u v : Nat → Nat) : Bool := decide (u 0 = v 0) && (decide (u 1 = v 1) && (decide (u 2 = v 2) && (decide (u 3 = v 3) && (decide (u 4 = v 4) && (decide (u 5 = v 5) && decide (u 6 = v 6))))))
theorem eqS_iff (u v : Nat → Nat) : eqS u v = true ↔ ∀ j, j < 7 → u j = v j := by
  unfold eqS
  simp only [Bool.and_eq_true, decide_eq_true_eq]
  constructor
  · rintro ⟨h0, h1, h2, h3, h4, h5, h6⟩ j hj
    rcases (show j = 0 ∨ j = 1 ∨ j = 2 ∨ j = 3 ∨ j = 4 ∨ j = 5 ∨ j = 6 by omega) with rfl | rfl | rfl | rfl | rfl | rfl | rfl <;> assumption
  · intro h; exact ⟨h 0 (by omega), h 1 (by omega), h 2 (by omega), h 3 (by omega), h 4 (by omega), h 5 (by omega), h 6 (by omega)⟩
theorem eq_step (w : World) (xs ys : Array Value) (i : Nat) (is : List Nat) (a b : Nat) (h : xs[i]? = some (.int .u64 (a : Int))) (g : ys[i]? = some (.int .u64 (b : Int))) :
    (Op.eqItems 9999 52 1 xs ys (i :: is)).run Tryd.prog w = if a = b then (Op.eqItems 9999 52 1 xs ys is).run Tryd.prog w else .ok false w := by
  have hp := run_part_plain w plain_u64 (xs := xs) (off := i * 1) (v := .int .u64 a) (by rw [Nat.mul_one]; exact h)
  have hq := run_part_plain w plain_u64 (xs := ys) (off := i * 1) (v := .int .u64 b) (by rw [Nat.mul_one]; exact g)
  simp only [Op.eqItems, Sem.run_bind, hp, hq, Result.andThen_ok, run_equalIn_int w 9998 52 .u64 .u64 a b Tryd.underlying52]
  by_cases e : a = b
  · subst e; simp
  · have : ¬ ((a : Int) = (b : Int)) := by omega
    simp [e, this]
theorem set_eq (u v : Nat → Nat) (w : World) : (Op.equalIn 10000 54 (.agg (setCs u)) (.agg (setCs v))).run Tryd.prog w = .ok (eqS u v) w := by
  obtain ⟨i, hi⟩ := info_u64
  rw [run_equalIn_array w 9999 _ _ Tryd.underlying54 hi, cell_u64, show List.range 7 = [0, 1, 2, 3, 4, 5, 6] from rfl]
  unfold eqS
  rw [eq_step w _ _ 0 _ (u 0) (v 0) rfl rfl, eq_step w _ _ 1 _ (u 1) (v 1) rfl rfl, eq_step w _ _ 2 _ (u 2) (v 2) rfl rfl, eq_step w _ _ 3 _ (u 3) (v 3) rfl rfl, eq_step w _ _ 4 _ (u 4) (v 4) rfl rfl, eq_step w _ _ 5 _ (u 5) (v 5) rfl rfl, eq_step w _ _ 6 _ (u 6) (v 6) rfl rfl]
  by_cases h0 : u 0 = v 0 <;> by_cases h1 : u 1 = v 1 <;> by_cases h2 : u 2 = v 2 <;> by_cases h3 : u 3 = v 3 <;> by_cases h4 : u 4 = v 4 <;> by_cases h5 : u 5 = v 5 <;> by_cases h6 : u 6 = v 6 <;> simp [h0, h1, h2, h3, h4, h5, h6, Op.eqItems]
theorem own_of_cells {W : World} {B g cap l : Nat} {T : TypeId} {cur : Array Value} {xs : List Value} (hg : B ≤ g) (h : W.heap[g]? = some (.cells cur T)) (hs : cur.size = cap) (hl : l ≤ cap) (hc : cap ≤ maxLen) (hx : xs.length = l) (hcell : ∀ j, j < l → W.cell? ⟨g, j, none⟩ = xs[j]?) : W.ownsRow B T 1 (.slice (some ⟨g, 0, none⟩) l cap) l xs := by
  refine ⟨by omega, .inr ⟨g, cap, cur, rfl, hg, h, hl, hc, by omega, ?_⟩⟩
  rw [Nat.mul_one]
  apply List.ext_getElem?
  intro j
  by_cases hj : j < l
  · rw [List.getElem?_take, if_pos hj, ← hcell j hj, Array.getElem?_toList]
    unfold World.cell?
    simp only [h]
    rfl
  · rw [List.getElem?_take, if_neg hj]
    exact (List.getElem?_eq_none (by omega)).symm
/-- The slice without its last element. -/
theorem own_less {W : World} {B g cap l : Nat} {T : TypeId} {xs : List Value} {x : Value} (h : W.ownsRow B T 1 (.slice (some ⟨g, 0, none⟩) (l + 1) cap) (l + 1) (xs ++ [x])) : W.ownsRow B T 1 (.slice (some ⟨g, 0, none⟩) l cap) l xs := by
  have hlen := h.1
  rcases h.2 with ⟨e, -⟩ | ⟨g', cap', cur, e, hb, hh, h1, h2, h3, h4⟩
  · cases e
  · cases e
    simp at hlen
    refine ⟨by omega, .inr ⟨g, cap, cur, rfl, hb, hh, by omega, h2, h3, ?_⟩⟩
    rw [Nat.mul_one] at h4 ⊢
    have := congrArg (List.take l) h4
    rw [List.take_take, Nat.min_eq_left (by omega), List.take_left' (by omega)] at this
    exact this
structure LvM (w M1 : World) (n : Nat) (ga gs gw cp : Nat) (U : Nat → Nat → Nat) (wt : Nat → Bool) (wk : List Nat) (W : World) : Prop where
  low : Below w.heap.size w W
  kp : ∀ (k : Nat) (c : Array Value) (T : TypeId) (f : Nat × Nat), M1.heap[k]? = some (.cells c T f) → T ≠ 54 → W.heap[k]? = some (.cells c T f)
  ba : ∃ cs, W.heap[ga]? = some (.cells cs 54)
  bs : ∃ cs, W.heap[gs]? = some (.cells cs 4)
  a : ∀ i, i < n → SetAt W ga (i * 7) (U i)
  s : ∀ i, i < n → W.cell? ⟨gs, i, none⟩ = some (.bool (wt i))
  k : W.ownsRow M1.heap.size 3 1 (.slice (some ⟨gw, 0, none⟩) wk.length cp) wk.length (wk.map fun (i : Nat) => iV (i : Int))
  ga_ge : w.heap.size ≤ ga
  gs_ge : M1.heap.size ≤ gs
  m_ge : w.heap.size ≤ M1.heap.size
variable {w M1 : World} {n ga gs gw cp : Nat} {U : Nat → Nat → Nat} {wt : Nat → Bool} {wk : List Nat} {W y : World}
theorem LvM.below (h : LvM w M1 n ga gs gw cp U wt wk W) (hb : Below W.heap.size W y) : LvM w M1 n ga gs gw cp U wt wk y := by
  obtain ⟨c1, h1⟩ := h.ba
  obtain ⟨c2, h2⟩ := h.bs
  have up : ∀ {k : Nat} {o : Obj}, W.heap[k]? = some o → y.heap[k]? = some o := fun hk => (hb.block _ (Array.getElem?_eq_some_iff.1 hk).1).trans hk
  exact ⟨h.low.trans (hb.mono h.low.size), fun k c T f hk hT => up (h.kp k c T f hk hT), ⟨c1, up h1⟩, ⟨c2, up h2⟩, fun i hi => (h.a i hi).sub (below_sub hb), fun i hi => cell_thru hb (h.s i hi), row_below h.k hb, h.ga_ge, h.gs_ge, h.m_ge⟩
theorem LvM.fa (h : LvM w M1 n ga gs gw cp U wt wk W) (o : Nat) : W.frozen? ⟨ga, o, none⟩ = false := by
  obtain ⟨c, hc⟩ := h.ba
  exact blk_fro hc
theorem LvM.fs (h : LvM w M1 n ga gs gw cp U wt wk W) (o : Nat) : W.frozen? ⟨gs, o, none⟩ = false := by
  obtain ⟨c, hc⟩ := h.bs
  exact blk_fro hc
theorem LvM.ws (h : LvM w M1 n ga gs gw cp U wt wk W) : gw ≠ gs ∧ gw ≠ ga ∧ gs ≠ ga ∧ M1.heap.size ≤ gw := by
  obtain ⟨c1, h1⟩ := h.ba
  obtain ⟨c2, h2⟩ := h.bs
  obtain ⟨c3, h3⟩ := own_cells h.k (b := gw) rfl
  exact ⟨blk_ne h3 h2 (by decide), blk_ne h3 h1 (by decide), blk_ne h2 h1 (by decide), (h.k.lt gw rfl).1⟩
theorem set_blk_far {W : World} {k : Nat} {p : Addr} {u : Value} (h : k ≠ p.block) : (W.setCell p u).heap[k]? = W.heap[k]? := Below.heap_setCell _ _ _ _ h
/-- A flag is stored. -/
theorem LvM.flag (h : LvM w M1 n ga gs gw cp U wt wk W) {i : Nat} (hi : i < n) (b : Bool) : LvM w M1 n ga gs gw cp U (F.updB wt i b) wk (W.setCell ⟨gs, i, none⟩ (.bool b)) := by
  obtain ⟨n1, n2, n3, n4⟩ := h.ws
  obtain ⟨c1, h1⟩ := h.ba
  obtain ⟨c2, h2⟩ := h.bs
  have hge := h.gs_ge
  have hm := h.m_ge
  refine ⟨h.low.setCell (by show w.heap.size ≤ gs; omega) _, fun k c T f hk hT => ?_, ⟨c1, (set_blk_far (Ne.symm n3)).trans h1⟩, blk_set h2 _, fun j hj q hq => ?_, fun j hj => ?_, h.k.kept (gb_set _ _ _) (.inr (fun e => by simp [Value.ownBlock] at e; exact n1 e)), h.ga_ge, h.gs_ge, hm⟩
  · have := (Array.getElem?_eq_some_iff.1 hk).1
    exact (set_blk_far (by show k ≠ gs; omega)).trans (h.kp k c T f hk hT)
  · exact (World.cell?_setCell_far _ ⟨gs, i, none⟩ ⟨ga, _, none⟩ _ n3).trans (h.a j hj q hq)
  · unfold F.updB
    by_cases e : j = i
    · subst e
      rw [if_pos rfl]
      exact World.cell?_setCell_same' _ _ _ (by rw [h.s j hj]; rfl)
    · rw [if_neg e, World.cell?_setCell_other _ _ _ _ (by first | (simp; done) | (simp; exact fun e' => absurd e'.symm e))]
      exact h.s j hj
/-- One is put onto the worklist. -/
theorem LvM.push (h : LvM w M1 n ga gs gw cp U wt wk W) {g2 c2 i : Nat} (hg : W.grownBy y (some gw)) (ho : y.ownsRow M1.heap.size 3 1 (.slice (some ⟨g2, 0, none⟩) (wk.length + 1) c2) (wk.length + 1) ((wk.map fun (i : Nat) => iV (i : Int)) ++ [iV (i : Int)])) : LvM w M1 n ga gs g2 c2 U wt (wk ++ [i]) y := by
  obtain ⟨n1, n2, n3, n4⟩ := h.ws
  obtain ⟨c1, h1⟩ := h.ba
  obtain ⟨c2, h2⟩ := h.bs
  have hge := h.gs_ge
  have hm := h.m_ge
  have up : ∀ {k : Nat} {o : Obj}, W.heap[k]? = some o → k ≠ gw → y.heap[k]? = some o := fun hk hne => (hg.block _ (Array.getElem?_eq_some_iff.1 hk).1 (fun e => hne (by cases e; rfl))).trans hk
  refine ⟨h.low.grown hg (Nat.le_trans hm (by have := (Array.getElem?_eq_some_iff.1 h2).1; omega)) (fun k hk => by cases hk; omega), fun k c T f hk hT => ?_, ⟨c1, up h1 (Ne.symm n2)⟩, ⟨c2, up h2 (Ne.symm n1)⟩, fun j hj q hq => ?_, fun j hj => ?_, ?_, h.ga_ge, h.gs_ge, hm⟩
  · have := (Array.getElem?_eq_some_iff.1 hk).1
    exact up (h.kp k c T f hk hT) (by omega)
  · exact hg.cell (h.a j hj q hq) (by simpa using Ne.symm n2)
  · exact hg.cell (h.s j hj) (by simpa using Ne.symm n1)
  · rw [List.length_append, List.map_append]; exact ho
theorem LvM.pop {i : Nat} (h : LvM w M1 n ga gs gw cp U wt (wk ++ [i]) W) : LvM w M1 n ga gs gw cp U wt wk W := by
  refine ⟨h.low, h.kp, h.ba, h.bs, h.a, h.s, ?_, h.ga_ge, h.gs_ge, h.m_ge⟩
  have hk := h.k
  rw [List.length_append, List.map_append] at hk
  exact own_less hk
/-- A set is stored over another one. -/
def putS (W : World) (b o : Nat) (u : Nat → Nat) : World := ((((((W.setCell ⟨b, o, none⟩ (.int .u64 (u 0 : Int))).setCell ⟨b, o + 1, none⟩ (.int .u64 (u 1 : Int))).setCell ⟨b, o + 2, none⟩ (.int .u64 (u 2 : Int))).setCell ⟨b, o + 3, none⟩ (.int .u64 (u 3 : Int))).setCell ⟨b, o + 4, none⟩ (.int .u64 (u 4 : Int))).setCell ⟨b, o + 5, none⟩ (.int .u64 (u 5 : Int))).setCell ⟨b, o + 6, none⟩ (.int .u64 (u 6 : Int))
theorem putS_far {W : World} {b o q : Nat} {u : Nat → Nat} (hq : q ≠ b) : (putS W b o u).heap[q]? = W.heap[q]? := by
  unfold putS
  repeat rw [Below.heap_setCell _ _ _ _ hq]
theorem gbt {w w1 w2 : World} {r : Option Nat} (h : w.grownBy w1 r) (k : w1.grownBy w2 r) : w.grownBy w2 r :=
  ⟨k.os.trans h.os, k.tape.trans h.tape, k.output.trans h.output, Nat.le_trans h.size k.size, fun i hi hr => (k.block i (Nat.lt_of_lt_of_le hi h.size) hr).trans (h.block i hi hr)⟩
theorem putS_gb (W : World) (b o : Nat) (u : Nat → Nat) : W.grownBy (putS W b o u) (some b) := by
  unfold putS
  have g : ∀ (Z : World) (q : Nat) (x : Value), Z.grownBy (Z.setCell ⟨b, q, none⟩ x) (some b) := fun Z q x => gb_set Z ⟨b, q, none⟩ x
  exact gbt (gbt (gbt (gbt (gbt (gbt (g _ _ _) (g _ _ _)) (g _ _ _)) (g _ _ _)) (g _ _ _)) (g _ _ _)) (g _ _ _)
theorem putS_upd {W : World} {b o : Nat} {u v : Nat → Nat} (h : SetAt W b o v) : SetAt (putS W b o u) b o u ∧ ∀ q, q < o ∨ o + 7 ≤ q → (putS W b o u).cell? ⟨b, q, none⟩ = W.cell? ⟨b, q, none⟩ := by
  have hs : ∀ j, j < 7 → (W.cell? ⟨b, o + j, none⟩).isSome = true := fun j hj => by rw [h j hj]; rfl
  have same : ∀ (Z : World) (p : Addr) (x : Value), (Z.cell? p).isSome = true → (Z.setCell p x).cell? p = some x := fun Z p x hz => World.cell?_setCell_same' _ _ _ hz
  have oth : ∀ (Z : World) (k q : Nat) (x : Value), k ≠ q → (Z.setCell ⟨b, k, none⟩ x).cell? ⟨b, q, none⟩ = Z.cell? ⟨b, q, none⟩ := fun Z k q x hz => World.cell?_setCell_other _ _ _ _ (fun e' => hz (by have := congrArg Addr.off e'; simpa using this))
  refine ⟨fun j hj => ?_, fun q hq => ?_⟩
  · unfold putS
    rcases (show j = 0 ∨ j = 1 ∨ j = 2 ∨ j = 3 ∨ j = 4 ∨ j = 5 ∨ j = 6 by omega) with rfl | rfl | rfl | rfl | rfl | rfl | rfl
    · rw [Nat.add_zero]; repeat rw [oth _ _ _ _ (by omega)]
      exact same _ _ _ (by have := hs 0 (by omega); rwa [Nat.add_zero] at this)
    · repeat rw [oth _ _ _ _ (by omega)]
      exact same _ _ _ (by rw [oth _ _ _ _ (by omega)]; exact hs 1 (by omega))
    · repeat rw [oth _ _ _ _ (by omega)]
      exact same _ _ _ (by repeat rw [oth _ _ _ _ (by omega)]
                           exact hs 2 (by omega))
    · repeat rw [oth _ _ _ _ (by omega)]
      exact same _ _ _ (by repeat rw [oth _ _ _ _ (by omega)]
                           exact hs 3 (by omega))
    · repeat rw [oth _ _ _ _ (by omega)]
      exact same _ _ _ (by repeat rw [oth _ _ _ _ (by omega)]
                           exact hs 4 (by omega))
    · repeat rw [oth _ _ _ _ (by omega)]
      exact same _ _ _ (by repeat rw [oth _ _ _ _ (by omega)]
                           exact hs 5 (by omega))
    · exact same _ _ _ (by repeat rw [oth _ _ _ _ (by omega)]
                           exact hs 6 (by omega))
  · unfold putS
    repeat rw [oth _ _ _ _ (by omega)]
theorem putS_blk {W : World} {b o : Nat} {u : Nat → Nat} {T : TypeId} {cs : Array Value} (h : W.heap[b]? = some (.cells cs T)) : ∃ cs', (putS W b o u).heap[b]? = some (.cells cs' T) := by
  obtain ⟨c0, h0⟩ := blk_set h (i := o) (.int .u64 (u 0 : Int))
  obtain ⟨c1, h1⟩ := blk_set h0 (i := o + 1) (.int .u64 (u 1 : Int))
  obtain ⟨c2, h2⟩ := blk_set h1 (i := o + 2) (.int .u64 (u 2 : Int))
  obtain ⟨c3, h3⟩ := blk_set h2 (i := o + 3) (.int .u64 (u 3 : Int))
  obtain ⟨c4, h4⟩ := blk_set h3 (i := o + 4) (.int .u64 (u 4 : Int))
  obtain ⟨c5, h5⟩ := blk_set h4 (i := o + 5) (.int .u64 (u 5 : Int))
  exact blk_set h5 (i := o + 6) (.int .u64 (u 6 : Int))
theorem LvM.put (h : LvM w M1 n ga gs gw cp U wt wk W) {i : Nat} (hi : i < n) (u : Nat → Nat) : LvM w M1 n ga gs gw cp (F.upd U i u) wt wk (putS W ga (i * 7) u) := by
  obtain ⟨n1, n2, n3, n4⟩ := h.ws
  obtain ⟨c1, h1⟩ := h.ba
  obtain ⟨c2, h2⟩ := h.bs
  have hg := putS_gb W ga (i * 7) u
  obtain ⟨e1, e2⟩ := putS_upd (u := u) (h.a i hi)
  have hge := h.gs_ge
  have hm := h.m_ge
  refine ⟨h.low.grown hg (Nat.le_trans hm (by have := (Array.getElem?_eq_some_iff.1 h2).1; omega)) (fun k hk => by cases hk; exact h.ga_ge), fun k c T f hk hT => ?_, putS_blk h1, ⟨c2, (putS_far n3).trans h2⟩, fun j hj q hq => ?_, fun j hj => ?_, h.k.kept hg (.inr (fun e => by simp [Value.ownBlock] at e; exact n2 e)), h.ga_ge, h.gs_ge, hm⟩
  · have h3 := h.kp k c T f hk hT
    exact (putS_far (blk_ne h3 h1 hT)).trans h3
  · unfold F.upd
    by_cases e : j = i
    · subst e
      rw [if_pos rfl]
      exact e1 q hq
    · rw [if_neg e, e2 _ (by omega)]
      exact h.a j hj q hq
  · exact hg.cell (h.s j hj) (by simpa using n3)
/-- The rows of places, still there. -/
theorem LvM.rows (h : LvM w M1 n ga gs gw cp U wt wk W) {B g m : Nat} {vs : Nat → Value} {L : Nat → List Int} (hf : FR B M1 g m vs L) : FR B W g m vs L := by
  obtain ⟨cs, hcs⟩ := hf.blk
  have hgw := h.kp _ _ _ _ hcs (by decide)
  refine ⟨hf.ge, ⟨cs, hgw⟩, fun i hi => (World.cell?_of_block (w := M1) (a := ⟨g, i, none⟩) (hgw.trans hcs.symm)).trans (hf.cell i hi), fun i hi => ?_, hf.inj⟩
  have ho := hf.own i hi
  refine ⟨ho.1, ?_⟩
  rcases ho.2 with e | ⟨b, cap, cur, e, hb, hh, rest⟩
  · exact .inl e
  · exact .inr ⟨b, cap, cur, e, hb, h.kp _ _ _ _ hh (by decide), rest⟩
end Go.Proofs.YtljgpngbkmembaaDoor
