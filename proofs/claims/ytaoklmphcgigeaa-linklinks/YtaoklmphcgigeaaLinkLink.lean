/- The contract of Link. -/
import Derived.Test.YtaoklmphcgigeaaLinkImageB
namespace Go.Proofs.Ytaoklmphcgigeaa
open Go.RowKit Go.Lib
set_option linter.unusedVariables false
set_option linter.unusedSimpArgs false

/-- All code, filled, or that an address does not fit. -/
def filled (os : List ObjD) : Option (List UInt8) := fillAll (L.syms os) L.zero (List.replicate (L.sizes os).b 0) os
/-- What linking answers: its error, and the image's parts. -/
def linkE (os : List ObjD) : Int :=
  if mayAll os = true then (if layE os = 0 then (if L.fit (L.sizes os) = true then (if (filled os).isSome = true then 0 else 7) else 8) else layE os) else 1
def linkC (os : List ObjD) : List UInt8 := if linkE os = 0 then (filled os).getD [] else []
def linkD (os : List ObjD) : List Int := if linkE os = 0 then datas os else []
def linkS (os : List ObjD) : List Sym := if linkE os = 0 then L.syms os else []

theorem imgR_nil (w : World) {x : World} (hb : Below w.heap.size w x) : ImgR w x (.slice none 0 0) (.slice none 0 0) [] [] := ⟨hb, World.ownsRow_nil _ _ _ _, World.ownsRow_nil _ _ _ _, by intro b hb; simp [Value.ownBlock] at hb⟩
theorem own_base {w : World} {B B' : Nat} {v : Value} {e : TypeId} {size n : Nat} {xs : List Value} (o : w.ownsRow B e size v n xs) (h : B' ≤ B) : w.ownsRow B' e size v n xs := by
  refine ⟨o.1, ?_⟩
  rcases o.2 with h1 | ⟨g, cap, cur, h1, h2, h3⟩
  · exact .inl h1
  · exact .inr ⟨g, cap, cur, h1, Nat.le_trans h h2, h3⟩
theorem link_bad {os : List ObjD} (h : linkE os ≠ 0) : linkC os = [] ∧ linkD os = [] ∧ linkS os = [] := by unfold linkC linkD linkS; rw [if_neg h, if_neg h, if_neg h]; exact ⟨rfl, rfl, rfl⟩
theorem lay_new {w w2 : World} (hb : w2 = w) (cells : Array Value) (hc : cells = #[.int .i64 0, .int .i64 0, .int .i64 0, .int .i64 0, .slice none 0 0, .map (some w.heap.size), .slice none 0 0]) (T : TypeId) : LY w ((w2.alloc (.map #[] 0)).alloc (.cells cells T)) (w.heap.size + 1) w.heap.size (.slice none 0 0) [] := by
  subst hb
  subst hc
  have hs : (w2.alloc (.map #[] 0)).heap.size = w2.heap.size + 1 := by simp
  refine ⟨((Below.refl _ _).alloc (Nat.le_refl _) _).alloc (by simp) _, cell_last hs.symm rfl, cell_last hs.symm rfl, cell_last hs.symm rfl, cell_last hs.symm rfl, cell_last hs.symm rfl, cell_last hs.symm rfl, fun o => World.frozen?_alloc_at _ _ _ _ hs.symm, ?_, World.ownsRow_nil _ _ _ _, by omega, Nat.le_refl _, by omega, by simp [Value.ownBlock], by simp [Value.ownBlock], ⟨_, cell_last hs.symm rfl⟩⟩
  have h := World.ownsMap_made w2 Try.prog 9 symElem
  exact NM.below ⟨h, rfl⟩ (bl_one _ _)

theorem link_end {os : List ObjD} {w x : World} {E : Int} (hE : linkE os = E) (h0 : E ≠ 0) (hb : Below w.heap.size w x) :
    ∃ v1 v2, (Ending.returned (.tuple #[.agg #[.string { data := #[] }, .slice none 0 0, .slice none 0 0], .int .i64 E])) = .returned (.tuple #[.agg #[.string ⟨(linkC os).toArray⟩, v1, v2], .int .i64 (linkE os)]) ∧ ImgR w x v1 v2 (linkD os) (linkS os) := by
  have h := link_bad (os := os) (by rw [hE]; exact h0)
  refine ⟨.slice none 0 0, .slice none 0 0, ?_, ?_⟩
  · rw [h.1, hE]
  · rw [h.2.1, h.2.2]
    exact imgR_nil w hb

set_option maxRecDepth 100000 in
set_option maxHeartbeats 8000000 in
theorem link_any {w : World} {a : Option Addr} {l c : Nat} {os : List ObjD} (h : ObjsV w a l c os) :
    Calls Try.prog 12 #[.slice a l c] w fun e w' => ∃ v1 v2, e = .returned (.tuple #[.agg #[.string ⟨(linkC os).toArray⟩, v1, v2], .int .i64 (linkE os)]) ∧ ImgR w w' v1 v2 (linkD os) (linkS os) := by
  have HV : Hid _ := h
  have hcnt := h.count
  clear h
  have hmm := @run_makeMap Try.prog
  obtain ⟨X1, hX1⟩ : ∃ X1, w.alloc (.cells #[.string { data := #[] }, .slice none 0 0, .slice none 0 0] 29) = X1 := ⟨_, rfl⟩
  have b1 : Below w.heap.size w X1 := by subst hX1; exact bl_one _ _
  have sX1 : X1.heap.size = w.heap.size + 1 := by subst hX1; simp
  have HR : Hid (∀ y : World, Below X1.heap.size X1 y → (y.cell? ⟨w.heap.size, 0, none⟩ = some (.string { data := #[] }) ∧ y.cell? ⟨w.heap.size, 1, none⟩ = some (.slice none 0 0) ∧ y.cell? ⟨w.heap.size, 2, none⟩ = some (.slice none 0 0)) ∧ (∀ o, y.frozen? ⟨w.heap.size, o, none⟩ = false)) := fun y hb => by
    refine ⟨⟨cell_thru hb ?_, cell_thru hb ?_, cell_thru hb ?_⟩, fun o => (hb.frozen (p := ⟨w.heap.size, o, none⟩) (by show w.heap.size < _; omega)).trans ?_⟩
    · subst hX1; exact cell_last rfl rfl
    · subst hX1; exact cell_last rfl rfl
    · subst hX1; exact cell_last rfl rfl
    · subst hX1; exact World.frozen?_alloc_at _ _ _ _ rfl
  go_enter Try.func12, Try.ntmps12
  go_wp2_with fail
  refine (mayBe_any (HV.out.below b1)).mono ?_
  rintro e x2 ⟨rfl, hb2⟩
  have hw2 : Below w.heap.size w x2 := b1.trans (hb2.mono b1.size)
  cases hm : mayAll os with
  | false =>
    have HE : Hid (linkE os = 1) := by show _ = _; unfold linkE; rw [hm]; rfl
    clear hm
    have t0 := (HR.out x2 hb2).1.1
    have t1 := (HR.out x2 hb2).1.2.1
    have t2 := (HR.out x2 hb2).1.2.2
    have z0 := (HR.out x2 hb2).2 0
    have z1 := (HR.out x2 hb2).2 1
    have z2 := (HR.out x2 hb2).2 2
    go_wp2
    refine bodyPost_ret (v := .tuple #[.agg #[.string { data := #[] }, .slice none 0 0, .slice none 0 0], .int .i64 1]) (by simp [results, Try.results12, go_sem, t0, t1, t2]) rfl ?_
    exact link_end HE.out (by decide) (((hw2.setCell (Nat.le_refl _) _).setCell (Nat.le_refl _) _).setCell (Nat.le_refl _) _)
  | true =>
    have HMA : Hid (os.length ≤ 16 ∧ ∀ o ∈ os, o.may = true) := by
      unfold mayAll at hm
      show _ ∧ _
      simpa using hm
    have HM1 : Hid (linkE os = if layE os = 0 then (if L.fit (L.sizes os) = true then (if (filled os).isSome = true then 0 else 7) else 8) else layE os) := by show _ = _; unfold linkE; rw [hm]; rfl
    have hl16 : l ≤ 16 := by have := HMA.out.1; omega
    clear hm hX1
    go_wp2_with fail
    refine (lay_any (lay_new rfl _ rfl _) (HV.out.below hw2) hl16 HMA.out.2).mono ?_
    rintro e x4 ⟨rfl, hb4, hly⟩
    have hw4 : Below X1.heap.size X1 x4 := hb2.trans (hb4.mono hb2.size)
    have hw4' : Below w.heap.size w x4 := b1.trans (hw4.mono b1.size)
    by_cases h0 : layE os = 0
    · obtain ⟨v', pl, hpl, hov, hly⟩ := hly h0
      have HM2 : Hid (linkE os = if L.fit (L.sizes os) = true then (if (filled os).isSome = true then 0 else 7) else 8) := by show _ = _; rw [HM1.out, if_pos h0]
      have HLY : Hid _ := hly
      have HPL : Hid _ := hpl
      have HOV : Hid _ := hov
      rw [h0]
      have s0 := hly.c0
      have s1 := hly.c1
      have s2 := hly.c2
      have s3 := hly.c3
      rw [hpl] at s0 s1 s2 s3
      clear hly hpl hov HM1 h0
      go_wp2_with fail
      refine (fit_any (L.sizes os) _).mono ?_
      rintro e x5 ⟨rfl, hb5⟩
      have hw5 : Below X1.heap.size X1 x5 := hw4.trans (hb5.mono hw4.size)
      have hw5' : Below w.heap.size w x5 := b1.trans (hw5.mono b1.size)
      cases hf : L.fit (L.sizes os) with
      | false =>
        have HE : Hid (linkE os = 8) := by show _ = _; rw [HM2.out, hf]; rfl
        clear hf HM2 s0 s1 s2 s3
        have t0 := (HR.out x5 hw5).1.1
        have t1 := (HR.out x5 hw5).1.2.1
        have t2 := (HR.out x5 hw5).1.2.2
        have z0 := (HR.out x5 hw5).2 0
        have z1 := (HR.out x5 hw5).2 1
        have z2 := (HR.out x5 hw5).2 2
        go_wp2
        refine bodyPost_ret (v := .tuple #[.agg #[.string { data := #[] }, .slice none 0 0, .slice none 0 0], .int .i64 8]) (by simp [results, Try.results12, go_sem, t0, t1, t2]) rfl ?_
        exact link_end HE.out (by decide) (((hw5'.setCell (Nat.le_refl _) _).setCell (Nat.le_refl _) _).setCell (Nat.le_refl _) _)
      | true =>
        have HM3 : Hid (linkE os = if (filled os).isSome = true then 0 else 7) := by show _ = _; rw [HM2.out, hf]; rfl
        have hN : (L.sizes os).b ≤ 65536 := by
          unfold L.fit at hf
          simp at hf
          omega
        have hpn : pl.length ≤ 16 := by have := congrArg List.length HPL.out; rw [List.length_map] at this; have := HMA.out.1; omega
        clear hf HM2 s0 s1 s2 s3
        have HLY5 : Hid _ := HLY.out.below hb5
        obtain ⟨u6, h6⟩ := HLY5.out.c6e
        have HOV2 : Hid (∀ p ∈ pl, OV x2 p.1 p.2) := fun p hp => HOV.out p hp
        go_wp2_with fail
        refine (fill_any HLY5.out h6 HPL.out HOV2.out HMA.out.2 hpn rfl hN (look_pos HMA.out.2 HMA.out.1)).mono ?_
        rintro e x6 ⟨rfl, hb6, hlk⟩
        have hw6 : Below X1.heap.size X1 x6 := hb2.trans (hb6.mono hb2.size)
        have hw6' : Below w.heap.size w x6 := b1.trans (hw6.mono b1.size)
        have hfd : fillAll (L.syms os) L.zero (List.replicate (L.sizes os).b 0) os = filled os := rfl
        rw [hfd]
        rw [hfd] at hlk
        clear hfd h6
        cases hff : filled os with
        | none =>
          have HE : Hid (linkE os = 7) := by show _ = _; rw [HM3.out, hff]; rfl
          clear hff HM3 hlk
          simp only [Option.isSome_none]
          have t0 := (HR.out x6 hw6).1.1
          have t1 := (HR.out x6 hw6).1.2.1
          have t2 := (HR.out x6 hw6).1.2.2
          have z0 := (HR.out x6 hw6).2 0
          have z1 := (HR.out x6 hw6).2 1
          have z2 := (HR.out x6 hw6).2 2
          go_wp2
          refine bodyPost_ret (v := .tuple #[.agg #[.string { data := #[] }, .slice none 0 0, .slice none 0 0], .int .i64 7]) (by simp [results, Try.results12, go_sem, t0, t1, t2]) rfl ?_
          exact link_end HE.out (by decide) (((hw6'.setCell (Nat.le_refl _) _).setCell (Nat.le_refl _) _).setCell (Nat.le_refl _) _)
        | some lc =>
          have HE : Hid (linkE os = 0) := by show _ = _; rw [HM3.out, hff]; rfl
          have HC : Hid (linkC os = lc ∧ linkD os = datas os ∧ linkS os = L.syms os) := by
            unfold linkC linkD linkS
            rw [HE.out, hff]
            exact ⟨rfl, rfl, rfl⟩
          have HLK : Hid _ := hlk lc hff
          clear hff HM3 hlk
          simp only [Option.isSome_some]
          go_wp2_with fail
          refine (image_any HLK.out HPL.out HOV2.out HMA.out.2 hpn).mono ?_
          rintro e x7 ⟨v1, v2, rfl, hR⟩
          obtain ⟨a1, c1, rfl⟩ := own_slice hR.d
          obtain ⟨a2, c2, rfl⟩ := own_slice hR.s
          have hb7 := hR.low
          have hw7 : Below X1.heap.size X1 x7 := hw6.trans (hb7.mono hw6.size)
          have hw7' : Below w.heap.size w x7 := b1.trans (hw7.mono b1.size)
          have HR7 : Hid _ := hR
          clear hR
          have t0 := (HR.out x7 hw7).1.1
          have t1 := (HR.out x7 hw7).1.2.1
          have t2 := (HR.out x7 hw7).1.2.2
          have z0 := (HR.out x7 hw7).2 0
          have z1 := (HR.out x7 hw7).2 1
          have z2 := (HR.out x7 hw7).2 2
          go_wp2
          refine bodyPost_ret (v := .tuple #[.agg #[.string ⟨lc.toArray⟩, .slice a1 (datas os).length c1, .slice a2 (L.syms os).length c2], .int .i64 0]) (by simp [results, Try.results12, go_sem, t0, t1, t2]) rfl ?_
          have hx6 : w.heap.size < x6.heap.size := by have := hw6.size; omega
          have far : ∀ {y : World} {T : TypeId} {m q : Nat} {u : Value} {cs : List Value} (j : Nat) (r : Value), y.ownsRow x6.heap.size T m u q cs → (y.setCell ⟨w.heap.size, j, none⟩ r).ownsRow x6.heap.size T m u q cs := fun j r ho => ho.kept (gb_set _ ⟨w.heap.size, j, none⟩ r) (.inr fun e => by have := (ho.lt _ e).1; simp at this; omega)
          refine ⟨_, _, by rw [HC.out.1, HE.out], ?_⟩
          rw [HC.out.2.1, HC.out.2.2]
          have hle : w.heap.size ≤ x6.heap.size := by omega
          exact ⟨((hw7'.setCell (Nat.le_refl _) _).setCell (Nat.le_refl _) _).setCell (Nat.le_refl _) _, own_base (far _ _ (far _ _ (far _ _ HR7.out.d))) hle, own_base (far _ _ (far _ _ (far _ _ HR7.out.s))) hle, HR7.out.ap⟩
    · have HE : Hid (linkE os = layE os) := by show _ = _; rw [HM1.out, if_neg h0]
      clear hly HM1
      have hq : (layE os == 0) = false := by simpa using h0
      obtain ⟨E, hEE⟩ : ∃ E, layE os = E := ⟨_, rfl⟩
      rw [hEE]
      rw [hEE] at HE h0 hq
      have t0 := (HR.out x4 hw4).1.1
      have t1 := (HR.out x4 hw4).1.2.1
      have t2 := (HR.out x4 hw4).1.2.2
      have z0 := (HR.out x4 hw4).2 0
      have z1 := (HR.out x4 hw4).2 1
      have z2 := (HR.out x4 hw4).2 2
      go_wp2
      refine bodyPost_ret (v := .tuple #[.agg #[.string { data := #[] }, .slice none 0 0, .slice none 0 0], .int .i64 E]) (by simp [results, Try.results12, go_sem, t0, t1, t2]) rfl ?_
      exact link_end HE.out h0 (((hw4'.setCell (Nat.le_refl _) _).setCell (Nat.le_refl _) _).setCell (Nat.le_refl _) _)
end Go.Proofs.Ytaoklmphcgigeaa
