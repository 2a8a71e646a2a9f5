/- Lists of objects in rows of their own; answers as they lie. -/
import Derived.Test.YtaoklmphcgigeaaLinkLSmall
import Derived.Test.YtaoklmphcgigeaaLinkCodes
import Derived.Test.YtaoklmphcgigeaaObjSame
namespace Go.Proofs.Ytaoklmphcgigeaa
open Go.RowKit Go.Lib
set_option linter.unusedVariables false
set_option linter.unusedSimpArgs false

theorem infoO : (Try.prog.info? 40).map (fun i => (i.zero, i.size, i.bytes)) = some (some (.agg #[.string { data := #[] }, .slice none 0 0, .slice none 0 0, .slice none 0 0]), 4, 88) := by kernel_rfl
def noSl : Sl := ⟨none, 0, 0, none, 0, 0, none, 0, 0⟩
def objC (p : ObjD × Sl) : List Value := [.string p.1.code, .slice p.2.a1 p.2.l1 p.2.c1, .slice p.2.a2 p.2.l2 p.2.c2, .slice p.2.a3 p.2.l3 p.2.c3]
/-- A list of objects, each with its slices. -/
structure ObjsP (w : World) (a : Option Addr) (l c : Nat) (pl : List (ObjD × Sl)) : Prop where
  count : pl.length = l
  room : l ≤ maxLen
  nilOf : a = none → l = 0 ∧ c = 0
  cells : ∀ ad, a = some ad → ∀ j u, (pl.flatMap objC)[j]? = some u → w.cell? (ad.add j) = some u
  spot : l = 0 ∨ ∃ b off, a = some ⟨b, off, none⟩
  ov : ∀ p ∈ pl, OV w p.1 p.2
theorem objs_p {w : World} {a : Option Addr} {l c : Nat} {os : List ObjD} (h : ObjsV w a l c os) : ∃ pl, pl.map Prod.fst = os ∧ ObjsP w a l c pl := by
  rcases h.cells with h0 | ⟨b, off, rfl, hc⟩
  · have : os = [] := List.eq_nil_of_length_eq_zero (by rw [h.count]; exact h0)
    subst this
    exact ⟨[], rfl, ⟨by rw [h0]; rfl, h.room, h.nilOf, by simp, .inl h0, by simp⟩⟩
  · have hf : ∃ f : Nat → Sl, ∀ i, i < l → OC w b (off + i * 4) (os.getD i noObj) (f i) ∧ OV w (os.getD i noObj) (f i) :=
      ⟨fun i => if h : i < l then Classical.choose (hc i h) else noSl, fun i hi => by
        have := Classical.choose_spec (hc i hi)
        simp only [dif_pos hi]
        exact this⟩
    obtain ⟨f, hf⟩ := hf
    have hcnt := h.count
    let pl := (List.range l).map fun i => (os.getD i noObj, f i)
    have hpl : pl.length = l := by simp [pl]
    have hget : ∀ i, i < l → pl.getD i (noObj, noSl) = (os.getD i noObj, f i) := fun i hi => by simp [pl, List.getD, hi]
    refine ⟨pl, ?_, ⟨hpl, h.room, fun e => (by cases e), ?_, .inr ⟨b, off, rfl⟩, ?_⟩⟩
    · apply list_ext_getD noObj (by simp [pl, hcnt])
      intro i hi
      have hi' : i < l := by simpa [pl] using hi
      simp [pl, List.getD, hi']
    · intro ad ha j u hu
      cases ha
      rw [Addr.add_lit]
      refine flat_cells (m := 4) (d := (noObj, noSl)) (fun _ => rfl) (by decide) (fun i hi j u hj hu => ?_) j u hu
      rw [hpl] at hi
      obtain ⟨⟨k0, k1, k2, k3⟩, -⟩ := hf i hi
      rw [hget i hi] at hu
      rcases (show j = 0 ∨ j = 1 ∨ j = 2 ∨ j = 3 by omega) with rfl | rfl | rfl | rfl
      · cases hu; exact k0
      · cases hu; exact k1
      · cases hu; exact k2
      · cases hu; exact k3
    · intro p hp
      obtain ⟨i, hi, rfl⟩ := List.mem_map.1 hp
      exact (hf i (by simpa using hi)).2
theorem ObjsP.below {w x : World} {a : Option Addr} {l c : Nat} {pl : List (ObjD × Sl)} (h : ObjsP w a l c pl) (hb : Below w.heap.size w x) : ObjsP x a l c pl :=
  ⟨h.count, h.room, h.nilOf, fun ad ha j u hu => cell_thru hb (h.cells ad ha j u hu), h.spot, fun p hp => (h.ov p hp).below hb⟩
theorem ObjsP.src {w : World} {a : Option Addr} {l c : Nat} {pl : List (ObjD × Sl)} (h : ObjsP w a l c pl) : (pl.flatMap objC).length = l * 4 ∧ (∀ u ∈ pl.flatMap objC, u.oneCell' = true) := by
  refine ⟨by rw [flat_len' (m := 4) (fun _ => rfl), h.count], fun u hu => ?_⟩
  obtain ⟨x, -, hx⟩ := List.mem_flatMap.1 hu
  simp [objC] at hx
  rcases hx with rfl | rfl | rfl | rfl <;> rfl
theorem objs_v {w : World} {a : Option Addr} {l c : Nat} {pl : List (ObjD × Sl)} (h : ObjsP w a l c pl) : ObjsV w a l c (pl.map Prod.fst) := by
  refine ⟨by rw [List.length_map]; exact h.count, h.room, h.nilOf, ?_⟩
  rcases h.spot with h0 | ⟨b, off, rfl⟩
  · exact .inl h0
  · refine .inr ⟨b, off, rfl, fun i hi => ?_⟩
    have hi' : i < pl.length := by rw [h.count]; exact hi
    have hg : (pl.map Prod.fst).getD i noObj = (pl.getD i (noObj, noSl)).1 := by simp [List.getD, hi']
    have hm : pl.getD i (noObj, noSl) ∈ pl := by simp [List.getD, hi']
    rw [hg]
    have hc := h.cells _ rfl
    have k : ∀ j u, j < 4 → (objC (pl.getD i (noObj, noSl)))[j]? = some u → w.cell? ⟨b, off + i * 4 + j, none⟩ = some u := fun j u hj hu => by
      have := hc (i * 4 + j) u (by rw [flat_at objC 4 (noObj, noSl) (fun _ => rfl) pl i j hi' hj]; exact hu)
      rw [Addr.add_lit, ← Nat.add_assoc] at this
      exact this
    exact ⟨_, ⟨k 0 _ (by decide) rfl, k 1 _ (by decide) rfl, k 2 _ (by decide) rfl, k 3 _ (by decide) rfl⟩, h.ov _ hm⟩
/-- A row of one's own of objects is a list of objects. -/
theorem objs_own {w : World} {B : Nat} {v : Value} {n : Nat} {pl : List (ObjD × Sl)} (h : w.ownsRow B 40 4 v n (pl.flatMap objC)) (hn : pl.length = n) (hm : n ≤ maxLen) (hov : ∀ p ∈ pl, OV w p.1 p.2) : ∃ a c, v = .slice a n c ∧ ObjsP w a n c pl := by
  have h2 := h
  rcases h2.2 with ⟨rfl, h0⟩ | ⟨g, cap, cur, rfl, hb, hh, h1, h2, h3, h4⟩
  · refine ⟨none, 0, by rw [h0], ⟨hn, hm, fun _ => ⟨h0, rfl⟩, fun ad e => (by cases e), .inl h0, hov⟩⟩
  · exact ⟨_, _, rfl, ⟨hn, hm, fun e => (by cases e), fun ad e j u hu => by cases e; exact h.cells rfl j u hu, .inr ⟨g, 0, rfl⟩, hov⟩⟩

/-- What an answer holds fits. -/
theorem link_fits {w : World} {a : Option Addr} {l c : Nat} {os : List ObjD} (h : ObjsV w a l c os) : (∀ n ∈ linkD os, (Lit.int .i64 n).wf = true) ∧ ∀ s ∈ linkS os, s.name.size ≤ maxLen ∧ (Lit.int .i64 s.kind).wf = true ∧ (Lit.int .i64 s.pos).wf = true := by
  by_cases h0 : linkE os = 0
  · obtain ⟨a1, a2, a3, a4, a5, a6, a7⟩ := link_ok h0
    obtain ⟨pl, rfl, hP⟩ := objs_p h
    rw [a6, a7]
    refine ⟨fun n hn => ?_, fun s hs => ?_⟩
    · obtain ⟨o, ho, hn⟩ := List.mem_flatMap.1 hn
      obtain ⟨p, hp, rfl⟩ := List.mem_map.1 ho
      exact (hP.ov p hp).ints.fits n hn
    · have hs1 : ∀ (ps : List (ObjD × Sl)) (z : L.Sz), (∀ p ∈ ps, p ∈ pl) → ∀ s ∈ L.symsFrom z (ps.map Prod.fst), s.name.size ≤ maxLen ∧ (Lit.int .i64 s.kind).wf = true := by
        intro ps
        induction ps with
        | nil => intro z _ s hs; simp [L.symsFrom] at hs
        | cons p ps ih =>
          intro z hps s hs
          simp only [List.map_cons, L.symsFrom, List.mem_append, List.mem_map] at hs
          rcases hs with ⟨y, hy, rfl⟩ | hs
          · have := (hP.ov p (hps p (List.mem_cons_self ..))).syms.fits y hy
            exact ⟨this.1, this.2.1⟩
          · exact ih _ (fun q hq => hps q (List.mem_cons_of_mem _ hq)) s hs
      obtain ⟨k1, k2⟩ := hs1 pl L.zero (fun p hp => hp) s hs
      refine ⟨k1, k2, ?_⟩
      have hp := syms_pos _ L.zero a1.2 s hs
      have hsz := sizes_le _ L.zero a1.2
      have z1 : L.zero.b = 0 := rfl
      have z2 : L.zero.d = 0 := rfl
      simp only [Lit.wf]
      have hl := a1.1
      have : s.pos ≤ 4294967296 := by omega
      have m1 : IntKind.i64.min = -9223372036854775808 := by decide
      have m2 : IntKind.i64.max = 9223372036854775807 := by decide
      simp only [m1, m2, Bool.and_eq_true, decide_eq_true_eq]
      omega
  · obtain ⟨b1, b2, b3⟩ := link_bad h0
    rw [b2, b3]
    simp
theorem imgR_view {x x' : World} {v1 v2 : Value} {ds : List Int} {ss : List Sym} (h : ImgR x x' v1 v2 ds ss) (f1 : ∀ n ∈ ds, (Lit.int .i64 n).wf = true) (f2 : ∀ s ∈ ss, s.name.size ≤ maxLen ∧ (Lit.int .i64 s.kind).wf = true ∧ (Lit.int .i64 s.pos).wf = true) :
    ∃ a1 c1 a2 c2, v1 = .slice a1 ds.length c1 ∧ v2 = .slice a2 ss.length c2 ∧ IntsV x' a1 ds.length c1 ds ∧ SymsV x' a2 ss.length c2 ss := by
  obtain ⟨a1, c1, rfl⟩ := own_slice h.d
  obtain ⟨a2, c2, rfl⟩ := own_slice h.s
  exact ⟨a1, c1, a2, c2, rfl, rfl, intsV_own f1 rfl h.d, symsV_own f2 rfl h.s⟩
end Go.Proofs.Ytaoklmphcgigeaa
