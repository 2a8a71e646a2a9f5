/- A thread alone sees its own stores at once: two machines that show the same. No walk. -/
import Derived.Test.YtdcdmlboilojmaaDoorRFirst
import Derived.Test.YtdcdmlboilojmaaDoorQAe
import Derived.Test.YtdcdmlboilojmaaDoorQAa
import Derived.Test.YtdcdmlboilojmaaDoorProg
import Derived.WalkKit
import Derived.ChangeKeysEq
import Derived.Test.YtdcdmlboilojmaaDoorQAw
import Derived.Deep.Grids
namespace Go.Proofs.YtdcdmlboilojmaaDoor
open Go.RowKit
set_option linter.unusedVariables false

namespace T
theorem upds_none {m : Memo} {a : Int} (h : m a = none) (ws : List Wait) : upds m ws a = none := by
  have := upds_some ws m a
  rw [h] at this
  cases e : upds m ws a with
  | none => rfl
  | some x => rw [e] at this; cases this
/-- What a thread sees: memory behind all its stores. -/
theorem upds_at (m : Memo) (a : Int) (h : (m a).isSome = true) (ws : List Wait) : upds m ws a = (newest ws a).or (m a) := by
  have key : ∀ (r : List Wait), upds m r.reverse a = (newest r.reverse a).or (m a) := by
    intro r
    induction r with
    | nil => rfl
    | cons p r ih =>
      rw [List.reverse_cons, upds_snoc, newest_snoc]
      unfold upd
      by_cases e : a = p.1
      · subst e
        rw [if_pos rfl, if_pos rfl, if_pos (by rw [upds_some]; exact h)]
        rfl
      · rw [if_neg e, if_neg (fun q => e q.symm)]
        exact ih
  have := key ws.reverse
  rwa [List.reverse_reverse] at this
def view (M : Mach) : Memo := upds M.mem (M.th 0).ws
def AdOk (M : Mach) : Prop := ∀ p ∈ (M.th 0).ws, (M.mem p.1).isSome = true
theorem newest_none {ws : List Wait} {a : Int} (h : ∀ p ∈ ws, p.1 ≠ a) : newest ws a = none := by
  unfold newest
  rw [Option.map_eq_none_iff, List.find?_eq_none]
  intro p hp
  have := h p (List.mem_reverse.1 hp)
  simpa using this
theorem ld_view {M : Mach} (h : AdOk M) (a : Int) : ld M 0 a = view M a := by
  unfold ld view
  cases e : M.mem a with
  | none =>
    rw [upds_none e, newest_none (fun p hp q => by have := h p hp; rw [q, e] at this; cases this)]
    rfl
  | some x => rw [upds_at _ _ (by rw [e]; rfl), e]
theorem er_view (M : Mach) (a : Int) : er (M.mem a) = er (view M a) := by
  have h := upds_some (M.th 0).ws M.mem a
  unfold view
  cases e : M.mem a with
  | none => rw [upds_none e]
  | some x =>
    rw [e] at h
    cases e2 : upds M.mem (M.th 0).ws a with
    | none => rw [e2] at h; cases h
    | some y => rfl
theorem has_view {α : Type} (M : Mach) (a : Int) (x y : α) : has (M.mem a) x y = has (view M a) x y := by
  have h := upds_some (M.th 0).ws M.mem a
  unfold view
  cases e : M.mem a with
  | none => rw [upds_none e]
  | some x =>
    rw [e] at h
    cases e2 : upds M.mem (M.th 0).ws a with
    | none => rw [e2] at h; cases h
    | some y => rfl
/-- The view behind what memory did of a request. -/
def viewQ (v : Memo) (q : S.Q) : Memo :=
  if q.k = 2 then has (v q.a) (upd v q.a q.v) v
  else if q.k = 3 then has (v q.a) (upd v q.a q.v) v
  else if q.k = 4 then has (v q.a) (upd v q.a (wrap64 ((v q.a).getD 0 + q.v))) v
  else v
theorem ansV (M : Mach) (q : S.Q) : upds (ansMem M 0 q) (ansW M 0 q) = viewQ (view M) q := by
  unfold ansMem ansW viewQ
  by_cases h2 : q.k = 2
  · rw [if_pos h2, if_pos h2, if_pos h2, ← has_view M q.a]
    cases e : M.mem q.a with
    | none => rfl
    | some x =>
      show upds (fullMem M 0) ((if (M.th 0).ws.length = 8 then (M.th 0).ws.tail else (M.th 0).ws) ++ [(q.a, q.v)]) = upd (view M) q.a q.v
      rw [upds_snoc]
      congr 1
      unfold fullMem view
      by_cases h8 : (M.th 0).ws.length = 8
      · rw [if_pos h8, if_pos h8]
        cases hw : (M.th 0).ws with
        | nil => rw [hw] at h8; cases h8
        | cons p r => rw [leave_eq hw]; rfl
      · rw [if_neg h8, if_neg h8]
  rw [if_neg h2, if_neg h2, if_neg h2]
  by_cases h3 : q.k = 3
  · rw [if_pos h3, if_pos (.inl h3), if_pos h3, ← has_view M q.a]
    cases e : M.mem q.a with
    | none => rfl
    | some x => rfl
  rw [if_neg h3, if_neg h3]
  by_cases h4 : q.k = 4
  · rw [if_pos h4, if_pos (.inr h4), if_pos h4, ← has_view M q.a]
    cases e : M.mem q.a with
    | none => rfl
    | some x => rfl
  rw [if_neg h4, if_neg (show ¬ (q.k = 3 ∨ q.k = 4) by omega), if_neg h4]
  by_cases h5 : q.k = 5
  · rw [if_pos h5, if_pos h5]; rfl
  · rw [if_neg h5, if_neg h5]; rfl
/-- Two machines of one thread that show the same. -/
structure Alike (M X : Mach) : Prop where
  code : M.code = X.code
  m1 : M.ts.length = 1
  x1 : X.ts.length = 1
  c : (M.th 0).c = (X.th 0).c
  view : view M = view X
  es : M.es = X.es
  mok : AdOk M
  xok : AdOk X
theorem Alike.refl {M : Mach} (h : M.ts.length = 1) (ho : AdOk M) : Alike M M := ⟨rfl, h, h, rfl, rfl, rfl, ho, ho⟩
theorem leave_view (M : Mach) (h : M.ts.length = 1) : view (leave M 0) = view M := by
  cases hw : (M.th 0).ws with
  | nil => rw [leave_no hw]
  | cons p r =>
    rw [leave_eq hw]
    unfold view
    rw [th_set (by omega), if_pos rfl, hw]
    rfl
theorem leave_ad {M : Mach} (h : M.ts.length = 1) (ho : AdOk M) : AdOk (leave M 0) := by
  cases hw : (M.th 0).ws with
  | nil => rw [leave_no hw]; exact ho
  | cons p r =>
    rw [leave_eq hw]
    intro q hq
    rw [th_set (by omega), if_pos rfl] at hq
    show (upd M.mem p.1 p.2 q.1).isSome = true
    rw [upd_some]
    exact ho q (by rw [hw]; exact List.mem_cons_of_mem _ hq)
theorem Alike.leaveL {M X : Mach} (h : Alike M X) : Alike (leave M 0) X := by
  refine ⟨?_, ?_, h.x1, ?_, (leave_view M h.m1).trans h.view, ?_, leave_ad h.m1 h.mok, h.xok⟩
  · cases hw : (M.th 0).ws with
    | nil => rw [leave_no hw]; exact h.code
    | cons p r => rw [leave_eq hw]; exact h.code
  · rw [len_leave]; exact h.m1
  · cases hw : (M.th 0).ws with
    | nil => rw [leave_no hw]; exact h.c
    | cons p r => rw [leave_eq hw, th_set (by have := h.m1; omega), if_pos rfl]; exact h.c
  · rw [es_leave]; exact h.es
theorem Alike.ansE {M X : Mach} (h : Alike M X) (q : S.Q) : ansE M 0 q = ansE X 0 q := by
  unfold T.ansE
  rw [ld_view h.mok, ld_view h.xok, h.view, er_view M, er_view X, h.view]
theorem Alike.ansN {M X : Mach} (h : Alike M X) (q : S.Q) : ansN M 0 q = ansN X 0 q := by
  unfold T.ansN
  rw [ld_view h.mok, ld_view h.xok, h.view, has_view M, has_view X, h.view]
  have e : ∀ Y : Mach, (drain Y 0).mem = T.view Y := fun _ => rfl
  rw [e M, e X, h.view]
theorem ans_ad {M : Mach} (h1 : M.ts.length = 1) (ho : AdOk M) (q : S.Q) : ∀ p ∈ ansW M 0 q, (ansMem M 0 q p.1).isSome = true := by
  unfold ansMem ansW
  by_cases h2 : q.k = 2
  · rw [if_pos h2, if_pos h2]
    cases e : M.mem q.a with
    | none => exact ho
    | some x =>
      intro p hp
      have hf : ∀ a, (fullMem M 0 a).isSome = (M.mem a).isSome := fun a => by
        unfold fullMem
        split
        · cases hw : (M.th 0).ws with
          | nil => rw [leave_no hw]
          | cons r t => rw [leave_eq hw]; exact upd_some _ _ _ _
        · rfl
      show (fullMem M 0 p.1).isSome = true
      rw [hf]
      rcases List.mem_append.1 hp with hp | hp
      · split at hp
        · exact ho p (List.mem_of_mem_tail hp)
        · exact ho p hp
      · obtain rfl : p = (q.a, q.v) := by simpa using hp
        show (M.mem q.a).isSome = true
        rw [e]; rfl
  rw [if_neg h2, if_neg h2]
  by_cases h3 : q.k = 3
  · rw [if_pos h3, if_pos (.inl h3)]
    cases e : M.mem q.a with
    | none => exact ho
    | some x => intro p hp; cases hp
  rw [if_neg h3]
  by_cases h4 : q.k = 4
  · rw [if_pos h4, if_pos (.inr h4)]
    cases e : M.mem q.a with
    | none => exact ho
    | some x => intro p hp; cases hp
  rw [if_neg h4, if_neg (show ¬ (q.k = 3 ∨ q.k = 4) by omega)]
  by_cases h5 : q.k = 5
  · rw [if_pos h5, if_pos h5]; intro p hp; cases hp
  · rw [if_neg h5, if_neg h5]; exact ho
theorem ins_ad {M : Mach} (h1 : M.ts.length = 1) (ho : AdOk M) : ∀ p ∈ insW M 0, (insMem M 0 p.1).isSome = true := by
  unfold insW insMem
  split
  · exact ans_ad h1 ho _
  · exact ho
theorem Alike.goOn {M X : Mach} (h : Alike M X) : Alike (goOn M 0) (goOn X 0) := by
  have hm : 0 < M.ts.length := by have := h.m1; omega
  have hx : 0 < X.ts.length := by have := h.x1; omega
  have hpl : plc M 0 = plc X 0 := by unfold plc; rw [h.c]
  have hq : insQ M 0 = insQ X 0 := by unfold insQ; rw [h.c, h.code, hpl]
  have hg : goes M 0 = goes X 0 := by unfold goes; rw [h.code, hpl, hq, h.ansE]
  have hc : insC M 0 = insC X 0 := by
    unfold insC
    rw [h.c, h.code, hpl, hq, h.ansE, h.ansN]
  by_cases hs : (M.th 0).c.st = 0
  · have hs' : (X.th 0).c.st = 0 := by rw [← h.c]; exact hs
    rw [goOn_eq hm hs, goOn_eq hx hs']
    refine ⟨h.code, by simpa using h.m1, by simpa using h.x1, ?_, ?_, ?_, ?_, ?_⟩
    · rw [th_set hm, th_set hx, if_pos rfl, if_pos rfl]; exact hc
    · unfold T.view
      rw [th_set hm, th_set hx, if_pos rfl, if_pos rfl]
      show upds (insMem M 0) (insW M 0) = upds (insMem X 0) (insW X 0)
      unfold insMem insW
      rw [hg]
      split
      · rw [ansV, ansV, h.view, hq]
      · exact h.view
    · show insEs M 0 ++ endE 0 (insC M 0) = insEs X 0 ++ endE 0 (insC X 0)
      rw [hc]
      congr 1
      unfold insEs ansEs
      rw [hg, hq, h.es]
    · intro p hp
      rw [th_set hm, if_pos rfl] at hp
      exact ins_ad h.m1 h.mok p hp
    · intro p hp
      rw [th_set hx, if_pos rfl] at hp
      exact ins_ad h.x1 h.xok p hp
  · have hs' : ¬ (X.th 0).c.st = 0 := by rw [← h.c]; exact hs
    rw [goOn_no hs, goOn_no hs']
    exact h
end T

end Go.Proofs.YtdcdmlboilojmaaDoor

/- Two threads that are the same, held against each other: the array of registers. -/
namespace Go.Proofs.YtdcdmlboilojmaaDoor
open Go.RowKit

theorem info_i64 : ∃ i, Tryd.prog.info? 2 = some i := by
  have h : (Tryd.prog.info? 2).isSome = true := by kernel_rfl
  exact Option.isSome_iff_exists.1 h
theorem plain_i64 : Tryd.prog.plainKey 2 = true := by kernel_rfl

theorem eq_step (w : World) (xs : Array Value) (i : Nat) (is : List Nat) (a : Int) (h : xs[i]? = some (.int .i64 a)) :
    (Op.eqItems 9998 2 1 xs xs (i :: is)).run Tryd.prog w = (Op.eqItems 9998 2 1 xs xs is).run Tryd.prog w := by
  have hp := run_part_plain w plain_i64 (xs := xs) (off := i * 1) (v := .int .i64 a) (by rw [Nat.mul_one]; exact h)
  simp only [Op.eqItems, Sem.run_bind, hp, Result.andThen_ok, run_equalIn_int w 9997 2 .i64 .i64 a a Tryd.underlying2]
  simp

theorem eq8 (c : S.C) (w : World) : (Op.equalIn 9999 42 (.agg #[.int .i64 c.r0, .int .i64 c.r1, .int .i64 c.r2, .int .i64 c.r3, .int .i64 c.r4, .int .i64 c.r5, .int .i64 c.r6, .int .i64 c.r7]) (.agg #[.int .i64 c.r0, .int .i64 c.r1, .int .i64 c.r2, .int .i64 c.r3, .int .i64 c.r4, .int .i64 c.r5, .int .i64 c.r6, .int .i64 c.r7])).run Tryd.prog w = .ok true w := by
  obtain ⟨i, hi⟩ := info_i64
  rw [run_equalIn_array w 9998 _ _ Tryd.underlying42 hi, cell_i64, show List.range 8 = [0, 1, 2, 3, 4, 5, 6, 7] from rfl]
  rw [eq_step w _ 0 _ c.r0 rfl, eq_step w _ 1 _ c.r1 rfl, eq_step w _ 2 _ c.r2 rfl, eq_step w _ 3 _ c.r3 rfl, eq_step w _ 4 _ c.r4 rfl, eq_step w _ 5 _ c.r5 rfl, eq_step w _ 6 _ c.r6 rfl, eq_step w _ 7 _ c.r7 rfl]
  simp [Op.eqItems]
end Go.Proofs.YtdcdmlboilojmaaDoor

/- TsoAlone, walked. (Written by gen_alone.py.) -/
namespace Go.Proofs.YtdcdmlboilojmaaDoor
open Go.RowKit Go.Maps
set_option linter.unusedVariables false
set_option linter.unusedSimpArgs false

structure BoolsV (w : World) (a : Option Addr) (len cap : Nat) (zs : List Bool) : Prop where
  count : zs.length = len
  room : len ≤ cap ∧ cap ≤ maxLen
  cells : len = 0 ∨ ∃ b off, a = some ⟨b, off, none⟩ ∧ ∀ i, i < len → w.cell? ⟨b, off + i, none⟩ = some (.bool (zs.getD i false))
theorem MP.lower {B B' : Nat} {w : World} {bm : Nat} {m : T.Memo} {K : Nat} {t : Nat → Nat} (h : MP B w bm m K t) (hl : B' ≤ B) : MP B' w bm m K t := by
  obtain ⟨rs, R, W, br, bw, nr, nw, lv, bs, h1, h2, h3, h4, h5, h6, h7⟩ := h
  exact ⟨rs, R, W, br, bw, nr, nw, lv, bs, h1.lower hl, h2, h3, h4, h5, h6, h7⟩
theorem TV.lower {B B' : Nat} {w : World} {b : Nat} {M : T.Mach} {K : Nat} {t : Nat → Nat} {bm g cap : Nat} {ev : Value} {us : List Value} (h : TV B w b M K t bm g cap ev us) (hl : B' ≤ B) : TV B' w b M K t bm g cap ev us :=
  { h with mem := h.mem.lower hl, ws := fun k x u h1 h2 => own_mono (h.ws k x u h1 h2) hl, evs := own_mono h.evs hl, lt := fun k hk => ⟨Nat.le_trans hl (h.lt k hk).1, (h.lt k hk).2⟩ }
/-- Two machines side by side. -/
def Two (B : Nat) (X wq : World) (b : Nat) (M : T.Mach) (K : Nat) (bm g cap : Nat) (b' : Nat) (N : T.Mach) (L : Nat) (bm' g' cap' : Nat) : Prop := ∃ t ev us p ev' us', TV B wq b M K t bm g cap ev us ∧ TV B wq b' N L p bm' g' cap' ev' us' ∧ (∀ k, t k ≠ 0 → p k = 0) ∧ Below B X wq ∧ Tab wq
def AlOk (M0 M N : T.Mach) (k : Nat) : Prop := MOk M ∧ MOk N ∧ T.Alike M N ∧ M.code = M0.code ∧ M.es.length ≤ 4 * k
section
variable {B : Nat} {X wq y : World} {b : Nat} {M M' : T.Mach} {K K' : Nat} {bm g cap : Nat} {b' : Nat} {N N' : T.Mach} {L L' : Nat} {bm' g' cap' : Nat} {t p : Nat → Nat} {ev ev' : Value} {us us' : List Value}
theorem Two.left (hm : TV B wq b M K t bm g cap ev us) (hx : TV B wq b' N L p bm' g' cap' ev' us') (hd : ∀ k, t k ≠ 0 → p k = 0) (hb : Below B X wq) (ht : Tab wq) (h2 : 2 ≤ B) (hg : Gone B wq y b M' K' t bm g cap) : Two B X y b M' K' bm g cap b' N L bm' g' cap' := by
  obtain ⟨t', ev1, us1, h1, hs⟩ := hg
  have hlo : ∀ k, t k ≠ 0 → B ≤ k := fun k hk => (hm.lt k hk).1
  refine ⟨t', ev1, us1, p, ev', us', h1, hx.frame hs (fun k hk => Classical.byContradiction fun e => hk (hd k e)), fun k hk => Classical.byContradiction fun e => ?_, hb.trans (hs.toBelow hlo hm.hB), ht.of hs ?_ ?_⟩
  · have h3 := (hx.lt k e).2
    rw [hs.tag k h3] at hk
    exact e (hd k hk)
  · exact Classical.byContradiction fun e => by have := hlo 0 e; omega
  · exact Classical.byContradiction fun e => by have := hlo 1 e; omega
theorem Two.right (hm : TV B wq b M K t bm g cap ev us) (hx : TV B wq b' N L p bm' g' cap' ev' us') (hd : ∀ k, t k ≠ 0 → p k = 0) (hb : Below B X wq) (ht : Tab wq) (h2 : 2 ≤ B) (hg : Gone B wq y b' N' L' p bm' g' cap') : Two B X y b M K bm g cap b' N' L' bm' g' cap' := by
  obtain ⟨p', ev1, us1, h1, hs⟩ := hg
  have hlo : ∀ k, p k ≠ 0 → B ≤ k := fun k hk => (hx.lt k hk).1
  refine ⟨t, ev, us, p', ev1, us1, hm.frame hs hd, h1, fun k hk => ?_, hb.trans (hs.toBelow hlo hx.hB), ht.of hs ?_ ?_⟩
  · rw [hs.tag k (hm.lt k hk).2]
    exact hd k hk
  · exact Classical.byContradiction fun e => by have := hlo 0 e; omega
  · exact Classical.byContradiction fun e => by have := hlo 1 e; omega
theorem Two.below (h : Two B X wq b M K bm g cap b' N L bm' g' cap') (hb : Below wq.heap.size wq y) : Two B X y b M K bm g cap b' N L bm' g' cap' := by
  obtain ⟨t, ev, us, p, ev', us', h1, h2, h3, h4, h5⟩ := h
  exact ⟨t, ev, us, p, ev', us', h1.below hb, h2.below hb, h3, h4.trans (hb.mono h1.hB), h5.below hb⟩
theorem T.act_0 {M : T.Mach} (h : M.ts.length = 1) : T.act M 0 = T.goOn M 0 := by
  have := T.act_two (M := M) (k := 0) (by omega)
  simpa using this
theorem T.act_1 {M : T.Mach} (h : M.ts.length = 1) : T.act M 1 = T.leave M 0 := by
  have := T.act_two1 (M := M) (k := 0) (by omega)
  simpa using this
end

set_option maxRecDepth 100000 in
set_option maxHeartbeats 16000000 in
theorem alone_any {w : World} {v : Value} {m : ImgD} (h : ImgV w v m) {a : Option Addr} {l c : Nat} {bs : List Bool} (hp : BoolsV w a l c bs) (ht : Tab w) :
    Calls Tryd.prog 5 #[v, .slice a l c] w fun e w' => e = .returned (.bool true) ∧ Below w.heap.size w w' := by
  obtain ⟨a1, l1, c1, a2, l2, c2, rfl, hs, h1, h2⟩ := h.form
  obtain ⟨is', his, hs0, hs1, hs2⟩ := info_partsL infoS
  obtain ⟨W1, hW1⟩ : ∃ W1, w.alloc (.cells #[.string m.code, .slice a1 l1 c1, .slice a2 l2 c2] 25) = W1 := ⟨_, rfl⟩
  have b1 : Below w.heap.size w W1 := by subst hW1; exact bl_one _ _
  have v0 : W1.cell? ⟨w.heap.size, 0, none⟩ = some (.string m.code) := by subst hW1; exact cell_last _ _ _ _ _ rfl rfl
  have v1 : W1.cell? ⟨w.heap.size, 1, none⟩ = some (.slice a1 l1 c1) := by subst hW1; exact cell_last _ _ _ _ _ rfl rfl
  have v2 : W1.cell? ⟨w.heap.size, 2, none⟩ = some (.slice a2 l2 c2) := by subst hW1; exact cell_last _ _ _ _ _ rfl rfl
  have HFZ : Hid (W1.frozen? ⟨w.heap.size, 2, none⟩ = false) := by subst hW1; exact World.frozen?_alloc_at _ _ _ _ rfl
  have hwW : w.heap.size < W1.heap.size := World.block_lt_of_cell? W1 ⟨w.heap.size, 0, none⟩ v0
  have HV012 : Hid (∀ y, Below W1.heap.size W1 y → y.cell? ⟨w.heap.size, 0, none⟩ = some (.string m.code) ∧ y.cell? ⟨w.heap.size, 1, none⟩ = some (.slice a1 l1 c1) ∧ y.cell? ⟨w.heap.size, 2, none⟩ = some (.slice a2 l2 c2) ∧ y.frozen? ⟨w.heap.size, 2, none⟩ = false) := fun y hy => ⟨cell_up hy v0, cell_up hy v1, cell_up hy v2, (hy.frozen (p := ⟨w.heap.size, 2, none⟩) hwW).trans HFZ.out⟩
  have HB1 : Hid (Below w.heap.size w W1) := b1
  have HD : Hid (IntsV w a1 l1 c1 m.data) := h1
  have HSY : Hid (SymsV W1 a2 l2 c2 m.syms) := h2.below b1
  have HSC : Hid (m.syms.length = l2) := h2.count
  have hro2 := h2.room
  have HSF : Hid _ := h2.fits
  have HCS : Hid (m.code.size ≤ maxLen) := hs
  have HT0 : Hid (Tab w) := ht
  have HR00 : Hid (W1.ownsRow W1.heap.size 64 3 (.slice none 0 0) (fstT (m.syms.take 0)).length ((fstT (m.syms.take 0)).flatMap sC)) := World.ownsRow_nil _ _ _ _
  unfold maxLen at hro2
  clear h h1 h2 b1 hs
  have HP0 : Hid (BoolsV w a l c bs) := hp
  clear hp ht
  go_enter Tryd.func5, Tryd.ntmps5
  go_wp2_with fail
  go_loopg [5, 6] l2 (fun r sv iv wq => ∃ (k : Nat), iv = .int .i64 k ∧ k ≤ l2 ∧ l2 - k ≤ r ∧ Hid (wq.ownsRow W1.heap.size 64 3 sv (fstT (m.syms.take k)).length ((fstT (m.syms.take k)).flatMap sC)) ∧ Hid (Below W1.heap.size W1 wq))
  case atStart => exact ⟨0, rfl, Nat.zero_le _, by omega, HR00, Below.refl _ _⟩
  case round =>
    obtain ⟨k, rfl, hk, hr, HRW, HBL⟩ := hrel
    obtain ⟨v0, v1, v2, fz⟩ := HV012.out wr HBL.out
    by_cases hgo : k < l2 ∧ (fstT (m.syms.take k)).length = 0
    · obtain ⟨hlt, hz⟩ := hgo
      have hkl : k < m.syms.length := by rw [HSC.out]; exact hlt
      have hnil : fstT (m.syms.take k) = [] := List.eq_nil_of_length_eq_zero hz
      have hrw0 := HRW.out
      rw [hnil] at hrw0
      obtain ⟨sa, sc, rfl, hnc, hcm⟩ := own_sl hrw0
      have HSN : Hid _ := fstT_snoc m.syms hkl hnil
      rcases (HSY.out.below HBL.out).cells with h0 | ⟨zb, zo, hA, hcl⟩
      · omega
      obtain ⟨q0, q1, q2⟩ := hcl k hlt
      obtain ⟨⟨nm, kd, ps'⟩, hx⟩ : ∃ x, m.syms.getD k noSym = x := ⟨_, rfl⟩
      rw [hx] at q0 q1 q2 HSN
      simp only at q0 q1 q2 HSN
      subst hA
      have hii : (k : Int) < l2 := by omega
      have hin : 0 ≤ (k : Int) := by omega
      simp only [List.length_nil] at hnc hrw0
      have HRZ0 : Hid (wr.ownsRow W1.heap.size 64 3 (.slice sa 0 sc) 0 []) := hrw0
      rw [List.length_nil]
      clear hcl hx hrw0 hnil hz hcm
      by_cases hkd : kd = 3
      · subst hkd
        rw [if_pos rfl] at HSN
        have HB1' : Hid (Below wr.heap.size wr (wr.alloc (.cells #[.string nm, .int .i64 3, .int .i64 ps'] 64))) := bl_one _ _
        have HW1' : Hid ((wr.alloc (.cells #[.string nm, .int .i64 3, .int .i64 ps'] 64)).ownsRow W1.heap.size 64 3 (.slice sa 0 sc) 0 []) := own_below HRZ0.out HB1'.out
        have HNC : Hid (∀ j u, ([.string nm, .int .i64 3, .int .i64 ps'] : List Value)[j]? = some u → (wr.alloc (.cells #[.string nm, .int .i64 3, .int .i64 ps'] 64)).cell? ((⟨wr.heap.size, 0, none⟩ : Addr).add j) = some u) := fun j u hu => by
          rw [Addr.add_lit, Nat.zero_add]
          exact cell_last _ _ _ _ _ rfl (by simpa using hu)
        have hws : W1.heap.size ≤ wr.heap.size := HBL.out.size
        go_wp2_with (first | (at_builtin; refine wpList_append_lies _ rfl _ _ 23 rfl W1.heap.size 64 is' _ 3 32 Tryd.underlying23 his hs0 hs1 hs2 rfl (by decide) (.slice sa 0 sc) 0 _ rfl HW1'.out ⟨wr.heap.size, 0, none⟩ 1 1 [.string nm, .int .i64 3, .int .i64 ps'] rfl rfl HNC.out (by intro u hu; simp at hu; rcases hu with rfl | rfl | rfl <;> rfl) (by decide) (by decide) (by decide) (by simp; omega) (wr.heap.size + 1) (by simp) ?_) | go_in)
        intro x cp Y6 ho6 hg6 hat6 hlt6
        have HRN : Hid (Y6.ownsRow W1.heap.size 64 3 (.slice (some ⟨x, 0, none⟩) 1 cp) (fstT (m.syms.take (k + 1))).length ((fstT (m.syms.take (k + 1))).flatMap sC)) := by
          show World.ownsRow _ _ _ _ _ _ _
          rw [HSN.out]
          exact ho6
        have HBN : Hid (Below W1.heap.size W1 Y6) := below_new (HBL.out.trans (HB1'.out.mono hws)) hg6 (fun q hq => (HW1'.out.lt q hq).1)
        clear ho6 hg6 hat6 hlt6
        go_wp2
        go_roundg (l2 - (k + 1))
        · exact ⟨k + 1, rfl, by omega, Nat.le_refl _, HRN, HBN⟩
        · omega
      · rw [if_neg hkd] at HSN
        have HRN : Hid (wr.ownsRow W1.heap.size 64 3 (.slice sa 0 sc) (fstT (m.syms.take (k + 1))).length ((fstT (m.syms.take (k + 1))).flatMap sC)) := by
          show World.ownsRow _ _ _ _ _ _ _
          rw [HSN.out]
          exact HRZ0.out
        go_wp2
        go_roundg (l2 - (k + 1))
        · exact ⟨k + 1, rfl, by omega, Nat.le_refl _, HRN, HBL⟩
        · omega
    · have hfs : fstT m.syms = fstT (m.syms.take k) := by
        by_cases hlt : k < l2
        · exact fstT_stay m.syms (by have := fstT_len (m.syms.take k); omega)
        · rw [List.take_of_length_le (by rw [HSC.out]; omega)]
      have hrw0 := HRW.out
      rw [← hfs] at hrw0
      obtain ⟨sn, hsn⟩ : ∃ sn, (fstT m.syms).length = sn := ⟨_, rfl⟩
      rw [hsn] at hrw0
      have hsl : sn ≤ 1 := by rw [← hsn]; exact fstT_len _
      have hexit : ¬ (k < l2 ∧ sn = 0) := by rw [← hsn, hfs]; exact hgo
      obtain ⟨sa, sc, rfl, hsv⟩ := syms_own (ss := fstT m.syms) hrw0 hsn (fun s hs => HSF.out s (fstT_mem hs))
      have hscr := hsv.room
      have HROW : Hid (wr.ownsRow W1.heap.size 64 3 (.slice sa sn sc) sn ((fstT m.syms).flatMap sC)) := hrw0
      have HSN : Hid ((fstT m.syms).length = sn) := hsn
      obtain ⟨X, hX⟩ : ∃ X, wr.setCell ⟨w.heap.size, 2, none⟩ (.slice sa sn sc) = X := ⟨_, rfl⟩
      have x0 : X.cell? ⟨w.heap.size, 0, none⟩ = some (.string m.code) := by rw [← hX, World.cell?_setCell_other _ _ _ _ (off_ne (by decide))]; exact v0
      have x1 : X.cell? ⟨w.heap.size, 1, none⟩ = some (.slice a1 l1 c1) := by rw [← hX, World.cell?_setCell_other _ _ _ _ (off_ne (by decide))]; exact v1
      have x2 : X.cell? ⟨w.heap.size, 2, none⟩ = some (.slice sa sn sc) := by rw [← hX]; exact World.cell?_setCell_same' _ _ _ (by rw [v2]; rfl)
      have HBX : Hid (Below w.heap.size w X) := by
        subst hX
        exact (HB1.out.trans (HBL.out.mono HB1.out.size)).setCell (Nat.le_refl _) _
      have HTX : Hid (Tab X) := HT0.out.below HBX.out
      have h2X : 2 ≤ X.heap.size := HTX.out.2.2
      have HIX : Hid (ImgV X (.agg #[.string m.code, .slice a1 l1 c1, .slice sa sn sc]) m.one) := by
        have h5 : X.ownsRow W1.heap.size 64 3 (.slice sa sn sc) sn ((fstT m.syms).flatMap sC) := by
          rw [← hX]
          exact ch1_own HROW.out hwW
        obtain ⟨a', c', e5, h6⟩ := syms_own (ss := fstT m.syms) h5 HSN.out (fun s hs => HSF.out s (fstT_mem hs))
        cases e5
        exact ⟨⟨_, _, _, _, _, _, rfl, HCS.out, HD.out.below HBX.out, h6⟩⟩
      have HLS : Hid (m.one.syms.length ≤ 8796093022208) := by show (fstT m.syms).length ≤ _; rw [HSN.out]; omega
      unfold maxLen at hscr
      by_cases hlt2 : k < l2
      · obtain rfl : sn = 1 := by omega
        have hii : (k : Int) < l2 := by omega
        have hdd : decide ((k : Int) < l2) = true := decide_eq_true hii
        clear hrw0 hsn hfs hsv HRW hgo hexit
        cases hm : m.one.may with
        | false =>
          have HN : Hid (∀ y, Below X.heap.size X y → Calls Tryd.prog 10 #[.agg #[.string m.code, .slice a1 l1 c1, .slice sa 1 sc]] y fun e w' => e = .returned (.tuple #[.pointer none, .int .i64 1]) ∧ Below y.heap.size y w') := fun y hy => tnew_no (HIX.out.below hy) HLS.out hm
          clear hm
          go_wp2_with fail
          refine (HN.out X (Below.refl _ _)).mono ?_
          rintro e y1 ⟨rfl, hb1⟩
          have x0' := cell_up hb1 x0
          have x1' := cell_up hb1 x1
          have x2' := cell_up hb1 x2
          have HBY : Hid (Below X.heap.size X y1) := hb1
          clear hb1 x0 x1 x2 v0 v1 v2 fz hX
          go_wp2_with fail
          refine (HN.out y1 HBY.out).mono ?_
          rintro e y2 ⟨rfl, hb2⟩
          have HBZ : Hid (Below X.heap.size X y2) := HBY.out.trans (hb2.mono HBY.out.size)
          have HB2 : Hid (Below w.heap.size w y2) := HBX.out.trans (HBZ.out.mono HBX.out.size)
          have HLV : Hid (Calls Tryd.prog 12 #[] y2 fun e w' => e = .returned (.bool true) ∧ Below y2.heap.size y2 w') := live_any y2 (HTX.out.below HBZ.out)
          clear hb2
          go_wp2_with fail
          refine HLV.out.mono ?_
          rintro e y3 ⟨rfl, hb3⟩
          have HB3 : Hid (Below w.heap.size w y3) := HB2.out.trans (hb3.mono HB2.out.size)
          clear hb3
          go_wp2
          go_ret
          exact ⟨rfl, HB3.out⟩
        | true =>
          have HML : Hid (m.one.mach.ts.length = 1) := one_len m hm
          have HMC : Hid (m.one.mach.code.size ≤ 65536) := mach_code m.one hm
          have HMO : Hid (MOk m.one.mach) := mach_ok m.one
          have HE0 : Hid (m.one.mach.es = []) := rfl
          have HW0 : Hid ((m.one.mach.th 0).ws = []) := by
            refine ths0_ws (strt m.one.syms) 0 _ ?_
            have : m.one.mach.ts[0]? = some (m.one.mach.th 0) := T.th_at (by rw [HML.out]; decide)
            exact List.mem_of_getElem? this
          have HN0 : ∀ y, Below X.heap.size X y → Calls Tryd.prog 10 #[.agg #[.string m.code, .slice a1 l1 c1, .slice sa 1 sc]] y fun e w' => NewIs y.heap.size e w' m.one.mach ∧ Below y.heap.size y w' := fun y hy => tnew_yes (HIX.out.below hy) HLS.out hm
          obtain ⟨M0, hM0⟩ : ∃ M0, m.one.mach = M0 := ⟨_, rfl⟩
          rw [hM0] at HN0 HML HMC HMO HE0 HW0
          have HN : Hid (∀ y, Below X.heap.size X y → Calls Tryd.prog 10 #[.agg #[.string m.code, .slice a1 l1 c1, .slice sa 1 sc]] y fun e w' => NewIs y.heap.size e w' M0 ∧ Below y.heap.size y w') := HN0
          clear hm hM0 HN0
          go_wp2_with fail
          refine (HN.out X (Below.refl _ _)).mono ?_
          rintro e y1 ⟨⟨b, t, bm, g, cap, us, rfl, htv⟩, hb1⟩
          have x0' := cell_up hb1 x0
          have x1' := cell_up hb1 x1
          have x2' := cell_up hb1 x2
          have HTV1 : Hid (TV X.heap.size y1 b M0 0 t bm g cap (.slice none 0 0) us) := htv
          have HBY1 : Hid (Below X.heap.size X y1) := hb1
          clear htv hb1 x0 x1 x2 v0 v1 v2 fz hX
          go_wp2_with fail
          refine (HN.out y1 HBY1.out).mono ?_
          rintro e y2 ⟨⟨b', p, bm', g', cap', us', rfl, htv⟩, hb2⟩
          have HTW : Hid (Two X.heap.size X y2 b M0 (30 * 0) bm g cap b' M0 (30 * 0) bm' g' cap') := by
            refine ⟨t, _, us, p, _, us', HTV1.out.below hb2, htv.lower HBY1.out.size, fun k hk => Classical.byContradiction fun e => ?_, HBY1.out.trans (hb2.mono HBY1.out.size), HTX.out.below (HBY1.out.trans (hb2.mono HBY1.out.size))⟩
            have h1 := (HTV1.out.lt k hk).2
            have h2 := (htv.lt k e).1
            omega
          have HAL : Hid (AlOk M0 M0 M0 0) := ⟨HMO.out, HMO.out, T.Alike.refl HML.out (by intro q hq; rw [HW0.out] at hq; cases hq), rfl, by rw [HE0.out]; simp⟩
          clear htv hb2 x0' x1' x2' HIX HBL HROW HV012 HN
          have hro := HP0.out.room
          unfold maxLen at hro
          go_wp2_with fail
          go_loopg [11] l (fun r iv wq => ∃ (k2 : Nat) (M N : T.Mach), iv = .int .i64 k2 ∧ k2 ≤ l ∧ k2 ≤ 300 ∧ l - k2 ≤ r ∧ Hid (Two X.heap.size X wq b M (30 * k2) bm g cap b' N (30 * k2) bm' g' cap') ∧ Hid (AlOk M0 M N k2))
          case atStart => exact ⟨0, M0, M0, rfl, Nat.zero_le _, by omega, by omega, HTW, HAL⟩
          case round =>
            obtain ⟨k2, M, N, rfl, hk2, hk3, hr2, HT2, HA2⟩ := hrel
            obtain ⟨t1, ev1, us1, p1, ev1', us1', hv1, hv1', hd1, hbx, htx⟩ := HT2.out
            obtain ⟨hok, hokN, hal, hcd, hes⟩ := HA2.out
            have hesN : N.es.length ≤ 4 * k2 := by rw [← hal.es]; exact hes
            have hcdN : N.code = M0.code := hal.code.symm.trans hcd
            by_cases hlt : k2 < l ∧ k2 < 300
            · have hdm := do_any hv1 hok (by omega) (by unfold maxLen; omega) htx h2X (by rw [hcd]; exact HMC.out) (by have := hal.m1; omega) 0 (by decide)
              have hok1 := hok.act (p := 0) (by have := hal.m1; omega)
              have hokN1 := hokN.act (p := 0) (by have := hal.x1; omega)
              have hes1 := T.act_len4 (M := M) (by have := hal.m1; omega) 0
              have hcd1 := (T.act_eq (M := M) (by have := hal.m1; omega) 0).1
              rw [T.act_0 hal.m1] at hdm hok1 hes1 hcd1
              rw [T.act_0 hal.x1] at hokN1
              have hal1 := hal.goOn
              obtain ⟨dd, hdd⟩ : ∃ dd, T.did M 0 = dd := ⟨_, rfl⟩
              obtain ⟨M1, hM1⟩ : ∃ M1, T.goOn M 0 = M1 := ⟨_, rfl⟩
              rw [hdd, hM1] at hdm
              rw [hM1] at hok1 hes1 hcd1 hal1
              have HDM : Hid (Calls Tryd.prog 14 #[.pointer (some ⟨b, 0, none⟩), .int .i64 0] wr fun e w' => e = .returned (.bool dd) ∧ Gone X.heap.size wr w' b M1 (30 * k2 + 11) t1 bm g cap) := hdm
              have HL1 : Hid (∀ y, Gone X.heap.size wr y b M1 (30 * k2 + 11) t1 bm g cap → Two X.heap.size X y b M1 (30 * k2 + 11) bm g cap b' N (30 * k2) bm' g' cap') := fun y hg => Two.left hv1 hv1' hd1 hbx htx h2X hg
              have HOK1 : Hid (MOk M1 ∧ MOk (T.goOn N 0) ∧ T.Alike M1 (T.goOn N 0) ∧ M1.code = M0.code ∧ M1.es.length ≤ 4 * k2 + 2) := ⟨hok1, hokN1, hal1, hcd1.trans hcd, by omega⟩
              have HNX : Hid (MOk N ∧ N.es.length ≤ 4 * k2 ∧ N.code = M0.code ∧ N.ts.length = 1) := ⟨hokN, hesN, hcdN, hal.x1⟩
              have hii : (k2 : Int) < l := by omega
              have hi3 : (k2 : Int) < 300 := by omega
              have hin : 0 ≤ (k2 : Int) := by omega
              have hdl : decide ((k2 : Int) < l) = true := decide_eq_true hii
              clear hv1 hv1' hd1 hbx htx hok hokN hal hcd hes hesN hcdN hdm hok1 hokN1 hes1 hcd1 hal1 hdd hM1 HT2 HA2
              go_wp2_with fail
              refine HDM.out.mono ?_
              rintro e y2 ⟨rfl, hg⟩
              have HT3 : Hid (Two X.heap.size X y2 b M1 (30 * k2 + 11) bm g cap b' N (30 * k2) bm' g' cap') := HL1.out y2 hg
              obtain ⟨t3, ev3, us3, p3, ev3', us3', hv3, hv3', hd3, hb3, ht3⟩ := HL1.out y2 hg
              have hdn := do_any hv3' HNX.out.1 (by have := HNX.out.2.1; omega) (by unfold maxLen; omega) ht3 h2X (by rw [HNX.out.2.2.1]; exact HMC.out) (by have := HNX.out.2.2.2; omega) 0 (by decide)
              rw [T.act_0 HNX.out.2.2.2] at hdn
              obtain ⟨dn, hdn'⟩ : ∃ dn, T.did N 0 = dn := ⟨_, rfl⟩
              obtain ⟨N1, hN1⟩ : ∃ N1, T.goOn N 0 = N1 := ⟨_, rfl⟩
              rw [hdn', hN1] at hdn
              rw [hN1] at HOK1
              have HDN : Hid (Calls Tryd.prog 14 #[.pointer (some ⟨b', 0, none⟩), .int .i64 0] y2 fun e w' => e = .returned (.bool dn) ∧ Gone X.heap.size y2 w' b' N1 (30 * k2 + 11) p3 bm' g' cap') := hdn
              have HL2 : Hid (∀ y, Gone X.heap.size y2 y b' N1 (30 * k2 + 11) p3 bm' g' cap' → Two X.heap.size X y b M1 (30 * k2 + 11) bm g cap b' N1 (30 * k2 + 11) bm' g' cap') := fun y hg => Two.right hv3 hv3' hd3 hb3 ht3 h2X hg
              clear hg hv3 hv3' hd3 hb3 ht3 hdn hdn' hN1
              go_wp2_with fail
              refine HDN.out.mono ?_
              rintro e y4 ⟨rfl, hg⟩
              have HT4 : Hid (Two X.heap.size X y4 b M1 (30 * k2 + 11) bm g cap b' N1 (30 * k2 + 11) bm' g' cap') := HL2.out y4 hg
              obtain ⟨t4, ev4, us4, p4, ev4', us4', hv4, hv4', hd4, hb4, ht4⟩ := HL2.out y4 hg
              have hbw : Below w.heap.size w y4 := HBX.out.trans (hb4.mono HBX.out.size)
              rcases HP0.out.cells with h0 | ⟨zb, zo, hA, hcl⟩
              · omega
              have q0 := cell_up hbw (hcl k2 (by omega))
              obtain ⟨fb, hfb⟩ : ∃ fb, bs.getD k2 false = fb := ⟨_, rfl⟩
              rw [hfb] at q0
              obtain ⟨g1, g2, g3, g4, g5⟩ := HOK1.out
              have hdl2 := do_any hv4 g1 (by omega) (by unfold maxLen; omega) ht4 h2X (by rw [g4]; exact HMC.out) (by have := g3.m1; omega) 1 (by decide)
              have g6 := g1.act (p := 1) (by have := g3.m1; omega)
              have g7 := T.act_len4 (M := M1) (by have := g3.m1; omega) 1
              have g8 := (T.act_eq (M := M1) (by have := g3.m1; omega) 1).1
              rw [T.act_1 g3.m1] at hdl2 g6 g7 g8
              obtain ⟨de, hde⟩ : ∃ de, T.did M1 1 = de := ⟨_, rfl⟩
              rw [hde] at hdl2
              have HDL : Hid (Calls Tryd.prog 14 #[.pointer (some ⟨b, 0, none⟩), .int .i64 1] y4 fun e w' => e = .returned (.bool de) ∧ Gone X.heap.size y4 w' b (T.leave M1 0) (30 * k2 + 11 + 11) t4 bm g cap) := hdl2
              have HL3 : Hid (∀ y, Gone X.heap.size y4 y b (T.leave M1 0) (30 * k2 + 11 + 11) t4 bm g cap → Two X.heap.size X y b (T.leave M1 0) (30 * k2 + 11 + 11) bm g cap b' N1 (30 * k2 + 11) bm' g' cap') := fun y hg => Two.left hv4 hv4' hd4 hb4 ht4 h2X hg
              have HALA : Hid (AlOk M0 M1 N1 (k2 + 1)) := ⟨g1, g2, g3, g4, by omega⟩
              have HALB : Hid (AlOk M0 (T.leave M1 0) N1 (k2 + 1)) := ⟨g6, g2, g3.leaveL, g8.trans g4, by omega⟩
              subst hA
              clear hg hv4 hv4' hd4 hb4 ht4 hbw hcl hfb g1 g2 g3 g4 g5 g6 g7 g8 hdl2 hde
              cases fb with
              | false =>
                obtain ⟨M2, hM2⟩ : ∃ M2, M1 = M2 := ⟨_, rfl⟩
                subst hM2
                have HAL2 : Hid (AlOk M0 M1 N1 (k2 + 1)) := HALA.out
                have HTWO : Hid (Two X.heap.size X y4 b M1 (30 * (k2 + 1)) bm g cap b' N1 (30 * (k2 + 1)) bm' g' cap') := by
                  obtain ⟨t4, ev4, us4, p4, ev4', us4', hv4, hv4', hd4, hb4, ht4⟩ := HT4.out
                  exact ⟨t4, ev4, us4, p4, ev4', us4', hv4.mono (by omega), hv4'.mono (by omega), hd4, hb4, ht4⟩
                obtain ⟨t5, ev5, us5, p5, ev5', us5', hv5, hv5', hd5, hb5, ht5⟩ := HTWO.out
                have HTHM : Hid (Calls Tryd.prog 16 #[.pointer (some ⟨b, 0, none⟩), .int .i64 0] y4 fun e w' => ThIs y4.heap.size e w' (M1.th 0) ∧ Below y4.heap.size y4 w') := thread_any (k := 0) hv5 (by rw [HAL2.out.2.2.1.m1]; decide) (by have := (HAL2.out.1 0 (by rw [HAL2.out.2.2.1.m1]; decide)).2; omega)
                have HTW5 : Hid (Two X.heap.size X y4 b M1 (30 * (k2 + 1)) bm g cap b' N1 (30 * (k2 + 1)) bm' g' cap') := HTWO.out
                clear hv5 hv5' hd5 hb5 ht5
                go_wp2_with fail
                refine HTHM.out.mono ?_
                rintro e y6 ⟨⟨wv, rfl, -⟩, hb6⟩
                obtain ⟨cc, hcc⟩ : ∃ cc, (M1.th 0).c = cc := ⟨_, rfl⟩
                rw [hcc]
                have HCC : Hid ((N1.th 0).c = cc) := by show _ = _; rw [← HAL2.out.2.2.1.c]; exact hcc
                obtain ⟨Y7, hY7⟩ : ∃ Y7, y6.alloc (.cells #[.int .i64 cc.r0, .int .i64 cc.r1, .int .i64 cc.r2, .int .i64 cc.r3, .int .i64 cc.r4, .int .i64 cc.r5, .int .i64 cc.r6, .int .i64 cc.r7, .int .i64 cc.pc, .int .i64 cc.st, .int .i64 cc.tr] 44) = Y7 := ⟨_, rfl⟩
                have hb7 : Below y4.heap.size y4 Y7 := by subst hY7; exact hb6.alloc hb6.size _
                have kc0 : Y7.cell? ⟨y6.heap.size, 0, none⟩ = some (.int .i64 cc.r0) := by subst hY7; exact cell_last _ _ _ _ _ rfl rfl
                have kc1 : Y7.cell? ⟨y6.heap.size, 1, none⟩ = some (.int .i64 cc.r1) := by subst hY7; exact cell_last _ _ _ _ _ rfl rfl
                have kc2 : Y7.cell? ⟨y6.heap.size, 2, none⟩ = some (.int .i64 cc.r2) := by subst hY7; exact cell_last _ _ _ _ _ rfl rfl
                have kc3 : Y7.cell? ⟨y6.heap.size, 3, none⟩ = some (.int .i64 cc.r3) := by subst hY7; exact cell_last _ _ _ _ _ rfl rfl
                have kc4 : Y7.cell? ⟨y6.heap.size, 4, none⟩ = some (.int .i64 cc.r4) := by subst hY7; exact cell_last _ _ _ _ _ rfl rfl
                have kc5 : Y7.cell? ⟨y6.heap.size, 5, none⟩ = some (.int .i64 cc.r5) := by subst hY7; exact cell_last _ _ _ _ _ rfl rfl
                have kc6 : Y7.cell? ⟨y6.heap.size, 6, none⟩ = some (.int .i64 cc.r6) := by subst hY7; exact cell_last _ _ _ _ _ rfl rfl
                have kc7 : Y7.cell? ⟨y6.heap.size, 7, none⟩ = some (.int .i64 cc.r7) := by subst hY7; exact cell_last _ _ _ _ _ rfl rfl
                have kc8 : Y7.cell? ⟨y6.heap.size, 8, none⟩ = some (.int .i64 cc.pc) := by subst hY7; exact cell_last _ _ _ _ _ rfl rfl
                have kc9 : Y7.cell? ⟨y6.heap.size, 9, none⟩ = some (.int .i64 cc.st) := by subst hY7; exact cell_last _ _ _ _ _ rfl rfl
                have kc10 : Y7.cell? ⟨y6.heap.size, 10, none⟩ = some (.int .i64 cc.tr) := by subst hY7; exact cell_last _ _ _ _ _ rfl rfl
                have HTW7 : Hid (Two X.heap.size X Y7 b M1 (30 * (k2 + 1)) bm g cap b' N1 (30 * (k2 + 1)) bm' g' cap') := HTW5.out.below hb7
                obtain ⟨t8, ev8, us8, p8, ev8', us8', hv8, hv8', hd8, hb8, ht8⟩ := HTW7.out
                have HTHN0 := thread_any (k := 0) hv8' (by rw [HAL2.out.2.2.1.x1]; decide) (by have := (HAL2.out.2.1 0 (by rw [HAL2.out.2.2.1.x1]; decide)).2; omega)
                have HTHN : Hid (Calls Tryd.prog 16 #[.pointer (some ⟨b', 0, none⟩), .int .i64 0] Y7 fun e w' => ThIs Y7.heap.size e w' (N1.th 0) ∧ Below Y7.heap.size Y7 w') := HTHN0
                clear hv8 hv8' hd8 hb8 ht8 HTHN0 hb6 hb7 hcc
                go_wp2_with fail
                refine HTHN.out.mono ?_
                rintro e y9 ⟨⟨wv2, rfl, -⟩, hb9⟩
                rw [HCC.out]
                clear hY7
                obtain ⟨Y10, hY10⟩ : ∃ Y10, y9.alloc (.cells #[.int .i64 cc.r0, .int .i64 cc.r1, .int .i64 cc.r2, .int .i64 cc.r3, .int .i64 cc.r4, .int .i64 cc.r5, .int .i64 cc.r6, .int .i64 cc.r7, .int .i64 cc.pc, .int .i64 cc.st, .int .i64 cc.tr] 44) = Y10 := ⟨_, rfl⟩
                have hb10 : Below Y7.heap.size Y7 Y10 := by subst hY10; exact hb9.alloc hb9.size _
                replace kc0 := cell_up hb10 kc0
                have qc0 : Y10.cell? ⟨y9.heap.size, 0, none⟩ = some (.int .i64 cc.r0) := by subst hY10; exact cell_last _ _ _ _ _ rfl rfl
                replace kc1 := cell_up hb10 kc1
                have qc1 : Y10.cell? ⟨y9.heap.size, 1, none⟩ = some (.int .i64 cc.r1) := by subst hY10; exact cell_last _ _ _ _ _ rfl rfl
                replace kc2 := cell_up hb10 kc2
                have qc2 : Y10.cell? ⟨y9.heap.size, 2, none⟩ = some (.int .i64 cc.r2) := by subst hY10; exact cell_last _ _ _ _ _ rfl rfl
                replace kc3 := cell_up hb10 kc3
                have qc3 : Y10.cell? ⟨y9.heap.size, 3, none⟩ = some (.int .i64 cc.r3) := by subst hY10; exact cell_last _ _ _ _ _ rfl rfl
                replace kc4 := cell_up hb10 kc4
                have qc4 : Y10.cell? ⟨y9.heap.size, 4, none⟩ = some (.int .i64 cc.r4) := by subst hY10; exact cell_last _ _ _ _ _ rfl rfl
                replace kc5 := cell_up hb10 kc5
                have qc5 : Y10.cell? ⟨y9.heap.size, 5, none⟩ = some (.int .i64 cc.r5) := by subst hY10; exact cell_last _ _ _ _ _ rfl rfl
                replace kc6 := cell_up hb10 kc6
                have qc6 : Y10.cell? ⟨y9.heap.size, 6, none⟩ = some (.int .i64 cc.r6) := by subst hY10; exact cell_last _ _ _ _ _ rfl rfl
                replace kc7 := cell_up hb10 kc7
                have qc7 : Y10.cell? ⟨y9.heap.size, 7, none⟩ = some (.int .i64 cc.r7) := by subst hY10; exact cell_last _ _ _ _ _ rfl rfl
                replace kc8 := cell_up hb10 kc8
                have qc8 : Y10.cell? ⟨y9.heap.size, 8, none⟩ = some (.int .i64 cc.pc) := by subst hY10; exact cell_last _ _ _ _ _ rfl rfl
                replace kc9 := cell_up hb10 kc9
                have qc9 : Y10.cell? ⟨y9.heap.size, 9, none⟩ = some (.int .i64 cc.st) := by subst hY10; exact cell_last _ _ _ _ _ rfl rfl
                replace kc10 := cell_up hb10 kc10
                have qc10 : Y10.cell? ⟨y9.heap.size, 10, none⟩ = some (.int .i64 cc.tr) := by subst hY10; exact cell_last _ _ _ _ _ rfl rfl
                have HTWA : Hid (Two X.heap.size X Y10 b M1 (30 * (k2 + 1)) bm g cap b' N1 (30 * (k2 + 1)) bm' g' cap') := HTW7.out.below hb10
                have h8 := fun W : World => eq8 cc W
                clear hb9 hb10
                go_wp2
                go_roundg (l - (k2 + 1))
                · exact ⟨k2 + 1, M1, N1, rfl, by omega, by omega, Nat.le_refl _, HTWA, HAL2⟩
                · omega
              | true =>
                go_wp2_with fail
                refine HDL.out.mono ?_
                rintro e y5 ⟨rfl, hg⟩
                have HTWO : Hid (Two X.heap.size X y5 b (T.leave M1 0) (30 * (k2 + 1)) bm g cap b' N1 (30 * (k2 + 1)) bm' g' cap') := by
                  obtain ⟨t4, ev4, us4, p4, ev4', us4', hv4, hv4', hd4, hb4, ht4⟩ := HL3.out y5 hg
                  exact ⟨t4, ev4, us4, p4, ev4', us4', hv4.mono (by omega), hv4'.mono (by omega), hd4, hb4, ht4⟩
                have HAL2 : Hid (AlOk M0 (T.leave M1 0) N1 (k2 + 1)) := HALB.out
                generalize T.leave M1 0 = M2 at *
                clear hg q0
                obtain ⟨t5, ev5, us5, p5, ev5', us5', hv5, hv5', hd5, hb5, ht5⟩ := HTWO.out
                have HTHM : Hid (Calls Tryd.prog 16 #[.pointer (some ⟨b, 0, none⟩), .int .i64 0] y5 fun e w' => ThIs y5.heap.size e w' (M2.th 0) ∧ Below y5.heap.size y5 w') := thread_any (k := 0) hv5 (by rw [HAL2.out.2.2.1.m1]; decide) (by have := (HAL2.out.1 0 (by rw [HAL2.out.2.2.1.m1]; decide)).2; omega)
                have HTW5 : Hid (Two X.heap.size X y5 b M2 (30 * (k2 + 1)) bm g cap b' N1 (30 * (k2 + 1)) bm' g' cap') := HTWO.out
                clear hv5 hv5' hd5 hb5 ht5
                go_wp2_with fail
                refine HTHM.out.mono ?_
                rintro e y6 ⟨⟨wv, rfl, -⟩, hb6⟩
                obtain ⟨cc, hcc⟩ : ∃ cc, (M2.th 0).c = cc := ⟨_, rfl⟩
                rw [hcc]
                have HCC : Hid ((N1.th 0).c = cc) := by show _ = _; rw [← HAL2.out.2.2.1.c]; exact hcc
                obtain ⟨Y7, hY7⟩ : ∃ Y7, y6.alloc (.cells #[.int .i64 cc.r0, .int .i64 cc.r1, .int .i64 cc.r2, .int .i64 cc.r3, .int .i64 cc.r4, .int .i64 cc.r5, .int .i64 cc.r6, .int .i64 cc.r7, .int .i64 cc.pc, .int .i64 cc.st, .int .i64 cc.tr] 44) = Y7 := ⟨_, rfl⟩
                have hb7 : Below y5.heap.size y5 Y7 := by subst hY7; exact hb6.alloc hb6.size _
                have kc0 : Y7.cell? ⟨y6.heap.size, 0, none⟩ = some (.int .i64 cc.r0) := by subst hY7; exact cell_last _ _ _ _ _ rfl rfl
                have kc1 : Y7.cell? ⟨y6.heap.size, 1, none⟩ = some (.int .i64 cc.r1) := by subst hY7; exact cell_last _ _ _ _ _ rfl rfl
                have kc2 : Y7.cell? ⟨y6.heap.size, 2, none⟩ = some (.int .i64 cc.r2) := by subst hY7; exact cell_last _ _ _ _ _ rfl rfl
                have kc3 : Y7.cell? ⟨y6.heap.size, 3, none⟩ = some (.int .i64 cc.r3) := by subst hY7; exact cell_last _ _ _ _ _ rfl rfl
                have kc4 : Y7.cell? ⟨y6.heap.size, 4, none⟩ = some (.int .i64 cc.r4) := by subst hY7; exact cell_last _ _ _ _ _ rfl rfl
                have kc5 : Y7.cell? ⟨y6.heap.size, 5, none⟩ = some (.int .i64 cc.r5) := by subst hY7; exact cell_last _ _ _ _ _ rfl rfl
                have kc6 : Y7.cell? ⟨y6.heap.size, 6, none⟩ = some (.int .i64 cc.r6) := by subst hY7; exact cell_last _ _ _ _ _ rfl rfl
                have kc7 : Y7.cell? ⟨y6.heap.size, 7, none⟩ = some (.int .i64 cc.r7) := by subst hY7; exact cell_last _ _ _ _ _ rfl rfl
                have kc8 : Y7.cell? ⟨y6.heap.size, 8, none⟩ = some (.int .i64 cc.pc) := by subst hY7; exact cell_last _ _ _ _ _ rfl rfl
                have kc9 : Y7.cell? ⟨y6.heap.size, 9, none⟩ = some (.int .i64 cc.st) := by subst hY7; exact cell_last _ _ _ _ _ rfl rfl
                have kc10 : Y7.cell? ⟨y6.heap.size, 10, none⟩ = some (.int .i64 cc.tr) := by subst hY7; exact cell_last _ _ _ _ _ rfl rfl
                have HTW7 : Hid (Two X.heap.size X Y7 b M2 (30 * (k2 + 1)) bm g cap b' N1 (30 * (k2 + 1)) bm' g' cap') := HTW5.out.below hb7
                obtain ⟨t8, ev8, us8, p8, ev8', us8', hv8, hv8', hd8, hb8, ht8⟩ := HTW7.out
                have HTHN0 := thread_any (k := 0) hv8' (by rw [HAL2.out.2.2.1.x1]; decide) (by have := (HAL2.out.2.1 0 (by rw [HAL2.out.2.2.1.x1]; decide)).2; omega)
                have HTHN : Hid (Calls Tryd.prog 16 #[.pointer (some ⟨b', 0, none⟩), .int .i64 0] Y7 fun e w' => ThIs Y7.heap.size e w' (N1.th 0) ∧ Below Y7.heap.size Y7 w') := HTHN0
                clear hv8 hv8' hd8 hb8 ht8 HTHN0 hb6 hb7 hcc
                go_wp2_with fail
                refine HTHN.out.mono ?_
                rintro e y9 ⟨⟨wv2, rfl, -⟩, hb9⟩
                rw [HCC.out]
                clear hY7
                obtain ⟨Y10, hY10⟩ : ∃ Y10, y9.alloc (.cells #[.int .i64 cc.r0, .int .i64 cc.r1, .int .i64 cc.r2, .int .i64 cc.r3, .int .i64 cc.r4, .int .i64 cc.r5, .int .i64 cc.r6, .int .i64 cc.r7, .int .i64 cc.pc, .int .i64 cc.st, .int .i64 cc.tr] 44) = Y10 := ⟨_, rfl⟩
                have hb10 : Below Y7.heap.size Y7 Y10 := by subst hY10; exact hb9.alloc hb9.size _
                replace kc0 := cell_up hb10 kc0
                have qc0 : Y10.cell? ⟨y9.heap.size, 0, none⟩ = some (.int .i64 cc.r0) := by subst hY10; exact cell_last _ _ _ _ _ rfl rfl
                replace kc1 := cell_up hb10 kc1
                have qc1 : Y10.cell? ⟨y9.heap.size, 1, none⟩ = some (.int .i64 cc.r1) := by subst hY10; exact cell_last _ _ _ _ _ rfl rfl
                replace kc2 := cell_up hb10 kc2
                have qc2 : Y10.cell? ⟨y9.heap.size, 2, none⟩ = some (.int .i64 cc.r2) := by subst hY10; exact cell_last _ _ _ _ _ rfl rfl
                replace kc3 := cell_up hb10 kc3
                have qc3 : Y10.cell? ⟨y9.heap.size, 3, none⟩ = some (.int .i64 cc.r3) := by subst hY10; exact cell_last _ _ _ _ _ rfl rfl
                replace kc4 := cell_up hb10 kc4
                have qc4 : Y10.cell? ⟨y9.heap.size, 4, none⟩ = some (.int .i64 cc.r4) := by subst hY10; exact cell_last _ _ _ _ _ rfl rfl
                replace kc5 := cell_up hb10 kc5
                have qc5 : Y10.cell? ⟨y9.heap.size, 5, none⟩ = some (.int .i64 cc.r5) := by subst hY10; exact cell_last _ _ _ _ _ rfl rfl
                replace kc6 := cell_up hb10 kc6
                have qc6 : Y10.cell? ⟨y9.heap.size, 6, none⟩ = some (.int .i64 cc.r6) := by subst hY10; exact cell_last _ _ _ _ _ rfl rfl
                replace kc7 := cell_up hb10 kc7
                have qc7 : Y10.cell? ⟨y9.heap.size, 7, none⟩ = some (.int .i64 cc.r7) := by subst hY10; exact cell_last _ _ _ _ _ rfl rfl
                replace kc8 := cell_up hb10 kc8
                have qc8 : Y10.cell? ⟨y9.heap.size, 8, none⟩ = some (.int .i64 cc.pc) := by subst hY10; exact cell_last _ _ _ _ _ rfl rfl
                replace kc9 := cell_up hb10 kc9
                have qc9 : Y10.cell? ⟨y9.heap.size, 9, none⟩ = some (.int .i64 cc.st) := by subst hY10; exact cell_last _ _ _ _ _ rfl rfl
                replace kc10 := cell_up hb10 kc10
                have qc10 : Y10.cell? ⟨y9.heap.size, 10, none⟩ = some (.int .i64 cc.tr) := by subst hY10; exact cell_last _ _ _ _ _ rfl rfl
                have HTWA : Hid (Two X.heap.size X Y10 b M2 (30 * (k2 + 1)) bm g cap b' N1 (30 * (k2 + 1)) bm' g' cap') := HTW7.out.below hb10
                have h8 := fun W : World => eq8 cc W
                clear hb9 hb10
                go_wp2
                go_roundg (l - (k2 + 1))
                · exact ⟨k2 + 1, M2, N1, rfl, by omega, by omega, Nat.le_refl _, HTWA, HAL2⟩
                · omega
            · have hexit : ¬ ((k2 : Int) < l) ∨ ¬ ((k2 : Int) < 300) := by omega
              have HEM : Hid (Calls Tryd.prog 22 #[.pointer (some ⟨b, 0, none⟩)] wr fun e w' => RowIs wr.heap.size 81 3 e w' M.es.length (M.es.flatMap eC) ∧ Below wr.heap.size wr w') := events_any hv1 (by omega)
              have HEN : Hid (∀ y, Below wr.heap.size wr y → Calls Tryd.prog 22 #[.pointer (some ⟨b', 0, none⟩)] y fun e w' => RowIs y.heap.size 81 3 e w' M.es.length (M.es.flatMap eC) ∧ Below y.heap.size y w') := fun y hy => by
                rw [hal.es]
                exact events_any (hv1'.below hy) (by omega)
              have HBF : Hid (Below w.heap.size w wr) := HBX.out.trans (hbx.mono HBX.out.size)
              have HTF : Hid (Tab wr) := htx
              clear hv1 hv1' hd1 hbx htx hok hokN hal hcd hes hesN hcdN HT2 HA2
              rcases hexit with he | he
              · have hdl : decide ((k2 : Int) < l) = false := decide_eq_false he
                go_wp2_with fail
                refine HEM.out.mono ?_
                rintro e y2 ⟨⟨va, rfl, hoa⟩, hb2⟩
                have HOA : Hid (y2.ownsRow wr.heap.size 81 3 va M.es.length (M.es.flatMap eC)) := hoa
                have HB2 : Hid (Below wr.heap.size wr y2) := hb2
                clear hoa hb2
                go_wp2_with fail
                refine (HEN.out y2 HB2.out).mono ?_
                rintro e y3 ⟨⟨vb, rfl, hob⟩, hb3⟩
                have HSE : Hid (Calls Tryd.prog 21 #[va, vb] y3 fun e w' => e = .returned (.bool true) ∧ Below y3.heap.size y3 w') := sameE_any (own_below HOA.out hb3) hob
                have HB3 : Hid (Below wr.heap.size wr y3) := HB2.out.trans (hb3.mono HB2.out.size)
                clear hob hb3
                go_wp2_with fail
                refine HSE.out.mono ?_
                rintro e y4 ⟨rfl, hb4⟩
                have HB4 : Hid (Below wr.heap.size wr y4) := HB3.out.trans (hb4.mono HB3.out.size)
                have HLV : Hid (Calls Tryd.prog 12 #[] y4 fun e w' => e = .returned (.bool true) ∧ Below y4.heap.size y4 w') := live_any y4 (HTF.out.below HB4.out)
                clear hb4
                go_wp2_with fail
                refine HLV.out.mono ?_
                rintro e y5 ⟨rfl, hb5⟩
                have HB5 : Hid (Below w.heap.size w y5) := HBF.out.trans ((HB4.out.trans (hb5.mono HB4.out.size)).mono HBF.out.size)
                clear hb5
                go_wp2
                go_ret
                exact ⟨rfl, HB5.out⟩
              · by_cases he2 : (k2 : Int) < l
                · have hdl : decide ((k2 : Int) < l) = true := decide_eq_true he2
                  have hdl3 : decide ((k2 : Int) < 300) = false := decide_eq_false he
                  go_wp2_with fail
                  refine HEM.out.mono ?_
                  rintro e y2 ⟨⟨va, rfl, hoa⟩, hb2⟩
                  have HOA : Hid (y2.ownsRow wr.heap.size 81 3 va M.es.length (M.es.flatMap eC)) := hoa
                  have HB2 : Hid (Below wr.heap.size wr y2) := hb2
                  clear hoa hb2
                  go_wp2_with fail
                  refine (HEN.out y2 HB2.out).mono ?_
                  rintro e y3 ⟨⟨vb, rfl, hob⟩, hb3⟩
                  have HSE : Hid (Calls Tryd.prog 21 #[va, vb] y3 fun e w' => e = .returned (.bool true) ∧ Below y3.heap.size y3 w') := sameE_any (own_below HOA.out hb3) hob
                  have HB3 : Hid (Below wr.heap.size wr y3) := HB2.out.trans (hb3.mono HB2.out.size)
                  clear hob hb3
                  go_wp2_with fail
                  refine HSE.out.mono ?_
                  rintro e y4 ⟨rfl, hb4⟩
                  have HB4 : Hid (Below wr.heap.size wr y4) := HB3.out.trans (hb4.mono HB3.out.size)
                  have HLV : Hid (Calls Tryd.prog 12 #[] y4 fun e w' => e = .returned (.bool true) ∧ Below y4.heap.size y4 w') := live_any y4 (HTF.out.below HB4.out)
                  clear hb4
                  go_wp2_with fail
                  refine HLV.out.mono ?_
                  rintro e y5 ⟨rfl, hb5⟩
                  have HB5 : Hid (Below w.heap.size w y5) := HBF.out.trans ((HB4.out.trans (hb5.mono HB4.out.size)).mono HBF.out.size)
                  clear hb5
                  go_wp2
                  go_ret
                  exact ⟨rfl, HB5.out⟩
                · have hdl : decide ((k2 : Int) < l) = false := decide_eq_false he2
                  go_wp2_with fail
                  refine HEM.out.mono ?_
                  rintro e y2 ⟨⟨va, rfl, hoa⟩, hb2⟩
                  have HOA : Hid (y2.ownsRow wr.heap.size 81 3 va M.es.length (M.es.flatMap eC)) := hoa
                  have HB2 : Hid (Below wr.heap.size wr y2) := hb2
                  clear hoa hb2
                  go_wp2_with fail
                  refine (HEN.out y2 HB2.out).mono ?_
                  rintro e y3 ⟨⟨vb, rfl, hob⟩, hb3⟩
                  have HSE : Hid (Calls Tryd.prog 21 #[va, vb] y3 fun e w' => e = .returned (.bool true) ∧ Below y3.heap.size y3 w') := sameE_any (own_below HOA.out hb3) hob
                  have HB3 : Hid (Below wr.heap.size wr y3) := HB2.out.trans (hb3.mono HB2.out.size)
                  clear hob hb3
                  go_wp2_with fail
                  refine HSE.out.mono ?_
                  rintro e y4 ⟨rfl, hb4⟩
                  have HB4 : Hid (Below wr.heap.size wr y4) := HB3.out.trans (hb4.mono HB3.out.size)
                  have HLV : Hid (Calls Tryd.prog 12 #[] y4 fun e w' => e = .returned (.bool true) ∧ Below y4.heap.size y4 w') := live_any y4 (HTF.out.below HB4.out)
                  clear hb4
                  go_wp2_with fail
                  refine HLV.out.mono ?_
                  rintro e y5 ⟨rfl, hb5⟩
                  have HB5 : Hid (Below w.heap.size w y5) := HBF.out.trans ((HB4.out.trans (hb5.mono HB4.out.size)).mono HBF.out.size)
                  clear hb5
                  go_wp2
                  go_ret
                  exact ⟨rfl, HB5.out⟩
      · have hii : ¬ (k : Int) < l2 := by omega
        have hdd : decide ((k : Int) < l2) = false := decide_eq_false hii
        clear hrw0 hsn hfs hsv HRW hgo hexit
        cases hm : m.one.may with
        | false =>
          have HN : Hid (∀ y, Below X.heap.size X y → Calls Tryd.prog 10 #[.agg #[.string m.code, .slice a1 l1 c1, .slice sa sn sc]] y fun e w' => e = .returned (.tuple #[.pointer none, .int .i64 1]) ∧ Below y.heap.size y w') := fun y hy => tnew_no (HIX.out.below hy) HLS.out hm
          clear hm
          go_wp2_with fail
          refine (HN.out X (Below.refl _ _)).mono ?_
          rintro e y1 ⟨rfl, hb1⟩
          have x0' := cell_up hb1 x0
          have x1' := cell_up hb1 x1
          have x2' := cell_up hb1 x2
          have HBY : Hid (Below X.heap.size X y1) := hb1
          clear hb1 x0 x1 x2 v0 v1 v2 fz hX
          go_wp2_with fail
          refine (HN.out y1 HBY.out).mono ?_
          rintro e y2 ⟨rfl, hb2⟩
          have HBZ : Hid (Below X.heap.size X y2) := HBY.out.trans (hb2.mono HBY.out.size)
          have HB2 : Hid (Below w.heap.size w y2) := HBX.out.trans (HBZ.out.mono HBX.out.size)
          have HLV : Hid (Calls Tryd.prog 12 #[] y2 fun e w' => e = .returned (.bool true) ∧ Below y2.heap.size y2 w') := live_any y2 (HTX.out.below HBZ.out)
          clear hb2
          go_wp2_with fail
          refine HLV.out.mono ?_
          rintro e y3 ⟨rfl, hb3⟩
          have HB3 : Hid (Below w.heap.size w y3) := HB2.out.trans (hb3.mono HB2.out.size)
          clear hb3
          go_wp2
          go_ret
          exact ⟨rfl, HB3.out⟩
        | true =>
          have HML : Hid (m.one.mach.ts.length = 1) := one_len m hm
          have HMC : Hid (m.one.mach.code.size ≤ 65536) := mach_code m.one hm
          have HMO : Hid (MOk m.one.mach) := mach_ok m.one
          have HE0 : Hid (m.one.mach.es = []) := rfl
          have HW0 : Hid ((m.one.mach.th 0).ws = []) := by
            refine ths0_ws (strt m.one.syms) 0 _ ?_
            have : m.one.mach.ts[0]? = some (m.one.mach.th 0) := T.th_at (by rw [HML.out]; decide)
            exact List.mem_of_getElem? this
          have HN0 : ∀ y, Below X.heap.size X y → Calls Tryd.prog 10 #[.agg #[.string m.code, .slice a1 l1 c1, .slice sa sn sc]] y fun e w' => NewIs y.heap.size e w' m.one.mach ∧ Below y.heap.size y w' := fun y hy => tnew_yes (HIX.out.below hy) HLS.out hm
          obtain ⟨M0, hM0⟩ : ∃ M0, m.one.mach = M0 := ⟨_, rfl⟩
          rw [hM0] at HN0 HML HMC HMO HE0 HW0
          have HN : Hid (∀ y, Below X.heap.size X y → Calls Tryd.prog 10 #[.agg #[.string m.code, .slice a1 l1 c1, .slice sa sn sc]] y fun e w' => NewIs y.heap.size e w' M0 ∧ Below y.heap.size y w') := HN0
          clear hm hM0 HN0
          go_wp2_with fail
          refine (HN.out X (Below.refl _ _)).mono ?_
          rintro e y1 ⟨⟨b, t, bm, g, cap, us, rfl, htv⟩, hb1⟩
          have x0' := cell_up hb1 x0
          have x1' := cell_up hb1 x1
          have x2' := cell_up hb1 x2
          have HTV1 : Hid (TV X.heap.size y1 b M0 0 t bm g cap (.slice none 0 0) us) := htv
          have HBY1 : Hid (Below X.heap.size X y1) := hb1
          clear htv hb1 x0 x1 x2 v0 v1 v2 fz hX
          go_wp2_with fail
          refine (HN.out y1 HBY1.out).mono ?_
          rintro e y2 ⟨⟨b', p, bm', g', cap', us', rfl, htv⟩, hb2⟩
          have HTW : Hid (Two X.heap.size X y2 b M0 (30 * 0) bm g cap b' M0 (30 * 0) bm' g' cap') := by
            refine ⟨t, _, us, p, _, us', HTV1.out.below hb2, htv.lower HBY1.out.size, fun k hk => Classical.byContradiction fun e => ?_, HBY1.out.trans (hb2.mono HBY1.out.size), HTX.out.below (HBY1.out.trans (hb2.mono HBY1.out.size))⟩
            have h1 := (HTV1.out.lt k hk).2
            have h2 := (htv.lt k e).1
            omega
          have HAL : Hid (AlOk M0 M0 M0 0) := ⟨HMO.out, HMO.out, T.Alike.refl HML.out (by intro q hq; rw [HW0.out] at hq; cases hq), rfl, by rw [HE0.out]; simp⟩
          clear htv hb2 x0' x1' x2' HIX HBL HROW HV012 HN
          have hro := HP0.out.room
          unfold maxLen at hro
          go_wp2_with fail
          go_loopg [11] l (fun r iv wq => ∃ (k2 : Nat) (M N : T.Mach), iv = .int .i64 k2 ∧ k2 ≤ l ∧ k2 ≤ 300 ∧ l - k2 ≤ r ∧ Hid (Two X.heap.size X wq b M (30 * k2) bm g cap b' N (30 * k2) bm' g' cap') ∧ Hid (AlOk M0 M N k2))
          case atStart => exact ⟨0, M0, M0, rfl, Nat.zero_le _, by omega, by omega, HTW, HAL⟩
          case round =>
            obtain ⟨k2, M, N, rfl, hk2, hk3, hr2, HT2, HA2⟩ := hrel
            obtain ⟨t1, ev1, us1, p1, ev1', us1', hv1, hv1', hd1, hbx, htx⟩ := HT2.out
            obtain ⟨hok, hokN, hal, hcd, hes⟩ := HA2.out
            have hesN : N.es.length ≤ 4 * k2 := by rw [← hal.es]; exact hes
            have hcdN : N.code = M0.code := hal.code.symm.trans hcd
            by_cases hlt : k2 < l ∧ k2 < 300
            · have hdm := do_any hv1 hok (by omega) (by unfold maxLen; omega) htx h2X (by rw [hcd]; exact HMC.out) (by have := hal.m1; omega) 0 (by decide)
              have hok1 := hok.act (p := 0) (by have := hal.m1; omega)
              have hokN1 := hokN.act (p := 0) (by have := hal.x1; omega)
              have hes1 := T.act_len4 (M := M) (by have := hal.m1; omega) 0
              have hcd1 := (T.act_eq (M := M) (by have := hal.m1; omega) 0).1
              rw [T.act_0 hal.m1] at hdm hok1 hes1 hcd1
              rw [T.act_0 hal.x1] at hokN1
              have hal1 := hal.goOn
              obtain ⟨dd, hdd⟩ : ∃ dd, T.did M 0 = dd := ⟨_, rfl⟩
              obtain ⟨M1, hM1⟩ : ∃ M1, T.goOn M 0 = M1 := ⟨_, rfl⟩
              rw [hdd, hM1] at hdm
              rw [hM1] at hok1 hes1 hcd1 hal1
              have HDM : Hid (Calls Tryd.prog 14 #[.pointer (some ⟨b, 0, none⟩), .int .i64 0] wr fun e w' => e = .returned (.bool dd) ∧ Gone X.heap.size wr w' b M1 (30 * k2 + 11) t1 bm g cap) := hdm
              have HL1 : Hid (∀ y, Gone X.heap.size wr y b M1 (30 * k2 + 11) t1 bm g cap → Two X.heap.size X y b M1 (30 * k2 + 11) bm g cap b' N (30 * k2) bm' g' cap') := fun y hg => Two.left hv1 hv1' hd1 hbx htx h2X hg
              have HOK1 : Hid (MOk M1 ∧ MOk (T.goOn N 0) ∧ T.Alike M1 (T.goOn N 0) ∧ M1.code = M0.code ∧ M1.es.length ≤ 4 * k2 + 2) := ⟨hok1, hokN1, hal1, hcd1.trans hcd, by omega⟩
              have HNX : Hid (MOk N ∧ N.es.length ≤ 4 * k2 ∧ N.code = M0.code ∧ N.ts.length = 1) := ⟨hokN, hesN, hcdN, hal.x1⟩
              have hii : (k2 : Int) < l := by omega
              have hi3 : (k2 : Int) < 300 := by omega
              have hin : 0 ≤ (k2 : Int) := by omega
              have hdl : decide ((k2 : Int) < l) = true := decide_eq_true hii
              clear hv1 hv1' hd1 hbx htx hok hokN hal hcd hes hesN hcdN hdm hok1 hokN1 hes1 hcd1 hal1 hdd hM1 HT2 HA2
              go_wp2_with fail
              refine HDM.out.mono ?_
              rintro e y2 ⟨rfl, hg⟩
              have HT3 : Hid (Two X.heap.size X y2 b M1 (30 * k2 + 11) bm g cap b' N (30 * k2) bm' g' cap') := HL1.out y2 hg
              obtain ⟨t3, ev3, us3, p3, ev3', us3', hv3, hv3', hd3, hb3, ht3⟩ := HL1.out y2 hg
              have hdn := do_any hv3' HNX.out.1 (by have := HNX.out.2.1; omega) (by unfold maxLen; omega) ht3 h2X (by rw [HNX.out.2.2.1]; exact HMC.out) (by have := HNX.out.2.2.2; omega) 0 (by decide)
              rw [T.act_0 HNX.out.2.2.2] at hdn
              obtain ⟨dn, hdn'⟩ : ∃ dn, T.did N 0 = dn := ⟨_, rfl⟩
              obtain ⟨N1, hN1⟩ : ∃ N1, T.goOn N 0 = N1 := ⟨_, rfl⟩
              rw [hdn', hN1] at hdn
              rw [hN1] at HOK1
              have HDN : Hid (Calls Tryd.prog 14 #[.pointer (some ⟨b', 0, none⟩), .int .i64 0] y2 fun e w' => e = .returned (.bool dn) ∧ Gone X.heap.size y2 w' b' N1 (30 * k2 + 11) p3 bm' g' cap') := hdn
              have HL2 : Hid (∀ y, Gone X.heap.size y2 y b' N1 (30 * k2 + 11) p3 bm' g' cap' → Two X.heap.size X y b M1 (30 * k2 + 11) bm g cap b' N1 (30 * k2 + 11) bm' g' cap') := fun y hg => Two.right hv3 hv3' hd3 hb3 ht3 h2X hg
              clear hg hv3 hv3' hd3 hb3 ht3 hdn hdn' hN1
              go_wp2_with fail
              refine HDN.out.mono ?_
              rintro e y4 ⟨rfl, hg⟩
              have HT4 : Hid (Two X.heap.size X y4 b M1 (30 * k2 + 11) bm g cap b' N1 (30 * k2 + 11) bm' g' cap') := HL2.out y4 hg
              obtain ⟨t4, ev4, us4, p4, ev4', us4', hv4, hv4', hd4, hb4, ht4⟩ := HL2.out y4 hg
              have hbw : Below w.heap.size w y4 := HBX.out.trans (hb4.mono HBX.out.size)
              rcases HP0.out.cells with h0 | ⟨zb, zo, hA, hcl⟩
              · omega
              have q0 := cell_up hbw (hcl k2 (by omega))
              obtain ⟨fb, hfb⟩ : ∃ fb, bs.getD k2 false = fb := ⟨_, rfl⟩
              rw [hfb] at q0
              obtain ⟨g1, g2, g3, g4, g5⟩ := HOK1.out
              have hdl2 := do_any hv4 g1 (by omega) (by unfold maxLen; omega) ht4 h2X (by rw [g4]; exact HMC.out) (by have := g3.m1; omega) 1 (by decide)
              have g6 := g1.act (p := 1) (by have := g3.m1; omega)
              have g7 := T.act_len4 (M := M1) (by have := g3.m1; omega) 1
              have g8 := (T.act_eq (M := M1) (by have := g3.m1; omega) 1).1
              rw [T.act_1 g3.m1] at hdl2 g6 g7 g8
              obtain ⟨de, hde⟩ : ∃ de, T.did M1 1 = de := ⟨_, rfl⟩
              rw [hde] at hdl2
              have HDL : Hid (Calls Tryd.prog 14 #[.pointer (some ⟨b, 0, none⟩), .int .i64 1] y4 fun e w' => e = .returned (.bool de) ∧ Gone X.heap.size y4 w' b (T.leave M1 0) (30 * k2 + 11 + 11) t4 bm g cap) := hdl2
              have HL3 : Hid (∀ y, Gone X.heap.size y4 y b (T.leave M1 0) (30 * k2 + 11 + 11) t4 bm g cap → Two X.heap.size X y b (T.leave M1 0) (30 * k2 + 11 + 11) bm g cap b' N1 (30 * k2 + 11) bm' g' cap') := fun y hg => Two.left hv4 hv4' hd4 hb4 ht4 h2X hg
              have HALA : Hid (AlOk M0 M1 N1 (k2 + 1)) := ⟨g1, g2, g3, g4, by omega⟩
              have HALB : Hid (AlOk M0 (T.leave M1 0) N1 (k2 + 1)) := ⟨g6, g2, g3.leaveL, g8.trans g4, by omega⟩
              subst hA
              clear hg hv4 hv4' hd4 hb4 ht4 hbw hcl hfb g1 g2 g3 g4 g5 g6 g7 g8 hdl2 hde
              cases fb with
              | false =>
                obtain ⟨M2, hM2⟩ : ∃ M2, M1 = M2 := ⟨_, rfl⟩
                subst hM2
                have HAL2 : Hid (AlOk M0 M1 N1 (k2 + 1)) := HALA.out
                have HTWO : Hid (Two X.heap.size X y4 b M1 (30 * (k2 + 1)) bm g cap b' N1 (30 * (k2 + 1)) bm' g' cap') := by
                  obtain ⟨t4, ev4, us4, p4, ev4', us4', hv4, hv4', hd4, hb4, ht4⟩ := HT4.out
                  exact ⟨t4, ev4, us4, p4, ev4', us4', hv4.mono (by omega), hv4'.mono (by omega), hd4, hb4, ht4⟩
                obtain ⟨t5, ev5, us5, p5, ev5', us5', hv5, hv5', hd5, hb5, ht5⟩ := HTWO.out
                have HTHM : Hid (Calls Tryd.prog 16 #[.pointer (some ⟨b, 0, none⟩), .int .i64 0] y4 fun e w' => ThIs y4.heap.size e w' (M1.th 0) ∧ Below y4.heap.size y4 w') := thread_any (k := 0) hv5 (by rw [HAL2.out.2.2.1.m1]; decide) (by have := (HAL2.out.1 0 (by rw [HAL2.out.2.2.1.m1]; decide)).2; omega)
                have HTW5 : Hid (Two X.heap.size X y4 b M1 (30 * (k2 + 1)) bm g cap b' N1 (30 * (k2 + 1)) bm' g' cap') := HTWO.out
                clear hv5 hv5' hd5 hb5 ht5
                go_wp2_with fail
                refine HTHM.out.mono ?_
                rintro e y6 ⟨⟨wv, rfl, -⟩, hb6⟩
                obtain ⟨cc, hcc⟩ : ∃ cc, (M1.th 0).c = cc := ⟨_, rfl⟩
                rw [hcc]
                have HCC : Hid ((N1.th 0).c = cc) := by show _ = _; rw [← HAL2.out.2.2.1.c]; exact hcc
                obtain ⟨Y7, hY7⟩ : ∃ Y7, y6.alloc (.cells #[.int .i64 cc.r0, .int .i64 cc.r1, .int .i64 cc.r2, .int .i64 cc.r3, .int .i64 cc.r4, .int .i64 cc.r5, .int .i64 cc.r6, .int .i64 cc.r7, .int .i64 cc.pc, .int .i64 cc.st, .int .i64 cc.tr] 44) = Y7 := ⟨_, rfl⟩
                have hb7 : Below y4.heap.size y4 Y7 := by subst hY7; exact hb6.alloc hb6.size _
                have kc0 : Y7.cell? ⟨y6.heap.size, 0, none⟩ = some (.int .i64 cc.r0) := by subst hY7; exact cell_last _ _ _ _ _ rfl rfl
                have kc1 : Y7.cell? ⟨y6.heap.size, 1, none⟩ = some (.int .i64 cc.r1) := by subst hY7; exact cell_last _ _ _ _ _ rfl rfl
                have kc2 : Y7.cell? ⟨y6.heap.size, 2, none⟩ = some (.int .i64 cc.r2) := by subst hY7; exact cell_last _ _ _ _ _ rfl rfl
                have kc3 : Y7.cell? ⟨y6.heap.size, 3, none⟩ = some (.int .i64 cc.r3) := by subst hY7; exact cell_last _ _ _ _ _ rfl rfl
                have kc4 : Y7.cell? ⟨y6.heap.size, 4, none⟩ = some (.int .i64 cc.r4) := by subst hY7; exact cell_last _ _ _ _ _ rfl rfl
                have kc5 : Y7.cell? ⟨y6.heap.size, 5, none⟩ = some (.int .i64 cc.r5) := by subst hY7; exact cell_last _ _ _ _ _ rfl rfl
                have kc6 : Y7.cell? ⟨y6.heap.size, 6, none⟩ = some (.int .i64 cc.r6) := by subst hY7; exact cell_last _ _ _ _ _ rfl rfl
                have kc7 : Y7.cell? ⟨y6.heap.size, 7, none⟩ = some (.int .i64 cc.r7) := by subst hY7; exact cell_last _ _ _ _ _ rfl rfl
                have kc8 : Y7.cell? ⟨y6.heap.size, 8, none⟩ = some (.int .i64 cc.pc) := by subst hY7; exact cell_last _ _ _ _ _ rfl rfl
                have kc9 : Y7.cell? ⟨y6.heap.size, 9, none⟩ = some (.int .i64 cc.st) := by subst hY7; exact cell_last _ _ _ _ _ rfl rfl
                have kc10 : Y7.cell? ⟨y6.heap.size, 10, none⟩ = some (.int .i64 cc.tr) := by subst hY7; exact cell_last _ _ _ _ _ rfl rfl
                have HTW7 : Hid (Two X.heap.size X Y7 b M1 (30 * (k2 + 1)) bm g cap b' N1 (30 * (k2 + 1)) bm' g' cap') := HTW5.out.below hb7
                obtain ⟨t8, ev8, us8, p8, ev8', us8', hv8, hv8', hd8, hb8, ht8⟩ := HTW7.out
                have HTHN0 := thread_any (k := 0) hv8' (by rw [HAL2.out.2.2.1.x1]; decide) (by have := (HAL2.out.2.1 0 (by rw [HAL2.out.2.2.1.x1]; decide)).2; omega)
                have HTHN : Hid (Calls Tryd.prog 16 #[.pointer (some ⟨b', 0, none⟩), .int .i64 0] Y7 fun e w' => ThIs Y7.heap.size e w' (N1.th 0) ∧ Below Y7.heap.size Y7 w') := HTHN0
                clear hv8 hv8' hd8 hb8 ht8 HTHN0 hb6 hb7 hcc
                go_wp2_with fail
                refine HTHN.out.mono ?_
                rintro e y9 ⟨⟨wv2, rfl, -⟩, hb9⟩
                rw [HCC.out]
                clear hY7
                obtain ⟨Y10, hY10⟩ : ∃ Y10, y9.alloc (.cells #[.int .i64 cc.r0, .int .i64 cc.r1, .int .i64 cc.r2, .int .i64 cc.r3, .int .i64 cc.r4, .int .i64 cc.r5, .int .i64 cc.r6, .int .i64 cc.r7, .int .i64 cc.pc, .int .i64 cc.st, .int .i64 cc.tr] 44) = Y10 := ⟨_, rfl⟩
                have hb10 : Below Y7.heap.size Y7 Y10 := by subst hY10; exact hb9.alloc hb9.size _
                replace kc0 := cell_up hb10 kc0
                have qc0 : Y10.cell? ⟨y9.heap.size, 0, none⟩ = some (.int .i64 cc.r0) := by subst hY10; exact cell_last _ _ _ _ _ rfl rfl
                replace kc1 := cell_up hb10 kc1
                have qc1 : Y10.cell? ⟨y9.heap.size, 1, none⟩ = some (.int .i64 cc.r1) := by subst hY10; exact cell_last _ _ _ _ _ rfl rfl
                replace kc2 := cell_up hb10 kc2
                have qc2 : Y10.cell? ⟨y9.heap.size, 2, none⟩ = some (.int .i64 cc.r2) := by subst hY10; exact cell_last _ _ _ _ _ rfl rfl
                replace kc3 := cell_up hb10 kc3
                have qc3 : Y10.cell? ⟨y9.heap.size, 3, none⟩ = some (.int .i64 cc.r3) := by subst hY10; exact cell_last _ _ _ _ _ rfl rfl
                replace kc4 := cell_up hb10 kc4
                have qc4 : Y10.cell? ⟨y9.heap.size, 4, none⟩ = some (.int .i64 cc.r4) := by subst hY10; exact cell_last _ _ _ _ _ rfl rfl
                replace kc5 := cell_up hb10 kc5
                have qc5 : Y10.cell? ⟨y9.heap.size, 5, none⟩ = some (.int .i64 cc.r5) := by subst hY10; exact cell_last _ _ _ _ _ rfl rfl
                replace kc6 := cell_up hb10 kc6
                have qc6 : Y10.cell? ⟨y9.heap.size, 6, none⟩ = some (.int .i64 cc.r6) := by subst hY10; exact cell_last _ _ _ _ _ rfl rfl
                replace kc7 := cell_up hb10 kc7
                have qc7 : Y10.cell? ⟨y9.heap.size, 7, none⟩ = some (.int .i64 cc.r7) := by subst hY10; exact cell_last _ _ _ _ _ rfl rfl
                replace kc8 := cell_up hb10 kc8
                have qc8 : Y10.cell? ⟨y9.heap.size, 8, none⟩ = some (.int .i64 cc.pc) := by subst hY10; exact cell_last _ _ _ _ _ rfl rfl
                replace kc9 := cell_up hb10 kc9
                have qc9 : Y10.cell? ⟨y9.heap.size, 9, none⟩ = some (.int .i64 cc.st) := by subst hY10; exact cell_last _ _ _ _ _ rfl rfl
                replace kc10 := cell_up hb10 kc10
                have qc10 : Y10.cell? ⟨y9.heap.size, 10, none⟩ = some (.int .i64 cc.tr) := by subst hY10; exact cell_last _ _ _ _ _ rfl rfl
                have HTWA : Hid (Two X.heap.size X Y10 b M1 (30 * (k2 + 1)) bm g cap b' N1 (30 * (k2 + 1)) bm' g' cap') := HTW7.out.below hb10
                have h8 := fun W : World => eq8 cc W
                clear hb9 hb10
                go_wp2
                go_roundg (l - (k2 + 1))
                · exact ⟨k2 + 1, M1, N1, rfl, by omega, by omega, Nat.le_refl _, HTWA, HAL2⟩
                · omega
              | true =>
                go_wp2_with fail
                refine HDL.out.mono ?_
                rintro e y5 ⟨rfl, hg⟩
                have HTWO : Hid (Two X.heap.size X y5 b (T.leave M1 0) (30 * (k2 + 1)) bm g cap b' N1 (30 * (k2 + 1)) bm' g' cap') := by
                  obtain ⟨t4, ev4, us4, p4, ev4', us4', hv4, hv4', hd4, hb4, ht4⟩ := HL3.out y5 hg
                  exact ⟨t4, ev4, us4, p4, ev4', us4', hv4.mono (by omega), hv4'.mono (by omega), hd4, hb4, ht4⟩
                have HAL2 : Hid (AlOk M0 (T.leave M1 0) N1 (k2 + 1)) := HALB.out
                generalize T.leave M1 0 = M2 at *
                clear hg q0
                obtain ⟨t5, ev5, us5, p5, ev5', us5', hv5, hv5', hd5, hb5, ht5⟩ := HTWO.out
                have HTHM : Hid (Calls Tryd.prog 16 #[.pointer (some ⟨b, 0, none⟩), .int .i64 0] y5 fun e w' => ThIs y5.heap.size e w' (M2.th 0) ∧ Below y5.heap.size y5 w') := thread_any (k := 0) hv5 (by rw [HAL2.out.2.2.1.m1]; decide) (by have := (HAL2.out.1 0 (by rw [HAL2.out.2.2.1.m1]; decide)).2; omega)
                have HTW5 : Hid (Two X.heap.size X y5 b M2 (30 * (k2 + 1)) bm g cap b' N1 (30 * (k2 + 1)) bm' g' cap') := HTWO.out
                clear hv5 hv5' hd5 hb5 ht5
                go_wp2_with fail
                refine HTHM.out.mono ?_
                rintro e y6 ⟨⟨wv, rfl, -⟩, hb6⟩
                obtain ⟨cc, hcc⟩ : ∃ cc, (M2.th 0).c = cc := ⟨_, rfl⟩
                rw [hcc]
                have HCC : Hid ((N1.th 0).c = cc) := by show _ = _; rw [← HAL2.out.2.2.1.c]; exact hcc
                obtain ⟨Y7, hY7⟩ : ∃ Y7, y6.alloc (.cells #[.int .i64 cc.r0, .int .i64 cc.r1, .int .i64 cc.r2, .int .i64 cc.r3, .int .i64 cc.r4, .int .i64 cc.r5, .int .i64 cc.r6, .int .i64 cc.r7, .int .i64 cc.pc, .int .i64 cc.st, .int .i64 cc.tr] 44) = Y7 := ⟨_, rfl⟩
                have hb7 : Below y5.heap.size y5 Y7 := by subst hY7; exact hb6.alloc hb6.size _
                have kc0 : Y7.cell? ⟨y6.heap.size, 0, none⟩ = some (.int .i64 cc.r0) := by subst hY7; exact cell_last _ _ _ _ _ rfl rfl
                have kc1 : Y7.cell? ⟨y6.heap.size, 1, none⟩ = some (.int .i64 cc.r1) := by subst hY7; exact cell_last _ _ _ _ _ rfl rfl
                have kc2 : Y7.cell? ⟨y6.heap.size, 2, none⟩ = some (.int .i64 cc.r2) := by subst hY7; exact cell_last _ _ _ _ _ rfl rfl
                have kc3 : Y7.cell? ⟨y6.heap.size, 3, none⟩ = some (.int .i64 cc.r3) := by subst hY7; exact cell_last _ _ _ _ _ rfl rfl
                have kc4 : Y7.cell? ⟨y6.heap.size, 4, none⟩ = some (.int .i64 cc.r4) := by subst hY7; exact cell_last _ _ _ _ _ rfl rfl
                have kc5 : Y7.cell? ⟨y6.heap.size, 5, none⟩ = some (.int .i64 cc.r5) := by subst hY7; exact cell_last _ _ _ _ _ rfl rfl
                have kc6 : Y7.cell? ⟨y6.heap.size, 6, none⟩ = some (.int .i64 cc.r6) := by subst hY7; exact cell_last _ _ _ _ _ rfl rfl
                have kc7 : Y7.cell? ⟨y6.heap.size, 7, none⟩ = some (.int .i64 cc.r7) := by subst hY7; exact cell_last _ _ _ _ _ rfl rfl
                have kc8 : Y7.cell? ⟨y6.heap.size, 8, none⟩ = some (.int .i64 cc.pc) := by subst hY7; exact cell_last _ _ _ _ _ rfl rfl
                have kc9 : Y7.cell? ⟨y6.heap.size, 9, none⟩ = some (.int .i64 cc.st) := by subst hY7; exact cell_last _ _ _ _ _ rfl rfl
                have kc10 : Y7.cell? ⟨y6.heap.size, 10, none⟩ = some (.int .i64 cc.tr) := by subst hY7; exact cell_last _ _ _ _ _ rfl rfl
                have HTW7 : Hid (Two X.heap.size X Y7 b M2 (30 * (k2 + 1)) bm g cap b' N1 (30 * (k2 + 1)) bm' g' cap') := HTW5.out.below hb7
                obtain ⟨t8, ev8, us8, p8, ev8', us8', hv8, hv8', hd8, hb8, ht8⟩ := HTW7.out
                have HTHN0 := thread_any (k := 0) hv8' (by rw [HAL2.out.2.2.1.x1]; decide) (by have := (HAL2.out.2.1 0 (by rw [HAL2.out.2.2.1.x1]; decide)).2; omega)
                have HTHN : Hid (Calls Tryd.prog 16 #[.pointer (some ⟨b', 0, none⟩), .int .i64 0] Y7 fun e w' => ThIs Y7.heap.size e w' (N1.th 0) ∧ Below Y7.heap.size Y7 w') := HTHN0
                clear hv8 hv8' hd8 hb8 ht8 HTHN0 hb6 hb7 hcc
                go_wp2_with fail
                refine HTHN.out.mono ?_
                rintro e y9 ⟨⟨wv2, rfl, -⟩, hb9⟩
                rw [HCC.out]
                clear hY7
                obtain ⟨Y10, hY10⟩ : ∃ Y10, y9.alloc (.cells #[.int .i64 cc.r0, .int .i64 cc.r1, .int .i64 cc.r2, .int .i64 cc.r3, .int .i64 cc.r4, .int .i64 cc.r5, .int .i64 cc.r6, .int .i64 cc.r7, .int .i64 cc.pc, .int .i64 cc.st, .int .i64 cc.tr] 44) = Y10 := ⟨_, rfl⟩
                have hb10 : Below Y7.heap.size Y7 Y10 := by subst hY10; exact hb9.alloc hb9.size _
                replace kc0 := cell_up hb10 kc0
                have qc0 : Y10.cell? ⟨y9.heap.size, 0, none⟩ = some (.int .i64 cc.r0) := by subst hY10; exact cell_last _ _ _ _ _ rfl rfl
                replace kc1 := cell_up hb10 kc1
                have qc1 : Y10.cell? ⟨y9.heap.size, 1, none⟩ = some (.int .i64 cc.r1) := by subst hY10; exact cell_last _ _ _ _ _ rfl rfl
                replace kc2 := cell_up hb10 kc2
                have qc2 : Y10.cell? ⟨y9.heap.size, 2, none⟩ = some (.int .i64 cc.r2) := by subst hY10; exact cell_last _ _ _ _ _ rfl rfl
                replace kc3 := cell_up hb10 kc3
                have qc3 : Y10.cell? ⟨y9.heap.size, 3, none⟩ = some (.int .i64 cc.r3) := by subst hY10; exact cell_last _ _ _ _ _ rfl rfl
                replace kc4 := cell_up hb10 kc4
                have qc4 : Y10.cell? ⟨y9.heap.size, 4, none⟩ = some (.int .i64 cc.r4) := by subst hY10; exact cell_last _ _ _ _ _ rfl rfl
                replace kc5 := cell_up hb10 kc5
                have qc5 : Y10.cell? ⟨y9.heap.size, 5, none⟩ = some (.int .i64 cc.r5) := by subst hY10; exact cell_last _ _ _ _ _ rfl rfl
                replace kc6 := cell_up hb10 kc6
                have qc6 : Y10.cell? ⟨y9.heap.size, 6, none⟩ = some (.int .i64 cc.r6) := by subst hY10; exact cell_last _ _ _ _ _ rfl rfl
                replace kc7 := cell_up hb10 kc7
                have qc7 : Y10.cell? ⟨y9.heap.size, 7, none⟩ = some (.int .i64 cc.r7) := by subst hY10; exact cell_last _ _ _ _ _ rfl rfl
                replace kc8 := cell_up hb10 kc8
                have qc8 : Y10.cell? ⟨y9.heap.size, 8, none⟩ = some (.int .i64 cc.pc) := by subst hY10; exact cell_last _ _ _ _ _ rfl rfl
                replace kc9 := cell_up hb10 kc9
                have qc9 : Y10.cell? ⟨y9.heap.size, 9, none⟩ = some (.int .i64 cc.st) := by subst hY10; exact cell_last _ _ _ _ _ rfl rfl
                replace kc10 := cell_up hb10 kc10
                have qc10 : Y10.cell? ⟨y9.heap.size, 10, none⟩ = some (.int .i64 cc.tr) := by subst hY10; exact cell_last _ _ _ _ _ rfl rfl
                have HTWA : Hid (Two X.heap.size X Y10 b M2 (30 * (k2 + 1)) bm g cap b' N1 (30 * (k2 + 1)) bm' g' cap') := HTW7.out.below hb10
                have h8 := fun W : World => eq8 cc W
                clear hb9 hb10
                go_wp2
                go_roundg (l - (k2 + 1))
                · exact ⟨k2 + 1, M2, N1, rfl, by omega, by omega, Nat.le_refl _, HTWA, HAL2⟩
                · omega
            · have hexit : ¬ ((k2 : Int) < l) ∨ ¬ ((k2 : Int) < 300) := by omega
              have HEM : Hid (Calls Tryd.prog 22 #[.pointer (some ⟨b, 0, none⟩)] wr fun e w' => RowIs wr.heap.size 81 3 e w' M.es.length (M.es.flatMap eC) ∧ Below wr.heap.size wr w') := events_any hv1 (by omega)
              have HEN : Hid (∀ y, Below wr.heap.size wr y → Calls Tryd.prog 22 #[.pointer (some ⟨b', 0, none⟩)] y fun e w' => RowIs y.heap.size 81 3 e w' M.es.length (M.es.flatMap eC) ∧ Below y.heap.size y w') := fun y hy => by
                rw [hal.es]
                exact events_any (hv1'.below hy) (by omega)
              have HBF : Hid (Below w.heap.size w wr) := HBX.out.trans (hbx.mono HBX.out.size)
              have HTF : Hid (Tab wr) := htx
              clear hv1 hv1' hd1 hbx htx hok hokN hal hcd hes hesN hcdN HT2 HA2
              rcases hexit with he | he
              · have hdl : decide ((k2 : Int) < l) = false := decide_eq_false he
                go_wp2_with fail
                refine HEM.out.mono ?_
                rintro e y2 ⟨⟨va, rfl, hoa⟩, hb2⟩
                have HOA : Hid (y2.ownsRow wr.heap.size 81 3 va M.es.length (M.es.flatMap eC)) := hoa
                have HB2 : Hid (Below wr.heap.size wr y2) := hb2
                clear hoa hb2
                go_wp2_with fail
                refine (HEN.out y2 HB2.out).mono ?_
                rintro e y3 ⟨⟨vb, rfl, hob⟩, hb3⟩
                have HSE : Hid (Calls Tryd.prog 21 #[va, vb] y3 fun e w' => e = .returned (.bool true) ∧ Below y3.heap.size y3 w') := sameE_any (own_below HOA.out hb3) hob
                have HB3 : Hid (Below wr.heap.size wr y3) := HB2.out.trans (hb3.mono HB2.out.size)
                clear hob hb3
                go_wp2_with fail
                refine HSE.out.mono ?_
                rintro e y4 ⟨rfl, hb4⟩
                have HB4 : Hid (Below wr.heap.size wr y4) := HB3.out.trans (hb4.mono HB3.out.size)
                have HLV : Hid (Calls Tryd.prog 12 #[] y4 fun e w' => e = .returned (.bool true) ∧ Below y4.heap.size y4 w') := live_any y4 (HTF.out.below HB4.out)
                clear hb4
                go_wp2_with fail
                refine HLV.out.mono ?_
                rintro e y5 ⟨rfl, hb5⟩
                have HB5 : Hid (Below w.heap.size w y5) := HBF.out.trans ((HB4.out.trans (hb5.mono HB4.out.size)).mono HBF.out.size)
                clear hb5
                go_wp2
                go_ret
                exact ⟨rfl, HB5.out⟩
              · by_cases he2 : (k2 : Int) < l
                · have hdl : decide ((k2 : Int) < l) = true := decide_eq_true he2
                  have hdl3 : decide ((k2 : Int) < 300) = false := decide_eq_false he
                  go_wp2_with fail
                  refine HEM.out.mono ?_
                  rintro e y2 ⟨⟨va, rfl, hoa⟩, hb2⟩
                  have HOA : Hid (y2.ownsRow wr.heap.size 81 3 va M.es.length (M.es.flatMap eC)) := hoa
                  have HB2 : Hid (Below wr.heap.size wr y2) := hb2
                  clear hoa hb2
                  go_wp2_with fail
                  refine (HEN.out y2 HB2.out).mono ?_
                  rintro e y3 ⟨⟨vb, rfl, hob⟩, hb3⟩
                  have HSE : Hid (Calls Tryd.prog 21 #[va, vb] y3 fun e w' => e = .returned (.bool true) ∧ Below y3.heap.size y3 w') := sameE_any (own_below HOA.out hb3) hob
                  have HB3 : Hid (Below wr.heap.size wr y3) := HB2.out.trans (hb3.mono HB2.out.size)
                  clear hob hb3
                  go_wp2_with fail
                  refine HSE.out.mono ?_
                  rintro e y4 ⟨rfl, hb4⟩
                  have HB4 : Hid (Below wr.heap.size wr y4) := HB3.out.trans (hb4.mono HB3.out.size)
                  have HLV : Hid (Calls Tryd.prog 12 #[] y4 fun e w' => e = .returned (.bool true) ∧ Below y4.heap.size y4 w') := live_any y4 (HTF.out.below HB4.out)
                  clear hb4
                  go_wp2_with fail
                  refine HLV.out.mono ?_
                  rintro e y5 ⟨rfl, hb5⟩
                  have HB5 : Hid (Below w.heap.size w y5) := HBF.out.trans ((HB4.out.trans (hb5.mono HB4.out.size)).mono HBF.out.size)
                  clear hb5
                  go_wp2
                  go_ret
                  exact ⟨rfl, HB5.out⟩
                · have hdl : decide ((k2 : Int) < l) = false := decide_eq_false he2
                  go_wp2_with fail
                  refine HEM.out.mono ?_
                  rintro e y2 ⟨⟨va, rfl, hoa⟩, hb2⟩
                  have HOA : Hid (y2.ownsRow wr.heap.size 81 3 va M.es.length (M.es.flatMap eC)) := hoa
                  have HB2 : Hid (Below wr.heap.size wr y2) := hb2
                  clear hoa hb2
                  go_wp2_with fail
                  refine (HEN.out y2 HB2.out).mono ?_
                  rintro e y3 ⟨⟨vb, rfl, hob⟩, hb3⟩
                  have HSE : Hid (Calls Tryd.prog 21 #[va, vb] y3 fun e w' => e = .returned (.bool true) ∧ Below y3.heap.size y3 w') := sameE_any (own_below HOA.out hb3) hob
                  have HB3 : Hid (Below wr.heap.size wr y3) := HB2.out.trans (hb3.mono HB2.out.size)
                  clear hob hb3
                  go_wp2_with fail
                  refine HSE.out.mono ?_
                  rintro e y4 ⟨rfl, hb4⟩
                  have HB4 : Hid (Below wr.heap.size wr y4) := HB3.out.trans (hb4.mono HB3.out.size)
                  have HLV : Hid (Calls Tryd.prog 12 #[] y4 fun e w' => e = .returned (.bool true) ∧ Below y4.heap.size y4 w') := live_any y4 (HTF.out.below HB4.out)
                  clear hb4
                  go_wp2_with fail
                  refine HLV.out.mono ?_
                  rintro e y5 ⟨rfl, hb5⟩
                  have HB5 : Hid (Below w.heap.size w y5) := HBF.out.trans ((HB4.out.trans (hb5.mono HB4.out.size)).mono HBF.out.size)
                  clear hb5
                  go_wp2
                  go_ret
                  exact ⟨rfl, HB5.out⟩

end Go.Proofs.YtdcdmlboilojmaaDoor

/- A list of truth values, opened. -/
namespace Go.Proofs.YtdcdmlboilojmaaDoor
set_option maxRecDepth 100000
open Go.ChangeShapes Go.WideShapes Go.ChangeAt Go.RowKit Go.Joins

theorem cell_bool1 : Tryd.prog.cellsOf 4 = 1 := by kernel_rfl
theorem open_B {H : Type} {enc : TypeId × Value → H} {w : World} {base : Nat} {spare : Nat → Bool} {held : Bool} {fuel : Nat} {v : Value} {x : DataW H × List MemPlace} (hsp : ∀ b, spare b = true) (h : DataW.trod enc Tryd.prog w base spare held fuel 62 [v] = some x) : ∃ a l c zs, v = .slice a l c ∧ BoolsV w a l c zs ∧ True := by
  obtain rfl : spare = fun _ => true := funext hsp
  rcases Deep.open_bools Tryd.underlying62 Tryd.underlying4 cell_bool1 h with ⟨hcs, -⟩ | ⟨a, l, c, f, hcs, -, hl, hm, -, hcell⟩
  · simp at hcs
    subst hcs
    exact ⟨none, 0, 0, [], rfl, ⟨rfl, ⟨Nat.le_refl _, Nat.zero_le _⟩, .inl rfl⟩, trivial⟩
  · simp at hcs
    subst hcs
    refine ⟨some a, l, c, (List.range l).map f, rfl, ⟨by simp, ⟨hl, hm⟩, ?_⟩, trivial⟩
    by_cases h0 : l = 0
    · exact .inl h0
    · obtain ⟨b, off, spot⟩ := a
      have hspot : spot = none := by
        have h1 := hcell 0 (by omega)
        simpa [Addr.add] using World.cell?_spot h1
      subst hspot
      refine .inr ⟨b, off, rfl, fun i hi => ?_⟩
      have h1 := hcell i (by omega)
      rw [Addr.add_lit] at h1
      rw [h1]
      simp [List.getD, hi]

end Go.Proofs.YtdcdmlboilojmaaDoor

/- Proved: TsoAlone answers true for every image and every list of truth values (the reach that the form gives is the only bound), where the tables of instructions are what their initialisers lay (the card ties that to the program): a thread that runs alone sees its own stores at once, whenever they leave. -/
namespace Go.Proofs.YtdcdmlboilojmaaDoor.tsoAlone
open Go.ChangeShapes Go.WideShapes Go.ChangeAt Go.RowKit
open Go.ChangeMaps (open_string shut_string)
set_option linter.unusedVariables false
set_option maxRecDepth 100000

theorem own : ownKnob Tryd.prog.godebug = none := by kernel_rfl
theorem laidO : laidOutB Tryd.prog = true := by kernel_rfl

/-! ### The row -/
theorem contract (H : Type) (enc : TypeId × Value → H) (W : World) (base : Nat) (args : Array Value) (ds gs : List (DataW H)) (before : List MemPlace)
    (hval : ∀ (j : Nat) t v, Tryd.f5.params[j]? = some t → args[j]? = some v → Value.okWide Tryd.prog W .any base t v)
    (hW : DataW.Whole enc Tryd.prog Tryd.f5.params.toList Rows.tsoAloneSpec.vars false W args.toList ds gs before) (hsz : (DataW.weightsEach Tryd.prog (Tryd.f5.params.toList ++ Rows.tsoAloneSpec.plain.varTypes Tryd.prog) (ds ++ gs)).all (· ≤ reachBytes) = true) (hT : Tab W) :
    Calls Tryd.prog 5 args W fun e W' => ∃ v, e = .returned v ∧ Rows.tsoAloneSpec.post enc Tryd.prog Tryd.f5 false true false false W args v W' := by
  have hW' := hW
  obtain ⟨p, q, hA0, hV, rfl, hfz, hnd⟩ := hW
  have hA : DataW.TrodAll enc Tryd.prog W 0 (fun _ => true) true Tryd.f5.params.toList args.toList ds p := hA0
  have hlt := hA.lt
  rw [Tryd.params5] at hA hval hsz
  obtain ⟨v0, vs0, d0, ds0, p0, q0, hargs, rfl, rfl, h0, r0⟩ := trodAll_cons hA
  obtain ⟨v1, vs1, d1, ds1, p1, q1, rfl, rfl, rfl, h1, r1⟩ := trodAll_cons r0
  obtain ⟨rfl, rfl, rfl⟩ := trodAll_nil r1
  obtain rfl : args = #[v0, v1] := by cases args; simp_all
  obtain ⟨rfl, rfl⟩ := trodVars_none hV
  obtain ⟨m0, V0⟩ := open_img (fun _ => rfl) (hval 0 25 v0 rfl rfl) h0
  have hl0 : m0.syms.length ≤ 8796093022208 := by
    have h1 := (img_sized (hval 0 25 v0 rfl rfl) h0 V0 (R := reachBytes) (fun n hn => by
      have h2 := List.all_eq_true.1 hsz n (DataW.weights_mem_each (j := 0) rfl rfl n hn)
      simpa using h2)).2
    have h3 : reachBytes = 140737488351232 := rfl
    omega
  obtain ⟨x1, y1, t1, rfl⟩ := okWide_slice Tryd.underlying62 (hval 1 62 v1 rfl rfl)
  have hh1 := h1
  obtain ⟨fuel1, g1⟩ := hh1
  obtain ⟨a1, l1, c1, zs1, e1, V1, -⟩ := open_B (v := .slice x1 y1 t1) (fun _ => rfl) g1
  cases e1
  clear hA0
  simp only [List.append_nil] at hW'
  refine (alone_any V0 V1 hT).mono fun e W' ⟨he, hg⟩ => ?_
  subst he
  exact ⟨_, rfl, _, _, _, [], _, [], hW', (trodAll_cons_mk (shut_bool Tryd.underlying4 _) trodAll_mk0), (trodAll_cons_mk (Below.trod laidO (by kernel_rfl) (of_decide_eq_true (by kernel_rfl)) h0 hg (fun x hx => hlt x (by simp [hx]))) (trodAll_cons_mk (Below.trod laidO (by kernel_rfl) (of_decide_eq_true (by kernel_rfl)) h1 hg (fun x hx => hlt x (by simp [hx]))) trodAll_mk0)), rfl, hg.frame _, fun h => by cases h⟩

theorem laid_met (os : Os) : laidMet Tryd.prog Rows.tsoAloneRow.laid ((laidWorld os).forCall (fun _ _ => 0) ⟨#[], #[.agg #[.string { data := #[] }, .slice none 0 0, .slice none 0 0], .slice none 0 0], []⟩).memory :=
  laidMet_of_run' 8 (by kernel_rfl) (by kernel_rfl)
theorem reads (os : Os) {H : Type} (enc : TypeId × Value → H) : ∃ places, DataW.whole enc Tryd.prog ((laidWorld os).forCall (fun _ _ => 0) ⟨#[], #[.agg #[.string { data := #[] }, .slice none 0 0, .slice none 0 0], .slice none 0 0], []⟩).memory Tryd.f5.params.toList Rows.tsoAloneSpec.vars false (#[.agg #[.string { data := #[] }, .slice none 0 0, .slice none 0 0], .slice none 0 0] : Array Value).toList 8 = some ([.agg [.lit (.string []), .nil, .nil], .nil], [], places) :=
  ⟨[], by kernel_rfl⟩

set_option maxRecDepth 100000 in
theorem lifted (os : Os) (started : os.Started) (H : Type) (enc : TypeId × Value → H) (F : Stop.Interp) :
    ReturnsInHanded {} Tryd.checked os 5 .any ((OpenSpec.ofChange Rows.tsoAloneSpec).preRow enc Tryd.prog Tryd.f5 Rows.tsoAloneRow.domain false Rows.tsoAloneRow.laid) (((OpenSpec.ofChange Rows.tsoAloneSpec).at F).post enc Tryd.prog Tryd.f5 false true false false) := by
  obtain ⟨places, hx⟩ := reads os enc
  refine returnsInHanded_of_row (C := Tryd.checked) (s := OpenSpec.ofChange Rows.tsoAloneSpec) own started (by kernel_rfl) Tryd.func5
    (witness_row_at (enc := enc) (C := Tryd.checked) false (laidWorld os) #[.agg #[.string { data := #[] }, .slice none 0 0, .slice none 0 0], .slice none 0 0] rfl (by kernel_rfl) (by kernel_rfl) (by kernel_rfl)
      (OpenSpec.preRow_of_cond 8 hx (by kernel_rfl) (fun k hk => by cases hk) (by kernel_rfl) (laid_met os))) ?_
  intro W base args ds gs before hval hW _ hcond hsz hL _ _
  exact contract H enc W base args ds gs before hval hW hsz (tab_of_laid hL)

theorem said : Rows.TsoAloneSaid :=
  OpenClaim.holds_of_cond 5 Tryd.f5 rfl rfl rfl rfl rfl rfl rfl ⟨rfl, rfl, rfl, rfl, rfl⟩ rfl rfl rfl rfl rfl (by kernel_rfl) Tryd.func5 (by kernel_rfl)
    (of_decide_eq_true (by kernel_rfl)) (by unfold Func.isWrapper; first | (rw [if_pos (by decide +kernel)]; kernel_rfl) | (rw [if_neg (by decide +kernel)]; exact ⟨rfl, rfl⟩))
    (fun os started H enc _ F => by rw [OpenClaim.pre_eq_preRow]; exact lifted os started H enc F)

/-- No parameter wants a stand-in; the program's own looks are off: what the card asks. -/
theorem plain (f : FuncId) (fn : Func) (hf : Tryd.pinned.checked.prog.funcNamed "cotter/cotterlaw05.TsoAlone" = some f) (hfn : Tryd.pinned.checked.prog.funcs[f]? = some fn) :
    false = Tryd.pinned.checked.prog.looks [] ∧ ∀ (j : Nat) t, fn.params[j]? = some t → Tryd.pinned.checked.prog.wantsStandIn t = false := by
  obtain rfl : f = 5 := Option.some.inj ((show Tryd.prog.funcNamed "cotter/cotterlaw05.TsoAlone" = some 5 by kernel_rfl).symm.trans hf) |>.symm
  obtain rfl : fn = Tryd.f5 := (Option.some.inj (Tryd.func5.symm.trans hfn)).symm
  refine ⟨by kernel_rfl, fun j t ht => ?_⟩
  rw [Tryd.params5] at ht
  have hm : t ∈ [25, 62] := by simpa using Array.mem_of_getElem? ht
  have hall : ([25, 62].all fun u => !Tryd.prog.wantsStandIn u) = true := by kernel_rfl
  exact (show Tryd.prog.wantsStandIn t = false by simpa using List.all_eq_true.1 hall t hm)

theorem card : Rows.TsoAloneCardSaid :=
  Claim7.holds_tied_plain_at .later [] _ _ _ _ said (fun _ h => by cases h) (by kernel_rfl) (fun _ h => by cases h) tsoAlone_row_tie rfl ⟨rfl, rfl⟩ (by kernel_rfl) rfl plain (by kernel_rfl)
end Go.Proofs.YtdcdmlboilojmaaDoor.tsoAlone
namespace Go.Proofs.YtdcdmlboilojmaaDoor
/-- The statement. -/
theorem tsoAlone_holds : Rows.TsoAloneCardSaid := tsoAlone.card
#print axioms tsoAlone_holds
end Go.Proofs.YtdcdmlboilojmaaDoor
