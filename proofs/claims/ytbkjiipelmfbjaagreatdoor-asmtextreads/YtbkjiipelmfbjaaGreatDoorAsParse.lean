/- Parse. -/
import Derived.Test.YtbkjiipelmfbjaaGreatDoorAsLines
import Derived.Test.YtbkjiipelmfbjaaGreatDoorAsRange
namespace Go.Proofs.YtbkjiipelmfbjaaGreatDoor
open Go.RowKit Go.Shelf
attribute [local go_sem] Oper.semAt_some
set_option linter.unusedVariables false
set_option linter.unusedSimpArgs false

set_option maxHeartbeats 4000000 in
theorem lines_any (s : ByteArray) (w : World) :
    Calls Tryz.prog 9 #[.string s] w fun e w' => e = .returned (.func (.func 18) #[] #[.pointer (some ⟨w.heap.size, 0, none⟩)]) ∧ w' = w.alloc (.cells #[.string s] 9) := by
  go_enter Tryz.func9, Tryz.ntmps9
  go_wp2_with fail
  go_ret
  exact ⟨rfl, rfl⟩

def itF (p : X.It × Value) : List Value := itC p.1 p.2
theorem infoIt : (Tryz.prog.info? 32).map (fun i => (i.zero, i.size, i.bytes)) = some (some (.agg #[.int .i64 0, .string { data := #[] }, .int .i64 0, .int .i64 0, .int .i64 0, .int .i64 0, .slice none 0 0]), 7, 80) := by kernel_rfl
theorem itF_len (p : X.It × Value) : (itF p).length = 7 := rfl
/-- Items with rows of their own. -/
def ItO (B : Nat) (W : World) (tv : List (X.It × Value)) : Prop := ∀ p ∈ tv, p.1.name.length ≤ 200000 ∧ ∃ aw lw cw, p.2 = .slice aw lw cw ∧ W.ownsRow B 2 1 (.slice aw lw cw) lw (iC p.1.words)
/-- What the loop has made so far. -/
structure PI (w W : World) (tv : List (X.It × Value)) (v : Value) : Prop where
  low : Below w.heap.size w W
  tab : Tab W
  b0 : Bx W w.heap.size [.slice none 0 0]
  b1 : Bx W (w.heap.size + 1) [.int .i64 0]
  b4 : Bx W (w.heap.size + 2) [v]
  own : W.ownsRow (w.heap.size + 3) 32 7 v tv.length (tv.flatMap itF)
  its : ItO (w.heap.size + 3) W tv
  h7 : 7 ≤ w.heap.size
theorem ItO.kept {B : Nat} {W W' : World} {tv : List (X.It × Value)} {r : Option Nat} (h : ItO B W tv) (hg : W.grownBy W' r) (hr : ∀ b o, r = some b → W.heap[b]? = some o → ∀ cs fr, o ≠ .cells cs 2 fr) : ItO B W' tv := by
  intro p hp
  obtain ⟨hn, aw, lw, cw, e, ho⟩ := h p hp
  refine ⟨hn, aw, lw, cw, e, ?_⟩
  rcases ho.2 with ⟨e1, -⟩ | ⟨g, cap, cur, e1, hb, hh, -⟩
  · exact ho.kept hg (.inl (by rw [e1]; rfl))
  · refine ho.kept hg (.inr fun e2 => ?_)
    have e3 : (Value.slice aw lw cw).ownBlock = some g := by rw [e1]; rfl
    rw [e3] at e2
    exact hr g _ e2.symm hh _ _ rfl
theorem PI.below {w W W' : World} {tv : List (X.It × Value)} {v : Value} (h : PI w W tv v) (hb : Below W.heap.size W W') : PI w W' tv v :=
  ⟨h.low.trans (hb.mono h.low.size), h.tab.below hb, h.b0.below hb, h.b1.below hb, h.b4.below hb, own_thru h.own hb, h.its.kept (gb_of_below hb none) (fun b o e => by cases e), h.h7⟩
theorem gb_put {W : World} {l : Nat} (o : Obj) : W.grownBy (W.putObj l o) (some l) :=
  ⟨rfl, rfl, rfl, by simp, fun k _ hk => World.putObj_heap_other (fun e => hk (by rw [e]))⟩
theorem noCells_ne {W : World} {l b : Nat} {o : Obj} {vs : List Value} (hl : W.heap[l]? = some o) (ho : o.isCells = false) (h : Bx W b vs) (hne : vs ≠ []) : b ≠ l := by
  rintro rfl
  cases vs with
  | nil => exact hne rfl
  | cons v vs =>
    have := h.c 0 v rfl
    unfold World.cell? at this
    simp only [hl] at this
    cases o <;> simp_all [Obj.isCells]
theorem own_ne_obj {W : World} {l B : Nat} {o : Obj} {ty : TypeId} {k n : Nat} {v : Value} {cs : List Value} (hl : W.heap[l]? = some o) (ho : o.isCells = false) (h : W.ownsRow B ty k v n cs) : some l ≠ v.ownBlock := by
  rcases h.2 with ⟨e1, -⟩ | ⟨g, cap, cur, e1, -, hh, -⟩
  · rw [e1]; simp [Value.ownBlock]
  · rw [e1]
    intro e
    simp only [Value.ownBlock, Option.some.injEq] at e
    subst e
    rw [hl] at hh
    cases hh
    cases ho
theorem PI.put {w W : World} {tv : List (X.It × Value)} {v : Value} (h : PI w W tv v) {l : Nat} {o : Obj} (hw : w.heap.size ≤ l) (hl : W.heap[l]? = some o) (ho : o.isCells = false) (o' : Obj) : PI w (W.putObj l o') tv v := by
  have g := gb_put (W := W) (l := l) o'
  refine ⟨below_gb h.low g hw h.low.size, h.tab.gb g (Nat.le_trans h.h7 hw), h.b0.gb g (noCells_ne hl ho h.b0 (by simp)), h.b1.gb g (noCells_ne hl ho h.b1 (by simp)), h.b4.gb g (noCells_ne hl ho h.b4 (by simp)), ?_, ?_, h.h7⟩
  · exact h.own.kept g (.inr (fun e => own_ne_obj hl ho h.own (Eq.symm e)))
  · exact h.its.kept g (fun b o2 e h2 cs fr => by cases e; rw [hl] at h2; cases h2; rintro rfl; cases ho)

/-- What Parse leaves. -/
def ParseOut (w : World) (r : List X.It × Nat) (e : Ending) (w' : World) : Prop :=
  ∃ (tv : List (X.It × Value)) (a : Option Addr) (c : Nat), e = .returned (.tuple #[.slice a tv.length c, .int .i64 r.2]) ∧ tv.map (·.1) = r.1 ∧ w'.ownsRow w.heap.size 32 7 (.slice a tv.length c) tv.length (tv.flatMap itF) ∧ ItO w.heap.size w' tv ∧ Below w.heap.size w w'
theorem ParseOut.none {w w' : World} {z : Nat} {r : List X.It × Nat} (h : r = ([], z)) (hb : Below w.heap.size w w') : ParseOut w r (.returned (.tuple #[.slice Option.none 0 0, .int .i64 z])) w' := by
  subst h
  exact ⟨[], Option.none, 0, rfl, rfl, World.ownsRow_nil _ _ _ _, (fun p hp => by simp at hp), hb⟩
def IxP (w W : World) : Prop := Below w.heap.size w W ∧ Bx W w.heap.size [.slice none 0 0] ∧ Bx W (w.heap.size + 1) [.int .i64 2]
theorem Kf.below {B : Nat} {W W' : World} (h : Below W.heap.size W W') : Kf B W W' := fun k o _ hk _ => (h.block k (Array.getElem?_eq_some_iff.1 hk).1).trans hk
theorem Kf.trans {B : Nat} {A W W' : World} (h : Kf B A W) (h2 : Kf B W W') : Kf B A W' := fun k o hb hk ho => h2 k o hb (h k o hb hk ho) ho
theorem Kf.gb {B : Nat} {W W' : World} {r : Option Nat} (hg : W.grownBy W' r) (hr : ∀ b o, r = some b → W.heap[b]? = some o → o.isCells = true) : Kf B W W' := fun k o _ hk ho =>
  (hg.block k (Array.getElem?_eq_some_iff.1 hk).1 (fun e => by have := hr k o e.symm hk; rw [ho] at this; cases this)).trans hk
theorem Kf.set {B : Nat} {W : World} {b : Nat} {vs : List Value} (h : Bx W b vs) (hne : vs ≠ []) (k : Nat) (u : Value) : Kf B W (W.setCell ⟨b, k, none⟩ u) :=
  Kf.gb (gb_set _ _ _) (fun b' o e ho => by
    cases e
    by_cases hc : o.isCells = true
    · exact hc
    · exact absurd rfl (noCells_ne ho (by simpa using hc) h hne))
theorem own_cells {W : World} {B : Nat} {ty : TypeId} {k n : Nat} {v : Value} {cs : List Value} (h : W.ownsRow B ty k v n cs) : ∀ b o, v.ownBlock = some b → W.heap[b]? = some o → o.isCells = true ∧ ∃ cur, o = .cells cur ty (0, 0) := by
  intro b o e ho
  rcases h.2 with ⟨e1, -⟩ | ⟨g, cap, cur, e1, -, hh, -⟩
  · rw [e1] at e; cases e
  · rw [e1] at e
    cases e
    rw [hh] at ho
    cases ho
    exact ⟨rfl, _, rfl⟩
theorem ItO.keptB {B b : Nat} {W W' : World} {tv : List (X.It × Value)} (h : ItO B W tv) (hg : W.grownBy W' (some b)) (hb : b < B) : ItO B W' tv := by
  intro p hp
  obtain ⟨hn, aw, lw, cw, e, ho⟩ := h p hp
  exact ⟨hn, aw, lw, cw, e, ho.kept hg (.inr (fun e2 => by have := (ho.lt b e2).1; omega))⟩
theorem reads_snoc {pre : List (List X.By)} {ws : List X.By} {ts : List X.It} {t : X.It} (h : X.reads pre = some ts) (hr : X.read ws = some t) : X.reads (pre ++ [ws]) = some (ts ++ [t]) := by
  rw [X.reads_app, h]
  simp [X.reads, hr]
theorem reads_bad {pre post : List (List X.By)} {ws : List X.By} (hr : X.read ws = none) : X.reads (pre ++ [ws] ++ post) = none := by
  rw [X.reads_app, X.reads_app]
  have : X.reads [ws] = none := by simp [X.reads, hr]
  rw [this]
  cases X.reads pre <;> rfl
theorem reads_many {pre post : List (List X.By)} (hn : 20000 < pre.length) : ∀ l, X.reads (pre ++ post) = some l → ¬ l.length ≤ 20000 := fun l hl => by
  rw [X.reads_length hl, List.length_append]
  omega
theorem parse_bad {s : X.By} (hs : s.length ≤ 200000) (h : X.reads (X.wl s) = none ∨ ∀ l, X.reads (X.wl s) = some l → ¬ l.length ≤ 20000) : X.parse s = ([], 2) := by
  unfold X.parse
  rw [if_neg (by omega)]
  rcases h with h | h
  · rw [h]
  · cases hr : X.reads (X.wl s) with
    | none => rfl
    | some l => simp only; rw [if_neg (h l hr)]

theorem ItO.base {B B' : Nat} {W : World} {tv : List (X.It × Value)} (h : ItO B W tv) (hb : B' ≤ B) : ItO B' W tv := by
  intro p hp
  obtain ⟨hn, aw, lw, cw, e, ho⟩ := h p hp
  exact ⟨hn, aw, lw, cw, e, own_baseB ho hb⟩
theorem PI.fin {w W : World} {tv : List (X.It × Value)} {v : Value} {D : Nat} (h : PI w W tv v) (hw : w.heap.size ≤ D) (hD : W.heap[D]? = some (.deferred (some []))) (z : Int) :
    ((W.setCell ⟨w.heap.size, 0, none⟩ v).setCell ⟨w.heap.size + 1, 0, none⟩ (.int .i64 z)).heap[D]? = some (.deferred (some [])) ∧
    (((W.setCell ⟨w.heap.size, 0, none⟩ v).setCell ⟨w.heap.size + 1, 0, none⟩ (.int .i64 z)).putObj D (.deferred none)).cell? ⟨w.heap.size, 0, none⟩ = some v ∧
    (((W.setCell ⟨w.heap.size, 0, none⟩ v).setCell ⟨w.heap.size + 1, 0, none⟩ (.int .i64 z)).putObj D (.deferred none)).cell? ⟨w.heap.size + 1, 0, none⟩ = some (.int .i64 z) ∧
    (((W.setCell ⟨w.heap.size, 0, none⟩ v).setCell ⟨w.heap.size + 1, 0, none⟩ (.int .i64 z)).putObj D (.deferred none)).ownsRow w.heap.size 32 7 v tv.length (tv.flatMap itF) ∧
    ItO w.heap.size (((W.setCell ⟨w.heap.size, 0, none⟩ v).setCell ⟨w.heap.size + 1, 0, none⟩ (.int .i64 z)).putObj D (.deferred none)) tv ∧
    Below w.heap.size w (((W.setCell ⟨w.heap.size, 0, none⟩ v).setCell ⟨w.heap.size + 1, 0, none⟩ (.int .i64 z)).putObj D (.deferred none)) := by
  have x0 := h.b0.put 0 (by simp) v
  have x1 := h.b1.gb (gb_set W ⟨w.heap.size, 0, none⟩ v) (show w.heap.size + 1 ≠ w.heap.size by omega)
  have y0 := x0.gb (gb_set (W.setCell ⟨w.heap.size, 0, none⟩ v) ⟨w.heap.size + 1, 0, none⟩ (.int .i64 z)) (show w.heap.size ≠ w.heap.size + 1 by omega)
  have y1 := x1.put 0 (by simp) (.int .i64 z)
  have k1 := Kf.set (B := w.heap.size) h.b0 (by simp) 0 v
  have k2 := Kf.set (B := w.heap.size) x1 (by simp) 0 (.int .i64 z)
  have hD2 := k2 D _ hw (k1 D _ hw hD rfl) rfl
  have o1 := h.own.kept (gb_set W ⟨w.heap.size, 0, none⟩ v) (.inr (fun e => by have := (h.own.lt w.heap.size e).1; omega))
  have o2 := o1.kept (gb_set (W.setCell ⟨w.heap.size, 0, none⟩ v) ⟨w.heap.size + 1, 0, none⟩ (.int .i64 z)) (.inr (fun e => by have := (o1.lt (w.heap.size + 1) e).1; omega))
  have i1 := h.its.keptB (gb_set W ⟨w.heap.size, 0, none⟩ v) (show w.heap.size < w.heap.size + 3 by omega)
  have i2 := i1.keptB (gb_set (W.setCell ⟨w.heap.size, 0, none⟩ v) ⟨w.heap.size + 1, 0, none⟩ (.int .i64 z)) (show w.heap.size + 1 < w.heap.size + 3 by omega)
  have b2 : Below w.heap.size w ((W.setCell ⟨w.heap.size, 0, none⟩ v).setCell ⟨w.heap.size + 1, 0, none⟩ (.int .i64 z)) := (h.low.setCell (Nat.le_refl _) _).setCell (Nat.le_succ _) _
  generalize (W.setCell ⟨w.heap.size, 0, none⟩ v).setCell ⟨w.heap.size + 1, 0, none⟩ (.int .i64 z) = Z at *
  have g := gb_put (W := Z) (l := D) (.deferred none)
  refine ⟨hD2, (y0.gb g (noCells_ne hD2 rfl y0 (by simp))).c 0 _ rfl, (y1.gb g (noCells_ne hD2 rfl y1 (by simp))).c 0 _ rfl, ?_, ?_, below_gb b2 g hw b2.size⟩
  · exact own_baseB (o2.kept g (.inr (fun e => own_ne_obj hD2 rfl o2 (Eq.symm e)))) (by omega)
  · exact (i2.kept g (fun b o2 e h2 cs fr => by cases e; rw [hD2] at h2; cases h2; rintro ⟨⟩)).base (by omega)

set_option maxRecDepth 100000 in
set_option maxHeartbeats 8000000 in
theorem parse_any (s : ByteArray) (hs : s.size ≤ maxLen) (w : World) (ht : Tab w) :
    Calls Tryz.prog 5 #[.string s] w (ParseOut w (X.parse s.data.toList)) := by
  unfold maxLen at hs
  by_cases hbig : 200000 < s.size
  · have HR : Hid (X.parse s.data.toList = ([], 8)) := by show _ = _; unfold X.parse; rw [if_pos (by rw [len_list]; exact hbig)]
    go_enter Tryz.func5, Tryz.ntmps5
    go_wp2_with fail
    refine bodyPost_ret (v := .tuple #[.slice none 0 0, .int .i64 8]) (by simp [results, Tryz.results5, go_sem]) rfl ?_
    refine ParseOut.none HR.out ?_
    repeat (first | exact bl2 _ _ _ | refine Below.setCell ?_ (by simp) _)
  have hsm : s.size ≤ 200000 := by omega
  have hdec : ¬ (200000 : Int) < s.size := by omega
  have HT : Hid _ := ht
  have hz7 := ht.hz
  clear ht hbig hs
  have hlines := lines_any s
  refine (callsIn_wide (n := 6)).1 ?_
  refine callsIn_of_wp_marks Tryz.func5 rfl trivial ?_ rfl
  simp only [Tryz.ntmps5, List.size_toArray, List.length_cons, List.length_nil, Nat.reduceAdd, Nat.reduceSub, Array.replicate_succ, Array.replicate_zero, List.push_toArray, List.append_toArray, List.nil_append, List.cons_append]
  gi_wp2
  refine ⟨trivial, ?_⟩
  refine (callsIn_wide.2 (hlines _)).mono ?_
  rintro e y ⟨rfl, rfl⟩
  clear hlines
  gi_wp2
  have HPI0 : Hid (PI w ((((w.alloc (.cells #[.slice none 0 0] 23)).alloc (.cells #[.int .i64 0] 24)).alloc (.cells #[.slice none 0 0] 23)).alloc (.cells #[.string s] 9)) [] (.slice none 0 0)) := by
    refine ⟨((bl2 _ _ _).alloc (by simp; omega) _).alloc (by simp; omega) _, (((HT.out.alloc _).alloc _).alloc _).alloc _, ?_, ?_, ?_, World.ownsRow_nil _ _ _ _, (fun p hp => by simp at hp), hz7⟩
    · exact (((Bx.new w #[.slice none 0 0] 23).below (bl1 _ _)).below (bl1 _ _)).below (bl1 _ _)
    · have := ((Bx.new (w.alloc (.cells #[.slice none 0 0] 23)) #[.int .i64 0] 24).below (bl1 _ (.cells #[.slice none 0 0] 23))).below (bl1 _ (.cells #[.string s] 9))
      simpa using this
    · have := (Bx.new ((w.alloc (.cells #[.slice none 0 0] 23)).alloc (.cells #[.int .i64 0] 24)) #[.slice none 0 0] 23).below (bl1 _ (.cells #[.string s] 9))
      simpa using this
  have HS0 : Hid (((((w.alloc (.cells #[.slice none 0 0] 23)).alloc (.cells #[.int .i64 0] 24)).alloc (.cells #[.slice none 0 0] 23)).alloc (.cells #[.string s] 9)).cell? ⟨w.heap.size + 1 + 1 + 1, 0, none⟩ = some (.string s)) := by
    show _ = _
    have := row_cell (w := ((w.alloc (.cells #[.slice none 0 0] 23)).alloc (.cells #[.int .i64 0] 24)).alloc (.cells #[.slice none 0 0] 23)) (a := #[.string s]) (t := 9) (k := 0) (u := .string s) rfl
    simpa using this
  have HSZ : Hid (w.heap.size ≤ ((((w.alloc (.cells #[.slice none 0 0] 23)).alloc (.cells #[.int .i64 0] 24)).alloc (.cells #[.slice none 0 0] 23)).alloc (.cells #[.string s] 9)).heap.size) := by show _ ≤ _; simp; omega
  generalize ((((w.alloc (.cells #[.slice none 0 0] 23)).alloc (.cells #[.int .i64 0] 24)).alloc (.cells #[.slice none 0 0] 23)).alloc (.cells #[.string s] 9)) = W0 at HPI0 HS0 HSZ ⊢
  refine range_lies (σ := List (List X.By)) (β := List X.By × Nat × Nat) (gf := 18) (lb := #[.pointer (some ⟨w.heap.size + 1 + 1 + 1, 0, none⟩)]) rfl (enters_of Tryz.func18 (by kernel_rfl) rfl)
    (fun pre W => ∃ tv av cv, PI w W tv (.slice av tv.length cv) ∧ X.reads pre = some (tv.map (·.1)) ∧ tv.length ≤ 20000)
    (fun pre W => IxP w W ∧ X.parse s.data.toList = ([], 2))
    (fun pre x W => StrV W (some ⟨x.2.1, 0, none⟩) x.1.length x.2.2 x.1 ∧ x.1 ≠ [] ∧ x.1.length ≤ 200000 ∧ ∃ post, X.wl s.data.toList = pre ++ [x.1] ++ post)
    (fun x => #[(.slice (some ⟨x.2.1, 0, none⟩) x.1.length x.2.2)]) (fun pre x => pre ++ [x.1]) [] (fun pre => pre = X.wl s.data.toList) (fun _ => True)
    (fun x => { tmps := #[.string s, undef, .pointer (some ⟨w.heap.size, 0, none⟩), .pointer (some ⟨w.heap.size + 1, 0, none⟩), .pointer (some ⟨w.heap.size + 1 + 1, 0, none⟩), (.slice (some ⟨x.2.1, 0, none⟩) x.1.length x.2.2), undef, undef, .string s, .int .i64 s.size, .bool false, .string s, .func (.func 18) #[] #[.pointer (some ⟨w.heap.size + 1 + 1 + 1, 0, none⟩)], (.slice (some ⟨x.2.1, 0, none⟩) x.1.length x.2.2), undef, undef, undef, undef, undef, undef, undef, undef, undef, undef, undef, undef, undef, undef, undef, undef, undef], defers := [] })
    (fun _ => rfl) ?ib ?il ?ixl ?xl ?it ?start ?assign ?body ?done ?stop
  case ib => rintro pre A B ⟨tv, av, cv, h1, h2⟩ hb; exact ⟨tv, av, cv, h1.below hb, h2⟩
  case il => rintro pre A l o o' hl ho hc ⟨tv, av, cv, h1, h2⟩; exact ⟨tv, av, cv, h1.put (Nat.le_trans HSZ.out hl) ho hc o', h2⟩
  case ixl =>
    rintro pre A l o o' hl ho hc ⟨⟨h1, h2, h3⟩, h4⟩
    have g := gb_put (W := A) (l := l) o'
    exact ⟨⟨below_gb h1 g (Nat.le_trans HSZ.out hl) h1.size, h2.gb g (noCells_ne ho hc h2 (by simp)), h3.gb g (noCells_ne ho hc h3 (by simp))⟩, h4⟩
  case xl =>
    rintro pre x A l o o' hl ho hc ⟨h1, h2⟩
    refine ⟨⟨h1.count, h1.room, h1.small, ?_⟩, h2⟩
    rcases h1.cells with h0 | ⟨b, off, e, hcell⟩
    · exact .inl h0
    · refine .inr ⟨b, off, e, fun i hi => ?_⟩
      have hq := hcell i hi
      refine (gb_put (W := A) (l := l) o').cell hq (fun e2 => ?_)
      cases e2
      unfold World.cell? at hq
      simp only [ho] at hq
      cases o <;> simp_all [Obj.isCells]
  case it =>
    intro l J Jx W1 hb hJb hJI hY hJ0
    have := lines1_in 5 l (w.heap.size + 1 + 1 + 1) s hsm J Jx hJb (fun pre A h => by obtain ⟨tv, av, cv, h1, -⟩ := hJI pre A h; exact h1.tab) (fun pre ws g c W h1 h2 h3 h4 h5 => hY pre (ws, g, c) W h1 ⟨h2, h3, h4, h5⟩) W1 ((hb.cell (p := ⟨w.heap.size + 1 + 1 + 1, 0, none⟩) (World.block_lt_of_cell? _ ⟨w.heap.size + 1 + 1 + 1, 0, none⟩ HS0.out)).trans HS0.out) hJ0
    refine this.mono ?_
    rintro e W' ⟨hv, h | ⟨pre, post, h1, h2⟩⟩
    · exact ⟨hv, .inl ⟨_, rfl, h⟩⟩
    · exact ⟨hv, .inr ⟨pre, trivial, h2⟩⟩
  case start => exact ⟨[], none, 0, HPI0.out, rfl, by simp⟩
  case assign =>
    intro l x W K hK
    gi_wp2
    exact hK
  case body =>
    rintro l pre ⟨ws, g, c⟩ W ⟨tv, av, cv, hPI, hrd, hcnt⟩ ⟨hsv, hne, hwl, post, hpost⟩
    simp only at hsv hne hwl hpost ⊢
    have HPI : Hid (PI w W tv (.slice av tv.length cv)) := hPI
    have HRD : Hid (X.reads pre = some (tv.map (·.1)) ∧ tv.length ≤ 20000) := ⟨hrd, hcnt⟩
    have HPO : Hid (X.wl s.data.toList = pre ++ [ws] ++ post) := hpost
    have HWN : Hid (w.heap.size + 3 ≤ W.heap.size) := by have := hPI.b4.lt; exact this
    have hread := read_any hsv hwl hne hPI.tab
    have hlen : tv.length ≤ 20000 := hcnt
    clear hPI hrd hcnt hpost hsv hne hwl HPI0 HS0
    gi_wp2
    refine ⟨trivial, ?_⟩
    refine (CallsIn.inRound l (callsIn_wide.2 hread)).mono ?_
    rintro e y ⟨t, aw, lw, cw, ok, rfl, h1, h2, h3, ho, hb⟩
    have HH : Hid ((ok = true → X.read ws = some t) ∧ (ok = false → X.read ws = none) ∧ t.name.length ≤ 200000) := ⟨h1, h2, h3⟩
    have HB1 : Hid (Below W.heap.size W (y.alloc (.cells #[.int .i64 t.kind, .string (X.str t.name), .int .i64 t.op, .int .i64 t.a, .int .i64 t.b, .int .i64 t.n, .slice aw lw cw] 32))) := hb.alloc hb.size _
    have HP1 : Hid (PI w (y.alloc (.cells #[.int .i64 t.kind, .string (X.str t.name), .int .i64 t.op, .int .i64 t.a, .int .i64 t.b, .int .i64 t.n, .slice aw lw cw] 32)) tv (.slice av tv.length cv)) := HPI.out.below HB1.out
    have HOW : Hid (World.ownsRow (y.alloc (.cells #[.int .i64 t.kind, .string (X.str t.name), .int .i64 t.op, .int .i64 t.a, .int .i64 t.b, .int .i64 t.n, .slice aw lw cw] 32)) (w.heap.size + 3) 2 1 (.slice aw lw cw) lw (iC t.words)) := own_thru (own_baseB ho HWN.out) (bl1 _ _)
    have c0 := HP1.out.b0.c 0 _ rfl
    have c1 := HP1.out.b1.c 0 _ rfl
    have c4 := HP1.out.b4.c 0 _ rfl
    have f0 := HP1.out.b0.f 0
    have f1 := HP1.out.b1.f 0
    have l0 := HP1.out.b0.lt
    clear h1 h2 h3 ho hb hread
    cases ok with
    | false =>
      have HBAD : Hid (X.parse s.data.toList = ([], 2)) := parse_bad (by rw [len_list]; exact hsm) (.inl (by rw [HPO.out]; exact reads_bad (HH.out.2.1 rfl)))
      · skip
        gi_wp2
        refine ⟨?_, ⟨⟨?_, ?_, ?_⟩, HBAD.out⟩⟩
        · exact ((Kf.below HB1.out).trans (Kf.set HP1.out.b0 (by simp) 0 _)).trans (Kf.set (HP1.out.b1.gb (gb_set _ _ _) (show w.heap.size + 1 ≠ w.heap.size by omega)) (by simp) 0 _)
        · exact (HP1.out.low.setCell (Nat.le_refl _) _).setCell (Nat.le_succ _) _
        · exact (HP1.out.b0.put 0 (by simp) _).gb (gb_set _ _ _) (show w.heap.size ≠ w.heap.size + 1 by omega)
        · exact (HP1.out.b1.gb (gb_set _ _ _) (show w.heap.size + 1 ≠ w.heap.size by omega)).put 0 (by simp) _
    | true =>
      by_cases hk : tv.length = 20000
      · have hk' : ((tv.length : Int) == 20000) = true := by simp; omega
        have HBAD : Hid (X.parse s.data.toList = ([], 2)) := by
          refine parse_bad (by rw [len_list]; exact hsm) (.inr fun l hl => ?_)
          rw [HPO.out] at hl
          have h5 := X.reads_length HRD.out.1
          rw [List.length_map] at h5
          exact reads_many (by rw [List.length_append]; simp; omega) l hl
        clear hk
        gi_wp2
        refine ⟨?_, ⟨⟨?_, ?_, ?_⟩, HBAD.out⟩⟩
        · exact ((Kf.below HB1.out).trans (Kf.set HP1.out.b0 (by simp) 0 _)).trans (Kf.set (HP1.out.b1.gb (gb_set _ _ _) (show w.heap.size + 1 ≠ w.heap.size by omega)) (by simp) 0 _)
        · exact (HP1.out.low.setCell (Nat.le_refl _) _).setCell (Nat.le_succ _) _
        · exact (HP1.out.b0.put 0 (by simp) _).gb (gb_set _ _ _) (show w.heap.size ≠ w.heap.size + 1 by omega)
        · exact (HP1.out.b1.gb (gb_set _ _ _) (show w.heap.size + 1 ≠ w.heap.size by omega)).put 0 (by simp) _
      · have hk' : ((tv.length : Int) == 20000) = false := by simp; omega
        have hk2 : tv.length + 1 ≤ 20000 := by omega
        obtain ⟨it, hit, ht0, ht1, ht2⟩ := info_parts infoIt
        have HB2 : Hid (Below W.heap.size W ((y.alloc (.cells #[.int .i64 t.kind, .string (X.str t.name), .int .i64 t.op, .int .i64 t.a, .int .i64 t.b, .int .i64 t.n, .slice aw lw cw] 32)).alloc (.cells #[.int .i64 t.kind, .string (X.str t.name), .int .i64 t.op, .int .i64 t.a, .int .i64 t.b, .int .i64 t.n, .slice aw lw cw] 32))) := HB1.out.alloc HB1.out.size _
        have HP2 : Hid (PI w ((y.alloc (.cells #[.int .i64 t.kind, .string (X.str t.name), .int .i64 t.op, .int .i64 t.a, .int .i64 t.b, .int .i64 t.n, .slice aw lw cw] 32)).alloc (.cells #[.int .i64 t.kind, .string (X.str t.name), .int .i64 t.op, .int .i64 t.a, .int .i64 t.b, .int .i64 t.n, .slice aw lw cw] 32)) tv (.slice av tv.length cv)) := HP1.out.below (bl1 _ _)
        have HOW2 : Hid (World.ownsRow ((y.alloc (.cells #[.int .i64 t.kind, .string (X.str t.name), .int .i64 t.op, .int .i64 t.a, .int .i64 t.b, .int .i64 t.n, .slice aw lw cw] 32)).alloc (.cells #[.int .i64 t.kind, .string (X.str t.name), .int .i64 t.op, .int .i64 t.a, .int .i64 t.b, .int .i64 t.n, .slice aw lw cw] 32)) (w.heap.size + 3) 2 1 (.slice aw lw cw) lw (iC t.words)) := own_thru HOW.out (bl1 _ _)
        have HNC : Hid (∀ j u, ([.int .i64 t.kind, .string (X.str t.name), .int .i64 t.op, .int .i64 t.a, .int .i64 t.b, .int .i64 t.n, .slice aw lw cw] : List Value)[j]? = some u → ((y.alloc (.cells #[.int .i64 t.kind, .string (X.str t.name), .int .i64 t.op, .int .i64 t.a, .int .i64 t.b, .int .i64 t.n, .slice aw lw cw] 32)).alloc (.cells #[.int .i64 t.kind, .string (X.str t.name), .int .i64 t.op, .int .i64 t.a, .int .i64 t.b, .int .i64 t.n, .slice aw lw cw] 32)).cell? ((⟨y.heap.size + 1, 0, none⟩ : Addr).add j) = some u) := fun j u hu => by
          rw [Addr.add_lit, Nat.zero_add]
          have := row_cell (w := (y.alloc (.cells #[.int .i64 t.kind, .string (X.str t.name), .int .i64 t.op, .int .i64 t.a, .int .i64 t.b, .int .i64 t.n, .slice aw lw cw] 32))) (a := #[.int .i64 t.kind, .string (X.str t.name), .int .i64 t.op, .int .i64 t.a, .int .i64 t.b, .int .i64 t.n, .slice aw lw cw]) (t := 32) (k := j) (u := u) (by simpa using hu)
          simpa using this
        have HSZ2 : Hid (w.heap.size + 3 ≤ ((y.alloc (.cells #[.int .i64 t.kind, .string (X.str t.name), .int .i64 t.op, .int .i64 t.a, .int .i64 t.b, .int .i64 t.n, .slice aw lw cw] 32)).alloc (.cells #[.int .i64 t.kind, .string (X.str t.name), .int .i64 t.op, .int .i64 t.a, .int .i64 t.b, .int .i64 t.n, .slice aw lw cw] 32)).heap.size) := by show _ ≤ _; have := HB2.out.size; have := HWN.out; omega
        have HNEW : Hid (X.reads (pre ++ [ws]) = some ((tv ++ [((t, Value.slice aw lw cw) : X.It × Value)]).map (·.1))) := by
          show _ = _
          rw [reads_snoc HRD.out.1 (HH.out.1 rfl)]
          simp
        gi_wp2_with (gi_at_builtin; refine wpListIn_append_own _ rfl _ _ 23 rfl (w.heap.size + 3) 32 it _ 7 80 Tryz.underlying23 hit ht0 ht1 ht2 rfl (by decide) (.slice av tv.length cv) tv.length _ rfl HP2.out.own ⟨y.heap.size + 1, 0, none⟩ 1 1 [.int .i64 t.kind, .string (X.str t.name), .int .i64 t.op, .int .i64 t.a, .int .i64 t.b, .int .i64 t.n, .slice aw lw cw] rfl rfl HNC.out (by intro u hu; simp at hu; rcases hu with rfl | rfl | rfl | rfl | rfl | rfl | rfl <;> rfl) (by unfold maxLen; omega) (by omega) HSZ2.out ?_; intro v' w3 hown' hgrow _; obtain ⟨g', cap', rfl⟩ := ownsRow_succ hown'; have HO3 : Hid _ := hown'; have HG3 : Hid _ := hgrow; have HNB : Hid (∀ b, b < w.heap.size + 3 → some b ≠ (Value.slice av tv.length cv).ownBlock) := (fun b hb e => by have := (HP2.out.own.lt b e.symm).1; omega); have HB4 : Hid (Bx w3 (w.heap.size + 2) [.slice av tv.length cv]) := HP2.out.b4.gbO hgrow (HNB.out _ (by omega)); have d4 := HB4.out.c 0 _ rfl; have g4 := HB4.out.f 0; have l4 := HB4.out.lt; clear hown' hgrow)
        have hits : ItO (w.heap.size + 3) ((y.alloc (.cells #[.int .i64 t.kind, .string (X.str t.name), .int .i64 t.op, .int .i64 t.a, .int .i64 t.b, .int .i64 t.n, .slice aw lw cw] 32)).alloc (.cells #[.int .i64 t.kind, .string (X.str t.name), .int .i64 t.op, .int .i64 t.a, .int .i64 t.b, .int .i64 t.n, .slice aw lw cw] 32)) (tv ++ [(t, .slice aw lw cw)]) := fun p hp => by
          rcases List.mem_append.1 hp with hp | hp
          · exact HP2.out.its p hp
          · simp at hp; subst hp; exact ⟨HH.out.2.2, aw, lw, cw, rfl, HOW2.out⟩
        have hits3 := (hits.kept HG3.out (fun b o e ho cs fr => by obtain ⟨-, cur, rfl⟩ := own_cells HP2.out.own b o e ho; intro h; cases h)).keptB (gb_set w3 ⟨w.heap.size + 2, 0, none⟩ (.slice (some ⟨g', 0, none⟩) (tv.length + 1) cap')) (show w.heap.size + 2 < w.heap.size + 3 by omega)
        have hlow : Below w.heap.size w (w3.setCell ⟨w.heap.size + 2, 0, none⟩ (.slice (some ⟨g', 0, none⟩) (tv.length + 1) cap')) := (below_grownB HP2.out.low HP2.out.own HG3.out HSZ2.out (by omega)).setCell (by simp) _
        have hll : (tv ++ [((t, Value.slice aw lw cw) : X.It × Value)]).length = tv.length + 1 := by simp
        refine ⟨?_, ⟨tv ++ [(t, .slice aw lw cw)], some ⟨g', 0, none⟩, cap', ?_, HNEW.out, by rw [hll]; exact hk2⟩⟩
        · exact (Kf.below HB2.out).trans ((Kf.gb HG3.out (fun b o e ho => (own_cells HP2.out.own b o e ho).1)).trans (Kf.set HB4.out (by simp) 0 _))
        · rw [hll]
          refine ⟨hlow, HT.out.below hlow, ?_, ?_, HB4.out.put 0 (by simp) _, ?_, hits3, hz7⟩
          · exact (HP2.out.b0.gbO HG3.out (HNB.out _ (by omega))).gb (gb_set _ _ _) (show w.heap.size ≠ w.heap.size + 2 by omega)
          · exact (HP2.out.b1.gbO HG3.out (HNB.out _ (by omega))).gb (gb_set _ _ _) (show w.heap.size + 1 ≠ w.heap.size + 2 by omega)
          · rw [hll, List.flatMap_append]
            have ho3 : w3.ownsRow (w.heap.size + 3) 32 7 (.slice (some ⟨g', 0, none⟩) (tv.length + 1) cap') (tv.length + 1) (tv.flatMap itF ++ [.int .i64 t.kind, .string (X.str t.name), .int .i64 t.op, .int .i64 t.a, .int .i64 t.b, .int .i64 t.n, .slice aw lw cw]) := HO3.out
            have := ho3.kept (gb_set w3 ⟨w.heap.size + 2, 0, none⟩ (.slice (some ⟨g', 0, none⟩) (tv.length + 1) cap')) (.inr (fun e => by have := (ho3.lt (w.heap.size + 2) e).1; omega))
            exact this
  case done =>
    rintro D pre W hD rfl ⟨tv, av, cv, hPI, hrd, hcnt⟩ hK
    have c0 := hPI.b0.c 0 _ rfl
    have c1 := hPI.b1.c 0 _ rfl
    have c4 := hPI.b4.c 0 _ rfl
    have f0 := hPI.b0.f 0
    have f1 := hPI.b1.f 0
    have HPI : Hid (PI w W tv (.slice av tv.length cv)) := hPI
    have HRD : Hid (X.reads (X.wl s.data.toList) = some (tv.map (·.1)) ∧ tv.length ≤ 20000) := ⟨hrd, hcnt⟩
    have HKD : Hid _ := hK
    clear hPI hrd hcnt hK HPI0 HS0
    gi_wp2
    obtain ⟨e1, e2, e3, e4, e5, e6⟩ := HPI.out.fin (Nat.le_trans HSZ.out hD) HKD.out 0
    have HR : Hid (X.parse s.data.toList = (tv.map (·.1), 0)) := by
      show _ = _
      unfold X.parse
      rw [if_neg (by rw [len_list]; omega), HRD.out.1]
      simp only [List.length_map]
      rw [if_pos HRD.out.2]
    refine ⟨by simp, .inl ⟨_, _, rfl, run_takeDeferred e1, ?_⟩⟩
    refine ⟨.tuple #[.slice av tv.length cv, .int .i64 0], ?_, ?_⟩
    · simp [results, Tryz.results5, go_sem, e2, e3]
    · rw [HR.out]
      exact ⟨tv, av, cv, rfl, rfl, e4, e5, e6⟩
  case stop =>
    rintro D pre W hD - ⟨⟨h1, h2, h3⟩, h4⟩ hK
    have c0 := h2.c 0 _ rfl
    have c1 := h3.c 0 _ rfl
    gi_wp2
    have g := gb_put (W := W) (l := D) (.deferred none)
    have e2 := (h2.gb g (noCells_ne hK rfl h2 (by simp))).c 0 _ rfl
    have e3 := (h3.gb g (noCells_ne hK rfl h3 (by simp))).c 0 _ rfl
    refine ⟨by simp, .inl ⟨_, _, rfl, run_takeDeferred hK, ?_⟩⟩
    refine ⟨.tuple #[.slice none 0 0, .int .i64 2], ?_, ?_⟩
    · simp [results, Tryz.results5, go_sem, e2, e3]
    · exact ParseOut.none h4 (below_gb h1 g (Nat.le_trans HSZ.out hD) h1.size)

end Go.Proofs.YtbkjiipelmfbjaaGreatDoor
