/- What form and Write come to. -/
import Derived.Test.YtcfdfnghaigkjaaObjForm
import Derived.Lib.SmallJoins
namespace Go.Proofs.Ytcfdfnghaigkjaa
open Go.RowKit Go.Maps Go.Lib
set_option linter.unusedVariables false

/-- A row that is full, whatever its marks: append makes a new one. -/
theorem full_grow {w : World} {g n : Nat} {xs : List Value} (ty : TypeId) (hlen : xs.length = n) (hc : ∀ j u, xs[j]? = some u → w.cell? ⟨g, j, none⟩ = some u) (s : ByteArray) (hs : 0 < s.size) (hbytes : n + s.size ≤ 140737488355328) :
    ∃ v' w', (Builtin.append_ #[44, 9] ty #[.slice (some ⟨g, 0, none⟩) n n, .string s]).run Try.prog w = .ok v' w' ∧ w'.ownsRow w.heap.size 5 1 v' (n + s.size) (xs ++ strCells s) ∧ Below w.heap.size w w' := by
  obtain ⟨i0, hi, hz0, hz1, hz2⟩ := info_parts infoB
  have hsrc : Src Try.prog i0.size 9 (.string s) s.size (byteCells s) w := by rw [hz1]; exact Src.ofString w Try.underlying9 s
  have hold : (Builtin.firstCells i0.size n (.slice (some ⟨g, 0, none⟩) n n)).run Try.prog w.drew = .ok xs.toArray w.drew := by
    rw [hz1]
    exact run_firstCells_some w.drew 1 n ⟨g, 0, none⟩ n n xs (by omega) (fun j u hu => by rw [Addr.add_lit, Nat.zero_add, World.cell?_drew]; exact hc j u hu)
  have hr := run_append_grow_src (P := Try.prog) w 44 9 ty 5 i0 (.int .u8 0) Try.underlying44 hi hz0 (some ⟨g, 0, none⟩) n n xs hold (.string s) s.size (byteCells s) hsrc (by omega) (by omega) (growslice_fits (by omega) (by rw [hz2]; omega))
  have hge := grownCap_ge w (n + s.size) n 5
  have hcm : grownCap w (n + s.size) n 5 ≤ maxLen := grownCap_le_maxLen w (n + s.size) n 5 (by unfold maxLen; omega)
  have hL : (xs ++ strCells s).length = (n + s.size) * 1 := by rw [List.length_append, strCells_length, hlen, Nat.mul_one]
  have hz : (Value.int IntKind.u8 0).cells.size = 1 := rfl
  refine ⟨_, _, hr, ⟨hL, .inr ⟨w.heap.size, _, _, rfl, Nat.le_refl _, heap_alloc_new w.drew _, hge, hcm, ?_, ?_⟩⟩, ((Below.refl _ w).drew.alloc (by simp) _)⟩
  · have e : byteCells s = strCells s := rfl
    rw [e]
    simp only [Array.size_append, List.size_toArray, size_zeroCells, hz, hL]
    omega
  · have e : byteCells s = strCells s := rfl
    rw [e]
    simp only [Array.toList_append]
    rw [← hL]
    exact List.take_left
theorem wpList_append_full {ops : Array Oper} {rest : List Oper} {o : Oper} {a : Act} {Q : Exit → Act → World → Prop} {w : World} (hgd : o.guard = none) (sl x : Operand)
    (ho : o.op = .call { callee := .builtin .append, args := #[sl, x], argTypes := #[44, 9] })
    {g n : Nat} {xs : List Value} (hs : a.eval sl = .slice (some ⟨g, 0, none⟩) n n) (hlen : xs.length = n) (hc : ∀ j u, xs[j]? = some u → w.cell? ⟨g, j, none⟩ = some u) (s : ByteArray) (hx : a.eval x = .string s) (h0 : 0 < s.size)
    (hbytes : n + s.size ≤ 140737488355328)
    (h : ∀ v' w', w'.ownsRow w.heap.size 5 1 v' (n + s.size) (xs ++ strCells s) → Below w.heap.size w w' → wpList Try.prog ops Q rest (a.put o.dst v') w') : wpList Try.prog ops Q (o :: rest) a w := by
  refine wpList_plain hgd fun K hK => ?_
  obtain ⟨v', w', hr, h2, h3⟩ := full_grow o.type hlen hc s h0 hbytes
  unfold Oper.wp execOp
  simp only [ho, resolve, invoke, builtin, Sem.run_bind, Sem.run_pure, Result.andThen_ok, List.map_toArray, List.map_cons, List.map_nil, hs, hx, hr]
  exact hK _ _ (h v' w' h2 h3)

set_option maxRecDepth 100000 in
set_option maxHeartbeats 1000000 in
theorem number_full {w : World} {g k : Nat} {xs : List Int} (hk : xs.length = k) (hc : ∀ j u, (xs.map (Value.int .u8))[j]? = some u → w.cell? ⟨g, j, none⟩ = some u) (n : Int) (h0 : 0 ≤ n) (h1 : n ≤ 9223372036854775807) (hm : k ≤ 1000) :
    Calls Try.prog 56 #[.slice (some ⟨g, 0, none⟩) k k, .int .i64 n] w fun e w' => ∃ v', e = .returned v' ∧ RowB w' w.heap.size v' (xs ++ W.put n) ∧ Below w.heap.size w w' := by
  have HC : Hid _ := hc
  have hpl := W.put_length n
  have HPB : Hid _ := W.put_bd n h0 (by omega)
  clear hc
  go_enter Try.func56, Try.ntmps56
  go_wp2_with fail
  refine (put_any n h0 (by omega) _).mono ?_
  rintro e w1 ⟨rfl, hb1⟩
  have HC1 : Hid (∀ j u, (xs.map (Value.int .u8))[j]? = some u → w1.cell? ⟨g, j, none⟩ = some u) := fun j u hu => cell_thru hb1 (HC.out j u hu)
  have hsz : (strOfNums (W.put n)).size = (W.put n).length := size_of HPB.out
  go_wp2_with (first | (at_builtin; refine wpList_append_full rfl _ _ rfl (xs := xs.map (Value.int .u8)) rfl (by simpa using hk) HC1.out (strOfNums (W.put n)) rfl (by omega) (by omega) ?_) | go_in)
  intro v2 w2 ho2 hb2
  have q2 : Below w.heap.size w w2 := hb1.trans (hb2.mono hb1.size)
  have HO2 : Hid (RowB w2 w.heap.size v2 (xs ++ W.put n)) := by
    have : RowB w2 w1.heap.size v2 (xs ++ W.put n) := row_is ho2 (by rw [strCells_nums, nums_of HPB.out]; simp)
    have hsz1 := hb1.size
    refine ⟨this.1, ?_⟩
    rcases this.2 with h2 | ⟨g, cap, cur, hv, hg, r⟩
    · exact .inl h2
    · exact .inr ⟨g, cap, cur, hv, by omega, r⟩
  clear ho2 hb2
  go_wp2
  go_ret
  exact ⟨_, rfl, HO2.out, q2⟩

set_option maxRecDepth 100000 in
set_option maxHeartbeats 1000000 in
theorem text_full {w : World} {g k : Nat} {xs : List Int} (hk : xs.length = k) (hc : ∀ j u, (xs.map (Value.int .u8))[j]? = some u → w.cell? ⟨g, j, none⟩ = some u) (s : ByteArray) (hs : s.size ≤ 1000000000) (hm : k ≤ 1000) :
    Calls Try.prog 35 #[.slice (some ⟨g, 0, none⟩) k k, .string s] w fun e w' => ∃ v', e = .returned v' ∧ RowB w' w.heap.size v' (xs ++ txt s) ∧ Below w.heap.size w w' := by
  have HC : Hid _ := hc
  have hpl := W.put_length (s.size : Int)
  clear hc
  go_enter Try.func35, Try.ntmps35
  go_wp2_with fail
  refine (number_full hk HC.out s.size (by omega) (by omega) hm).mono ?_
  rintro e w1 ⟨v1, rfl, ho1, hb1⟩
  have HO1 : Hid (RowB w1 w.heap.size v1 (xs ++ W.put s.size)) := ho1
  have HLT : Hid (∀ x, v1.ownBlock = some x → w.heap.size ≤ x) := fun x hx => (ho1.lt x hx).1
  have hl1 : (xs ++ W.put s.size).length ≤ 1010 := by rw [List.length_append]; omega
  have hB1 := hb1.size
  clear ho1
  go_wp2_with (first | (at_builtin; refine wpList_append_str rfl _ _ rfl rfl HO1.out s rfl (by omega) hB1 ?_) | go_in)
  intro v2 w2 ho2 hg2
  have q2 : Below w.heap.size w w2 := hb1.trans (hg2.toBelow hB1 HLT.out)
  have HO2 : Hid (RowB w2 w.heap.size v2 (xs ++ txt s)) := by
    exact row_is ho2 (by rw [strCells_nums]; simp [txt])
  clear ho2 hg2
  go_wp2
  go_ret
  exact ⟨_, rfl, HO2.out, q2⟩

/-- An object's form. -/
def formB (o : ObjD) : List Int := [67, 79, 84, 49] ++ txt o.code ++ (W.put o.data.length ++ o.data.flatMap long) ++ (W.put o.syms.length ++ o.syms.flatMap symB) ++ (W.put o.rels.length ++ o.rels.flatMap relB)

theorem getD_of_mem {α : Type} {l : List α} {x : α} (h : x ∈ l) (d : α) : ∃ i, i < l.length ∧ l.getD i d = x := by
  obtain ⟨i, hi, rfl⟩ := List.getElem_of_mem h
  exact ⟨i, hi, by simp [List.getD, hi]⟩
theorem syms_fit {cl dl : Nat} {ss : List Sym} (h : symsOk cl dl ss = true) (h1 : cl ≤ 65536) (h2 : dl ≤ 4096) : ss.length ≤ 1000 ∧ ∀ s ∈ ss, SymFit s := by
  unfold symsOk at h
  simp only [Bool.and_eq_true, decide_eq_true_eq, List.all_eq_true, List.mem_range] at h
  refine ⟨h.1, fun s hs => ?_⟩
  obtain ⟨i, hi, rfl⟩ := getD_of_mem hs noSym
  have := h.2 i hi
  unfold symAt symOk nameOk roomOf at this
  simp only [Bool.and_eq_true, decide_eq_true_eq] at this
  obtain ⟨-, ⟨hn1, hn2⟩, hp0, hp1⟩ := this
  unfold SymFit
  split at hp1
  · next hk => omega
  · split at hp1
    · next hk => omega
    · omega
theorem rels_fit {cl : Nat} {rs : List Rel} (h : relsOk cl rs = true) (h1 : cl ≤ 65536) (hw : ∀ r ∈ rs, (Lit.int .i64 r.add).wf = true) : rs.length ≤ 8000 ∧ ∀ r ∈ rs, RelFit r := by
  unfold relsOk at h
  simp only [Bool.and_eq_true, decide_eq_true_eq, List.all_eq_true, List.mem_range] at h
  have pos : ∀ i, i < rs.length → 0 ≤ (rs.getD i noRel).pos := by
    intro i
    induction i with
    | zero =>
      intro hi
      have := h.2 0 hi
      unfold relOk freeAt at this
      simp only [Bool.and_eq_true, decide_eq_true_eq, if_pos] at this
      exact this.1.1
    | succ i ih =>
      intro hi
      have h0 := ih (by omega)
      have := h.2 (i + 1) hi
      unfold relOk freeAt at this
      simp only [Bool.and_eq_true, decide_eq_true_eq, if_neg (Nat.succ_ne_zero i), Nat.add_sub_cancel] at this
      omega
  refine ⟨h.1, fun r hr => ?_⟩
  have hwr := hw r hr
  obtain ⟨i, hi, rfl⟩ := getD_of_mem hr noRel
  have hp := pos i hi
  have := h.2 i hi
  unfold relOk nameOk at this
  simp only [Bool.and_eq_true, decide_eq_true_eq] at this
  obtain ⟨⟨-, hq⟩, ⟨hn1, hn2⟩, ha⟩ := this
  have hk : (rs.getD i noRel).kind = 1 ∨ (rs.getD i noRel).kind = 2 := by
    unfold addOk at ha
    by_cases c1 : (rs.getD i noRel).kind = 1
    · exact .inl c1
    · by_cases c2 : (rs.getD i noRel).kind = 2
      · exact .inr c2
      · rw [if_neg c1, if_neg c2] at ha
        cases ha
  unfold RelFit
  exact ⟨by omega, by omega, by omega, hp, by omega, hwr⟩
theorem may_parts {o : ObjD} (h : o.may = true) : o.code.size ≤ 65536 ∧ o.data.length ≤ 4096 ∧ symsOk o.code.size o.data.length o.syms = true ∧ relsOk o.code.size o.rels = true := by
  unfold ObjD.may at h
  simp only [Bool.and_eq_true, decide_eq_true_eq] at h
  exact ⟨h.1.1, h.1.2, h.2.1, h.2.2⟩
theorem row_base {w : World} {B B' : Nat} {v : Value} {xs : List Int} (o : RowB w B v xs) (h : B' ≤ B) : RowB w B' v xs := by
  refine ⟨o.1, ?_⟩
  rcases o.2 with h2 | ⟨g, cap, cur, hv, hg, r⟩
  · exact .inl h2
  · exact .inr ⟨g, cap, cur, hv, Nat.le_trans h hg, r⟩
theorem row_ne {w : World} {B : Nat} {v : Value} {xs : List Int} (o : RowB w (B + 1) v xs) : v.ownBlock ≠ some B := fun e => by have := (o.lt B e).1; omega
theorem row_below {w w' : World} {B : Nat} {v v' : Value} {xs : List Int} (o : RowB w (B + 1) v xs) (g : Gr w w' v v') (hB : B + 1 ≤ w.heap.size) : Below B w w' := g.toBelow (by omega) (fun x hx => by have := (o.lt x hx).1; omega)
theorem apart_I {w w' : World} {v : Value} {xs zs : List Int} (ho : RowB w' w.heap.size v xs) {a : Option Addr} {l c : Nat} (h : IntsV w a l c zs) (hl : 0 < l) : Apart v a := fun b off e hv => by
  have := (ho.lt b hv).1
  rcases h.cells with h0 | ⟨b', off', e', hc⟩
  · omega
  · rw [e] at e'
    cases e'
    have : b < w.heap.size := World.block_lt_of_cell? w ⟨b, off + 0, none⟩ (hc 0 hl)
    omega
theorem apart_S {w w' : World} {v : Value} {xs : List Int} {zs : List Sym} (ho : RowB w' w.heap.size v xs) {a : Option Addr} {l c : Nat} (h : SymsV w a l c zs) (hl : 0 < l) : Apart v a := fun b off e hv => by
  have := (ho.lt b hv).1
  rcases h.cells with h0 | ⟨b', off', e', hc⟩
  · omega
  · rw [e] at e'
    cases e'
    have : b < w.heap.size := World.block_lt_of_cell? w ⟨b, off + 0 * 3, none⟩ (hc 0 hl).1
    omega
theorem apart_R {w w' : World} {v : Value} {xs : List Int} {zs : List Rel} (ho : RowB w' w.heap.size v xs) {a : Option Addr} {l c : Nat} (h : RelsV w a l c zs) (hl : 0 < l) : Apart v a := fun b off e hv => by
  have := (ho.lt b hv).1
  rcases h.cells with h0 | ⟨b', off', e', hc⟩
  · omega
  · rw [e] at e'
    cases e'
    have : b < w.heap.size := World.block_lt_of_cell? w ⟨b, off + 0 * 4, none⟩ (hc 0 hl).1
    omega
theorem flat_len {α : Type} (f : α → List Int) (m : Nat) : ∀ (l : List α), (∀ x ∈ l, (f x).length ≤ m) → (l.flatMap f).length ≤ m * l.length
  | [], _ => by simp
  | x :: r, h => by
    have h1 := h x (by simp)
    have h2 := flat_len f m r (fun y hy => h y (by simp [hy]))
    simp only [List.flatMap_cons, List.length_append, List.length_cons]
    rw [Nat.mul_succ]
    omega

set_option maxRecDepth 100000 in
set_option maxHeartbeats 4000000 in
theorem form_any {w : World} {v : Value} {o : ObjD} (h : ObjV w v o) (hm : o.may = true) :
    Calls Try.prog 18 #[v] w fun e w' => ∃ v', e = .returned v' ∧ RowB w' w.heap.size v' (formB o) ∧ Below w.heap.size w w' := by
  obtain ⟨a1, l1, c1, a2, l2, c2, a3, l3, c3, rfl, hcs, h1, h2, h3⟩ := h.form
  obtain ⟨hc, hdl, hs, hr⟩ := may_parts hm
  obtain ⟨hsl, hsf⟩ := syms_fit hs hc hdl
  obtain ⟨hrl, hrf⟩ := rels_fit hr hc (fun r hr => (h3.fits r hr).2.2.2)
  have HFB : Hid (∀ ys, ys = [67, 79, 84, 49] ++ txt o.code ++ (W.put o.data.length ++ o.data.flatMap long) ++ (W.put o.syms.length ++ o.syms.flatMap symB) ++ (W.put o.rels.length ++ o.rels.flatMap relB) → ys = formB o) := fun ys e => e
  have n1 := h1.count
  have n2 := h2.count
  have n3 := h3.count
  have HL1 : Hid ((o.data.flatMap long).length ≤ 8 * o.data.length) := flat_len long 8 _ (fun x hx => by rw [(long_len (h1.fits x hx)).1]; decide)
  have HL2 : Hid ((o.syms.flatMap symB).length ≤ 1100 * o.syms.length) := flat_len symB 1100 _ (fun x hx => symB_len (hsf x hx).1)
  have H1 : Hid _ := h1
  have H2 : Hid _ := h2
  have H3 : Hid _ := h3
  have HSF : Hid _ := hsf
  have HRF : Hid _ := hrf
  obtain ⟨code, hcode⟩ : ∃ code, o.code = code := ⟨_, rfl⟩
  rw [hcode] at hc HFB hcs
  have hp1 := W.put_length (code.size : Int)
  have hp2 := W.put_length (l1 : Int)
  have hp3 := W.put_length (l2 : Int)
  have hnl := nums_len code
  clear h1 h2 h3 hsf hrf hs hr hm h
  rw [hcode]
  obtain ⟨W1, hW1⟩ : ∃ W1, w.alloc (.cells #[.string code, .slice a1 l1 c1, .slice a2 l2 c2, .slice a3 l3 c3] 26) = W1 := ⟨_, rfl⟩
  have s1 : W1.heap.size = w.heap.size + 1 := by subst hW1; simp
  have b1 : Below w.heap.size w W1 := by subst hW1; exact bl_one _ _
  have v0 : W1.cell? ⟨w.heap.size, 0, none⟩ = some (.string code) := by subst hW1; exact cell_last rfl rfl
  have v1 : W1.cell? ⟨w.heap.size, 1, none⟩ = some (.slice a1 l1 c1) := by subst hW1; exact cell_last rfl rfl
  have v2 : W1.cell? ⟨w.heap.size, 2, none⟩ = some (.slice a2 l2 c2) := by subst hW1; exact cell_last rfl rfl
  have v3 : W1.cell? ⟨w.heap.size, 3, none⟩ = some (.slice a3 l3 c3) := by subst hW1; exact cell_last rfl rfl
  obtain ⟨W2, hW2⟩ : ∃ W2, W1.alloc (.cells #[.int .u8 67, .int .u8 79, .int .u8 84, .int .u8 49] 5 (4, 5)) = W2 := ⟨_, rfl⟩
  have b2 : Below W1.heap.size W1 W2 := by subst hW2; exact bl_one _ _
  have hcv : (convert 44 44 (.slice (some ⟨w.heap.size + 1, 0, none⟩) 4 4)).run Try.prog (W1.alloc (.cells #[.int .u8 67, .int .u8 79, .int .u8 84, .int .u8 49] 5)) = .ok (.slice (some ⟨w.heap.size + 1, 0, none⟩) 4 4) W2 := by
    rw [← hW2]
    exact Go.Joins.run_convert_bytes_const_at W1 44 5 #[.int .u8 67, .int .u8 79, .int .u8 84, .int .u8 49] 4 4 (w.heap.size + 1) s1.symm Try.underlying44 Try.underlying5
  have HC2 : Hid (∀ j u, (([67, 79, 84, 49] : List Int).map (Value.int .u8))[j]? = some u → W2.cell? ⟨w.heap.size + 1, j, none⟩ = some u) := fun j u hu => by
    subst hW2
    rw [← s1, World.cell?_alloc_mark]
    simpa using hu
  have u0 := cell_thru b2 v0
  have u1 := cell_thru b2 v1
  have u2 := cell_thru b2 v2
  have u3 := cell_thru b2 v3
  have q2 : Below w.heap.size w W2 := b1.trans (b2.mono (by omega))
  have hB2 : w.heap.size + 1 ≤ W2.heap.size := by have := b2.size; omega
  clear v0 v1 v2 v3
  go_enter Try.func18, Try.ntmps18
  go_wp2_with fail
  refine (text_full (xs := [67, 79, 84, 49]) rfl HC2.out code (by omega) (by decide)).mono ?_
  rintro e w3 ⟨x3, rfl, o3', g3⟩
  have o3 := row_base o3' hB2
  have q3 : Below w.heap.size w w3 := q2.trans (g3.mono (by omega))
  have hB3 : w.heap.size + 1 ≤ w3.heap.size := Nat.le_trans hB2 g3.size
  have c1 := cell_thru g3 u1
  have c2 := cell_thru g3 u2
  have c3 := cell_thru g3 u3
  obtain ⟨y3, hy3⟩ : ∃ y, y = [67, 79, 84, 49] ++ txt code := ⟨_, rfl⟩
  rw [← hy3] at o3
  have hl3 : y3.length ≤ 100000 := by rw [hy3]; simp only [txt, List.length_append, List.length_cons, List.length_nil]; omega
  have HO3 : Hid (RowB w3 (w.heap.size + 1) x3 y3) := o3
  have HY3 : Hid _ := hy3
  clear o3 o3' g3 hy3 u0 u1 u2 u3 hcv
  go_wp2_with fail
  refine (listI_any HO3.out hB3 (H1.out.below q3) (fun hl => apart_I (row_base HO3.out (Nat.le_succ _)) H1.out hl) H1.out.fits (by omega) (by omega)).mono ?_
  rintro e w4 ⟨x4, rfl, o4, g4⟩
  have q4 : Below w.heap.size w w4 := q3.trans (row_below HO3.out g4 hB3)
  have hB4 : w.heap.size + 1 ≤ w4.heap.size := Nat.le_trans hB3 g4.grown.size
  have d2 := g4.cell c2 (row_ne HO3.out)
  have d3 := g4.cell c3 (row_ne HO3.out)
  obtain ⟨y4, hy4⟩ : ∃ y, y = y3 ++ (W.put l1 ++ o.data.flatMap long) := ⟨_, rfl⟩
  rw [← hy4] at o4
  have hl4 : y4.length ≤ 200000 := by rw [hy4]; simp only [List.length_append]; have := HL1.out; omega
  have HO4 : Hid (RowB w4 (w.heap.size + 1) x4 y4) := o4
  have HY4 : Hid _ := hy4
  clear o4 g4 hy4 c1 c2 c3
  go_wp2_with fail
  refine (listS_any HO4.out hB4 (H2.out.below q4) (fun hl => apart_S (row_base HO4.out (Nat.le_succ _)) H2.out hl) HSF.out (by omega) (by omega)).mono ?_
  rintro e w5 ⟨x5, rfl, o5, g5⟩
  have q5 : Below w.heap.size w w5 := q4.trans (row_below HO4.out g5 hB4)
  have hB5 : w.heap.size + 1 ≤ w5.heap.size := Nat.le_trans hB4 g5.grown.size
  have e3 := g5.cell d3 (row_ne HO4.out)
  obtain ⟨y5, hy5⟩ : ∃ y, y = y4 ++ (W.put l2 ++ o.syms.flatMap symB) := ⟨_, rfl⟩
  rw [← hy5] at o5
  have hl5 : y5.length ≤ 2000000 := by rw [hy5]; simp only [List.length_append]; have := HL2.out; omega
  have HO5 : Hid (RowB w5 (w.heap.size + 1) x5 y5) := o5
  have HY5 : Hid _ := hy5
  clear o5 g5 hy5 d2 d3
  go_wp2_with fail
  refine (listR_any HO5.out hB5 (H3.out.below q5) (fun hl => apart_R (row_base HO5.out (Nat.le_succ _)) H3.out hl) HRF.out (by omega) (by omega)).mono ?_
  rintro e w6 ⟨x6, rfl, o6, g6⟩
  have q6 : Below w.heap.size w w6 := q5.trans (row_below HO5.out g6 hB5)
  have HO6 : Hid (RowB w6 w.heap.size x6 (formB o)) := by
    show RowB _ _ _ _
    rw [← HFB.out (y5 ++ (W.put l3 ++ o.rels.flatMap relB)) (by rw [HY5.out, HY4.out, HY3.out, n1, n2, n3])]
    exact row_base o6 (Nat.le_succ _)
  clear o6 g6 e3
  go_wp2_with fail
  go_ret
  exact ⟨_, rfl, HO6.out, q6⟩

set_option maxRecDepth 100000 in
set_option maxHeartbeats 2000000 in
theorem write_any {w : World} {v : Value} {o : ObjD} (h : ObjV w v o) :
    Calls Try.prog 11 #[v] w fun e w' => e = .returned (.tuple #[.string (if o.may then strOfNums (formB o) else ByteArray.empty), .int .i64 (if o.may then 0 else 1)]) ∧ Below w.heap.size w w' := by
  have HV : Hid _ := h
  obtain ⟨a1, l1, c1, a2, l2, c2, a3, l3, c3, rfl, hcs, -, -, -⟩ := h.form
  clear h
  obtain ⟨code, hcode⟩ : ∃ code, o.code = code := ⟨_, rfl⟩
  rw [hcode] at HV hcs ⊢
  obtain ⟨W1, hW1⟩ : ∃ W1, w.alloc (.cells #[.string code, .slice a1 l1 c1, .slice a2 l2 c2, .slice a3 l3 c3] 26) = W1 := ⟨_, rfl⟩
  have b1 : Below w.heap.size w W1 := by subst hW1; exact bl_one _ _
  have v0 : W1.cell? ⟨w.heap.size, 0, none⟩ = some (.string code) := by subst hW1; exact cell_last rfl rfl
  have v1 : W1.cell? ⟨w.heap.size, 1, none⟩ = some (.slice a1 l1 c1) := by subst hW1; exact cell_last rfl rfl
  have v2 : W1.cell? ⟨w.heap.size, 2, none⟩ = some (.slice a2 l2 c2) := by subst hW1; exact cell_last rfl rfl
  have v3 : W1.cell? ⟨w.heap.size, 3, none⟩ = some (.slice a3 l3 c3) := by subst hW1; exact cell_last rfl rfl
  cases hm : o.may with
  | false =>
    have HM : Hid _ := hm
    clear hm
    go_enter Try.func11, Try.ntmps11
    go_wp2_with fail
    refine (check_any (HV.out.below b1)).mono ?_
    rintro e w2 ⟨rfl, hb2⟩
    rw [HM.out]
    have q2 : Below w.heap.size w w2 := b1.trans (hb2.mono b1.size)
    clear hb2
    go_wp2_with fail
    go_ret2
    exact ⟨rfl, q2⟩
  | true =>
    have HM : Hid _ := hm
    clear hm
    go_enter Try.func11, Try.ntmps11
    go_wp2_with fail
    refine (check_any (HV.out.below b1)).mono ?_
    rintro e w2 ⟨rfl, hb2⟩
    rw [HM.out]
    have q2 : Below w.heap.size w w2 := b1.trans (hb2.mono b1.size)
    have c0 := cell_thru hb2 v0
    have c1 := cell_thru hb2 v1
    have c2 := cell_thru hb2 v2
    have c3 := cell_thru hb2 v3
    clear hb2
    go_wp2_with fail
    refine (form_any (HV.out.below q2) HM.out).mono ?_
    rintro e w3 ⟨x, rfl, o3, hb3⟩
    have q3 : Below w.heap.size w w3 := q2.trans (hb3.mono q2.size)
    have hcv := conv_own o3
    clear hb3 c0 c1 c2 c3 o3
    go_wp2_with fail
    go_ret2
    exact ⟨rfl, q3⟩

end Go.Proofs.Ytcfdfnghaigkjaa
