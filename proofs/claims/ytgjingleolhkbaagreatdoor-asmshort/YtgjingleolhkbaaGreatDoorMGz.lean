/- No jump is long that could be short: the mathematics. -/
import Derived.Test.YtgjingleolhkbaaGreatDoorMGi
import Derived.Test.YtgjingleolhkbaaGreatDoorMGg
import Derived.Test.YtgjingleolhkbaaGreatDoorMGt
namespace Go.Proofs.YtgjingleolhkbaaGreatDoor
namespace Z
open Go.RowKit
set_option linter.unusedVariables false
set_option linter.unusedSimpArgs false

/-- How far a jump goes if it is short where it stands. -/
def gap (ts : List X.It) (o : List Int) (j : Nat × Nat) : Prop :=
  (j.1 < j.2 → 127 < beg o j.2 - beg o (j.1 + 1)) ∧ (j.2 ≤ j.1 → beg o j.2 - beg o j.1 - sz (op0 (ts.getD j.1 X.noIt)) < -128)
/-- Each jump that is long could not be short. -/
def LongFar (ts : List X.It) (o : List Int) : Prop := ∀ j ∈ js ts, o.getD j.1 0 = (ts.getD j.1 X.noIt).op → gap ts o j
theorem sz_op0 (t : X.It) : sz (op0 t) ≤ sz t.op := by
  unfold op0
  split
  · next h =>
    rcases (jump_iff t).1 h with e | e | e <;> rw [e] <;> decide
  · exact Int.le_refl _
theorem sz_long {t : X.It} (h : jump t = true) : sz t.op = sz (op0 t) + 3 ∧ op0 t ≠ t.op := by
  unfold op0
  rw [if_pos h]
  rcases (jump_iff t).1 h with e | e | e <;> rw [e] <;> decide
theorem js_jump {ts : List X.It} {j : Nat × Nat} (h : j ∈ js ts) : jump (ts.getD j.1 X.noIt) = true := by
  unfold js jumpsOf at h
  obtain ⟨p, hp, rfl⟩ := List.mem_map.1 h
  obtain ⟨hp, hj⟩ := List.mem_filter.1 hp
  have := List.mem_zipIdx_iff_getElem?.1 hp
  simp only [List.getD, this]
  exact hj
theorem beg_grow {o o' : List Int} (hl : o'.length = o.length) (h : ∀ i, i < o.length → sz (o.getD i 0) ≤ sz (o'.getD i 0)) {a : Nat} : ∀ {b : Nat}, a ≤ b → b ≤ o.length → beg o b - beg o a ≤ beg o' b - beg o' a
  | 0, ha, _ => by
    obtain rfl : a = 0 := by omega
    omega
  | b + 1, ha, hb => by
    by_cases e : a = b + 1
    · subst e; omega
    · have ih := beg_grow hl h (a := a) (b := b) (by omega) (by omega)
      rw [beg_succ o (by omega), beg_succ o' (by omega)]
      have := h b (by omega)
      omega
theorem gap_grow {ts : List X.It} {o o' : List Int} (hlt : o.length = ts.length) (hl : o'.length = o.length) (h : ∀ i, i < o.length → sz (o.getD i 0) ≤ sz (o'.getD i 0)) {j : Nat × Nat} (hj : j.1 < ts.length ∧ j.2 < ts.length) (hg : gap ts o j) : gap ts o' j := by
  refine ⟨fun hlt' => ?_, fun hge => ?_⟩
  · have h1 := hg.1 hlt'
    have h2 := beg_grow hl h (a := j.1 + 1) (b := j.2) (by omega) (by omega)
    omega
  · have h1 := hg.2 hge
    have h2 := beg_grow hl h (a := j.2) (b := j.1) hge (by omega)
    omega
theorem lens_long {ts : List X.It} {o : List Int} (hlt : o.length = ts.length) (ho : Own ts o) : ∀ (l : List (Nat × Nat)) (cur : List Int), (∀ j ∈ l, j ∈ js ts) → cur.length = ts.length → (∀ i, i < ts.length → cur.getD i 0 = o.getD i 0 ∨ cur.getD i 0 = (ts.getD i X.noIt).op) → (∀ j ∈ js ts, cur.getD j.1 0 = (ts.getD j.1 X.noIt).op → gap ts o j) →
    (∀ i, i < ts.length → (lens ts (ats o) l cur).getD i 0 = o.getD i 0 ∨ (lens ts (ats o) l cur).getD i 0 = (ts.getD i X.noIt).op) ∧ (∀ j ∈ js ts, (lens ts (ats o) l cur).getD j.1 0 = (ts.getD j.1 X.noIt).op → gap ts o j)
  | [], cur, _, _, h1, h2 => ⟨h1, h2⟩
  | j :: r, cur, hs, hc, h1, h2 => by
    rw [lens]
    have hjm := hs j (by simp)
    obtain ⟨hj1, hj2⟩ := js_in ts j hjm
    split
    · next hf =>
      refine lens_long hlt ho r _ (fun x hx => hs x (by simp [hx])) (by rw [List.length_set]; exact hc) (fun i hi => ?_) (fun x hx hxe => ?_)
      · by_cases e : i = j.1
        · subst e
          rw [getD_set_eq' _ _ _ (by omega)]
          exact .inr rfl
        · rw [getD_set_ne' _ _ _ _ e]
          exact h1 i hi
      · by_cases e : x.1 = j.1
        · -- the very jump
          have hx2 : x = j := by
            have key : ∀ y ∈ js ts, y.2 = labN ts (ts.getD y.1 X.noIt).name := fun y hy => by
              unfold js jumpsOf at hy
              obtain ⟨p, hp, rfl⟩ := List.mem_map.1 hy
              obtain ⟨hp, hj⟩ := List.mem_filter.1 hp
              have := List.mem_zipIdx_iff_getElem?.1 hp
              simp only [List.getD, this]
              rfl
            have k1 := key x hx
            have k2 := key j hjm
            rw [e] at k1
            exact Prod.ext e (k1.trans k2.symm)
          subst hx2
          unfold tooFar at hf
          simp only [Bool.and_eq_true, decide_eq_true_eq, Bool.or_eq_true] at hf
          obtain ⟨hne, hd⟩ := hf
          have hcur : cur.getD x.1 0 = o.getD x.1 0 := (h1 x.1 hj1).resolve_right hne
          have hop : o.getD x.1 0 = op0 (ts.getD x.1 X.noIt) := (ho x.1 hj1).resolve_left (by rw [← hcur]; exact hne)
          unfold far at hd
          rw [ats_at o (by omega), ats_at o (by omega), hcur, hop] at hd
          have hz := sz_range (op0 (ts.getD x.1 X.noIt))
          refine ⟨fun hlt' => ?_, fun hge => ?_⟩
          · have hb := beg_succ o (k := x.1) (by omega)
            rw [hop] at hb
            have hm := beg_mono o (i := x.1 + 1) (j := x.2) (by omega)
            omega
          · have hm := beg_mono o hge
            omega
        · rw [getD_set_ne' _ _ _ _ e] at hxe
          exact h2 x hx hxe
    · exact lens_long hlt ho r _ (fun x hx => hs x (by simp [hx])) hc h1 h2
theorem settle_long {ts : List X.It} : ∀ (n : Nat) (o : List Int), o.length = ts.length → Own ts o → LongFar ts o → LongFar ts (settle ts n o)
  | 0, o, _, _, h => h
  | n + 1, o, hl, ho, h => by
    rw [settle]
    split
    · obtain ⟨h1, h2⟩ := lens_long hl ho (js ts) o (fun _ hx => hx) hl (fun i hi => .inl rfl) h
      have hl2 : (lens ts (ats o) (js ts) o).length = ts.length := by rw [lens_len]; exact hl
      have hg : ∀ i, i < o.length → sz (o.getD i 0) ≤ sz ((lens ts (ats o) (js ts) o).getD i 0) := fun i hi => by
        rcases h1 i (by omega) with e | e
        · rw [e]; exact Int.le_refl _
        · rw [e]
          rcases ho i (by omega) with e2 | e2
          · rw [e2]; exact Int.le_refl _
          · rw [e2]; exact sz_op0 _
      refine settle_long n _ hl2 (own_lens _ _ hl ho) fun j hj hje => gap_grow hl (by omega) hg (js_in ts j hj) (h2 j hj hje)
    · exact h
theorem ops_long (ts : List X.It) : LongFar ts (ops ts) := by
  refine settle_long _ _ (by simp) (fun k hk => .inr (by simp [List.getD, hk])) fun j hj hje => ?_
  have h1 := (js_in ts j hj).1
  have h2 := (sz_long (js_jump hj)).2
  refine absurd ?_ h2
  rw [← hje]
  simp [List.getD, h1]
/-- A long jump's number. -/
theorem long_far {ts : List X.It} (hok : ∀ t ∈ ts, X.itOk t = true) {k : Nat} (hk : k < ts.length) (hkd : (ts.getD k X.noIt).kind = 2) (ho : (ops ts).getD k 0 = 20 ∨ (ops ts).getD k 0 = 21 ∨ (ops ts).getD k 0 = 22) :
    ¬ (0 ≤ codeN ts (ops ts) k ∧ codeN ts (ops ts) k ≤ 127) ∧ ¬ (codeN ts (ops ts) k < 0 ∧ -128 ≤ codeN ts (ops ts) k + 3) := by
  have hm : ts.getD k X.noIt ∈ ts := by simp [List.getD, hk]
  have hop : (ops ts).getD k 0 = (ts.getD k X.noIt).op := by
    rcases own_ops ts k hk with e | e
    · exact e
    · rw [e]
      unfold op0
      split
      · next hj =>
        exfalso
        rw [e] at ho
        unfold op0 at ho
        rw [if_pos hj] at ho
        rcases (jump_iff _).1 hj with e2 | e2 | e2 <;> rw [e2] at ho <;> revert ho <;> decide
      · rfl
  have hj : jump (ts.getD k X.noIt) = true := (jump_iff _).2 (by rw [← hop]; exact ho)
  have hjm := js_mem hk hj
  have hgap := ops_long ts _ hjm hop
  have hin := js_in ts _ hjm
  simp only at hin
  have hz := sz_long hj
  obtain ⟨hins, -⟩ := X.itOk_ins (hok _ hm) hkd
  obtain ⟨o0, o1, hrow, hnm, -⟩ := X.insOk_split hins
  obtain ⟨f1, f2, f3, f4, f5, f6, f7⟩ := rowF (k := (ts.getD k X.noIt).op.toNat) (by omega) hrow
  have hname : (ts.getD k X.noIt).name ≠ [] := by
    have h1 := f5.2 (by omega)
    rw [hnm] at h1
    simpa using h1
  have hopen : isOpen ts (ts.getD k X.noIt) = false := by
    have h1 : ¬ (ts.getD k X.noIt).op = 19 := by omega
    have h2 : ¬ (ts.getD k X.noIt).op = 23 := by omega
    unfold isOpen
    rw [decide_eq_false h1, decide_eq_false h2]
    rfl
  have hcn : codeN ts (ops ts) k = far (ops ts) (ats (ops ts)) k (labN ts (ts.getD k X.noIt).name) := by
    unfold codeN
    rw [hopen, if_neg (by decide), if_pos hname]
  have hlen := ops_len ts
  rw [hcn]
  unfold far
  rw [ats_at _ (by omega), ats_at _ (by omega), hop, hz.1]
  unfold gap at hgap
  simp only at hgap
  by_cases hlt : k < labN ts (ts.getD k X.noIt).name
  · have h1 := hgap.1 hlt
    have h2 := beg_succ (ops ts) (k := k) (by omega)
    rw [hop, hz.1] at h2
    omega
  · have h1 := hgap.2 (by omega)
    have h2 := beg_mono (ops ts) (i := labN ts (ts.getD k X.noIt).name) (j := k) (by omega)
    have h3 := sz_range (op0 (ts.getD k X.noIt))
    omega
end Z
end Go.Proofs.YtgjingleolhkbaaGreatDoor

/- No jump is long that could be short: what the code is taken apart into. -/
namespace Go.Proofs.YtgjingleolhkbaaGreatDoor
namespace Z
open Go.RowKit
set_option linter.unusedVariables false
set_option linter.unusedSimpArgs false

theorem mem_getD' {ts : List X.It} {k : Nat} (hk : k < ts.length) : ts.getD k X.noIt ∈ ts := by simp [List.getD, hk]
def qOf (ts : List X.It) (k : Nat) : J.I.Q := ⟨(ops ts).getD k 0, (ts.getD k X.noIt).a, (ts.getD k X.noIt).b, codeN ts (ops ts) k⟩
def qs (ts : List X.It) (k : Nat) : List J.I.Q := ((List.range k).filter fun i => decide ((ts.getD i X.noIt).kind = 2)).map (qOf ts)
theorem qs_succ (ts : List X.It) (k : Nat) : qs ts (k + 1) = if (ts.getD k X.noIt).kind = 2 then qs ts k ++ [qOf ts k] else qs ts k := by
  unfold qs
  rw [List.range_succ, List.filter_append, List.map_append]
  split
  · next h => rw [List.filter_cons_of_pos (by rw [h]; rfl)]; rfl
  · next h => rw [List.filter_cons_of_neg (by simpa using h)]; simp
theorem code_flat (ts : List X.It) : ∀ k, (objTo ts (ops ts) k).code = strOfNums ((qs ts k).flatMap J.I.Q.V)
  | 0 => rfl
  | k + 1 => by
    rw [objTo_succ, qs_succ]
    have ih := code_flat ts k
    unfold stepO
    split
    · next h =>
      show (objTo ts (ops ts) k).code ++ strOfNums (codeV ts (ops ts) k) = _
      rw [ih, J.strOfNums_app, List.flatMap_append, List.flatMap_cons, List.flatMap_nil, List.append_nil]
      rfl
    · split
      · exact ih
      · split
        · exact ih
        · split
          · exact ih
          · exact ih
theorem allI_list : ∀ l : List J.I.Q, (∀ q ∈ l, q.E = 0) → J.I.allI (strOfNums (l.flatMap J.I.Q.V)) = some l
  | [], _ => J.I.allI_nil
  | q :: r, h => by
    have hbd : ∀ l : List J.I.Q, ∀ n ∈ l.flatMap J.I.Q.V, 0 ≤ n ∧ n ≤ 255 := by
      intro l n hn
      obtain ⟨x, -, hx⟩ := List.mem_flatMap.1 hn
      exact J.I.enc_bd n hx
    rw [J.I.allI_enc (h q List.mem_cons_self) _ (strOfNums (r.flatMap J.I.Q.V)) (by rw [J.byts_str _ (hbd (q :: r)), J.byts_str _ (hbd r), List.flatMap_cons]; rfl), allI_list r fun x hx => h x (List.mem_cons_of_mem _ hx)]
    rfl
theorem qs_mem {ts : List X.It} {q : J.I.Q} (h : q ∈ qs ts ts.length) : ∃ k, k < ts.length ∧ (ts.getD k X.noIt).kind = 2 ∧ q = qOf ts k := by
  unfold qs at h
  obtain ⟨k, hk, rfl⟩ := List.mem_map.1 h
  obtain ⟨h1, h2⟩ := List.mem_filter.1 hk
  exact ⟨k, List.mem_range.1 h1, of_decide_eq_true h2, rfl⟩
theorem all_code {ts : List X.It} (hl : ts.length ≤ 20000) (hok : ∀ t ∈ ts, X.itOk t = true) (hfit : ∀ t ∈ ts, X.fitsIt t) : J.I.allI (obj ts).code = some (qs ts ts.length) := by
  unfold obj
  rw [code_flat]
  refine allI_list _ fun q hq => ?_
  obtain ⟨k, hk, hkd, rfl⟩ := qs_mem hq
  obtain ⟨-, -, h3, h4⟩ := code_ok hl hok hfit hk hkd
  unfold J.I.Q.E qOf J.I.encE
  rw [if_pos h3, if_pos h4]
/-- What cannot be said of a long jump. -/
def NoShort (q : J.I.Q) : Prop := (q.op = 20 ∨ q.op = 21 ∨ q.op = 22) → ¬ (0 ≤ q.n ∧ q.n ≤ 127) ∧ ¬ (q.n < 0 ∧ -128 ≤ q.n + 3)
theorem asm_short {ts : List X.It} (hfit : ∀ t ∈ ts, X.fitsIt t) (h : (asm ts).2 = 0) : ∃ l, J.I.allI (asm ts).1.code = some l ∧ (∀ q ∈ l, NoShort q ∧ X.fits q.n) ∧ (asm ts).1.code.size ≤ 65536 := by
  have hm := (asm_may hfit).2.1 h
  have h0 := h
  unfold asm at h0
  split at h0
  · next hok =>
    obtain ⟨hl, hok'⟩ := X.itsOk_iff.1 hok
    split at h0
    · next hn =>
      split at h0
      · next hf =>
        split at h0
        · next hs =>
          have e : asm ts = (obj ts, 0) := by unfold asm; rw [if_pos hok, if_pos hn, if_pos hf, if_pos hs]
          rw [e]
          have hom := om_all hl hok' hfit hs ts.length (Nat.le_refl _)
          refine ⟨_, all_code hl hok' hfit, fun q hq => ?_, ?_⟩
          · obtain ⟨k, hk, hkd, rfl⟩ := qs_mem hq
            refine ⟨fun ho => long_far hok' hk hkd ho, ?_⟩
            have hft := (hfit _ (mem_getD' hk)).1
            have hfr := far_range ts hl k (labN ts (ts.getD k X.noIt).name)
            show X.fits (codeN ts (ops ts) k)
            unfold codeN
            split
            · exact ⟨by decide, by decide⟩
            · split
              · exact ⟨by omega, by omega⟩
              · exact hft
          · have h1 := hom.c
            unfold fits at hf
            simp only [Bool.and_eq_true, decide_eq_true_eq] at hf
            have h2 := hf.1
            unfold tot at h2
            rw [ops_len] at h2
            show (objTo ts (ops ts) ts.length).code.size ≤ 65536
            omega
        · simp at h0
      · simp at h0
    · next hn => simp at h0; exact absurd h0 hn
  · simp at h0
end Z
end Go.Proofs.YtgjingleolhkbaaGreatDoor

/- AsmShort walked. -/
namespace Go.Proofs.YtgjingleolhkbaaGreatDoor
open Go.RowKit Go.Maps Go.Lib
set_option linter.unusedVariables false
set_option linter.unusedSimpArgs false

theorem q_at {w : World} {B g n co : Nat} {l : List J.I.Q} (h : w.ownsRow B 42 4 (.slice (some ⟨g, 0, none⟩) n co) n (J.I.rows l)) (hl : l.length = n) {k : Nat} (hk : k < n) : ∃ q, q ∈ l ∧ w.cell? ⟨g, k * 4, none⟩ = some (.int .i64 q.op) ∧ w.cell? ⟨g, k * 4 + 1, none⟩ = some (.int .i64 q.a) ∧ w.cell? ⟨g, k * 4 + 2, none⟩ = some (.int .i64 q.b) ∧ w.cell? ⟨g, k * 4 + 3, none⟩ = some (.int .i64 q.n) := by
  have hk2 : k < l.length := by omega
  have key : ∀ j u, j < 4 → (l[k]).cs[j]? = some u → w.cell? ⟨g, k * 4 + j, none⟩ = some u := fun j u hj hu => by
    rw [h.cellAt _ (by omega), J.I.rows_at l k hk2 j hj, hu]
  exact ⟨l[k], List.getElem_mem hk2, by simpa using key 0 _ (by omega) rfl, key 1 _ (by omega) rfl, key 2 _ (by omega) rfl, key 3 _ (by omega) rfl⟩
set_option maxRecDepth 100000 in
set_option maxHeartbeats 8000000 in
theorem shW_any {w : World} {a : Option Addr} {l c : Nat} {ts : List X.It} (h : ItsV w a l c ts) (ht : Tab w) (hJ : J.Tab w) :
    Calls Tryz.prog 8 #[.slice a l c] w fun e w' => e = .returned (.bool true) ∧ Below w.heap.size w w' := by
  have HV : Hid _ := h
  have HT : Hid _ := ht
  have HJ : Hid (J.Tab w) := hJ
  have hsm := small_any a l c w
  have hasm := asm_any h ht hJ
  have HSH : Hid ((Z.asm ts).2 = 0 → ∃ q, J.I.allI (Z.asm ts).1.code = some q ∧ (∀ x ∈ q, Z.NoShort x ∧ X.fits x.n) ∧ (Z.asm ts).1.code.size ≤ 65536) := fun e => Z.asm_short (fun t hm => (h.fit t hm).2) e
  clear h ht hJ
  by_cases hl : l ≤ 400
  rotate_left
  · rw [decide_eq_false hl] at hsm
    go_enter Tryz.func8, Tryz.ntmps8
    go_wp2_with fail
    refine hsm.mono ?_
    rintro e y ⟨rfl, hy⟩
    rw [hy]
    go_wp2_with fail
    refine (live_any _ HT.out HJ.out).mono ?_
    rintro e y2 ⟨rfl, hb⟩
    have HB : Hid _ := hb
    clear hb
    go_wp2_with fail
    go_ret
    exact ⟨rfl, HB.out⟩
  rw [decide_eq_true hl] at hsm
  obtain ⟨⟨o, z⟩, hr⟩ : ∃ r, Z.asm ts = r := ⟨_, rfl⟩
  rw [hr] at hasm HSH
  simp only at HSH
  clear hr
  go_enter Tryz.func8, Tryz.ntmps8
  go_wp2_with fail
  refine hsm.mono ?_
  rintro e y ⟨rfl, hy⟩
  rw [hy]
  clear hy hsm
  go_wp2_with fail
  refine hasm.mono ?_
  rintro e w1 ⟨vd, vs, vr, rfl, o1, o2, o3, hb1⟩
  simp only at o1 o2 o3 ⊢
  obtain ⟨ad, cd, rfl⟩ := own_slice o1
  obtain ⟨as2, cs, rfl⟩ := own_slice o2
  obtain ⟨ar, cr, rfl⟩ := own_slice o3
  obtain ⟨Y1, hY1⟩ : ∃ Y1, w1.alloc (.cells #[.string o.code, .slice ad o.data.length cd, .slice as2 o.syms.length cs, .slice ar o.rels.length cr] 30) = Y1 := ⟨_, rfl⟩
  have bY1 : Below w1.heap.size w1 Y1 := by subst hY1; exact bl1 _ _
  have m0 : Y1.cell? ⟨w1.heap.size, 0, none⟩ = some (.string o.code) := by subst hY1; exact cellA rfl rfl
  have HB1 : Hid (Below w.heap.size w Y1) := hb1.trans (bY1.mono hb1.size)
  clear o1 o2 o3 hb1 hasm bY1
  by_cases hz : z = 0
  rotate_left
  · have hz2 : ((z : Int) == 0) = false := by simp; omega
    have hz3 : ¬ (z : Int) = 0 := by omega
    clear hz
    go_wp2_with fail
    refine (live_any _ (HT.out.below HB1.out) (J.Tab.below HJ.out HB1.out)).mono ?_
    rintro e y2 ⟨rfl, hb⟩
    have HB2 : Hid _ := hb
    clear hb
    go_wp2_with fail
    go_ret
    exact ⟨rfl, HB1.out.trans (HB2.out.mono HB1.out.size)⟩
  subst hz
  obtain ⟨q, hq1, hq2, hq3⟩ := HSH.out rfl
  have hall := J.rall_any o.code (by omega) Y1
  unfold J.I.allPost at hall
  rw [hq1] at hall
  simp only at hall
  have HQ : Hid (∀ x ∈ q, Z.NoShort x ∧ X.fits x.n) := hq2
  clear hq1 hq2 hq3 HSH
  go_wp2_with fail
  refine hall.mono ?_
  rintro e w2 ⟨⟨v, rfl, ho⟩, hb2⟩
  obtain ⟨ao, co, rfl⟩ := own_slice ho
  have HB2' : Hid (Below w.heap.size w w2) := HB1.out.trans (hb2.mono HB1.out.size)
  have hn1 : q.length ≤ maxLen := by
    rcases ho.2 with ⟨-, e⟩ | ⟨g, cap, cur, -, -, -, h1, h2, -⟩
    · omega
    · omega
  unfold maxLen at hn1
  have HB0 : Hid (w.heap.size ≤ Y1.heap.size) := HB1.out.size
  generalize hbb : Y1.heap.size = bb at ho HB0
  have HO2 : Hid (w2.ownsRow bb 42 4 (.slice ao q.length co) q.length (J.I.rows q)) := ho
  generalize hn : q.length = n at hn1 HO2 ⊢
  have HN : Hid (q.length = n) := hn
  clear hn ho hb2 hall hbb
  go_wp2_with fail
  go_loopg [7, 8] n (fun r iv cv wr => ∃ (k : Nat), r = n - k ∧ iv = .int .i64 k ∧ k ≤ n ∧ Hid (Below w.heap.size w wr) ∧ Hid (wr.ownsRow bb 42 4 (.slice ao n co) n (J.I.rows q)))
  case atStart => exact ⟨0, rfl, rfl, Nat.zero_le _, HB2', HO2⟩
  case round =>
    obtain ⟨k, rfl, rfl, hk, HB, HO⟩ := hrel
    by_cases hlk : k < n
    · obtain ⟨g, rfl⟩ : ∃ g, ao = some ⟨g, 0, none⟩ := by
        rcases HO.out.2 with ⟨e, e2⟩ | ⟨g, cap, cur, e, -⟩
        · omega
        · cases e; exact ⟨_, rfl⟩
      obtain ⟨x, hx, c0, c1, c2, c3⟩ := q_at HO.out HN.out hlk
      obtain ⟨hns, hf1, hf2⟩ := HQ.out x hx
      obtain ⟨op, xa, xb, xn⟩ := x
      unfold Z.NoShort at hns
      simp only at c0 c1 c2 c3 hns hf1 hf2
      obtain ⟨Y3, hY3⟩ : ∃ Y3, wr.alloc (.cells #[.int .i64 op, .int .i64 xa, .int .i64 xb, .int .i64 xn] 42) = Y3 := ⟨_, rfl⟩
      have bY3 : Below wr.heap.size wr Y3 := by subst hY3; exact bl1 _ _
      have m0 : Y3.cell? ⟨wr.heap.size, 0, none⟩ = some (.int .i64 op) := by subst hY3; exact cellA rfl rfl
      have m3 : Y3.cell? ⟨wr.heap.size, 3, none⟩ = some (.int .i64 xn) := by subst hY3; exact cellA rfl rfl
      have HB3 : Hid (Below w.heap.size w Y3) := HB.out.trans (bY3.mono HB.out.size)
      have HO3 : Hid (Y3.ownsRow bb 42 4 (.slice (some ⟨g, 0, none⟩) n co) n (J.I.rows q)) := by subst hY3; exact HO.out.alloc _
      clear hx bY3
      by_cases hop : op = 20 ∨ op = 21 ∨ op = 22
      · obtain ⟨n1, n2⟩ := hns hop
        clear hns
        have hcase : 127 < xn ∨ xn < -131 := by omega
        clear n1 n2
        rcases hcase with hxn | hxn
        · have e1 : 0 ≤ xn := by omega
          have e2 : ¬ xn ≤ 127 := by omega
          have e3 : ¬ xn < 0 := by omega
          rcases hop with rfl | rfl | rfl
          · skip
            skip
            go_wp2_with fail
            go_roundg (n - (k + 1))
            case measure => omega
            case rel => exact ⟨k + 1, rfl, by go_num, by omega, HB3, HO3⟩
          · skip
            skip
            go_wp2_with fail
            go_roundg (n - (k + 1))
            case measure => omega
            case rel => exact ⟨k + 1, rfl, by go_num, by omega, HB3, HO3⟩
          · skip
            skip
            go_wp2_with fail
            go_roundg (n - (k + 1))
            case measure => omega
            case rel => exact ⟨k + 1, rfl, by go_num, by omega, HB3, HO3⟩
        · have e1 : ¬ 0 ≤ xn := by omega
          have e3 : xn < 0 := by omega
          have e4 : wrap64 (xn + 3) = xn + 3 := by unfold wrap64; omega
          have e5 : ¬ -128 ≤ xn + 3 := by omega
          rcases hop with rfl | rfl | rfl
          · skip
            skip
            go_wp2_with fail
            go_roundg (n - (k + 1))
            case measure => omega
            case rel => exact ⟨k + 1, rfl, by go_num, by omega, HB3, HO3⟩
          · skip
            skip
            go_wp2_with fail
            go_roundg (n - (k + 1))
            case measure => omega
            case rel => exact ⟨k + 1, rfl, by go_num, by omega, HB3, HO3⟩
          · skip
            skip
            go_wp2_with fail
            go_roundg (n - (k + 1))
            case measure => omega
            case rel => exact ⟨k + 1, rfl, by go_num, by omega, HB3, HO3⟩
      · have e20 : (op == 20) = false := by simp; omega
        have e21 : (op == 21) = false := by simp; omega
        have e22 : (op == 22) = false := by simp; omega
        have f20 : ¬ op = 20 := fun e => hop (.inl e)
        have f21 : ¬ op = 21 := fun e => hop (.inr (.inl e))
        have f22 : ¬ op = 22 := fun e => hop (.inr (.inr e))
        have g20 : (op != 20) = true := by simpa using f20
        have g21 : (op != 21) = true := by simpa using f21
        have g22 : (op != 22) = true := by simpa using f22
        clear hns hop
        skip
        go_wp2_with fail
        go_roundg (n - (k + 1))
        case measure => omega
        case rel => exact ⟨k + 1, rfl, by go_num, by omega, HB3, HO3⟩
    · obtain rfl : k = n := by omega
      go_wp2_with fail
      refine (live_any _ (HT.out.below HB.out) (J.Tab.below HJ.out HB.out)).mono ?_
      rintro e y2 ⟨rfl, hb⟩
      have HB2 : Hid _ := hb
      clear hb
      go_wp2_with fail
      go_ret
      exact ⟨rfl, HB.out.trans (HB2.out.mono HB.out.size)⟩

end Go.Proofs.YtgjingleolhkbaaGreatDoor
