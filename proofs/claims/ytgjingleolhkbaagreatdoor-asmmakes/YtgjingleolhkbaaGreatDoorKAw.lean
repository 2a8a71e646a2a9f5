/- What comes out may be an object: the mathematics. -/
import Derived.Test.YtgjingleolhkbaaGreatDoorKAv
import Derived.Test.YtgjingleolhkbaaGreatDoorKAe
import Derived.Deep.CutRange
import Derived.Test.YtgjingleolhkbaaGreatDoorProg
import Derived.Test.YtgjingleolhkbaaGreatDoorKAd
import Derived.WalkKit
import Derived.WalkSpells
import Derived.WalkLawsBesides
import Derived.Test.YtgjingleolhkbaaGreatDoorKAu
namespace Go.Proofs.YtgjingleolhkbaaGreatDoor
namespace Z
open Go.RowKit
set_option linter.unusedVariables false
set_option linter.unusedSimpArgs false

theorem beg_mono (ops : List Int) : ∀ {i j : Nat}, i ≤ j → beg ops i ≤ beg ops j := by
  intro i j h
  induction j with
  | zero => obtain rfl : i = 0 := by omega
            exact Int.le_refl _
  | succ j ih =>
    by_cases e : i = j + 1
    · subst e; exact Int.le_refl _
    · have h1 := ih (by omega)
      by_cases hj : j < ops.length
      · rw [beg_succ ops hj]
        have := sz_range (ops.getD j 0)
        omega
      · have e2 : beg ops (j + 1) = beg ops j := by unfold beg; rw [List.take_of_length_le (by omega), List.take_of_length_le (by omega)]
        rw [e2]; exact h1
theorem name_ok {l : X.By} (h : X.name l = true) : O.nameOk (X.str l) = true := by
  unfold X.name at h
  simp only [Bool.and_eq_true, decide_eq_true_eq] at h
  unfold O.nameOk
  rw [str_size, decide_eq_true h.1, decide_eq_true h.2.1]
  rfl
theorem free_old {rs : List O.Rel} {r : O.Rel} {i : Nat} (hi : i < rs.length) : O.freeAt (rs ++ [r]) i = O.freeAt rs i ∧ (rs ++ [r]).getD i O.noRel = rs.getD i O.noRel := by
  have g : ∀ j, j < rs.length → (rs ++ [r]).getD j O.noRel = rs.getD j O.noRel := fun j hj => by
    simp only [List.getD]
    rw [List.getElem?_append_left hj]
  refine ⟨?_, g i hi⟩
  unfold O.freeAt
  split
  · rfl
  · rw [g _ (by omega)]
theorem free_new {rs : List O.Rel} {r : O.Rel} : O.freeAt (rs ++ [r]) rs.length = (if rs.length = 0 then 0 else (rs.getD (rs.length - 1) O.noRel).pos + 4) ∧ (rs ++ [r]).getD rs.length O.noRel = r := by
  refine ⟨?_, by simp [List.getD]⟩
  unfold O.freeAt
  split
  · rfl
  · simp only [List.getD]
    rw [List.getElem?_append_left (by omega)]
/-- What the object is, after so many items. -/
structure OM (ts : List X.It) (k : Nat) (s : O.ObjD) : Prop where
  c : (s.code.size : Int) = beg (ops ts) k
  d : s.data.length = wordsN (ts.take k)
  df : ∀ n ∈ s.data, X.fits n
  sl : s.syms.map (·.name) = ((ts.take k).filter isSym).map fun t => X.str t.name
  sk : ∀ x ∈ s.syms, O.nameOk x.name = true ∧ 0 ≤ x.pos ∧ ((x.kind = 2 ∧ x.pos < s.data.length) ∨ ((x.kind = 1 ∨ x.kind = 3) ∧ x.pos < tot (ops ts)))
  rl : s.rels.length = opensN ts (ts.take k)
  rk : ∀ i, i < s.rels.length → O.freeAt s.rels i ≤ (s.rels.getD i O.noRel).pos ∧ (s.rels.getD i O.noRel).pos + 4 ≤ s.code.size ∧ O.nameOk (s.rels.getD i O.noRel).name = true ∧ O.addOk (s.rels.getD i O.noRel).kind (s.rels.getD i O.noRel).add = true
theorem zero_op {t : X.It} (h : X.zeroIns t = true) : t.op = 0 ∧ op0 t = 0 ∧ ∀ ts, isOpen ts t = false := by
  unfold X.zeroIns at h
  simp only [decide_eq_true_eq] at h
  refine ⟨h.1, ?_, fun ts => ?_⟩
  · unfold op0 jump shortOf
    rw [h.1]
    rfl
  · unfold isOpen
    rw [h.1]
    rfl
theorem beg_zero_op {ts : List X.It} {k : Nat} (hk : k < ts.length) (h : X.zeroIns (ts.getD k X.noIt) = true) : beg (ops ts) (k + 1) = beg (ops ts) k := by
  obtain ⟨h1, h2, -⟩ := zero_op h
  have ho : (ops ts).getD k 0 = 0 := by
    rcases own_ops ts k hk with e | e
    · rw [e, h1]
    · rw [e, h2]
  rw [beg_succ _ (by rw [ops_len]; exact hk), ho]
  have : sz 0 = 0 := by decide
  omega
theorem place_range {ts : List X.It} {t : X.It} (h0 : 0 < ts.length) (hs : standAt ts t = true) (hsh : shown t = true) : 0 ≤ placeOf ts (ops ts) t.name ∧ placeOf ts (ops ts) t.name < tot (ops ts) := by
  have hlt := labN_lt t.name h0
  have e : placeOf ts (ops ts) t.name = beg (ops ts) (labN ts t.name) := by
    unfold placeOf
    rw [ats_at _ (by rw [ops_len]; exact hlt)]
  have hne : placeOf ts (ops ts) t.name ≠ tot (ops ts) := by
    unfold standAt at hs
    rw [hsh] at hs
    simpa using hs
  have h1 := beg_range (ops ts) (labN ts t.name)
  have h2 : beg (ops ts) (labN ts t.name) ≤ tot (ops ts) := beg_mono _ (by rw [ops_len]; omega)
  rw [e] at hne ⊢
  omega
theorem om_step {ts : List X.It} (hl : ts.length ≤ 20000) (hok : ∀ t ∈ ts, X.itOk t = true) (hfit : ∀ t ∈ ts, X.fitsIt t) (hso : symsOk ts = true) {k : Nat} {s : O.ObjD} (hk : k < ts.length) (h : OM ts k s) : OM ts (k + 1) (stepO ts (ops ts) s k) := by
  have hm : ts.getD k X.noIt ∈ ts := by simp [List.getD, hk]
  have hget : ts[k]? = some (ts.getD k X.noIt) := by simp [List.getD, hk]
  have htk := take_snoc hget
  have hst : standAt ts (ts.getD k X.noIt) = true := List.all_eq_true.1 hso _ hm
  have hcase := X.itOk_cases (hok _ hm)
  have hf := hfit _ hm
  have hz := fun hh => beg_zero_op hk hh
  have hcode := fun hh => code_ok hl hok hfit hk hh
  have hown := own_ops ts k hk
  unfold stepO
  rcases hcase with ⟨hkd, hins, hw⟩ | ⟨hkd, hn, hw, hw2, hzi⟩ | ⟨hkd, hn, hw, hzi⟩
  · -- an instruction
    obtain ⟨c1, c2, c3, c4⟩ := hcode hkd
    have hsz := enc_size ⟨c1, c2⟩ c3 c4
    have hbeg : beg (ops ts) (k + 1) = beg (ops ts) k + sz ((ops ts).getD k 0) := beg_succ _ (by rw [ops_len]; exact hk)
    have hsize : ((s.code ++ strOfNums (codeV ts (ops ts) k)).size : Int) = beg (ops ts) (k + 1) := by
      rw [ByteArray.size_append, strOf_size, hbeg, ← hsz, ← h.c]
      unfold codeV
      omega
    have hns : isSym (ts.getD k X.noIt) = false := by unfold isSym shown; rw [hkd]; rfl
    rw [if_pos hkd]
    generalize s.code ++ strOfNums (codeV ts (ops ts) k) = cd at *
    generalize hgt : ts.getD k X.noIt = t at *
    have hle : (s.code.size : Int) ≤ cd.size := by rw [hsize, hbeg, h.c]; have := sz_range ((ops ts).getD k 0); omega
    refine ⟨hsize, ?_, h.df, ?_, h.sk, ?_, ?_⟩
    · rw [htk, wordsN_snoc, hw, h.d]; rfl
    · rw [htk, List.filter_append]; simp [hns, h.sl]
    · rw [htk]
      by_cases ho : isOpen ts t = true
      · rw [opensN_yes ho, if_pos ho, List.length_append, h.rl]; rfl
      · rw [opensN_no (by simpa using ho), if_neg ho, h.rl]
    · by_cases ho : isOpen ts t = true
      · simp only [if_pos ho]
        obtain ⟨o0, o1, hrow, hnm, hnm2, -, -, -, -, -, hno⟩ := X.insOk_split hins
        have hop : t.op = 19 ∨ t.op = 23 := by
          unfold isOpen at ho
          simp only [Bool.or_eq_true, Bool.and_eq_true, decide_eq_true_eq] at ho
          omega
        have hj : jump t = false := by
          cases hq : jump t with
          | false => rfl
          | true => have := (jump_iff t).1 hq; omega
        have hoo : (ops ts).getD k 0 = t.op := by
          rcases hown with e | e
          · exact e
          · rw [e]; unfold op0; rw [hj]; rfl
        have hs5 : 5 ≤ sz ((ops ts).getD k 0) := by
          rw [hoo]
          rcases hop with e | e <;> rw [e] <;> decide
        have hne : t.name ≠ [] := by
          have hh : X.has (X.row t.op.toNat).2 64 = true := by
            rcases hop with e | e <;> rw [e] <;> decide
          rw [hnm] at hh
          simpa using hh
        have hnk : X.name t.name = true := by rcases hnm2 with e | e; exact absurd e hne; exact e
        have hadd : O.addOk (relOf t ((cd.size : Int) - 4)).kind (relOf t ((cd.size : Int) - 4)).add = true ∧ (relOf t ((cd.size : Int) - 4)).pos = (cd.size : Int) - 4 ∧ (relOf t ((cd.size : Int) - 4)).name = X.str t.name := by
          unfold relOf
          by_cases e19 : t.op = 19
          · rw [if_pos e19]
            unfold X.numOk at hno
            rw [e19] at hno
            simp at hno
            exact ⟨by unfold O.addOk; simp; omega, rfl, rfl⟩
          · rw [if_neg e19]
            exact ⟨by unfold O.addOk; simp, rfl, rfl⟩
        intro i hi
        rw [List.length_append, List.length_singleton] at hi
        by_cases hio : i < s.rels.length
        · obtain ⟨g1, g2⟩ := free_old (r := relOf t ((cd.size : Int) - 4)) hio
          rw [g1, g2]
          obtain ⟨a1, a2, a3, a4⟩ := h.rk i hio
          exact ⟨a1, by omega, a3, a4⟩
        · obtain rfl : i = s.rels.length := by omega
          obtain ⟨g1, g2⟩ := free_new (rs := s.rels) (r := relOf t ((cd.size : Int) - 4))
          rw [g1, g2]
          refine ⟨?_, by rw [hadd.2.1]; omega, by rw [hadd.2.2]; exact name_ok hnk, hadd.1⟩
          rw [hadd.2.1]
          have hgr : (s.code.size : Int) + 5 ≤ cd.size := by rw [hsize, hbeg, h.c]; omega
          split
          · omega
          · have := (h.rk (s.rels.length - 1) (by omega)).2.1
            omega
      · simp only [if_neg ho]
        intro i hi
        obtain ⟨a1, a2, a3, a4⟩ := h.rk i hi
        exact ⟨a1, by omega, a3, a4⟩
  · -- words
    rw [if_neg (by omega), if_pos hkd]
    have hbeg := hz hzi
    have hys : isSym (ts.getD k X.noIt) = true := by unfold isSym; rw [hkd]; rfl
    obtain ⟨-, -, hopn⟩ := zero_op hzi
    have hno := hopn ts
    generalize ts.getD k X.noIt = t at *
    have hlen : 1 ≤ t.words.length := List.length_pos_iff.2 hw
    refine ⟨by rw [hbeg]; exact h.c, ?_, ?_, ?_, ?_, ?_, h.rk⟩
    · rw [htk, wordsN_snoc, List.length_append, h.d]
    · intro n hn'
      rcases List.mem_append.1 hn' with hn' | hn'
      · exact h.df n hn'
      · exact hf.2 n hn'
    · rw [htk, List.filter_append, List.map_append, List.map_append, h.sl]; simp [hys]
    · intro x hx
      rcases List.mem_append.1 hx with hx | hx
      · obtain ⟨b1, b2, b3⟩ := h.sk x hx
        refine ⟨b1, b2, b3.imp (fun e => ⟨e.1, ?_⟩) id⟩
        simp only [List.length_append]
        omega
      · simp at hx
        subst hx
        refine ⟨name_ok hn, by simp, .inl ⟨rfl, ?_⟩⟩
        simp only [List.length_append]
        omega
    · rw [htk, opensN_no hno, h.rl]
  · have hbeg := hz hzi
    obtain ⟨-, -, hopn⟩ := zero_op hzi
    have hno := hopn ts
    have hpl := fun hh => place_range (t := ts.getD k X.noIt) (by omega) hst hh
    generalize ts.getD k X.noIt = t at *
    have hwn : wordsN (ts.take (k + 1)) = wordsN (ts.take k) := by rw [htk, wordsN_snoc, hw]; rfl
    have hopens : opensN ts (ts.take (k + 1)) = opensN ts (ts.take k) := by rw [htk, opensN_no hno]
    rw [if_neg (by omega), if_neg (by omega)]
    rcases hkd with e | e | e
    · have hns : isSym t = false := by unfold isSym shown; rw [e]; rfl
      rw [if_neg (by omega), if_neg (by omega)]
      exact ⟨by rw [hbeg]; exact h.c, by rw [hwn]; exact h.d, h.df, by rw [htk, List.filter_append]; simp [hns, h.sl], h.sk, by rw [hopens]; exact h.rl, h.rk⟩
    · have hsh : shown t = true := by unfold shown; rw [e]; rfl
      have hys : isSym t = true := by unfold isSym; rw [hsh]; simp
      rw [if_pos e]
      refine ⟨by rw [hbeg]; exact h.c, by rw [hwn]; exact h.d, h.df, ?_, ?_, by rw [hopens]; exact h.rl, h.rk⟩
      · rw [htk, List.filter_append, List.map_append, List.map_append, h.sl]; simp [hys]
      · intro x hx
        rcases List.mem_append.1 hx with hx | hx
        · exact h.sk x hx
        · simp at hx
          subst hx
          exact ⟨name_ok hn, (hpl hsh).1, .inr ⟨.inl rfl, (hpl hsh).2⟩⟩
    · have hsh : shown t = true := by unfold shown; rw [e]; rfl
      have hys : isSym t = true := by unfold isSym; rw [hsh]; simp
      rw [if_neg (by omega), if_pos e]
      refine ⟨by rw [hbeg]; exact h.c, by rw [hwn]; exact h.d, h.df, ?_, ?_, by rw [hopens]; exact h.rl, h.rk⟩
      · rw [htk, List.filter_append, List.map_append, List.map_append, h.sl]; simp [hys]
      · intro x hx
        rcases List.mem_append.1 hx with hx | hx
        · exact h.sk x hx
        · simp at hx
          subst hx
          exact ⟨name_ok hn, (hpl hsh).1, .inr ⟨.inr rfl, (hpl hsh).2⟩⟩
theorem om_all {ts : List X.It} (hl : ts.length ≤ 20000) (hok : ∀ t ∈ ts, X.itOk t = true) (hfit : ∀ t ∈ ts, X.fitsIt t) (hso : symsOk ts = true) : ∀ k, k ≤ ts.length → OM ts k (objTo ts (ops ts) k)
  | 0, _ => ⟨by simp [objTo, noObj, beg_zero]; rfl, by simp [objTo, noObj, wordsN], by simp [objTo, noObj], by simp [objTo, noObj], by simp [objTo, noObj], by simp [objTo, noObj, opensN], by simp [objTo, noObj]⟩
  | k + 1, hk => by
    rw [objTo_succ]
    exact om_step hl hok hfit hso (by omega) (om_all hl hok hfit hso k (by omega))
end Z
end Go.Proofs.YtgjingleolhkbaaGreatDoor

/- What comes out of Assemble may be an object. -/
namespace Go.Proofs.YtgjingleolhkbaaGreatDoor
open Go.RowKit
set_option linter.unusedVariables false
set_option linter.unusedSimpArgs false
namespace Z
theorem wf_i (x : Int) : (Lit.int .i64 x).wf = true ↔ -9223372036854775808 ≤ x ∧ x ≤ 9223372036854775807 := by
  simp [Lit.wf, IntKind.min, IntKind.max, IntKind.signed, IntKind.bits]
theorem str_inj {a b : X.By} (h : X.str a = X.str b) : a = b := by
  have := congrArg (fun s : ByteArray => s.data.toList) h
  simpa [str_list] using this
theorem nms_pair {p : X.It → Bool} {ts : List X.It} (h : unl p ts = true) : ts.Pairwise fun a b => p a = true → p b = true → a.name ≠ b.name := by
  have h1 : (nms p ts).Nodup := of_decide_eq_true h
  unfold nms at h1
  rw [List.Nodup, List.pairwise_map, List.pairwise_filter] at h1
  exact h1
theorem sym_names {ts : List X.It} (hN : nameE ts = 0) : ((ts.filter isSym).map fun t => X.str t.name).Nodup := by
  unfold nameE at hN
  split at hN
  · next hu =>
    obtain ⟨hp, hs⟩ := hu
    have hunk : unk ts = false := by
      cases h : unk ts with
      | false => rfl
      | true => rw [h] at hN; simp at hN
    have pp := nms_pair hp
    have ps := nms_pair hs
    have cross : ∀ a ∈ ts, ∀ b ∈ ts, a.kind = 3 → shown b = true → a.name ≠ b.name := fun a ha b hb hk hsh e => by
      unfold unk at hunk
      rw [List.any_eq_false] at hunk
      have h1 := hunk b hb
      rw [hsh, Bool.true_or, Bool.true_and] at h1
      cases hl : lab ts b.name with
      | none => rw [hl] at h1; simp at h1
      | some i =>
        obtain ⟨hi, hlab⟩ := lab_some hl
        obtain ⟨j, hj, hja⟩ := List.getElem_of_mem ha
        have hgi : ts.getD i X.noIt = ts[i] := by simp [List.getD, hi]
        rw [hgi] at hlab
        simp only [isLab, Bool.and_eq_true, decide_eq_true_eq] at hlab
        have hij : i ≠ j := fun e2 => by
          subst e2
          rw [hja] at hlab
          omega
        rw [List.pairwise_iff_getElem] at pp
        have p1 : place ts[i] = true := by unfold place; rw [hlab.1]; rfl
        have p2 : place ts[j] = true := by unfold place; rw [hja, hk]; rfl
        rcases Nat.lt_or_gt_of_ne hij with h2 | h2
        · exact pp i j hi hj h2 p1 p2 (by rw [hlab.2, hja, e])
        · exact pp j i hj hi h2 p2 p1 (by rw [hlab.2, hja, e])
    rw [List.Nodup, List.pairwise_map, List.pairwise_filter]
    have both := List.Pairwise.and pp ps
    refine List.Pairwise.imp_of_mem ?_ both
    intro a b ha hb hh sa sb e
    have e' := str_inj e
    unfold isSym at sa sb
    simp only [Bool.or_eq_true, decide_eq_true_eq] at sa sb
    rcases sa with sa | sa
    · rcases sb with sb | sb
      · exact hh.1 (by unfold place; rw [sa]; rfl) (by unfold place; rw [sb]; rfl) e'
      · exact cross a ha b hb sa sb e'
    · rcases sb with sb | sb
      · exact cross b hb a ha sb sa e'.symm
      · exact hh.2 sa sb e'
  · omega
theorem obj_may {ts : List X.It} (hl : ts.length ≤ 20000) (hok : ∀ t ∈ ts, X.itOk t = true) (hfit : ∀ t ∈ ts, X.fitsIt t) (hN : nameE ts = 0) (hF : fits ts = true) (hS : symsOk ts = true) : (obj ts).may = true ∧ OFit (obj ts) := by
  have h := om_all hl hok hfit hS ts.length (Nat.le_refl _)
  unfold fits at hF
  simp only [Bool.and_eq_true, decide_eq_true_eq] at hF
  obtain ⟨f1, f2, f3, f4⟩ := hF
  have hnd := sym_names hN
  have e : objTo ts (ops ts) ts.length = obj ts := rfl
  rw [e] at h
  generalize obj ts = o at *
  have hc : (o.code.size : Int) = tot (ops ts) := by rw [h.c]; unfold tot; rw [ops_len]
  have hd : o.data.length = wordsN ts := by rw [h.d, List.take_length]
  have hsl : o.syms.map (·.name) = (ts.filter isSym).map fun t => X.str t.name := by rw [h.sl, List.take_length]
  have hsn : o.syms.length = symsN ts := by
    have := congrArg List.length hsl
    rw [List.length_map, List.length_map] at this
    exact this
  have hrn : o.rels.length = opensN ts ts := by rw [h.rl, List.take_length]
  rw [← hsl] at hnd
  have hpos : ∀ i, i < o.rels.length → 0 ≤ (o.rels.getD i O.noRel).pos := by
    intro i
    induction i with
    | zero => intro hi; have := (h.rk 0 hi).1; unfold O.freeAt at this; simpa using this
    | succ i ih =>
      intro hi
      have h1 := (h.rk (i + 1) hi).1
      unfold O.freeAt at h1
      rw [if_neg (by omega), Nat.add_sub_cancel] at h1
      have := ih (by omega)
      omega
  constructor
  · unfold O.ObjD.may O.symsOk O.relsOk
    rw [decide_eq_true (show o.code.size ≤ 65536 by omega), decide_eq_true (show o.data.length ≤ 4096 by omega), decide_eq_true (show o.syms.length ≤ 1000 by omega), decide_eq_true (show o.rels.length ≤ 8000 by omega)]
    simp only [Bool.true_and]
    refine Bool.and_eq_true_iff.2 ⟨O.all_range_yes fun i hi => ?_, O.all_range_yes fun i hi => ?_⟩
    · unfold O.symAt
      refine Bool.and_eq_true_iff.2 ⟨O.all_range_yes fun j hj => ?_, ?_⟩
      · refine decide_eq_true fun e2 => ?_
        rw [List.Nodup, List.pairwise_map, List.pairwise_iff_getElem] at hnd
        refine hnd j i (by omega) hi hj ?_
        simpa [List.getD, hi, show j < o.syms.length by omega] using e2
      · have hm : o.syms.getD i O.noSym ∈ o.syms := by simp [List.getD, hi]
        obtain ⟨b1, b2, b3⟩ := h.sk _ hm
        unfold O.symOk
        rw [b1, decide_eq_true b2, Bool.true_and, Bool.true_and]
        refine decide_eq_true ?_
        unfold O.roomOf
        rcases b3 with ⟨e2, e3⟩ | ⟨e2, e3⟩
        · rw [if_neg (by omega), if_pos e2]; exact e3
        · rw [if_pos e2, hc]; exact e3
    · obtain ⟨a1, a2, a3, a4⟩ := h.rk i hi
      unfold O.relOk
      rw [decide_eq_true a1, a3, a4, decide_eq_true (show (o.rels.getD i O.noRel).pos ≤ (o.code.size : Int) - 4 by omega)]
      rfl
  · refine ⟨by unfold maxLen; omega, fun n hn => (wf_i n).2 (h.df n hn), fun x hx => ?_, fun x hx => ?_⟩
    · obtain ⟨b1, b2, b3⟩ := h.sk x hx
      unfold O.nameOk at b1
      simp only [Bool.and_eq_true, decide_eq_true_eq] at b1
      refine ⟨by unfold maxLen; omega, (wf_i _).2 (by omega), (wf_i _).2 ?_⟩
      rcases b3 with ⟨e2, e3⟩ | ⟨e2, e3⟩ <;> omega
    · obtain ⟨i, hi, rfl⟩ := List.getElem_of_mem hx
      have hg : o.rels.getD i O.noRel = o.rels[i] := by simp [List.getD, hi]
      obtain ⟨a1, a2, a3, a4⟩ := h.rk i hi
      have hp := hpos i hi
      rw [hg] at a1 a2 a3 a4 hp
      unfold O.nameOk at a3
      simp only [Bool.and_eq_true, decide_eq_true_eq] at a3
      unfold O.addOk at a4
      refine ⟨by unfold maxLen; omega, (wf_i _).2 ?_, (wf_i _).2 (by omega), (wf_i _).2 ?_⟩
      · split at a4
        · omega
        · split at a4
          · omega
          · cases a4
      · split at a4
        · simp at a4; omega
        · split at a4
          · simp at a4; omega
          · cases a4
theorem asm_may {ts : List X.It} (hfit : ∀ t ∈ ts, X.fitsIt t) : OFit (asm ts).1 ∧ ((asm ts).2 = 0 → (asm ts).1.may = true) ∧ ((asm ts).2 ≠ 0 → (asm ts).1 = noObj) := by
  unfold asm
  split
  · next hok =>
    obtain ⟨hl, hok⟩ := X.itsOk_iff.1 hok
    split
    · next hN =>
      split
      · next hF =>
        split
        · next hS =>
          obtain ⟨h1, h2⟩ := obj_may hl hok hfit hN hF hS
          exact ⟨h2, fun _ => h1, fun h => absurd rfl h⟩
        · exact ⟨OFit.no, (fun h => by simp at h), fun _ => rfl⟩
      · exact ⟨OFit.no, (fun h => by simp at h), fun _ => rfl⟩
    · next hN => exact ⟨OFit.no, fun h => absurd h hN, fun _ => rfl⟩
  · exact ⟨OFit.no, (fun h => by simp at h), fun _ => rfl⟩
end Z

end Go.Proofs.YtgjingleolhkbaaGreatDoor

/- The document's assembler: what is wrong with names. (Written by gen_rnames.py.) -/
namespace Go.Proofs.YtgjingleolhkbaaGreatDoor
open Go.RowKit Go.Maps
set_option linter.unusedVariables false
set_option linter.unusedSimpArgs false
namespace Z
def dup (a b : X.It) : Bool := decide (a.name = b.name) && ((place a && place b) || (shown a && shown b))
theorem dup_no {ts : List X.It} (h : ∀ i j, j < i → i < ts.length → dup (ts.getD i X.noIt) (ts.getD j X.noIt) = false) : unl place ts = true ∧ unl shown ts = true := by
  have key : ∀ p : X.It → Bool, (∀ a b, p a = true → p b = true → a.name = b.name → dup a b = true) → unl p ts = true := fun p hp => by
    unfold unl
    refine decide_eq_true ?_
    unfold nms
    rw [List.Nodup, List.pairwise_map, List.pairwise_filter, List.pairwise_iff_getElem]
    intro i j hi hj hij pi pj e
    have := h j i hij hj
    rw [show ts.getD j X.noIt = ts[j] by simp [List.getD, hj], show ts.getD i X.noIt = ts[i] by simp [List.getD, hi], hp _ _ pj pi e.symm] at this
    cases this
  refine ⟨key place fun a b ha hb e => ?_, key shown fun a b ha hb e => ?_⟩
  · unfold dup; rw [decide_eq_true e, ha, hb]; rfl
  · unfold dup; rw [decide_eq_true e, ha, hb]; simp
theorem dup_yes {ts : List X.It} {i j : Nat} (hj : j < i) (hi : i < ts.length) (h : dup (ts.getD i X.noIt) (ts.getD j X.noIt) = true) : nameE ts = 5 := by
  have hjl : j < ts.length := by omega
  rw [show ts.getD j X.noIt = ts[j] by simp [List.getD, hjl], show ts.getD i X.noIt = ts[i] by simp [List.getD, hi]] at h
  unfold dup at h
  simp only [Bool.and_eq_true, decide_eq_true_eq, Bool.or_eq_true] at h
  have key : ∀ p : X.It → Bool, p ts[i] = true → p ts[j] = true → ¬ unl p ts = true := fun p hpi hpj hu => by
    have h1 := nms_pair hu
    rw [List.pairwise_iff_getElem] at h1
    exact h1 j i hjl hi hj hpj hpi h.1.symm
  unfold nameE
  rw [if_neg]
  rintro ⟨h1, h2⟩
  rcases h.2 with ⟨a, b⟩ | ⟨a, b⟩
  · exact key place a b h1
  · exact key shown a b h2
/-- What the document asks a label for. -/
def asks (t : X.It) : Bool := jumpD t || shown t
theorem jump_ok {t : X.It} (h : X.itOk t = true) : jumpD t = jump t := by
  unfold jumpD
  rcases X.itOk_cases h with ⟨hk, -⟩ | ⟨-, -, -, -, hz⟩ | ⟨-, -, -, hz⟩
  · rw [hk]; rfl
  · unfold X.zeroIns at hz; simp only [decide_eq_true_eq] at hz
    have : jump t = false := by unfold jump shortOf; rw [hz.1]; rfl
    rw [this, Bool.and_false]
  · unfold X.zeroIns at hz; simp only [decide_eq_true_eq] at hz
    have : jump t = false := by unfold jump shortOf; rw [hz.1]; rfl
    rw [this, Bool.and_false]
theorem unk_no {ts : List X.It} (hok : ∀ t ∈ ts, X.itOk t = true) (h : ∀ i, i < ts.length → asks (ts.getD i X.noIt) = true → (lab ts (ts.getD i X.noIt).name).isSome = true) : unk ts = false := by
  unfold unk
  rw [List.any_eq_false]
  intro t ht
  obtain ⟨i, hi, rfl⟩ := List.getElem_of_mem ht
  have h1 := h i hi
  rw [show ts.getD i X.noIt = ts[i] by simp [List.getD, hi]] at h1
  unfold asks at h1
  rw [jump_ok (hok _ ht), Bool.or_comm] at h1
  intro h2
  rw [Bool.and_eq_true] at h2
  have h3 := h1 h2.1
  cases hh : lab ts ts[i].name with
  | none => rw [hh] at h3; cases h3
  | some x => rw [hh] at h2; simp at h2
theorem unk_yes {ts : List X.It} (hok : ∀ t ∈ ts, X.itOk t = true) {i : Nat} (hi : i < ts.length) (ha : asks (ts.getD i X.noIt) = true) (hn : lab ts (ts.getD i X.noIt).name = none) (h1 : unl place ts = true ∧ unl shown ts = true) : nameE ts = 6 := by
  have hm : ts.getD i X.noIt ∈ ts := by simp [List.getD, hi]
  unfold nameE
  rw [if_pos h1, if_pos]
  unfold unk
  rw [List.any_eq_true]
  refine ⟨_, hm, ?_⟩
  unfold asks at ha
  rw [jump_ok (hok _ hm), Bool.or_comm] at ha
  rw [ha, hn]
  rfl
end Z
set_option maxRecDepth 100000 in
set_option maxHeartbeats 60000000 in
theorem rnames_any {w : World} {a : Option Addr} {l c : Nat} {ts : List X.It} (h : ItsV w a l c ts) (hok : ∀ t ∈ ts, X.itOk t = true) :
    Calls Tryz.prog 29 #[.slice a l c] w fun e w' => e = .returned (.int .i64 (Z.nameE ts)) ∧ Below w.heap.size w w' := by
  have HV : Hid _ := h
  have HC : Hid (ts.length = l) := h.count
  have HOK : Hid (∀ t ∈ ts, X.itOk t = true) := hok
  have hm : l ≤ 9223372036854775807 := by have := h.room; unfold maxLen at this; omega
  clear h hok
  go_enter Tryz.func29, Tryz.ntmps29
  go_wp2_with fail
  go_loopg [3, 4, 5, 6, 7, 8] l (fun r iv z4 z5 z6 z7 z8 wq => ∃ (k : Nat), r = l - k ∧ iv = .int .i64 k ∧ k ≤ l ∧ Hid (Below w.heap.size w wq) ∧ Hid (∀ i j, j < i → i < k → Z.dup (ts.getD i X.noIt) (ts.getD j X.noIt) = false))
  case atStart => exact ⟨0, rfl, rfl, Nat.zero_le _, Below.refl _ _, (fun i j _ hi => by omega : ∀ i j, j < i → i < 0 → _)⟩
  case round =>
    obtain ⟨k, rfl, rfl, hk, HB0, HND⟩ := hrel
    by_cases hlt : k < l
    · have hii : (k : Int) < l := by omega
      have hin : 0 ≤ (k : Int) := by omega
      obtain ⟨t, hg⟩ : ∃ t, ts.getD k X.noIt = t := ⟨_, rfl⟩
      have HGD : Hid (ts.getD k X.noIt = t) := hg
      clear hg
      go_wp2_with fail
      go_loopg [4, 5, 6, 7, 8] k (fun r jv y5 y6 y7 y8 wq => ∃ (j : Nat), r = k - j ∧ jv = .int .i64 j ∧ j ≤ k ∧ Hid (Below w.heap.size w wq) ∧ Hid (∀ j', j' < j → Z.dup t (ts.getD j' X.noIt) = false))
      case atStart => exact ⟨0, rfl, rfl, Nat.zero_le _, HB0.out, (fun j hj => by omega : ∀ j', j' < 0 → _)⟩
      case round =>
        obtain ⟨j, rfl, rfl, hj, HB, HNJ⟩ := hrel
        by_cases hjk : j < k
        · have hji : (j : Int) < k := by omega
          have hjn : 0 ≤ (j : Int) := by omega
          have hjl : (j : Int) < l := by omega
          obtain ⟨b, off, t', awt, lwt, cwt, rfl, hgt, -, c0, c1, -⟩ := (HV.out.below HB.out).at hlt
          obtain rfl : t = t' := HGD.out.symm.trans hgt
          obtain ⟨b', off', tj, awj, lwj, cwj, eb, hgj, -, d0, d1, -⟩ := (HV.out.below HB.out).at (show j < l by omega)
          cases eb
          clear hgt
          have HGJ : Hid (ts.getD j X.noIt = tj) := hgj
          clear hgj
          have HND2 : Hid (Z.dup t tj = false → ∀ j', j' < j + 1 → Z.dup t (ts.getD j' X.noIt) = false) := fun e j' hj' => by
            by_cases e2 : j' = j
            · subst e2; rw [HGJ.out]; exact e
            · exact HNJ.out j' (by omega)
          have HR5' : Hid (Z.dup t tj = true → Z.nameE ts = 5) := fun e => Z.dup_yes hjk (by rw [HC.out]; exact hlt) (by rw [HGD.out, HGJ.out]; exact e)
          go_upto_region 7 with fail
          go_cut [5] from 18 to 101 (fun v wc => v = .bool (Z.place t) ∧ wr = wc)
          case first =>
            by_cases h1 : t.kind = 1
            · have e1 : (t.kind == 1) = true := by simpa using h1
              go_wp2_with fail
              go_meet
              case rel => exact ⟨by simp [Z.place, Z.shown, h1], rfl⟩
            · have e1 : (t.kind == 1) = false := by simpa using h1
              by_cases h2 : t.kind = 3
              · have e2 : (t.kind == 3) = true := by simpa using h2
                go_wp2_with fail
                go_meet
                case rel => exact ⟨by simp [Z.place, Z.shown, h2], rfl⟩
              · have e2 : (t.kind == 3) = false := by simpa using h2
                go_wp2_with fail
                go_meet
                case rel => exact ⟨by simp [Z.place, Z.shown, h1, h2], rfl⟩
          case rest =>
          obtain ⟨rfl, rfl⟩ := hcut
          go_upto_region 8 with fail
          go_cut [6] from 18 to 101 (fun v wc => v = .bool (Z.place tj) ∧ wr = wc)
          case first =>
            by_cases h1 : tj.kind = 1
            · have e1 : (tj.kind == 1) = true := by simpa using h1
              go_wp2_with fail
              go_meet
              case rel => exact ⟨by simp [Z.place, Z.shown, h1], rfl⟩
            · have e1 : (tj.kind == 1) = false := by simpa using h1
              by_cases h2 : tj.kind = 3
              · have e2 : (tj.kind == 3) = true := by simpa using h2
                go_wp2_with fail
                go_meet
                case rel => exact ⟨by simp [Z.place, Z.shown, h2], rfl⟩
              · have e2 : (tj.kind == 3) = false := by simpa using h2
                go_wp2_with fail
                go_meet
                case rel => exact ⟨by simp [Z.place, Z.shown, h1, h2], rfl⟩
          case rest =>
          obtain ⟨rfl, rfl⟩ := hcut
          go_upto_region 9 with fail
          go_cut [7] from 18 to 101 (fun v wc => v = .bool (Z.shown t) ∧ wr = wc)
          case first =>
            by_cases h1 : t.kind = 4
            · have e1 : (t.kind == 4) = true := by simpa using h1
              go_wp2_with fail
              go_meet
              case rel => exact ⟨by simp [Z.place, Z.shown, h1], rfl⟩
            · have e1 : (t.kind == 4) = false := by simpa using h1
              by_cases h2 : t.kind = 5
              · have e2 : (t.kind == 5) = true := by simpa using h2
                go_wp2_with fail
                go_meet
                case rel => exact ⟨by simp [Z.place, Z.shown, h2], rfl⟩
              · have e2 : (t.kind == 5) = false := by simpa using h2
                go_wp2_with fail
                go_meet
                case rel => exact ⟨by simp [Z.place, Z.shown, h1, h2], rfl⟩
          case rest =>
          obtain ⟨rfl, rfl⟩ := hcut
          go_upto_region 10 with fail
          go_cut [8] from 18 to 101 (fun v wc => v = .bool (Z.shown tj) ∧ wr = wc)
          case first =>
            by_cases h1 : tj.kind = 4
            · have e1 : (tj.kind == 4) = true := by simpa using h1
              go_wp2_with fail
              go_meet
              case rel => exact ⟨by simp [Z.place, Z.shown, h1], rfl⟩
            · have e1 : (tj.kind == 4) = false := by simpa using h1
              by_cases h2 : tj.kind = 5
              · have e2 : (tj.kind == 5) = true := by simpa using h2
                go_wp2_with fail
                go_meet
                case rel => exact ⟨by simp [Z.place, Z.shown, h2], rfl⟩
              · have e2 : (tj.kind == 5) = false := by simpa using h2
                go_wp2_with fail
                go_meet
                case rel => exact ⟨by simp [Z.place, Z.shown, h1, h2], rfl⟩
          case rest =>
          obtain ⟨rfl, rfl⟩ := hcut
          have HDU : Hid (Z.dup t tj = (decide (t.name = tj.name) && ((Z.place t && Z.place tj) || (Z.shown t && Z.shown tj)))) := rfl
          generalize Z.place t = pa at *
          generalize Z.place tj = pb at *
          generalize Z.shown t = pc at *
          generalize Z.shown tj = pd at *
          by_cases hn : t.name = tj.name
          · have hne : ((X.str t.name).toList == (X.str tj.name).toList) = true := by rw [hn]; simp
            rw [decide_eq_true hn, Bool.true_and] at HDU
            clear hn
            cases pa <;> cases pb <;> cases pc <;> cases pd
            · replace HND2 : Hid (∀ j', j' < j + 1 → Z.dup t (ts.getD j' X.noIt) = false) := HND2.out HDU.out
              go_wp2_with fail
              go_quiet (fail)
              go_wp2_with fail
              go_roundg (k - (j + 1))
              case measure => omega
              case rel => exact ⟨j + 1, rfl, by go_num, by omega, bl_drewN HB.out _, HND2⟩
            · replace HND2 : Hid (∀ j', j' < j + 1 → Z.dup t (ts.getD j' X.noIt) = false) := HND2.out HDU.out
              go_wp2_with fail
              go_quiet (fail)
              go_wp2_with fail
              go_roundg (k - (j + 1))
              case measure => omega
              case rel => exact ⟨j + 1, rfl, by go_num, by omega, bl_drewN HB.out _, HND2⟩
            · replace HND2 : Hid (∀ j', j' < j + 1 → Z.dup t (ts.getD j' X.noIt) = false) := HND2.out HDU.out
              go_wp2_with fail
              go_quiet (fail)
              go_wp2_with fail
              go_roundg (k - (j + 1))
              case measure => omega
              case rel => exact ⟨j + 1, rfl, by go_num, by omega, bl_drewN HB.out _, HND2⟩
            · have HR5 : Hid (Z.nameE ts = 5) := HR5'.out HDU.out
              go_wp2_with fail
              go_quiet (fail)
              go_wp2_with fail
              go_ret
              exact ⟨by rw [HR5.out]; rfl, bl_drewN HB.out _⟩
            · replace HND2 : Hid (∀ j', j' < j + 1 → Z.dup t (ts.getD j' X.noIt) = false) := HND2.out HDU.out
              go_wp2_with fail
              go_quiet (fail)
              go_wp2_with fail
              go_roundg (k - (j + 1))
              case measure => omega
              case rel => exact ⟨j + 1, rfl, by go_num, by omega, bl_drewN HB.out _, HND2⟩
            · replace HND2 : Hid (∀ j', j' < j + 1 → Z.dup t (ts.getD j' X.noIt) = false) := HND2.out HDU.out
              go_wp2_with fail
              go_quiet (fail)
              go_wp2_with fail
              go_roundg (k - (j + 1))
              case measure => omega
              case rel => exact ⟨j + 1, rfl, by go_num, by omega, bl_drewN HB.out _, HND2⟩
            · replace HND2 : Hid (∀ j', j' < j + 1 → Z.dup t (ts.getD j' X.noIt) = false) := HND2.out HDU.out
              go_wp2_with fail
              go_quiet (fail)
              go_wp2_with fail
              go_roundg (k - (j + 1))
              case measure => omega
              case rel => exact ⟨j + 1, rfl, by go_num, by omega, bl_drewN HB.out _, HND2⟩
            · have HR5 : Hid (Z.nameE ts = 5) := HR5'.out HDU.out
              go_wp2_with fail
              go_quiet (fail)
              go_wp2_with fail
              go_ret
              exact ⟨by rw [HR5.out]; rfl, bl_drewN HB.out _⟩
            · replace HND2 : Hid (∀ j', j' < j + 1 → Z.dup t (ts.getD j' X.noIt) = false) := HND2.out HDU.out
              go_wp2_with fail
              go_quiet (fail)
              go_wp2_with fail
              go_roundg (k - (j + 1))
              case measure => omega
              case rel => exact ⟨j + 1, rfl, by go_num, by omega, bl_drewN HB.out _, HND2⟩
            · replace HND2 : Hid (∀ j', j' < j + 1 → Z.dup t (ts.getD j' X.noIt) = false) := HND2.out HDU.out
              go_wp2_with fail
              go_quiet (fail)
              go_wp2_with fail
              go_roundg (k - (j + 1))
              case measure => omega
              case rel => exact ⟨j + 1, rfl, by go_num, by omega, bl_drewN HB.out _, HND2⟩
            · replace HND2 : Hid (∀ j', j' < j + 1 → Z.dup t (ts.getD j' X.noIt) = false) := HND2.out HDU.out
              go_wp2_with fail
              go_quiet (fail)
              go_wp2_with fail
              go_roundg (k - (j + 1))
              case measure => omega
              case rel => exact ⟨j + 1, rfl, by go_num, by omega, bl_drewN HB.out _, HND2⟩
            · have HR5 : Hid (Z.nameE ts = 5) := HR5'.out HDU.out
              go_wp2_with fail
              go_quiet (fail)
              go_wp2_with fail
              go_ret
              exact ⟨by rw [HR5.out]; rfl, bl_drewN HB.out _⟩
            · have HR5 : Hid (Z.nameE ts = 5) := HR5'.out HDU.out
              go_wp2_with fail
              go_quiet (fail)
              go_wp2_with fail
              go_ret
              exact ⟨by rw [HR5.out]; rfl, bl_drewN HB.out _⟩
            · have HR5 : Hid (Z.nameE ts = 5) := HR5'.out HDU.out
              go_wp2_with fail
              go_quiet (fail)
              go_wp2_with fail
              go_ret
              exact ⟨by rw [HR5.out]; rfl, bl_drewN HB.out _⟩
            · have HR5 : Hid (Z.nameE ts = 5) := HR5'.out HDU.out
              go_wp2_with fail
              go_quiet (fail)
              go_wp2_with fail
              go_ret
              exact ⟨by rw [HR5.out]; rfl, bl_drewN HB.out _⟩
            · have HR5 : Hid (Z.nameE ts = 5) := HR5'.out HDU.out
              go_wp2_with fail
              go_quiet (fail)
              go_wp2_with fail
              go_ret
              exact ⟨by rw [HR5.out]; rfl, bl_drewN HB.out _⟩
          · have hne : ((X.str t.name).toList == (X.str tj.name).toList) = false := by
              rw [ByteArray.toList_eq, ByteArray.toList_eq, str_list, str_list]
              simpa using hn
            rw [decide_eq_false hn, Bool.false_and] at HDU
            replace HND2 : Hid (∀ j', j' < j + 1 → Z.dup t (ts.getD j' X.noIt) = false) := HND2.out HDU.out
            clear hn
            go_wp2_with fail
            go_quiet (fail)
            go_wp2_with fail
            go_roundg (k - (j + 1))
            case measure => omega
            case rel => exact ⟨j + 1, rfl, by go_num, by omega, bl_drewN HB.out _, HND2⟩
        · obtain rfl : j = k := by omega
          have hji : ¬ (j : Int) < j := by omega
          have HND3 : Hid (∀ i j', j' < i → i < j + 1 → Z.dup (ts.getD i X.noIt) (ts.getD j' X.noIt) = false) := fun i j' h1 h2 => by
            by_cases e : i = j
            · subst e; rw [HGD.out]; exact HNJ.out j' h1
            · exact HND.out i j' h1 (by omega)
          go_wp2_with fail
          go_roundg (l - (j + 1))
          case measure => omega
          case rel => exact ⟨j + 1, rfl, by go_num, by omega, HB, HND3⟩
    · obtain rfl : k = l := by omega
      have hii : ¬ (k : Int) < k := by omega
      have HUL : Hid (Z.unl Z.place ts = true ∧ Z.unl Z.shown ts = true) := Z.dup_no (fun i j h1 h2 => HND.out i j h1 (by rw [← HC.out]; exact h2))
      go_wp2_with fail
      go_loopg [9, 10, 11] k (fun r iv y1 y2 wq => ∃ (m : Nat), r = k - m ∧ iv = .int .i64 m ∧ m ≤ k ∧ Hid (Below w.heap.size w wq) ∧ Hid (∀ i, i < m → Z.asks (ts.getD i X.noIt) = true → (Z.lab ts (ts.getD i X.noIt).name).isSome = true))
      case atStart => exact ⟨0, rfl, rfl, Nat.zero_le _, HB0.out, (fun i hi => by omega : ∀ i, i < 0 → _)⟩
      case round =>
        obtain ⟨m, rfl, rfl, hm2, HB, HLA⟩ := hrel
        by_cases hmk : m < k
        · have hii : (m : Int) < k := by omega
          have hin : 0 ≤ (m : Int) := by omega
          obtain ⟨b, off, t, aw, lw, cw, rfl, hg, hmem, c0, c1, c2, c3, c4, c5, c6, hi⟩ := (HV.out.below HB.out).at hmk
          have HGD : Hid (ts.getD m X.noIt = t) := hg
          have hjm := rjump_any t aw lw cw wr
          have HAS : Hid (Z.asks t = (Z.jumpD t || (decide (t.kind = 4) || decide (t.kind = 5)))) := rfl
          have HNX : Hid ((Z.asks t = true → (Z.lab ts t.name).isSome = true) → ∀ i, i < m + 1 → Z.asks (ts.getD i X.noIt) = true → (Z.lab ts (ts.getD i X.noIt).name).isSome = true) := fun e i hi => by
            by_cases e2 : i = m
            · subst e2; rw [HGD.out]; exact e
            · exact HLA.out i (by omega)
          have HUN : Hid (Z.asks t = true → Z.lab ts t.name = none → Z.nameE ts = 6) := fun e1 e2 => Z.unk_yes HOK.out (i := m) (by rw [HC.out]; exact hmk) (by rw [HGD.out]; exact e1) (by rw [HGD.out]; exact e2) HUL.out
          have HK : Hid (∀ y, Below wr.heap.size wr y → y.cell? ⟨b, off + m * 7, none⟩ = some (.int .i64 t.kind) ∧ y.cell? ⟨b, off + m * 7 + 1, none⟩ = some (.string (X.str t.name))) := fun y hy => ⟨cell_thru hy c0, cell_thru hy c1⟩
          have HLB : Hid (∀ y, Below wr.heap.size wr y → Calls Tryz.prog 33 #[.slice (some ⟨b, off, none⟩) k c, .string (X.str t.name)] y fun e w' => e = .returned (.tuple #[.int .i64 (Z.labN ts t.name), .bool (Z.lab ts t.name).isSome]) ∧ Below y.heap.size y w') := fun y hy => rlabel_any ((HV.out.below HB.out).below hy) t.name
          clear hg hmem hi
          go_upto_region 16 with fail
          go_cut [128] from 102 to 140 (fun v wc => v = .bool (Z.asks t) ∧ Hid (Below wr.heap.size wr wc))
          case first =>
            cases hjd : Z.jumpD t with
            | true =>
              rw [hjd] at hjm HAS
              go_wp2_with fail
              refine hjm.mono ?_
              rintro e y ⟨rfl, hy⟩
              go_wp2_with fail
              go_meet
              case rel => exact ⟨by rw [HAS.out]; rfl, hy⟩
            | false =>
              rw [hjd] at hjm HAS
              by_cases h4 : t.kind = 4
              · have e4 : (t.kind == 4) = true := by simpa using h4
                have H4 : Hid (t.kind = 4) := h4
                clear h4
                go_wp2_with fail
                refine hjm.mono ?_
                rintro e y ⟨rfl, hy⟩
                obtain ⟨d0, d1⟩ := HK.out y hy
                have HY : Hid (Below wr.heap.size wr y) := hy
                clear hy hjm c0 c1 c2 c3 c4 c5 c6
                go_wp2_with fail
                go_meet
                case rel => exact ⟨by rw [HAS.out, decide_eq_true H4.out]; rfl, HY.out⟩
              · have e4 : (t.kind == 4) = false := by simpa using h4
                have H4 : Hid (¬ t.kind = 4) := h4
                clear h4
                by_cases h5 : t.kind = 5
                · have e5 : (t.kind == 5) = true := by simpa using h5
                  have H5 : Hid (t.kind = 5) := h5
                  clear h5
                  go_wp2_with fail
                  refine hjm.mono ?_
                  rintro e y ⟨rfl, hy⟩
                  obtain ⟨d0, d1⟩ := HK.out y hy
                  have HY : Hid (Below wr.heap.size wr y) := hy
                  clear hy hjm c0 c1 c2 c3 c4 c5 c6
                  go_wp2_with fail
                  go_meet
                  case rel => exact ⟨by rw [HAS.out, decide_eq_true H5.out]; simp, HY.out⟩
                · have e5 : (t.kind == 5) = false := by simpa using h5
                  have H5 : Hid (¬ t.kind = 5) := h5
                  clear h5
                  go_wp2_with fail
                  refine hjm.mono ?_
                  rintro e y ⟨rfl, hy⟩
                  obtain ⟨d0, d1⟩ := HK.out y hy
                  have HY : Hid (Below wr.heap.size wr y) := hy
                  clear hy hjm c0 c1 c2 c3 c4 c5 c6
                  go_wp2_with fail
                  go_meet
                  case rel => exact ⟨by rw [HAS.out, decide_eq_false H4.out, decide_eq_false H5.out]; rfl, HY.out⟩
          case rest =>
          obtain ⟨rfl, HW⟩ := hcut
          obtain ⟨d0, d1⟩ := HK.out wc HW.out
          have hlb := HLB.out wc HW.out
          have HBW : Hid (Below w.heap.size w wc) := HB.out.trans (HW.out.mono HB.out.size)
          clear hjm
          cases has : Z.asks t with
          | false =>
            replace HNX : Hid (∀ i, i < m + 1 → Z.asks (ts.getD i X.noIt) = true → (Z.lab ts (ts.getD i X.noIt).name).isSome = true) := HNX.out (fun e => by rw [has] at e; cases e)
            clear hlb
            go_wp2_with fail
            go_roundg (k - (m + 1))
            case measure => omega
            case rel => exact ⟨m + 1, rfl, by go_num, by omega, HBW, HNX⟩
          | true =>
            cases hlab : Z.lab ts t.name with
            | none =>
              have HR6 : Hid (Z.nameE ts = 6) := HUN.out has hlab
              rw [hlab] at hlb
              clear has
              go_wp2_with fail
              refine hlb.mono ?_
              rintro e y ⟨rfl, hy⟩
              have HBY : Hid (Below w.heap.size w y) := HBW.out.trans (hy.mono HBW.out.size)
              clear hy hlb
              go_wp2_with fail
              go_ret
              exact ⟨by rw [HR6.out]; rfl, HBY.out⟩
            | some q =>
              replace HNX : Hid (∀ i, i < m + 1 → Z.asks (ts.getD i X.noIt) = true → (Z.lab ts (ts.getD i X.noIt).name).isSome = true) := HNX.out (fun e => by rw [hlab]; rfl)
              rw [hlab] at hlb
              clear has
              go_wp2_with fail
              refine hlb.mono ?_
              rintro e y ⟨rfl, hy⟩
              have HBY : Hid (Below w.heap.size w y) := HBW.out.trans (hy.mono HBW.out.size)
              clear hy hlb
              go_wp2_with fail
              go_roundg (k - (m + 1))
              case measure => omega
              case rel => exact ⟨m + 1, rfl, by go_num, by omega, HBY, HNX⟩
        · obtain rfl : m = k := by omega
          have hii : ¬ (m : Int) < m := by omega
          have HR0 : Hid (Z.nameE ts = 0) := by
            show _ = _
            have h1 := Z.unk_no HOK.out (fun i hi => HLA.out i (by rw [← HC.out]; exact hi))
            unfold Z.nameE
            rw [if_pos HUL.out, h1]
            rfl
          go_wp2_with fail
          go_ret
          exact ⟨by rw [HR0.out]; rfl, HB.out⟩

end Go.Proofs.YtgjingleolhkbaaGreatDoor

/- The document's forms and sizes of instructions. -/
namespace Go.Proofs.YtgjingleolhkbaaGreatDoor.J
set_option maxRecDepth 100000
open Go.RowKit
set_option linter.unusedVariables false

theorem ret_inti {k : IntKind} {a b : Int} (h : a = b) : Ending.returned (.int k a) = .returned (.int k b) := by rw [h]

set_option maxHeartbeats 8000000 in
theorem form_any (op : Int) (w : World) :
    Calls Tryz.prog 66 #[.int .i64 op] w fun e w' => e = .returned (.int .i64 (I.form op)) ∧ w' = w := by
  by_cases h : 1 ≤ op ∧ op ≤ 33
  · rcases I.cases33 op h.1 h.2 with rfl | rfl | rfl | rfl | rfl | rfl | rfl | rfl | rfl | rfl | rfl | rfl | rfl | rfl | rfl | rfl | rfl | rfl | rfl | rfl | rfl | rfl | rfl | rfl | rfl | rfl | rfl | rfl | rfl | rfl | rfl | rfl | rfl
    all_goals
      go_enter Tryz.func66, Tryz.ntmps66
      go_wp2
      go_ret
      exact ⟨rfl, rfl⟩
  · rw [I.form_none (by omega)]
    have e1 : (op == 1) = false := by simp; omega
    have e17 : (op == 17) = false := by simp; omega
    have e18 : (op == 18) = false := by simp; omega
    have e28 : (op == 28) = false := by simp; omega
    have e29 : (op == 29) = false := by simp; omega
    have e19 : (op == 19) = false := by simp; omega
    have e21 : (op == 21) = false := by simp; omega
    have e22 : (op == 22) = false := by simp; omega
    have e20 : (op == 20) = false := by simp; omega
    have e23 : (op == 23) = false := by simp; omega
    have e24 : (op == 24) = false := by simp; omega
    have e30 : (op == 30) = false := by simp; omega
    have e32 : (op == 32) = false := by simp; omega
    have e25 : (op == 25) = false := by simp; omega
    have e26 : (op == 26) = false := by simp; omega
    have e27 : (op == 27) = false := by simp; omega
    have e31 : (op == 31) = false := by simp; omega
    have e33 : (op == 33) = false := by simp; omega
    rcases (show op < 1 ∨ 33 < op by omega) with h | h
    all_goals
      go_enter Tryz.func66, Tryz.ntmps66
      go_wp2
      go_ret
      exact ⟨rfl, rfl⟩

set_option maxHeartbeats 8000000 in
theorem parts_any (f : Int) (h0 : 0 ≤ f) (h1 : f ≤ 10) (w : World) :
    Calls Tryz.prog 65 #[.int .i64 f] w fun e w' => e = .returned (.tuple #[.bool (I.hasA f), .bool (I.hasB f), .int .i64 (I.numB f)]) ∧ w' = w := by
  rcases (show f = 0 ∨ f = 1 ∨ f = 2 ∨ f = 3 ∨ f = 4 ∨ f = 5 ∨ f = 6 ∨ f = 7 ∨ f = 8 ∨ f = 9 ∨ f = 10 by omega) with rfl | rfl | rfl | rfl | rfl | rfl | rfl | rfl | rfl | rfl | rfl
  all_goals
    go_enter Tryz.func65, Tryz.ntmps65
    go_wp2
    go_ret3
    exact ⟨rfl, rfl⟩

set_option maxHeartbeats 8000000 in
theorem rsize_any (op : Int) (w : World) :
    Calls Tryz.prog 64 #[.int .i64 op] w fun e w' => e = .returned (.int .i64 (I.size op)) ∧ w' = w := by
  have hr := I.form_range op
  unfold I.size
  obtain ⟨f, hf⟩ : ∃ f, I.form op = f := ⟨_, rfl⟩
  rw [hf] at hr
  rw [hf]
  rcases (show f = 0 ∨ f = 1 ∨ f = 2 ∨ f = 3 ∨ f = 4 ∨ f = 5 ∨ f = 6 ∨ f = 7 ∨ f = 8 ∨ f = 9 ∨ f = 10 by omega) with rfl | rfl | rfl | rfl | rfl | rfl | rfl | rfl | rfl | rfl | rfl
  all_goals
    clear hr
    have HF : Hid _ := hf
    clear hf
    go_enter Tryz.func64, Tryz.ntmps64
    go_wp2_with (first | (go_at_call 66; refine (form_any _ _).mono ?_; rintro e w' ⟨rfl, rfl⟩; rw [HF.out]) | (go_at_call 65; refine (parts_any _ ?_ ?_ _).mono ?_; omega; omega; rintro e w' ⟨rfl, rfl⟩))
    go_ret
    exact ⟨ret_inti (by decide +kernel), rfl⟩

end Go.Proofs.YtgjingleolhkbaaGreatDoor.J

/- A label that nobody names changes nothing: the mathematics. -/
namespace Go.Proofs.YtgjingleolhkbaaGreatDoor
namespace Z
open Go.RowKit
set_option linter.unusedVariables false
set_option linter.unusedSimpArgs false

/-- Something between. -/
def put {α : Type} (m : Nat) (x : α) (l : List α) : List α := l.take m ++ x :: l.drop m
/-- Where a place goes. -/
def mv (m i : Nat) : Nat := if i < m then i else i + 1
/-- A label that nobody names. -/
structure Un (m : Nat) (L : X.It) (ts : List X.It) : Prop where
  m : m ≤ ts.length
  k : L.kind = 1
  op : L.op = 0
  ws : L.words = []
  n : ∀ t ∈ ts, t.name ≠ L.name
section
variable {m : Nat} {L : X.It} {ts : List X.It}
theorem Un.jump (h : Un m L ts) : jump L = false := by unfold Z.jump shortOf; rw [h.op]; rfl
theorem Un.shown (h : Un m L ts) : shown L = false := by unfold Z.shown; rw [h.k]; rfl
theorem Un.place (h : Un m L ts) : place L = true := by unfold Z.place; rw [h.k]; rfl
end
end Z
end Go.Proofs.YtgjingleolhkbaaGreatDoor

/- A label that nobody names changes nothing: the object. -/
namespace Go.Proofs.YtgjingleolhkbaaGreatDoor
namespace Z
open Go.RowKit
set_option linter.unusedVariables false
set_option linter.unusedSimpArgs false
section
variable {m : Nat} {L : X.It} {ts : List X.It}
end
end Z
end Go.Proofs.YtgjingleolhkbaaGreatDoor
