import Derived.Test.YtgjingleolhkbaaGreatDoorTBd
namespace Go.Proofs.YtgjingleolhkbaaGreatDoor
namespace Z
open Go.RowKit
set_option linter.unusedVariables false
set_option linter.unusedSimpArgs false

structure SZ (ts : List X.It) (k : Nat) (s : O.ObjD) : Prop where
 c : (s.code.size : Int) = beg (ops ts) k
 d : s.data.length = wordsN (ts.take k)
 y : s.syms.length = symsN (ts.take k)
 r : s.rels.length = opensN ts (ts.take k)
theorem symsN_snoc (l : List X.It) (t : X.It) : symsN (l ++ [t]) = symsN l + if isSym t = true then 1 else 0 := by
 unfold symsN
 rw [List.filter_append, List.length_append]
 cases h : isSym t <;> simp [h]
theorem sz_step {ts : List X.It} (hl : ts.length ≤ 20000) (hok : ∀ t ∈ ts, X.itOk t = true) (hfit : ∀ t ∈ ts, X.fitsIt t) {k : Nat} {s : O.ObjD} (hk : k < ts.length) (h : SZ ts k s) : SZ ts (k + 1) (stepO ts (ops ts) s k) := by
 have hm : ts.getD k X.noIt ∈ ts := by simp [List.getD, hk]
 have hget : ts[k]? = some (ts.getD k X.noIt) := by simp [List.getD, hk]
 have htk := take_snoc hget
 have hcase := X.itOk_cases (hok _ hm)
 have hz := fun hh => beg_zero_op hk hh
 have hcode := fun hh => code_ok hl hok hfit hk hh
 unfold stepO
 rcases hcase with ⟨hkd, hins, hw⟩ | ⟨hkd, hn, hw, hw2, hzi⟩ | ⟨hkd, hn, hw, hzi⟩
 ·obtain ⟨c1, c2, c3, c4⟩ := hcode hkd
  have hsz := enc_size ⟨c1, c2⟩ c3 c4
  have hbeg : beg (ops ts) (k + 1) = beg (ops ts) k + sz ((ops ts).getD k 0) := beg_succ _ (by rw [ops_len]; exact hk)
  have hsize : ((s.code ++ strOfNums (codeV ts (ops ts) k)).size : Int) = beg (ops ts) (k + 1) := by
   rw [ByteArray.size_append, strOf_size, hbeg, ← hsz, ← h.c]
   unfold codeV
   omega
  have hns : isSym (ts.getD k X.noIt) = false := by unfold isSym shown; rw [hkd]; rfl
  rw [if_pos hkd]
  generalize s.code ++ strOfNums (codeV ts (ops ts) k) = cd at *
  generalize hgt : ts.getD k X.noIt = t at *
  refine ⟨hsize, ?_, ?_, ?_⟩
  ·rw [htk, wordsN_snoc, hw, h.d]; rfl
  ·rw [htk, symsN_snoc, hns, h.y]; rfl
  ·rw [htk]
   by_cases ho : isOpen ts t = true
   ·rw [opensN_yes ho, if_pos ho, List.length_append, h.r]; rfl
   ·rw [opensN_no (by simpa using ho), if_neg ho, h.r]
 ·obtain ⟨hop, -, hno⟩ := zero_op hzi
  have hb := hz hzi
  rw [if_neg (by omega), if_pos hkd]
  generalize hgt : ts.getD k X.noIt = t at *
  have hs : isSym t = true := by unfold isSym; rw [hkd]; rfl
  refine ⟨?_, ?_, ?_, ?_⟩
  ·rw [hb]; exact h.c
  ·rw [htk, wordsN_snoc, List.length_append, h.d]
  ·rw [htk, symsN_snoc, hs, List.length_append, h.y]; rfl
  ·rw [htk, opensN_no (hno ts), h.r]
 ·obtain ⟨hop, -, hno⟩ := zero_op hzi
  have hb := hz hzi
  rw [if_neg (by omega), if_neg (by omega)]
  generalize hgt : ts.getD k X.noIt = t at *
  have e1 : wordsN (ts.take (k + 1)) = wordsN (ts.take k) := by rw [htk, wordsN_snoc, hw]; rfl
  have e2 : opensN ts (ts.take (k + 1)) = opensN ts (ts.take k) := by rw [htk, opensN_no (hno ts)]
  by_cases h4 : t.kind = 4
  ·have hs : isSym t = true := by unfold isSym shown; rw [h4]; rfl
   rw [if_pos h4]
   refine ⟨by rw [hb]; exact h.c, by rw [e1]; exact h.d, ?_, by rw [e2]; exact h.r⟩
   rw [htk, symsN_snoc, hs, List.length_append, h.y]; rfl
  ·by_cases h5 : t.kind = 5
   ·have hs : isSym t = true := by unfold isSym shown; rw [h5]; rfl
    rw [if_neg h4, if_pos h5]
    refine ⟨by rw [hb]; exact h.c, by rw [e1]; exact h.d, ?_, by rw [e2]; exact h.r⟩
    rw [htk, symsN_snoc, hs, List.length_append, h.y]; rfl
   ·have hs : isSym t = false := by
     have h1 : t.kind = 1 := by omega
     unfold isSym shown; rw [h1]; rfl
    rw [if_neg h4, if_neg h5]
    refine ⟨by rw [hb]; exact h.c, by rw [e1]; exact h.d, ?_, by rw [e2]; exact h.r⟩
    rw [htk, symsN_snoc, hs, h.y]; rfl
theorem sz_all {ts : List X.It} (hl : ts.length ≤ 20000) (hok : ∀ t ∈ ts, X.itOk t = true) (hfit : ∀ t ∈ ts, X.fitsIt t) : ∀ k, k ≤ ts.length → SZ ts k (objTo ts (ops ts) k)
 | 0, _ => ⟨by simp [objTo, noObj, beg_zero]; rfl, by simp [objTo, noObj, wordsN], by simp [objTo, noObj, symsN], by simp [objTo, noObj, opensN]⟩
 | k + 1, hk => by
  rw [objTo_succ]
  exact sz_step hl hok hfit (by omega) (sz_all hl hok hfit k (by omega))
def behind (ts : List X.It) (k : Nat) : Bool := (ts.take k).any fun t => shown t && decide (placeOf ts (ops ts) t.name = tot (ops ts))
theorem behind_succ {ts : List X.It} {k : Nat} (hk : k < ts.length) : behind ts (k + 1) = (behind ts k || (shown (ts.getD k X.noIt) && decide (placeOf ts (ops ts) (ts.getD k X.noIt).name = tot (ops ts)))) := by
 have hget : ts[k]? = some (ts.getD k X.noIt) := by simp [List.getD, hk]
 unfold behind
 rw [take_snoc hget, List.any_append]
 simp
theorem behind_all (ts : List X.It) : behind ts ts.length = !(symsOk ts) := by
 unfold behind symsOk
 rw [List.take_length]
 rw [Bool.eq_iff_iff, List.any_eq_true, Bool.not_eq_true', List.all_eq_false]
 constructor
 ·rintro ⟨t, ht, e⟩
  refine ⟨t, ht, ?_⟩
  unfold standAt
  rw [e]
  decide
 ·rintro ⟨t, ht, e⟩
  refine ⟨t, ht, ?_⟩
  unfold standAt at e
  simpa using e
theorem fits_is {ts : List X.It} (hl : ts.length ≤ 20000) (hok : ∀ t ∈ ts, X.itOk t = true) (hfit : ∀ t ∈ ts, X.fitsIt t) : fits ts = (decide ((obj ts).code.size ≤ 65536) && (decide ((obj ts).data.length ≤ 4096) && (decide ((obj ts).syms.length ≤ 1000) && decide ((obj ts).rels.length ≤ 8000)))) := by
 have h := sz_all hl hok hfit ts.length (Nat.le_refl _)
 have h1 := h.c
 have h2 := h.d
 have h3 := h.y
 have h4 := h.r
 rw [List.take_length] at h2 h3 h4
 unfold fits tot
 rw [ops_len]
 unfold obj
 rw [h2, h3, h4, ← h1]
 congr 1
 exact decide_eq_decide.2 (by omega)
end Z
end Go.Proofs.YtgjingleolhkbaaGreatDoor
