/- lex.Lex. -/
import Derived.Test.YtikknlkdbjaonaaGreatDoorPBAe
namespace Go.Proofs.YtikknlkdbjaonaaGreatDoor
open Go.RowKit Go.Maps Go.Lib
set_option linter.unusedVariables false
set_option linter.unusedSimpArgs false

theorem str_drop (s : ByteArray) (i : Nat) : s.extract i s.size = X.str (s.data.toList.drop i) := by
  rw [extract_eq, List.take_of_length_le (by simp)]
theorem lex_none {l : X.By} {i : Nat} {ts : List X.Tok} (hl : l.length ≤ 20000) (h : X.lexF l.length 0 l = (X.lexF (l.drop i).length i (l.drop i)).map (ts ++ ·)) (hne : l.drop i ≠ []) (hs : X.step (l.drop i) = none) : X.lex l = ([], 2) := by
  rw [X.lexF_step hne, hs] at h
  unfold X.lex
  rw [if_neg (by omega), h]
  rfl
theorem lex_next {l : X.By} {i k n v : Nat} {ts : List X.Tok} (h : X.lexF l.length 0 l = (X.lexF (l.drop i).length i (l.drop i)).map (ts ++ ·)) (hne : l.drop i ≠ []) (hs : X.step (l.drop i) = some (k, n, v)) :
    X.lexF l.length 0 l = (X.lexF (l.drop (i + n)).length (i + n) (l.drop (i + n))).map ((if k = 0 then ts else ts ++ [⟨k, (l.drop i).take n, v, i⟩]) ++ ·) := by
  rw [X.lexF_step hne, hs] at h
  rw [h]
  simp only [List.drop_drop]
  rw [Option.map_map]
  congr 1
  funext us
  by_cases hk : k = 0
  · simp [hk]
  · simp [hk]
theorem lex_end {l : X.By} {ts : List X.Tok} (hl : l.length ≤ 20000) (h : X.lexF l.length 0 l = (X.lexF (l.drop l.length).length l.length (l.drop l.length)).map (ts ++ ·)) : X.lex l = if 4000 < ts.length + 1 then ([], 8) else (ts ++ [⟨0, [], 0, l.length⟩], 0) := by
  rw [List.drop_length] at h
  unfold X.lex
  rw [if_neg (by omega), h]
  simp [X.lexF]

set_option maxRecDepth 100000 in
set_option maxHeartbeats 8000000 in
theorem lex_any (s : ByteArray) (hs : s.size ≤ maxLen) (w : World) (ht : Tab w) :
    Calls Tryz.prog 15 #[.string s] w (LexOut w (X.lex s.data.toList)) := by
  have hL : s.data.toList.length = s.size := by simp
  by_cases hbig : 20000 < s.size
  · have hr : X.lex s.data.toList = ([], 8) := by unfold X.lex; rw [if_pos (by omega)]
    rw [hr]
    go_enter Tryz.func15, Tryz.ntmps15
    go_wp2
    go_ret2
    exact LexOut.none w w rfl (Below.refl _ _)
  have hsm : s.size ≤ 20000 := by omega
  have HT : Hid _ := ht
  clear ht hbig hs
  obtain ⟨i2, hi2, hz20, hz21, hz22⟩ := info_parts infoT
  have hdec : decide ((20000 : Int) < s.size) = false := by simp; omega
  go_enter Tryz.func15, Tryz.ntmps15
  go_wp2_with fail
  go_loopg [4, 5] s.size (fun r lv iv wq => ∃ (i n : Nat) (ts : List X.Tok), iv = .int .i64 i ∧ i ≤ s.size ∧ s.size - i ≤ r ∧ n ≤ i ∧ Hid (ts.length = n) ∧ Hid (X.lexF s.data.toList.length 0 s.data.toList = (X.lexF (s.data.toList.drop i).length i (s.data.toList.drop i)).map (ts ++ ·)) ∧ Hid (wq.ownsRow w.heap.size 48 4 lv n (ts.flatMap tokC)) ∧ Hid (Below w.heap.size w wq))
  case atStart => exact ⟨0, 0, [], rfl, Nat.zero_le _, by omega, Nat.le_refl _, rfl, (by simp : X.lexF s.data.toList.length 0 s.data.toList = (X.lexF (s.data.toList.drop 0).length 0 (s.data.toList.drop 0)).map ([] ++ ·)), World.ownsRow_nil _ _ _ _, Below.refl _ _⟩
  case round =>
    obtain ⟨i, n, ts, rfl, hi, hr, hni, HN, HF, HO, HB⟩ := hrel
    have HBs : Hid (w.heap.size ≤ wr.heap.size) := HB.out.size
    by_cases hlt : i < s.size
    · have hlen : (s.data.toList.drop i).length = s.size - i := by simp
      have hne : s.data.toList.drop i ≠ [] := fun e => by rw [e] at hlen; simp at hlen; omega
      have hpc : ∀ w, Tab w → Calls Tryz.prog 25 #[.string (s.extract i s.size)] w fun e w' => e = .returned (X.resV (X.step (s.data.toList.drop i)) (s.data.toList.drop i)) ∧ Below w.heap.size w w' := fun w h => by
        rw [str_drop]
        exact piece_any (X.str (s.data.toList.drop i)) (by rw [str_size]; omega) (by rw [str_size]; omega) w h
      have HNE : Hid _ := hne
      have HTR : Hid (Tab wr) := HT.out.below HB.out
      cases hst : X.step (s.data.toList.drop i) with
      | none =>
        rw [hst] at hpc
        have HR : Hid (X.lex s.data.toList = ([], 2)) := lex_none (by omega) HF.out hne hst
        clear hne hst
        go_wp2_with (first | (go_at_call 25; refine (hpc _ HTR.out).mono ?_; unfold X.resV; rintro e w1 ⟨rfl, HB1⟩))
        go_ret2
        exact LexOut.none w _ HR.out (HB.out.trans ((HB1.alloc HB1.size _).mono HBs.out))
      | some q =>
        obtain ⟨k, m, v⟩ := q
        rw [hst] at hpc
        have HNX : Hid _ := lex_next HF.out hne hst
        obtain ⟨hm1, hm2⟩ := X.step_size hne hst
        rw [hlen] at hm2
        have htl : (X.str ((s.data.toList.drop i).take m)).size = m := by rw [str_size, List.length_take]; omega
        have htn : (X.str ((s.data.toList.drop i).take m)).toList.isEmpty = false := by
          rw [ByteArray.toList_eq, List.isEmpty_eq_false_iff]
          intro e
          have := congrArg List.length e
          rw [len_list, htl] at this
          simp at this
          omega
        have HTX : Hid (X.str ((s.data.toList.drop i).take m) = X.str ((s.data.toList.drop i).take m)) := rfl
        have hpc' : ∀ w, Tab w → Calls Tryz.prog 25 #[.string (s.extract i s.size)] w fun e w' => e = .returned (.agg #[.int .i64 k, .string (X.str ((s.data.toList.drop i).take m)), .int .i64 v, .int .i64 0]) ∧ Below w.heap.size w w' := hpc
        clear hpc hst hne
        generalize htx : X.str ((s.data.toList.drop i).take m) = tx at htl htn hpc' HTX
        have HTY : Hid _ := htx
        clear htx HTX
        by_cases hk : k = 0
        · subst hk
          go_wp2_with (first | (go_at_call 25; refine (hpc' _ HTR.out).mono ?_; rintro e w1 ⟨rfl, HB1⟩))
          go_roundg (s.size - (i + m))
          case measure => omega
          case rel =>
            refine ⟨i + m, n, ts, by go_num, by omega, Nat.le_refl _, by omega, HN.out, (by have := HNX.out; simpa using this : _ = _), ?_, HB.out.trans ((HB1.alloc HB1.size _).mono HBs.out)⟩
            exact row_thru HO.out (HB1.alloc HB1.size _)
        · have hk1 : ¬ (k : Int) = 0 := by omega
          have hk2 : ((k : Int) != 0) = true := by simp; omega
          go_wp2_with fail
          refine (hpc' _ HTR.out).mono ?_
          rintro e w1 ⟨rfl, HB1⟩
          obtain ⟨Z, hZ⟩ : ∃ Z, (w1.alloc (.cells #[.int .i64 k, .string tx, .int .i64 v, .int .i64 i] 48)).alloc (.cells #[.int .i64 k, .string tx, .int .i64 v, .int .i64 i] 48) = Z := ⟨_, rfl⟩
          have BZ : Hid (Below wr.heap.size wr Z) := by
            show Below _ _ _
            rw [← hZ]
            exact (HB1.alloc HB1.size _).alloc (by simp; have := HB1.size; omega) _
          have OZ : Hid (Z.ownsRow w.heap.size 48 4 u4 n (ts.flatMap tokC)) := row_thru HO.out BZ.out
          have HNC : Hid (∀ j u, ([.int .i64 k, .string tx, .int .i64 v, .int .i64 i] : List Value)[j]? = some u → Z.cell? ((⟨w1.heap.size + 1, 0, none⟩ : Addr).add j) = some u) := by
            intro j u hu
            rw [← hZ, Addr.add_lit, Nat.zero_add]
            have := row_cell (w := w1.alloc (.cells #[.int .i64 k, .string tx, .int .i64 v, .int .i64 i] 48)) (a := #[.int .i64 k, .string tx, .int .i64 v, .int .i64 i]) (t := 48) (k := j) (u := u) (by simpa using hu)
            simpa using this
          have HWZ : Hid (w.heap.size ≤ Z.heap.size) := by show _ ≤ _; have := BZ.out.size; have := HBs.out; omega
          have HZC : Hid (Z.cell? ⟨w1.heap.size, 1, none⟩ = some (.string tx)) := by
            show _ = _
            rw [← hZ]
            exact cell_thru (bl1 _ _) (row_cell (w := w1) (a := #[.int .i64 k, .string tx, .int .i64 v, .int .i64 i]) rfl)
          have HNQ : Hid (¬ some w1.heap.size = u4.ownBlock) := fun e => by have := (HO.out.lt _ e.symm).2; have := HB1.size; omega
          clear HB1
          go_wp2_with (first | (at_builtin; (try rw [hZ]); refine wpList_append_lies _ rfl _ _ 43 rfl w.heap.size 48 i2 _ 4 40 Tryz.underlying43 hi2 hz20 hz21 hz22 rfl (by decide) u4 n (ts.flatMap tokC) rfl OZ.out ⟨w1.heap.size + 1, 0, none⟩ 1 1 [.int .i64 k, .string tx, .int .i64 v, .int .i64 i] rfl rfl HNC.out (by intro u hu; simp at hu; rcases hu with rfl | rfl | rfl | rfl <;> rfl) (by decide) (by unfold maxLen; omega) (by omega) HWZ.out Z.heap.size rfl ?_; intro ga ca w2 ho1 hg1 hat1 hlt1; have hc1 := hg1.cell HZC.out HNQ.out; have HO1 : Hid (w2.ownsRow w.heap.size 48 4 (.slice (some ⟨ga, 0, none⟩) (n + 1) ca) (n + 1) (ts.flatMap tokC ++ [.int .i64 k, .string tx, .int .i64 v, .int .i64 i])) := ho1; have HG1 : Hid _ := hg1; clear ho1 hg1 hat1) | fail)
          go_roundg (s.size - (i + m))
          case measure => omega
          case rel =>
            refine ⟨i + m, n + 1, ts ++ [⟨k, (s.data.toList.drop i).take m, v, i⟩], by go_num, by omega, Nat.le_refl _, by omega, ?_, ?_, ?_, below_grown (HB.out.trans (BZ.out.mono HBs.out)) OZ.out HG1.out HWZ.out⟩
            · show _ = _
              rw [List.length_append, HN.out]; rfl
            · have := HNX.out
              rw [if_neg hk] at this
              exact this
            · show World.ownsRow _ _ _ _ _ _ _
              rw [List.flatMap_append]
              simp only [List.flatMap_cons, List.flatMap_nil, List.append_nil, tokC, HTY.out]
              exact HO1.out
    · obtain rfl : i = s.size := by omega
      obtain ⟨a, c, rfl⟩ : ∃ a c, u4 = .slice a n c := by
        rcases HO.out.2 with ⟨e1, e2⟩ | ⟨g, cap, cur, e1, -⟩
        · exact ⟨_, _, by rw [e1, e2]⟩
        · exact ⟨_, _, e1⟩
      have HR : Hid _ := lex_end (by omega) (hL ▸ HF.out)
      have HLn : Hid (s.data.toList.length = s.size) := hL
      obtain ⟨Z, hZ⟩ : ∃ Z, wr.alloc (.cells #[.int .i64 0, .string { data := #[] }, .int .i64 0, .int .i64 s.size] 48) = Z := ⟨_, rfl⟩
      have BZ : Hid (Below wr.heap.size wr Z) := by
        show Below _ _ _
        rw [← hZ]
        exact bl1 _ _
      have OZ : Hid (Z.ownsRow w.heap.size 48 4 (.slice a n c) n (ts.flatMap tokC)) := row_thru HO.out BZ.out
      have HNC : Hid (∀ j u, ([.int .i64 0, .string { data := #[] }, .int .i64 0, .int .i64 s.size] : List Value)[j]? = some u → Z.cell? ((⟨wr.heap.size, 0, none⟩ : Addr).add j) = some u) := by
        intro j u hu
        rw [← hZ, Addr.add_lit, Nat.zero_add]
        exact row_cell (by simpa using hu)
      have HWZ : Hid (w.heap.size ≤ Z.heap.size) := by show _ ≤ _; have := BZ.out.size; have := HBs.out; omega
      have hbig2 : 4000 < n + 1 ∨ n + 1 ≤ 4000 := by omega
      have hlt' : ¬ (s.size : Int) < s.size := by omega
      clear hL
      rcases hbig2 with h4 | h4
      · go_wp2_with (first | (at_builtin; (try rw [hZ]); refine wpList_append_lies _ rfl _ _ 43 rfl w.heap.size 48 i2 _ 4 40 Tryz.underlying43 hi2 hz20 hz21 hz22 rfl (by decide) (.slice a n c) n (ts.flatMap tokC) rfl OZ.out ⟨wr.heap.size, 0, none⟩ 1 1 [.int .i64 0, .string { data := #[] }, .int .i64 0, .int .i64 s.size] rfl rfl HNC.out (by intro u hu; simp at hu; rcases hu with rfl | rfl | rfl | rfl <;> rfl) (by decide) (by unfold maxLen; omega) (by omega) HWZ.out Z.heap.size rfl ?_; intro ga ca w2 ho1 hg1 hat1 hlt1; have HO1 : Hid (w2.ownsRow w.heap.size 48 4 (.slice (some ⟨ga, 0, none⟩) (n + 1) ca) (n + 1) (ts.flatMap tokC ++ [.int .i64 0, .string { data := #[] }, .int .i64 0, .int .i64 s.size])) := ho1; have HG1 : Hid _ := hg1; clear ho1 hg1 hat1) | fail)
        go_ret2
        exact LexOut.none w _ (by rw [HR.out, if_pos (by rw [HN.out]; exact h4)]) (below_grown (HB.out.trans (BZ.out.mono HBs.out)) OZ.out HG1.out HWZ.out)
      · go_wp2_with (first | (at_builtin; (try rw [hZ]); refine wpList_append_lies _ rfl _ _ 43 rfl w.heap.size 48 i2 _ 4 40 Tryz.underlying43 hi2 hz20 hz21 hz22 rfl (by decide) (.slice a n c) n (ts.flatMap tokC) rfl OZ.out ⟨wr.heap.size, 0, none⟩ 1 1 [.int .i64 0, .string { data := #[] }, .int .i64 0, .int .i64 s.size] rfl rfl HNC.out (by intro u hu; simp at hu; rcases hu with rfl | rfl | rfl | rfl <;> rfl) (by decide) (by unfold maxLen; omega) (by omega) HWZ.out Z.heap.size rfl ?_; intro ga ca w2 ho1 hg1 hat1 hlt1; have HO1 : Hid (w2.ownsRow w.heap.size 48 4 (.slice (some ⟨ga, 0, none⟩) (n + 1) ca) (n + 1) (ts.flatMap tokC ++ [.int .i64 0, .string { data := #[] }, .int .i64 0, .int .i64 s.size])) := ho1; have HG1 : Hid _ := hg1; clear ho1 hg1 hat1) | fail)
        go_ret2
        have hr2 := HR.out
        rw [if_neg (by rw [HN.out]; omega), HLn.out] at hr2
        rw [hr2]
        refine ⟨_, _, _, rfl, ?_, by rw [List.length_append, HN.out]; rfl, below_grown (HB.out.trans (BZ.out.mono HBs.out)) OZ.out HG1.out HWZ.out⟩
        rw [List.flatMap_append]
        exact HO1.out

end Go.Proofs.YtikknlkdbjaonaaGreatDoor

/- Expressions of the program's parser: their list, levels, what is one deeper. -/
namespace Go.Proofs.YtikknlkdbjaonaaGreatDoor.Y
open Go.RowKit Go.Maps
set_option linter.unusedVariables false
set_option linter.unusedSimpArgs false
def expC (e : Exp) : List Value := [.int .i64 e.kind, .string (X.str e.op), .string (X.str e.name), .int .i64 e.n, .int .i64 e.l, .int .i64 e.r]
theorem expC_len (e : Exp) : (expC e).length = 6 := rfl
def expV (e : Exp) : Value := .agg #[.int .i64 e.kind, .string (X.str e.op), .string (X.str e.name), .int .i64 e.n, .int .i64 e.l, .int .i64 e.r]
theorem infoE : (Tryz.prog.info? 32).map (fun i => (i.zero, i.size, i.bytes)) = some (some (.agg #[.int .i64 0, .string { data := #[] }, .string { data := #[] }, .int .i64 0, .int .i64 0, .int .i64 0]), 6, 64) := by kernel_rfl
def opsC : Array Value := #[.string { data := #[124, 124] }, .int .i64 1, .string { data := #[38, 38] }, .int .i64 2, .string { data := #[124] }, .int .i64 3, .string { data := #[94] }, .int .i64 4, .string { data := #[38] }, .int .i64 5, .string { data := #[61, 61] }, .int .i64 6, .string { data := #[33, 61] }, .int .i64 6, .string { data := #[60] }, .int .i64 7, .string { data := #[60, 61] }, .int .i64 7, .string { data := #[62] }, .int .i64 7, .string { data := #[62, 61] }, .int .i64 7, .string { data := #[60, 60] }, .int .i64 8, .string { data := #[62, 62] }, .int .i64 8, .string { data := #[43] }, .int .i64 9, .string { data := #[45] }, .int .i64 9, .string { data := #[42] }, .int .i64 10, .string { data := #[47] }, .int .i64 10, .string { data := #[37] }, .int .i64 10]
/-- What the program's tables hold. -/
structure Env (w : World) : Prop where
  tab : Tab w
  op : ∀ o : Nat, w.cell? ⟨5, o, none⟩ = opsC[o]?
  hz : 8 ≤ w.heap.size
theorem Env.below {w y : World} (h : Env w) (hb : Below 8 w y) : Env y := by
  have hz := h.hz
  have hs := hb.size
  have k : ∀ b o, b < 8 → y.cell? ⟨b, o, none⟩ = w.cell? ⟨b, o, none⟩ := fun b o hb' => hb.cell (p := ⟨b, o, none⟩) (show b < 8 by omega)
  obtain ⟨e1, h1, h2⟩ := h.tab.es
  obtain ⟨e2, h3, h4⟩ := h.tab.er
  obtain ⟨m, h5⟩ := h.tab.ml
  exact ⟨⟨fun o => (k 0 o (by decide)).trans (h.tab.wd o), ⟨e1, (k 2 0 (by decide)).trans h1, h2⟩, ⟨e2, (k 3 0 (by decide)).trans h3, h4⟩, ⟨m, (k 1 0 (by decide)).trans h5⟩, by omega⟩, fun o => (k 5 o (by decide)).trans (h.op o), by omega⟩
theorem Env.kp {Ts : List TypeId} {B : Nat} {w y : World} (h : Env w) (hk : Kp Ts B w y) (hB : 8 ≤ B) : Env y := h.below (hk.low.mono hB)
/-- The parser with its list of expressions. -/
def PX (B : Nat) (ts : List X.Tok) (w : World) (bp : Nat) (a : Option Addr) (c i : Nat) (vd vs : Value) (E : List Exp) (d : Nat) : Prop := ∃ ve, PB B ts w bp a c i vd vs ve d ∧ w.ownsRow B 32 6 ve E.length (E.flatMap expC)
theorem PX.below {B : Nat} {ts : List X.Tok} {w y : World} {bp : Nat} {a : Option Addr} {c i : Nat} {vd vs : Value} {E : List Exp} {d : Nat} (h : PX B ts w bp a c i vd vs E d) (hb : Below w.heap.size w y) : PX B ts y bp a c i vd vs E d := by
  obtain ⟨ve, h1, h2⟩ := h
  exact ⟨ve, h1.below hb, row_thru' h2 hb⟩
theorem PX.le {B : Nat} {ts : List X.Tok} {w : World} {bp : Nat} {a : Option Addr} {c i : Nat} {vd vs : Value} {E : List Exp} {d : Nat} (h : PX B ts w bp a c i vd vs E d) : B ≤ w.heap.size := by
  obtain ⟨ve, h1, -⟩ := h
  exact h1.le
/-- What reading an expression comes to. -/
def EOut (B : Nat) (ts : List X.Tok) (w : World) (bp : Nat) (a : Option Addr) (c : Nat) (vd vs : Value) (d : Nat) (r : Option (Nat × Nat × List Exp)) (e : Ending) (w' : World) : Prop :=
  Kp [69, 32] B w w' ∧ match r with
    | none => Fails e
    | some (x, j, E') => e = .returned (.int .i64 (x : Int)) ∧ PX B ts w' bp a c j vd vs E' d
theorem cases18 {P : Nat → Prop} (k : Nat) (h : k < 18) (h0 : P 0) (h1 : P 1) (h2 : P 2) (h3 : P 3) (h4 : P 4) (h5 : P 5) (h6 : P 6) (h7 : P 7) (h8 : P 8) (h9 : P 9) (h10 : P 10) (h11 : P 11) (h12 : P 12) (h13 : P 13) (h14 : P 14) (h15 : P 15) (h16 : P 16) (h17 : P 17) : P k := by
  rcases (show k = 0 ∨ k = 1 ∨ k = 2 ∨ k = 3 ∨ k = 4 ∨ k = 5 ∨ k = 6 ∨ k = 7 ∨ k = 8 ∨ k = 9 ∨ k = 10 ∨ k = 11 ∨ k = 12 ∨ k = 13 ∨ k = 14 ∨ k = 15 ∨ k = 16 ∨ k = 17 by omega) with rfl | rfl | rfl | rfl | rfl | rfl | rfl | rfl | rfl | rfl | rfl | rfl | rfl | rfl | rfl | rfl | rfl | rfl <;> assumption
def opAt (k : Nat) : X.By × Nat := ops.getD k ([], 0)
set_option maxRecDepth 100000 in
theorem index_ops (k : Nat) (hk : k < 18) (w : World) : (Instr.index 162 (.agg opsC) (.int .i64 (k : Int))).run Tryz.prog w = .ok (.agg #[.string (X.str (opAt k).1), .int .i64 ((opAt k).2 : Int)]) w := by
  refine cases18 (P := fun k => (Instr.index 162 (.agg opsC) (.int .i64 (k : Int))).run Tryz.prog w = .ok (.agg #[.string (X.str (opAt k).1), .int .i64 ((opAt k).2 : Int)]) w) k hk ?_ ?_ ?_ ?_ ?_ ?_ ?_ ?_ ?_ ?_ ?_ ?_ ?_ ?_ ?_ ?_ ?_ ?_ <;> rfl
theorem find_at {s : X.By} {d : X.By × Nat} : ∀ (l : List (X.By × Nat)) (k : Nat), k < l.length → (l.getD k d).1 = s → (∀ j, j < k → (l.getD j d).1 ≠ s) → l.find? (fun o => decide (o.1 = s)) = some (l.getD k d)
  | [], k, hk, _, _ => by simp at hk
  | o :: l, 0, _, h, _ => by
    have h' : o.1 = s := h
    rw [List.find?_cons_of_pos (by simpa using h')]
    rfl
  | o :: l, k + 1, hk, h, hn => by
    have h0 : o.1 ≠ s := hn 0 (by omega)
    rw [List.find?_cons_of_neg (by simpa using h0)]
    exact find_at l k (by simpa using hk) h fun j hj => hn (j + 1) (by omega)
theorem lev_at {s : X.By} {k : Nat} (hk : k < 18) (h : (opAt k).1 = s) (hn : ∀ j, j < k → (opAt j).1 ≠ s) : lev s = (opAt k).2 := by
  unfold lev
  rw [find_at ops k hk h hn]
  rfl
theorem lev_none {s : X.By} (hn : ∀ j, j < 18 → (opAt j).1 ≠ s) : lev s = 0 := by
  unfold lev
  rw [List.find?_eq_none.2 (fun o ho => by
    obtain ⟨k, hk, e⟩ := List.mem_iff_getElem.1 ho
    have := hn k hk
    have e2 : opAt k = o := by unfold opAt; simp [List.getD, hk, e]
    rw [e2] at this
    simpa using this)]
  rfl
theorem lev_le (s : X.By) : lev s ≤ 10 := by
  unfold lev
  cases h : ops.find? (fun o => decide (o.1 = s)) with
  | none => exact Nat.zero_le _
  | some o =>
    have hm := List.mem_of_find?_eq_some h
    have : ∀ o ∈ ops, o.2 ≤ 10 := by decide
    exact this o hm
set_option maxRecDepth 100000 in
set_option maxHeartbeats 4000000 in
theorem levelOf_any (s : X.By) {w : World} (he : Env w) : Calls Tryz.prog 165 #[.string (X.str s)] w fun e w' => e = .returned (.int .i64 (lev s : Int)) ∧ Below w.heap.size w w' := by
  have HRG : Hid (w.rangeAt 5 0 opsC.toList) := fun j v hv => by
    rw [Nat.zero_add, he.op j]
    simpa using hv
  have hA := index_ops
  obtain ⟨AG, hAG⟩ : ∃ AG, Value.agg opsC = AG := ⟨_, rfl⟩
  have HAG : Hid (Value.agg opsC.toList.toArray = AG) := hAG
  rw [hAG] at hA
  have HA : Hid _ := hA
  clear he hA hAG
  go_enter Tryz.func165, Tryz.ntmps165
  go_wp2_with (first | (refine wpList_load_mid rfl 162 (.global 5) rfl 5 0 rfl opsC.toList _ HRG.out Tryz.underlying162 rfl (by kernel_rfl) ?_; rw [HAG.out]))
  go_loopg [4, 6] 18 (fun g v4 iv wq => ∃ (k : Nat), g = 18 - k ∧ iv = .int .i64 k ∧ k ≤ 18 ∧ Hid (∀ j, j < k → (opAt j).1 ≠ s) ∧ Hid (Below w.heap.size w wq))
  case atStart => exact ⟨0, rfl, rfl, Nat.zero_le _, (fun j hj => by omega : ∀ j, j < 0 → (opAt j).1 ≠ s), Below.refl _ _⟩
  case round =>
    obtain ⟨k, rfl, rfl, hk, HN, HB⟩ := hrel
    by_cases hlt : k < 18
    · have hki : (k : Int) < 18 := by omega
      have hk0 : 0 ≤ (k : Int) := by omega
      have hX := HA.out k hlt
      obtain ⟨sg, lv, ho⟩ : ∃ sg lv, opAt k = (sg, lv) := ⟨_, _, rfl⟩
      rw [ho] at hX
      dsimp only at hX
      obtain ⟨Y, hY⟩ : ∃ Y, wr.alloc (.cells #[.string (X.str sg), .int .i64 (lv : Int)] 161) = Y := ⟨_, rfl⟩
      have HY : Hid (Below w.heap.size w Y) := by show Below _ _ _; rw [← hY]; exact HB.out.alloc HB.out.size _
      have y0 : Y.cell? ⟨wr.heap.size, 0, none⟩ = some (.string (X.str sg)) := by rw [← hY]; exact ncell_at rfl
      have y1 : Y.cell? ⟨wr.heap.size, 1, none⟩ = some (.int .i64 (lv : Int)) := by rw [← hY]; exact ncell_at rfl
      have hd := str_beq sg s
      by_cases hs : sg = s
      · have HL : Hid (lev s = lv) := by
          have := lev_at hlt (by rw [ho]; exact hs) HN.out
          rw [ho] at this
          exact this
        rw [decide_eq_true hs] at hd
        clear hs ho
        go_wp2_with fail
        go_ret
        exact ⟨by rw [HL.out]; rfl, HY.out⟩
      · have HN2 : Hid (∀ j, j < k + 1 → (opAt j).1 ≠ s) := fun j hj => by
          by_cases e : j = k
          · subst e; rw [ho]; exact hs
          · exact HN.out j (by omega)
        rw [decide_eq_false hs] at hd
        clear hs ho
        go_wp2_with fail
        go_roundg (18 - (k + 1))
        case measure => omega
        case rel => exact ⟨k + 1, rfl, by go_num, by omega, HN2, HY⟩
    · obtain rfl : k = 18 := by omega
      have HL : Hid (lev s = 0) := lev_none HN.out
      go_wp2_with fail
      go_ret
      exact ⟨by rw [HL.out]; rfl, HB.out⟩
theorem step_append_own {ops : Array Oper} {o : Oper} {ac : Act} {K : Act → World → Prop} {Q : Exit → Act → World → Prop} {F : Prop} {w : World} (hgd : o.guard = none) (s x : Operand) (t : TypeId)
    (ho : o.op = .call { callee := .builtin .append, args := #[s, x], argTypes := #[t, t] }) (base : Nat) (e : TypeId) (i : TypeInfo) (z : Value) (size bytes : Nat) (ht : Tryz.prog.underlying t = some (.slice e)) (hi : Tryz.prog.info? e = some i) (hz : i.zero = some z)
    (hsize : i.size = size) (hby : i.bytes = bytes) (hzs : z.cells.size = size) (hsz : 0 < size)
    (v : Value) (n : Nat) (xs : List Value) (hs : ac.eval s = v) (hown : w.ownsRow base e size v n xs)
    (ad : Addr) (m c : Nat) (news : List Value) (hx : ac.eval x = .slice (some ad) m c) (hl : news.length = m * size) (hnews : ∀ j u, news[j]? = some u → w.cell? (ad.add j) = some u) (h1 : ∀ u ∈ news, u.oneCell' = true)
    (h63 : n + m ≤ maxLen) (hbytes : (n + m) * bytes ≤ 140737488355328) (hbase : base ≤ w.heap.size)
    (h : ∀ v' w', w'.ownsRow base e size v' (n + m) (xs ++ news) → w.grownBy w' v.ownBlock → K (ac.put o.dst v') w') : if Region.wanted o (yielded ops ac.tmps) = true then Oper.wp Tryz.prog o ac w K Q else F := by
  have hw : Region.wanted o (yielded ops ac.tmps) = true := by simp [Region.wanted, hgd]
  rw [if_pos hw]
  exact wp_append_own w s x t ho base e i z size bytes ht hi hz hsize hby hzs hsz v n xs hs hown ad m c news hx hl hnews h1 h63 hbytes hbase fun v' w' h2 h3 _ => h v' w' h2 h3
set_option maxRecDepth 100000 in
set_option maxHeartbeats 1000000 in
theorem addExp_any {B : Nat} {ts : List X.Tok} {w : World} {bp : Nat} {a : Option Addr} {c i : Nat} {vd vs : Value} {E : List Exp} {d : Nat} (h : PX B ts w bp a c i vd vs E d) (hl : E.length ≤ 4000) (x : Exp) : Calls Tryz.prog 166 #[.pointer (some ⟨bp, 0, none⟩), expV x] w fun e w' => e = .returned (.int .i64 (E.length : Int)) ∧ PX B ts w' bp a c i vd vs (E ++ [x]) d ∧ Kp [69, 32] B w w' := by
  obtain ⟨i0, hi0, hz0, hz1, hz2⟩ := info_parts infoE
  obtain ⟨ve, hp, ho⟩ := h
  have hbp := hp.lt
  have hle := hp.le
  -- the box of what is laid to the list
  obtain ⟨Y, hY⟩ : ∃ Y, w.alloc (.cells #[.int .i64 x.kind, .string (X.str x.op), .string (X.str x.name), .int .i64 x.n, .int .i64 x.l, .int .i64 x.r] 32) = Y := ⟨_, rfl⟩
  obtain ⟨Z, hZ⟩ : ∃ Z, Y.drew = Z := ⟨_, rfl⟩
  have HB : Hid (Below w.heap.size w Z) := by show Below _ _ _; rw [← hZ, ← hY]; exact (bl1 _ _).drew
  have HN : Hid (Z.heap[w.heap.size]? = some (.cells #[.int .i64 x.kind, .string (X.str x.op), .string (X.str x.name), .int .i64 x.n, .int .i64 x.l, .int .i64 x.r] 32)) := by show _ = _; rw [← hZ, ← hY]; exact heap_new _ _
  have HSZ : Hid (Z.heap.size = w.heap.size + 1) := by show _ = _; rw [← hZ, ← hY]; simp
  obtain ⟨Z2, hZ2⟩ : ∃ Z2, Z.alloc (.cells #[.int .i64 x.kind, .string (X.str x.op), .string (X.str x.name), .int .i64 x.n, .int .i64 x.l, .int .i64 x.r] 32) = Z2 := ⟨_, rfl⟩
  have HB2 : Hid (Below w.heap.size w Z2) := by show Below _ _ _; rw [← hZ2]; exact HB.out.trans ((bl1 _ _).mono HB.out.size)
  have HN2 : Hid (∀ (j : Nat) u, (expC x)[j]? = some u → Z2.cell? ((⟨Z.heap.size, 0, none⟩ : Addr).add j) = some u) := fun j u hu => by
    rw [Addr.add_lit, Nat.zero_add, ← hZ2]
    exact ncell_at (by simpa [expC] using hu)
  have HONE : Hid (∀ u ∈ expC x, u.oneCell' = true) := by
    intro u hu
    unfold expC at hu
    simp only [List.mem_cons, List.not_mem_nil, or_false] at hu
    rcases hu with rfl | rfl | rfl | rfl | rfl | rfl <;> rfl
  have HP : Hid (PB B ts Z2 bp a c i vd vs ve d) := hp.below HB2.out
  have HO : Hid (Z2.ownsRow B 32 6 ve E.length (E.flatMap expC)) := row_thru' ho HB2.out
  have HZW : Hid (w.heap.size ≤ Z2.heap.size) := HB2.out.size
  have HQ : Hid (∀ y, Below w.heap.size w y → y.cell? ⟨bp, 4, none⟩ = some ve) := fun y hy => cell_thru hy hp.c4
  have HBZ : Hid (Z.heap[bp]? = some (.cells #[.slice a ts.length c, .int .i64 (i : Int), vd, vs, ve, .int .i64 (d : Int)] 69)) := (HB.out.block _ hbp).trans hp.blk
  have HM : Hid (∀ y : World, y.heap[w.heap.size]? = Z.heap[w.heap.size]? → y.cell? ⟨w.heap.size, 0, none⟩ = some (.int .i64 x.kind) ∧ y.cell? ⟨w.heap.size, 1, none⟩ = some (.string (X.str x.op)) ∧ y.cell? ⟨w.heap.size, 2, none⟩ = some (.string (X.str x.name)) ∧ y.cell? ⟨w.heap.size, 3, none⟩ = some (.int .i64 x.n) ∧ y.cell? ⟨w.heap.size, 4, none⟩ = some (.int .i64 x.l) ∧ y.cell? ⟨w.heap.size, 5, none⟩ = some (.int .i64 x.r)) := fun y h2 => by
    have g2 := h2.trans HN.out
    exact ⟨cell_blk g2 0 rfl, cell_blk g2 1 rfl, cell_blk g2 2 rfl, cell_blk g2 3 rfl, cell_blk g2 4 rfl, cell_blk g2 5 rfl⟩
  have HMZ : Hid (Z.cell? ⟨bp, 4, none⟩ = some ve) := cell_blk HBZ.out 4 rfl
  have HE2 : Hid (Z2.heap[bp]? = Z.heap[bp]? ∧ Z2.heap[w.heap.size]? = Z.heap[w.heap.size]?) := by
    show _ ∧ _
    rw [← hZ2]
    exact ⟨(bl1 _ _).block _ (by have := HSZ.out; omega), (bl1 _ _).block _ (by have := HSZ.out; omega)⟩
  have HL2 : Hid (Z2.heap.size = Z.heap.size + 1) := by show _ = _; rw [← hZ2]; simp
  have HOL : Hid (∀ b, ve.ownBlock = some b → b < w.heap.size) := fun b e => (ho.lt b e).2
  have HGB : Hid (∀ w3, Z2.grownBy w3 ve.ownBlock → w3.heap[bp]? = some (.cells #[.slice a ts.length c, .int .i64 (i : Int), vd, vs, ve, .int .i64 (d : Int)] 69)) := fun w3 hg => (hg.block _ HP.out.lt (fun e => by
    obtain ⟨cur, hc⟩ := own_cells HO.out e.symm
    exact blk_ne HP.out.blk hc (by decide) rfl)).trans HP.out.blk
  clear hp ho
  unfold expV
  go_enter Tryz.func166, Tryz.ntmps166
  go_wp2_with fail
  try rw [hY]
  refine wp_region_held_drew (S := (fun w' : World => w'.cell? ⟨w.heap.size, 0, none⟩ = some (.int .i64 x.kind) ∧ w'.cell? ⟨w.heap.size, 1, none⟩ = some (.string (X.str x.op)) ∧ w'.cell? ⟨w.heap.size, 2, none⟩ = some (.string (X.str x.name)) ∧ w'.cell? ⟨w.heap.size, 3, none⟩ = some (.int .i64 x.n) ∧ w'.cell? ⟨w.heap.size, 4, none⟩ = some (.int .i64 x.l) ∧ w'.cell? ⟨w.heap.size, 5, none⟩ = some (.int .i64 x.r))) (by kernel_rfl) (by rw [hZ]; exact HM.out _ rfl) (fun hHeld => ?_)
  rw [hZ]
  rw [hZ] at hHeld
  clear hY hZ
  refine tj 0 ?_
  simp only [Act.put, zA, zB, zC]
  refine tj 1 ?_
  simp only [Act.put, zA, zB, zC]
  refine tj 2 ?_
  simp only [Act.put, zA, zB, zC]
  refine tj 3 ?_
  simp only [Act.put, zA, zB, zC]
  refine tj 4 ?_
  simp only [Act.put, zA, zB, zC]
  refine tj 6 ?_
  simp only [Act.put, zA, zB, zC]
  refine tr [5, 7] ?_
  refine AllReadyH.cons (tA rfl) (fun K hK => ?_) (AllReadyH.cons (tA rfl) (fun K hK => ?_) AllReadyH.nil)
  · have m4 := HMZ.out
    go_simp
    refine hK.out _ _ hHeld (fun hHeld => ?_)
    clear hK K m4
    try simp only [Act.put, zA, zB, zC]
    refine tr [7] ?_
    refine AllReadyH.cons (tA rfl) (fun K hK => ?_) AllReadyH.nil
    go_simp
    try rw [hZ2]
    refine hK.out _ _ (HM.out Z2 HE2.out.2) (fun hHeld => ?_)
    clear hK K
    try simp only [Act.put, zA, zB, zC]
    clear hZ2
    refine tr [8] ?_
    refine AllReadyH.cons (tA rfl) (fun K hK => ?_) AllReadyH.nil
    refine step_append_own (by rfl) _ _ 24 (by rfl) B 32 i0 _ 6 64 Tryz.underlying24 hi0 hz0 hz1 hz2 rfl (by decide) ve E.length _ (by rfl) HO.out ⟨Z.heap.size, 0, none⟩ 1 1 (expC x) (by rfl) rfl HN2.out HONE.out (by unfold maxLen; omega) (by omega) (by have := HZW.out; omega) ?_
    intro v' w3 hown hgrow
    obtain ⟨g, cp, rfl⟩ : ∃ g cp, v' = .slice (some ⟨g, 0, none⟩) (E.length + 1) cp := by
      rcases hown.2 with ⟨e1, e2⟩ | ⟨g, cap, cur, e1, -⟩
      · omega
      · exact ⟨g, cap, e1⟩
    have HW : Hid (w3.ownsRow B 32 6 (.slice (some ⟨g, 0, none⟩) (E.length + 1) cp) (E.length + 1) (E.flatMap expC ++ expC x)) := hown
    have HKP : Hid (Kp [69, 32] B Z2 w3) := Kp.grown HO.out hgrow (by decide) (by have := HZW.out; omega)
    have HPB : Hid (PB B ts w3 bp a c i vd vs ve d) := ⟨HP.out.ge, HGB.out _ hgrow, row_kp HP.out.tok HKP.out (by decide)⟩
    have HE3 : Hid (w3.heap[bp]? = Z.heap[bp]? ∧ w3.heap[w.heap.size]? = Z.heap[w.heap.size]?) := ⟨((HGB.out _ hgrow).trans HP.out.blk.symm).trans HE2.out.1, (hgrow.block _ (by have := HZW.out; have := HSZ.out; have := HL2.out; omega) (fun e => by have := HOL.out _ e.symm; omega)).trans HE2.out.2⟩
    clear hown hgrow
    refine hK.out _ _ (HM.out w3 HE3.out.2) (fun hHeld => ?_)
    clear hK K
    try simp only [Act.put, zA, zB, zC]
    refine tj 9 ?_
    simp only [Act.put, zA, zB, zC]
    refine tj 10 ?_
    simp only [Act.put, zA, zB, zC]
    refine tj 11 ?_
    simp only [Act.put, zA, zB, zC]
    have b4 := HPB.out.c4
    have z4 := HPB.out.fro 4
    have HK4 : Hid (Kp [69] B w3 (w3.setCell ⟨bp, 4, none⟩ (.slice (some ⟨g, 0, none⟩) (E.length + 1) cp))) := Kp.set HPB.out.blk (by decide) HPB.out.ge _
    have HB4 : Hid ((w3.setCell ⟨bp, 4, none⟩ (.slice (some ⟨g, 0, none⟩) (E.length + 1) cp)).heap[bp]? = some (.cells #[.slice a ts.length c, .int .i64 (i : Int), vd, vs, .slice (some ⟨g, 0, none⟩) (E.length + 1) cp, .int .i64 (d : Int)] 69)) := blk_set HPB.out.blk _
    have HR4 : Hid ((w3.setCell ⟨bp, 4, none⟩ (.slice (some ⟨g, 0, none⟩) (E.length + 1) cp)).ownsRow B 32 6 (.slice (some ⟨g, 0, none⟩) (E.length + 1) cp) (E.length + 1) (E.flatMap expC ++ expC x)) := row_kp HW.out HK4.out (by decide)
    have HN4 : Hid ((w3.setCell ⟨bp, 4, none⟩ (.slice (some ⟨g, 0, none⟩) (E.length + 1) cp)).heap[w.heap.size]? = Z.heap[w.heap.size]?) := by
      have hne : bp ≠ w.heap.size := by omega
      show (w3.heap.modify bp _)[w.heap.size]? = _
      rw [Array.getElem?_modify, if_neg hne]
      exact HE3.out.2
    obtain ⟨V, hV⟩ : ∃ V, w3.setCell ⟨bp, 4, none⟩ (.slice (some ⟨g, 0, none⟩) (E.length + 1) cp) = V := ⟨_, rfl⟩
    rw [hV] at HK4 HB4 HR4 HN4
    refine tr [12] ?_
    refine AllReadyH.cons (tA rfl) (fun K hK => ?_) AllReadyH.nil
    go_simp
    try rw [hV]
    refine hK.out _ _ (HM.out V HN4.out) (fun hHeld => ?_)
    clear hK K
    try simp only [Act.put, zA, zB, zC]
    refine wpAnyH_done (by kernel_rfl) ?_ _
    clear hHeld
    clear hV b4 z4
    have HRES : Hid (PX B ts V bp a c i vd vs (E ++ [x]) d ∧ Kp [69, 32] B w V) := by
      refine ⟨⟨_, ⟨HPB.out.ge, HB4.out, row_kp HPB.out.tok HK4.out (by decide)⟩, ?_⟩, ((Kp.of HB2.out hle).trans HKP.out).trans (HK4.out.wide (by decide))⟩
      rw [List.length_append, List.flatMap_append]
      simpa using HR4.out
    have p4 := cell_blk HB4.out 4 (v := .slice (some ⟨g, 0, none⟩) (E.length + 1) cp) rfl
    go_wp2_with fail
    go_ret
    refine ⟨?_, HRES.out⟩
    simp
  · go_simp
    try rw [hZ2]
    refine hK.out _ _ (HM.out Z2 HE2.out.2) (fun hHeld => ?_)
    clear hK K
    try simp only [Act.put, zA, zB, zC]
    refine tr [5] ?_
    refine AllReadyH.cons (tA rfl) (fun K hK => ?_) AllReadyH.nil
    have m4 := HP.out.c4
    go_simp
    refine hK.out _ _ hHeld (fun hHeld => ?_)
    clear hK K m4
    try simp only [Act.put, zA, zB, zC]
    clear hZ2
    refine tr [8] ?_
    refine AllReadyH.cons (tA rfl) (fun K hK => ?_) AllReadyH.nil
    refine step_append_own (by rfl) _ _ 24 (by rfl) B 32 i0 _ 6 64 Tryz.underlying24 hi0 hz0 hz1 hz2 rfl (by decide) ve E.length _ (by rfl) HO.out ⟨Z.heap.size, 0, none⟩ 1 1 (expC x) (by rfl) rfl HN2.out HONE.out (by unfold maxLen; omega) (by omega) (by have := HZW.out; omega) ?_
    intro v' w3 hown hgrow
    obtain ⟨g, cp, rfl⟩ : ∃ g cp, v' = .slice (some ⟨g, 0, none⟩) (E.length + 1) cp := by
      rcases hown.2 with ⟨e1, e2⟩ | ⟨g, cap, cur, e1, -⟩
      · omega
      · exact ⟨g, cap, e1⟩
    have HW : Hid (w3.ownsRow B 32 6 (.slice (some ⟨g, 0, none⟩) (E.length + 1) cp) (E.length + 1) (E.flatMap expC ++ expC x)) := hown
    have HKP : Hid (Kp [69, 32] B Z2 w3) := Kp.grown HO.out hgrow (by decide) (by have := HZW.out; omega)
    have HPB : Hid (PB B ts w3 bp a c i vd vs ve d) := ⟨HP.out.ge, HGB.out _ hgrow, row_kp HP.out.tok HKP.out (by decide)⟩
    have HE3 : Hid (w3.heap[bp]? = Z.heap[bp]? ∧ w3.heap[w.heap.size]? = Z.heap[w.heap.size]?) := ⟨((HGB.out _ hgrow).trans HP.out.blk.symm).trans HE2.out.1, (hgrow.block _ (by have := HZW.out; have := HSZ.out; have := HL2.out; omega) (fun e => by have := HOL.out _ e.symm; omega)).trans HE2.out.2⟩
    clear hown hgrow
    refine hK.out _ _ (HM.out w3 HE3.out.2) (fun hHeld => ?_)
    clear hK K
    try simp only [Act.put, zA, zB, zC]
    refine tj 9 ?_
    simp only [Act.put, zA, zB, zC]
    refine tj 10 ?_
    simp only [Act.put, zA, zB, zC]
    refine tj 11 ?_
    simp only [Act.put, zA, zB, zC]
    have b4 := HPB.out.c4
    have z4 := HPB.out.fro 4
    have HK4 : Hid (Kp [69] B w3 (w3.setCell ⟨bp, 4, none⟩ (.slice (some ⟨g, 0, none⟩) (E.length + 1) cp))) := Kp.set HPB.out.blk (by decide) HPB.out.ge _
    have HB4 : Hid ((w3.setCell ⟨bp, 4, none⟩ (.slice (some ⟨g, 0, none⟩) (E.length + 1) cp)).heap[bp]? = some (.cells #[.slice a ts.length c, .int .i64 (i : Int), vd, vs, .slice (some ⟨g, 0, none⟩) (E.length + 1) cp, .int .i64 (d : Int)] 69)) := blk_set HPB.out.blk _
    have HR4 : Hid ((w3.setCell ⟨bp, 4, none⟩ (.slice (some ⟨g, 0, none⟩) (E.length + 1) cp)).ownsRow B 32 6 (.slice (some ⟨g, 0, none⟩) (E.length + 1) cp) (E.length + 1) (E.flatMap expC ++ expC x)) := row_kp HW.out HK4.out (by decide)
    have HN4 : Hid ((w3.setCell ⟨bp, 4, none⟩ (.slice (some ⟨g, 0, none⟩) (E.length + 1) cp)).heap[w.heap.size]? = Z.heap[w.heap.size]?) := by
      have hne : bp ≠ w.heap.size := by omega
      show (w3.heap.modify bp _)[w.heap.size]? = _
      rw [Array.getElem?_modify, if_neg hne]
      exact HE3.out.2
    obtain ⟨V, hV⟩ : ∃ V, w3.setCell ⟨bp, 4, none⟩ (.slice (some ⟨g, 0, none⟩) (E.length + 1) cp) = V := ⟨_, rfl⟩
    rw [hV] at HK4 HB4 HR4 HN4
    refine tr [12] ?_
    refine AllReadyH.cons (tA rfl) (fun K hK => ?_) AllReadyH.nil
    go_simp
    try rw [hV]
    refine hK.out _ _ (HM.out V HN4.out) (fun hHeld => ?_)
    clear hK K
    try simp only [Act.put, zA, zB, zC]
    refine wpAnyH_done (by kernel_rfl) ?_ _
    clear hHeld
    clear hV b4 z4
    have HRES : Hid (PX B ts V bp a c i vd vs (E ++ [x]) d ∧ Kp [69, 32] B w V) := by
      refine ⟨⟨_, ⟨HPB.out.ge, HB4.out, row_kp HPB.out.tok HK4.out (by decide)⟩, ?_⟩, ((Kp.of HB2.out hle).trans HKP.out).trans (HK4.out.wide (by decide))⟩
      rw [List.length_append, List.flatMap_append]
      simpa using HR4.out
    have p4 := cell_blk HB4.out 4 (v := .slice (some ⟨g, 0, none⟩) (E.length + 1) cp) rfl
    go_wp2_with fail
    go_ret
    refine ⟨?_, HRES.out⟩
    simp
theorem EOut.mono {B : Nat} {ts : List X.Tok} {w y : World} {bp : Nat} {a : Option Addr} {c : Nat} {vd vs : Value} {d : Nat} {r : Option (Nat × Nat × List Exp)} {e : Ending} {z : World} (h : EOut B ts y bp a c vd vs d r e z) (hk : Kp [69, 32] B w y) : EOut B ts w bp a c vd vs d r e z := ⟨hk.trans h.1, h.2⟩
theorem hmf (P : Program) : ∀ (fn : Fn) (first cap : Array Value) (w : World), (Instr.makeFunc fn first cap).run P w = .ok (.func fn first cap) w := fun _ _ _ _ => rfl
set_option maxRecDepth 100000 in
set_option maxHeartbeats 1000000 in
theorem inside_un {B : Nat} {ts : List X.Tok} {w : World} {bp : Nat} {a : Option Addr} {c i : Nat} {vd vs : Value} {E : List Exp} {d : Nat} (h : PX B ts w bp a c i vd vs E d) (hd : d ≤ 20) (r : Option (Nat × Nat × List Exp)) (hc : d < 20 → ∀ y, PX B ts y bp a c i vd vs E (d + 1) → Kp [69, 32] B w y → Calls Tryz.prog 164 #[.pointer (some ⟨bp, 0, none⟩)] y (EOut B ts y bp a c vd vs (d + 1) r)) :
    Calls Tryz.prog 156 #[.pointer (some ⟨bp, 0, none⟩), .func (.func 164) #[.pointer (some ⟨bp, 0, none⟩)] #[]] w (EOut B ts w bp a c vd vs d (if 20 ≤ d then none else r)) := by
  obtain ⟨ve, hp, ho⟩ := h
  by_cases h20 : 20 ≤ d
  · rw [if_pos h20]
    go_enter Tryz.func156, Tryz.ntmps156
    go_wp2_with fail
    refine (enter_no hp h20 hd).mono ?_
    rintro e y ⟨rfl, hp2, hk⟩
    go_wp2_with fail
    exact ⟨rfl, hk.wide (by decide), rfl⟩
  · rw [if_neg h20]
    have HC : Hid _ := hc (by omega)
    have HO : Hid (w.ownsRow B 32 6 ve E.length (E.flatMap expC)) := ho
    have hdl : d < 20 := by omega
    clear hc h20 ho
    go_enter Tryz.func156, Tryz.ntmps156
    go_wp2_with fail
    refine (enter_yes hp hdl).mono ?_
    rintro e y ⟨rfl, hp2, hk⟩
    have HK : Hid (Kp [69, 32] B w y) := hk.wide (by decide)
    have HC2 : Hid _ := HC.out y ⟨ve, hp2, row_kp HO.out hk (by decide)⟩ HK.out
    clear hp hp2 hk HC HO
    go_wp2_with fail
    refine Calls.mono HC2.out ?_
    intro e z hz
    obtain ⟨hk2, hz⟩ := hz
    have HK2 : Hid (Kp [69, 32] B w z) := HK.out.trans hk2
    clear hk2 HC2
    cases r with
    | none =>
      have hz' : e = _ := hz
      subst hz'
      go_wp2_with fail
      exact ⟨rfl, HK2.out, rfl⟩
    | some r =>
      obtain ⟨x, j, E'⟩ := r
      obtain ⟨rfl, ve2, hp3, ho3⟩ := hz
      have HO3 : Hid (z.ownsRow B 32 6 ve2 E'.length (E'.flatMap expC)) := ho3
      clear ho3
      go_wp2_with fail
      refine (leave_any hp3 (by omega) (by omega)).mono ?_
      rintro e v ⟨rfl, hp4, hk4⟩
      have HRES : Hid (EOut B ts w bp a c vd vs d (some (x, j, E')) (.returned (.int .i64 (x : Int))) v) := ⟨HK2.out.trans (hk4.wide (by decide)), rfl, ve2, hp4, row_kp HO3.out hk4 (by decide)⟩
      clear hp3 hp4 hk4
      go_wp2_with fail
      go_ret
      exact HRES.out
set_option maxRecDepth 100000 in
set_option maxHeartbeats 1000000 in
theorem inside_exp {B : Nat} {ts : List X.Tok} {w : World} {bp : Nat} {a : Option Addr} {c i : Nat} {vd vs : Value} {E : List Exp} {d : Nat} (h : PX B ts w bp a c i vd vs E d) (hd : d ≤ 20) (r : Option (Nat × Nat × List Exp)) (hc : d < 20 → ∀ y, PX B ts y bp a c i vd vs E (d + 1) → Kp [69, 32] B w y → Calls Tryz.prog 143 #[.pointer (some ⟨bp, 0, none⟩)] y (EOut B ts y bp a c vd vs (d + 1) r)) :
    Calls Tryz.prog 156 #[.pointer (some ⟨bp, 0, none⟩), .func (.func 143) #[.pointer (some ⟨bp, 0, none⟩)] #[]] w (EOut B ts w bp a c vd vs d (if 20 ≤ d then none else r)) := by
  obtain ⟨ve, hp, ho⟩ := h
  by_cases h20 : 20 ≤ d
  · rw [if_pos h20]
    go_enter Tryz.func156, Tryz.ntmps156
    go_wp2_with fail
    refine (enter_no hp h20 hd).mono ?_
    rintro e y ⟨rfl, hp2, hk⟩
    go_wp2_with fail
    exact ⟨rfl, hk.wide (by decide), rfl⟩
  · rw [if_neg h20]
    have HC : Hid _ := hc (by omega)
    have HO : Hid (w.ownsRow B 32 6 ve E.length (E.flatMap expC)) := ho
    have hdl : d < 20 := by omega
    clear hc h20 ho
    go_enter Tryz.func156, Tryz.ntmps156
    go_wp2_with fail
    refine (enter_yes hp hdl).mono ?_
    rintro e y ⟨rfl, hp2, hk⟩
    have HK : Hid (Kp [69, 32] B w y) := hk.wide (by decide)
    have HC2 : Hid _ := HC.out y ⟨ve, hp2, row_kp HO.out hk (by decide)⟩ HK.out
    clear hp hp2 hk HC HO
    go_wp2_with fail
    refine Calls.mono HC2.out ?_
    intro e z hz
    obtain ⟨hk2, hz⟩ := hz
    have HK2 : Hid (Kp [69, 32] B w z) := HK.out.trans hk2
    clear hk2 HC2
    cases r with
    | none =>
      have hz' : e = _ := hz
      subst hz'
      go_wp2_with fail
      exact ⟨rfl, HK2.out, rfl⟩
    | some r =>
      obtain ⟨x, j, E'⟩ := r
      obtain ⟨rfl, ve2, hp3, ho3⟩ := hz
      have HO3 : Hid (z.ownsRow B 32 6 ve2 E'.length (E'.flatMap expC)) := ho3
      clear ho3
      go_wp2_with fail
      refine (leave_any hp3 (by omega) (by omega)).mono ?_
      rintro e v ⟨rfl, hp4, hk4⟩
      have HRES : Hid (EOut B ts w bp a c vd vs d (some (x, j, E')) (.returned (.int .i64 (x : Int))) v) := ⟨HK2.out.trans (hk4.wide (by decide)), rfl, ve2, hp4, row_kp HO3.out hk4 (by decide)⟩
      clear hp3 hp4 hk4
      go_wp2_with fail
      go_ret
      exact HRES.out
end Go.Proofs.YtikknlkdbjaonaaGreatDoor.Y

/- How far an expression goes, and how long the list becomes. -/
namespace Go.Proofs.YtikknlkdbjaonaaGreatDoor.Y
open X
theorem onG {ts : List Tok} (hk : ∀ i, (tk ts i).kind ≠ 0 → i + 1 < ts.length) (ht : ∀ i, (tk ts i).text ≠ [] → i + 1 < ts.length) : ∀ f, (∀ d i E x j E', un ts f d i E = some (x, j, E') → i < j ∧ j < ts.length ∧ E'.length + i ≤ E.length + j ∧ E.length ≤ E'.length) ∧ (∀ lv d i E x j E', 1 ≤ lv → bin ts f lv d i E = some (x, j, E') → i < j ∧ j < ts.length ∧ E'.length + i ≤ E.length + j ∧ E.length ≤ E'.length) ∧ (∀ lv d x i E x' j E', 1 ≤ lv → i < ts.length → lp ts f lv d x i E = some (x', j, E') → i ≤ j ∧ j < ts.length ∧ E'.length + i ≤ E.length + j ∧ E.length ≤ E'.length)
  | 0 => ⟨fun _ _ _ _ _ _ h => by simp [un] at h, fun _ _ _ _ _ _ _ _ h => by simp [bin] at h, fun _ _ _ _ _ _ _ _ _ _ h => by simp [lp] at h⟩
  | f + 1 => by
    obtain ⟨h1, h2, h3⟩ := onG hk ht f
    refine ⟨fun d i E x j E' h => ?_, fun lv d i E x j E' hl h => ?_, fun lv d x i E x' j E' hl hi h => ?_⟩
    · rw [un] at h
      split at h
      · split at h
        · cases h
        · split at h
          · cases h
          · rename_i he
            injection h with h; injection h with _ h; injection h with h h'; subst h; subst h'
            have := h1 _ _ _ _ _ _ he
            simp only [List.length_append, List.length_cons, List.length_nil]
            omega
      · split at h
        · split at h
          · cases h
          · split at h
            · cases h
            · rename_i he
              split at h
              · rename_i hx
                injection h with h; injection h with _ h; injection h with h h'; subst h; subst h'
                have := h2 _ _ _ _ _ _ _ (Nat.le_refl _) he
                have := ht _ (by rw [hx]; simp)
                omega
              · cases h
        · split at h
          · rename_i hx
            injection h with h; injection h with _ h; injection h with h h'; subst h; subst h'
            have := hk i (by rw [hx]; decide)
            simp only [List.length_append, List.length_cons, List.length_nil]
            omega
          · split at h
            · rename_i hx
              split at h
              · split at h
                · cases h
                · split at h
                  · cases h
                  · rename_i he
                    split at h
                    · rename_i hy
                      injection h with h; injection h with _ h; injection h with h h'; subst h; subst h'
                      have := h2 _ _ _ _ _ _ _ (Nat.le_refl _) he
                      have := ht _ (by rw [hy]; simp)
                      simp only [List.length_append, List.length_cons, List.length_nil]
                      omega
                    · cases h
              · injection h with h; injection h with _ h; injection h with h h'; subst h; subst h'
                have := hk i (by rw [hx]; decide)
                simp only [List.length_append, List.length_cons, List.length_nil]
                omega
            · cases h
    · rw [bin] at h
      split at h
      · cases h
      · rename_i he
        have h4 := h1 _ _ _ _ _ _ he
        have h5 := h3 _ _ _ _ _ _ _ _ hl h4.2.1 h
        omega
    · rw [lp] at h
      split at h
      · rename_i hle
        split at h
        · cases h
        · rename_i he
          have h4 := h2 _ _ _ _ _ _ _ (Nat.le_add_left _ _) he
          have h5 := h3 _ _ _ _ _ _ _ _ hl h4.2.1 h
          simp only [List.length_append, List.length_cons, List.length_nil] at h5
          omega
      · injection h with h; injection h with _ h; injection h with h h'; subst h; subst h'
        omega
theorem Good.hk {ts : List Tok} (h : Good ts) (i : Nat) (hi : (tk ts i).kind ≠ 0) : i + 1 < ts.length := h.last i (in_of_kind hi) hi
theorem Good.ht {ts : List Tok} (h : Good ts) (i : Nat) (hi : (tk ts i).text ≠ []) : i + 1 < ts.length := h.hk i fun e => hi (h.nul i e)
theorem Un_len {ts : List Tok} (h : Good ts) {d i x j : Nat} {E E' : List Exp} (hu : Un ts d i E = some (x, j, E')) : i < j ∧ j < ts.length ∧ E'.length + i ≤ E.length + j ∧ E.length ≤ E'.length := (onG h.hk h.ht _).1 _ _ _ _ _ _ hu
theorem Bin_len {ts : List Tok} (h : Good ts) {lv d i x j : Nat} {E E' : List Exp} (hl : 1 ≤ lv) (hu : Bin ts lv d i E = some (x, j, E')) : i < j ∧ j < ts.length ∧ E'.length + i ≤ E.length + j ∧ E.length ≤ E'.length := (onG h.hk h.ht _).2.1 _ _ _ _ _ _ _ hl hu
theorem Lp_len {ts : List Tok} (h : Good ts) {lv d x i x' j : Nat} {E E' : List Exp} (hl : 1 ≤ lv) (hi : i < ts.length) (hu : Lp ts lv d x i E = some (x', j, E')) : i ≤ j ∧ j < ts.length ∧ E'.length + i ≤ E.length + j ∧ E.length ≤ E'.length := (onG h.hk h.ht _).2.2 _ _ _ _ _ _ _ _ hl hi hu
end Go.Proofs.YtikknlkdbjaonaaGreatDoor.Y
