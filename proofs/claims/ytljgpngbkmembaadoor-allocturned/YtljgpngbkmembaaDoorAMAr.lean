/- The program's newFinder. -/
import Derived.Test.YtljgpngbkmembaaDoorAMAo
namespace Go.Proofs.YtljgpngbkmembaaDoor
open Go.RowKit Go.Maps Go.Shelf
attribute [local go_sem] Oper.semAt_some
set_option linter.unusedVariables false
set_option linter.unusedSimpArgs false
theorem tjr {P : Program} {l : List Oper} {Q : Exit → Act → World → Prop} {md : Region.Mode} {S : World → Prop} {oi : Oper} {fuel : Nat} {listed : Array Bool} {a : Act} {w : World} {v : Value} (i : Nat) (h : wpAnyH P md l.toArray Q S fuel (listed.setIfInBounds i true) (a.put oi.dst v) w) (hi : l[i]? = some oi := by rfl) (hb : (Region.noSelect l.toArray && (Region.free md l.toArray listed i && (Region.ready md l.toArray listed).contains i)) = true := by kernel_rfl) (hg : Region.wanted oi (yielded l.toArray a.tmps) = true := by rfl) (hy : ∀ w, S w → (execOp a.eval oi).run P w = .ok (.value v) w := by intro w hSw; (try dsimp only at hSw); go_simp <;> with_reducible rfl) (hQ : ∀ c a w, Q (.panic c) (a.put oi.dst v) w → Q (.panic c) a w := by exact fun _ _ _ h => h) (hS : S w := by assumption) : wpAnyH P md l.toArray Q S (fuel + 1) listed a w := tkr (tA hi) hb hQ (Or.inl ⟨hg, hy⟩) hS h
theorem zA {α : Type} {l : List α} {i : Nat} {a : α} : l.toArray.setIfInBounds i a = (l.set i a).toArray := List.setIfInBounds_toArray ..
theorem zB {α : Type} {x : α} {xs : List α} {a : α} : (x :: xs).set 0 a = a :: xs := rfl
theorem zC {α : Type} {x : α} {xs : List α} {i : Nat} {a : α} : (x :: xs).set (i + 1) a = x :: xs.set i a := rfl
set_option maxRecDepth 100000 in
set_option maxHeartbeats 8000000 in
theorem newFinder_any {w : World} {f : F.Fn} {a : Option Addr} {n c : Nat} (h : OpsV w a n c f.code) (hm : F.mayF f = true) (he : Env w) :
  Calls Tryd.prog 30 #[fnV f a n c] w (NfOut w f a n c) := by
 have HO : Hid (OpsV w a n c f.code) := h
 have HE : Hid (Env w) := he
 have hhd := F.may_head hm
 have hn1 : 1 ≤ n := by have := h.count; omega
 obtain ⟨T, hT⟩ : ∃ T : Nat, f.temps = T := ⟨f.temps.toNat, by omega⟩
 have hT4 : T ≤ 400 := by omega
 have HT : Hid (f.temps.toNat = T) := by show f.temps.toNat = T; rw [hT]; exact Int.toNat_natCast T
 have HNL : Hid (∀ y, Below w.heap.size w y → Calls Tryd.prog 22 #[fnV f a n c] y (NlOut y f a n c)) := fun y hy => newLife_any (h.below hy) hm (he.below hy)
 obtain ⟨nm0, hnm0⟩ : ∃ q, f.name = q := ⟨_, rfl⟩
 obtain ⟨params, hpar⟩ : ∃ q, f.params = q := ⟨_, rfl⟩
 unfold fnV at HNL ⊢
 rw [hnm0, hpar, hT] at HNL ⊢
 clear h hm he hhd hnm0 hpar hT
 obtain ⟨W0, hW0⟩ : ∃ W0, w.alloc (.cells #[.string nm0, .int .i64 params, .int .i64 T, .slice a n c] 24) = W0 := ⟨_, rfl⟩
 have HB0 : Hid (Below w.heap.size w W0) := by show Below _ _ _; rw [← hW0]; exact bl1 _ _
 have HS0 : Hid (W0.heap.size = w.heap.size + 1) := by show _ = _; rw [← hW0]; simp
 have d0 : W0.cell? ⟨w.heap.size, 0, none⟩ = some (.string nm0) := by rw [← hW0]; exact ncell_at rfl
 have d1 : W0.cell? ⟨w.heap.size, 1, none⟩ = some (.int .i64 params) := by rw [← hW0]; exact ncell_at rfl
 have d2 : W0.cell? ⟨w.heap.size, 2, none⟩ = some (.int .i64 T) := by rw [← hW0]; exact ncell_at rfl
 have d3 : W0.cell? ⟨w.heap.size, 3, none⟩ = some (.slice a n c) := by rw [← hW0]; exact ncell_at rfl
 have HSK : Hid (∀ y, Below (w.heap.size + 1) W0 y → y.cell? ⟨w.heap.size, 0, none⟩ = some (.string nm0) ∧ y.cell? ⟨w.heap.size, 1, none⟩ = some (.int .i64 params) ∧ y.cell? ⟨w.heap.size, 2, none⟩ = some (.int .i64 T) ∧ y.cell? ⟨w.heap.size, 3, none⟩ = some (.slice a n c)) := fun y hy => ⟨(hy.cell (p := ⟨w.heap.size, 0, none⟩) (by simp)).trans d0, (hy.cell (p := ⟨w.heap.size, 1, none⟩) (by simp)).trans d1, (hy.cell (p := ⟨w.heap.size, 2, none⟩) (by simp)).trans d2, (hy.cell (p := ⟨w.heap.size, 3, none⟩) (by simp)).trans d3⟩
 have HBW : Hid (∀ y, Below (w.heap.size + 1) W0 y → Below w.heap.size w y) := fun y hy => HB0.out.trans (hy.mono (by omega))
 obtain ⟨Z0, hZ0⟩ : ∃ Z0, W0.drew = Z0 := ⟨_, rfl⟩
 have HBZ0 : Hid (Below (w.heap.size + 1) W0 Z0) := by show Below _ _ _; rw [← hZ0]; exact (Below.refl _ _).drew
 have HNZ0 : Hid (w.heap.size + 1 ≤ Z0.heap.size) := by show _ ≤ _; rw [← hZ0]; exact Nat.le_of_eq HS0.out.symm
 refine (callsIn_wide (n := 6)).1 ?_
 refine callsIn_of_wp_marks Tryd.func30 rfl trivial ?_ rfl
 simp only [Tryd.ntmps30, List.size_toArray, List.length_cons, List.length_nil, Nat.reduceAdd, Nat.reduceSub, Array.replicate_succ, Array.replicate_zero, List.push_toArray, List.append_toArray, List.nil_append, List.cons_append]
 gi_wp2
 clear hW0 d0 d1 d2 d3
 refine wpIn_wide.2 (wp_calm ?_)
 refine wp_region_held_drew (S := (fun w' : World => w'.cell? ⟨w.heap.size, 0, none⟩ = some (.string nm0) ∧ w'.cell? ⟨w.heap.size, 1, none⟩ = some (.int .i64 params) ∧ w'.cell? ⟨w.heap.size, 2, none⟩ = some (.int .i64 T) ∧ w'.cell? ⟨w.heap.size, 3, none⟩ = some (.slice a n c))) (by kernel_rfl) (HSK.out _ (Below.refl _ _).drew) (fun hHeld => ?_)
 rw [hZ0]
 rw [hZ0] at hHeld
 clear hZ0
 apply tail_once (F := Fn5 w W0 f a n c)
 case main =>
  intro HTL
  refine tjr 0 ?_
  simp only [Act.put, zA, zB, zC]
  refine tjr 2 ?_
  simp only [Act.put, zA, zB, zC]
  refine tjr 3 ?_
  simp only [Act.put, zA, zB, zC]
  refine tjr 5 ?_
  simp only [Act.put, zA, zB, zC]
  refine tjr 6 ?_
  simp only [Act.put, zA, zB, zC]
  refine wpAnyH_ready (rs := [1, 4, 7, 10]) (by kernel_rfl) (by simp) ?_
  refine AllReadyH.cons (tA rfl) (fun K hK => ?_) (AllReadyH.cons (tA rfl) (fun K hK => ?_) (AllReadyH.cons (tA rfl) (fun K hK => ?_) (AllReadyH.cons (tA rfl) (fun K hK => ?_) AllReadyH.nil)))
  ·go_simp
   refine Calls.mono (HNL.out _ (HBW.out _ HBZ0.out)) ?_
   rintro e Z1 ⟨b, ga, U, rfl, hlf, hlu, ⟨hge1, hge2⟩, hb⟩
   have HBZ1 : Hid (Below (w.heap.size + 1) W0 Z1) := HBZ0.out.trans (hb.mono (by have := HNZ0.out; omega))
   have HLF1 : Hid (LfV Z1 b f a n c ga U) := hlf
   have HLU1 : Hid (LfU f n U) := hlu
   have HNZ1 : Hid (w.heap.size + 1 ≤ Z1.heap.size ∧ w.heap.size + 1 ≤ b ∧ w.heap.size + 1 ≤ ga ∧ b < Z1.heap.size ∧ ga < Z1.heap.size) := by
    have h1 := lt_of_cell hlf.c0
    have h2 := lt_of_cell (hlf.sets 0 (by omega) 0 (by omega))
    have h3 := HNZ0.out
    have h4 := hb.size
    show w.heap.size + 1 ≤ Z1.heap.size ∧ w.heap.size + 1 ≤ b ∧ w.heap.size + 1 ≤ ga ∧ b < Z1.heap.size ∧ ga < Z1.heap.size
    omega
   clear hlf hlu hge1 hge2 hb
   try go_wp2_with fail
   refine hK.out _ _ (HSK.out _ HBZ1.out) (fun hHeld => ?_)
   clear hK K
   try simp only [Act.put, zA, zB, zC]
   refine wpAnyH_ready (rs := [4, 7, 10]) (by kernel_rfl) (by simp) ?_
   refine AllReadyH.cons (tA rfl) (fun K hK => ?_) (AllReadyH.cons (tA rfl) (fun K hK => ?_) (AllReadyH.cons (tA rfl) (fun K hK => ?_) AllReadyH.nil))
   ·obtain ⟨gu, hv⟩ : ∃ g, Z1.heap.size = g := ⟨_, rfl⟩
    obtain ⟨Z2, hZn⟩ : ∃ Y, Z1.alloc (.cells (Array.replicate (T * 7) (.int .u64 0)) 54) = Y := ⟨_, rfl⟩
    have hb : Below Z1.heap.size Z1 Z2 := by rw [← hZn]; exact bl1 _ _
    have hsz : Z2.heap.size = Z1.heap.size + 1 := by rw [← hZn]; simp
    have HBZ2 : Hid (Below (w.heap.size + 1) W0 Z2) := HBZ1.out.trans (hb.mono (by have := HNZ1.out; omega))
    have HLF2 : Hid (LfV Z2 b f a n c ga U) := HLF1.out.below hb
    have HLU2 : Hid (LfU f n U) := HLU1.out
    have HTU2 : Hid (TU Z2 gu T (fun _ => F.zero7)) := by show TU _ _ _ _; rw [← hZn, ← hv]; exact TU.new Z1 T
    have HNZ2 : Hid (w.heap.size + 1 ≤ Z2.heap.size ∧ w.heap.size + 1 ≤ b ∧ w.heap.size + 1 ≤ ga ∧ w.heap.size + 1 ≤ gu ∧ b < Z2.heap.size ∧ ga < Z2.heap.size ∧ gu < Z2.heap.size ∧ gu ≠ b ∧ gu ≠ ga) := by
     have h3 := HNZ1.out
     show w.heap.size + 1 ≤ Z2.heap.size ∧ w.heap.size + 1 ≤ b ∧ w.heap.size + 1 ≤ ga ∧ w.heap.size + 1 ≤ gu ∧ b < Z2.heap.size ∧ ga < Z2.heap.size ∧ gu < Z2.heap.size ∧ gu ≠ b ∧ gu ≠ ga
     omega
    have HV : Hid (Z1.heap.size = gu) := hv
    have HZN : Hid (Z1.alloc (.cells (Array.replicate (T * 7) (.int .u64 0)) 54) = Z2) := hZn
    have hmk := makeSet Z1 T (by omega)
    rw [hZn, hv] at hmk
    clear hb hsz hv hZn
    go_simp
    clear hmk
    clear HV HZN
    refine hK.out _ _ (HSK.out _ HBZ2.out) (fun hHeld => ?_)
    clear hK K
    try simp only [Act.put, zA, zB, zC]
    refine wpAnyH_ready (rs := [7, 10]) (by kernel_rfl) (by simp) ?_
    refine AllReadyH.cons (tA rfl) (fun K hK => ?_) (AllReadyH.cons (tA rfl) (fun K hK => ?_) AllReadyH.nil)
    ·obtain ⟨gw, hv⟩ : ∃ g, Z2.heap.size = g := ⟨_, rfl⟩
     obtain ⟨Z3, hZn⟩ : ∃ Y, Z2.alloc (.cells (Array.replicate T (.int .i64 0)) 3) = Y := ⟨_, rfl⟩
     have hb : Below Z2.heap.size Z2 Z3 := by rw [← hZn]; exact bl1 _ _
     have hsz : Z3.heap.size = Z2.heap.size + 1 := by rw [← hZn]; simp
     have HBZ3 : Hid (Below (w.heap.size + 1) W0 Z3) := HBZ2.out.trans (hb.mono (by have := HNZ2.out; omega))
     have HLF3 : Hid (LfV Z3 b f a n c ga U) := HLF2.out.below hb
     have HTU3 : Hid (TU Z3 gu T (fun _ => F.zero7)) := HTU2.out.move (hb.block _ (by have := HNZ2.out; omega)) hb.size
     have HLU3 : Hid (LfU f n U) := HLU2.out
     have HTW3 : Hid (TW Z3 gw T (List.replicate T 0)) := by show TW _ _ _ _; rw [← hZn, ← hv]; exact TW.new Z2 T
     have HNZ3 : Hid (w.heap.size + 1 ≤ Z3.heap.size ∧ w.heap.size + 1 ≤ b ∧ w.heap.size + 1 ≤ ga ∧ w.heap.size + 1 ≤ gu ∧ w.heap.size + 1 ≤ gw ∧ b < Z3.heap.size ∧ ga < Z3.heap.size ∧ gu < Z3.heap.size ∧ gw < Z3.heap.size ∧ gu ≠ b ∧ gu ≠ ga ∧ gu ≠ gw ∧ gw ≠ b ∧ gw ≠ ga) := by
      have h3 := HNZ2.out
      show w.heap.size + 1 ≤ Z3.heap.size ∧ w.heap.size + 1 ≤ b ∧ w.heap.size + 1 ≤ ga ∧ w.heap.size + 1 ≤ gu ∧ w.heap.size + 1 ≤ gw ∧ b < Z3.heap.size ∧ ga < Z3.heap.size ∧ gu < Z3.heap.size ∧ gw < Z3.heap.size ∧ gu ≠ b ∧ gu ≠ ga ∧ gu ≠ gw ∧ gw ≠ b ∧ gw ≠ ga
      omega
     have HV : Hid (Z2.heap.size = gw) := hv
     have HZN : Hid (Z2.alloc (.cells (Array.replicate T (.int .i64 0)) 3) = Z3) := hZn
     have hmk := makeInt Z2 T (by omega)
     rw [hZn, hv] at hmk
     clear hb hsz hv hZn
     go_simp
     clear hmk
     clear HV HZN
     refine hK.out _ _ (HSK.out _ HBZ3.out) (fun hHeld => ?_)
     clear hK K
     try simp only [Act.put, zA, zB, zC]
     refine tjr 8 ?_
     simp only [Act.put, zA, zB, zC]
     refine wpAnyH_ready (rs := [9, 10]) (by kernel_rfl) (by simp) ?_
     refine AllReadyH.cons (tA rfl) (fun K hK => ?_) (AllReadyH.cons (tA rfl) (fun K hK => ?_) AllReadyH.nil)
     ·obtain ⟨bf, hv⟩ : ∃ g, Z3.heap.size = g := ⟨_, rfl⟩
      obtain ⟨Z4, hZn⟩ : ∃ Y, Z3.alloc (.cells #[.pointer (some ⟨b, 0, none⟩), .slice (some ⟨gu, 0, none⟩) T T, .slice (some ⟨gw, 0, none⟩) T T] 81) = Y := ⟨_, rfl⟩
      have hb : Below Z3.heap.size Z3 Z4 := by rw [← hZn]; exact bl1 _ _
      have hsz : Z4.heap.size = Z3.heap.size + 1 := by rw [← hZn]; simp
      have HBZ4 : Hid (Below (w.heap.size + 1) W0 Z4) := HBZ3.out.trans (hb.mono (by have := HNZ3.out; omega))
      have HLF4 : Hid (LfV Z4 b f a n c ga U) := HLF3.out.below hb
      have HTU4 : Hid (TU Z4 gu T (fun _ => F.zero7)) := HTU3.out.move (hb.block _ (by have := HNZ3.out; omega)) hb.size
      have HTW4 : Hid (TW Z4 gw T (List.replicate T 0)) := HTW3.out.move (hb.block _ (by have := HNZ3.out; omega)) hb.size
      have HLU4 : Hid (LfU f n U) := HLU3.out
      have HBF4 : Hid (Bx Z4 bf [.pointer (some ⟨b, 0, none⟩), .slice (some ⟨gu, 0, none⟩) T T, .slice (some ⟨gw, 0, none⟩) T T]) := by show Bx _ _ _; rw [← hZn, ← hv]; exact Bx.new Z3 #[.pointer (some ⟨b, 0, none⟩), .slice (some ⟨gu, 0, none⟩) T T, .slice (some ⟨gw, 0, none⟩) T T] _
      have HNZ4 : Hid (w.heap.size + 1 ≤ Z4.heap.size ∧ w.heap.size + 1 ≤ b ∧ w.heap.size + 1 ≤ ga ∧ w.heap.size + 1 ≤ gu ∧ w.heap.size + 1 ≤ gw ∧ w.heap.size + 1 ≤ bf ∧ b < Z4.heap.size ∧ ga < Z4.heap.size ∧ gu < Z4.heap.size ∧ gw < Z4.heap.size ∧ bf < Z4.heap.size ∧ gu ≠ b ∧ gu ≠ ga ∧ gu ≠ gw ∧ gu ≠ bf ∧ gw ≠ b ∧ gw ≠ ga ∧ gw ≠ bf) := by
       have h3 := HNZ3.out
       show w.heap.size + 1 ≤ Z4.heap.size ∧ w.heap.size + 1 ≤ b ∧ w.heap.size + 1 ≤ ga ∧ w.heap.size + 1 ≤ gu ∧ w.heap.size + 1 ≤ gw ∧ w.heap.size + 1 ≤ bf ∧ b < Z4.heap.size ∧ ga < Z4.heap.size ∧ gu < Z4.heap.size ∧ gw < Z4.heap.size ∧ bf < Z4.heap.size ∧ gu ≠ b ∧ gu ≠ ga ∧ gu ≠ gw ∧ gu ≠ bf ∧ gw ≠ b ∧ gw ≠ ga ∧ gw ≠ bf
       omega
      have HV : Hid (Z3.heap.size = bf) := hv
      have HZN : Hid (Z3.alloc (.cells #[.pointer (some ⟨b, 0, none⟩), .slice (some ⟨gu, 0, none⟩) T T, .slice (some ⟨gw, 0, none⟩) T T] 81) = Z4) := hZn
      clear hb hsz hv hZn
      go_simp
      rw [HZN.out, HV.out]
      clear HV HZN
      refine hK.out _ _ (HSK.out _ HBZ4.out) (fun hHeld => ?_)
      clear hK K
      try simp only [Act.put, zA, zB, zC]
      refine wpAnyH_ready (rs := [10]) (by kernel_rfl) (by simp) ?_
      refine AllReadyH.cons (tA rfl) (fun K hK => ?_) AllReadyH.nil
      ·obtain ⟨bs, hv⟩ : ∃ g, Z4.heap.size = g := ⟨_, rfl⟩
       obtain ⟨Z5, hZn⟩ : ∃ Y, Z4.alloc (.cells #[.pointer none] 62) = Y := ⟨_, rfl⟩
       have hb : Below Z4.heap.size Z4 Z5 := by rw [← hZn]; exact bl1 _ _
       have hsz : Z5.heap.size = Z4.heap.size + 1 := by rw [← hZn]; simp
       have HBZ5 : Hid (Below (w.heap.size + 1) W0 Z5) := HBZ4.out.trans (hb.mono (by have := HNZ4.out; omega))
       have HLF5 : Hid (LfV Z5 b f a n c ga U) := HLF4.out.below hb
       have HTU5 : Hid (TU Z5 gu T (fun _ => F.zero7)) := HTU4.out.move (hb.block _ (by have := HNZ4.out; omega)) hb.size
       have HTW5 : Hid (TW Z5 gw T (List.replicate T 0)) := HTW4.out.move (hb.block _ (by have := HNZ4.out; omega)) hb.size
       have HBF5 : Hid (Bx Z5 bf [.pointer (some ⟨b, 0, none⟩), .slice (some ⟨gu, 0, none⟩) T T, .slice (some ⟨gw, 0, none⟩) T T]) := HBF4.out.below hb
       have HLU5 : Hid (LfU f n U) := HLU4.out
       have HBS5 : Hid (Bx Z5 bs [.pointer none]) := by show Bx _ _ _; rw [← hZn, ← hv]; exact Bx.new Z4 #[.pointer none] _
       have HNZ5 : Hid (w.heap.size + 1 ≤ Z5.heap.size ∧ w.heap.size + 1 ≤ b ∧ w.heap.size + 1 ≤ ga ∧ w.heap.size + 1 ≤ gu ∧ w.heap.size + 1 ≤ gw ∧ w.heap.size + 1 ≤ bs ∧ w.heap.size + 1 ≤ bf ∧ b < Z5.heap.size ∧ ga < Z5.heap.size ∧ gu < Z5.heap.size ∧ gw < Z5.heap.size ∧ bs < Z5.heap.size ∧ bf < Z5.heap.size ∧ gu ≠ b ∧ gu ≠ ga ∧ gu ≠ gw ∧ gu ≠ bf ∧ gw ≠ b ∧ gw ≠ ga ∧ gw ≠ bf ∧ bs ≠ b ∧ bs ≠ ga ∧ bs ≠ bf ∧ bs ≠ gu ∧ bs ≠ gw) := by
        have h3 := HNZ4.out
        show w.heap.size + 1 ≤ Z5.heap.size ∧ w.heap.size + 1 ≤ b ∧ w.heap.size + 1 ≤ ga ∧ w.heap.size + 1 ≤ gu ∧ w.heap.size + 1 ≤ gw ∧ w.heap.size + 1 ≤ bs ∧ w.heap.size + 1 ≤ bf ∧ b < Z5.heap.size ∧ ga < Z5.heap.size ∧ gu < Z5.heap.size ∧ gw < Z5.heap.size ∧ bs < Z5.heap.size ∧ bf < Z5.heap.size ∧ gu ≠ b ∧ gu ≠ ga ∧ gu ≠ gw ∧ gu ≠ bf ∧ gw ≠ b ∧ gw ≠ ga ∧ gw ≠ bf ∧ bs ≠ b ∧ bs ≠ ga ∧ bs ≠ bf ∧ bs ≠ gu ∧ bs ≠ gw
        omega
       have HV : Hid (Z4.heap.size = bs) := hv
       have HZN : Hid (Z4.alloc (.cells #[.pointer none] 62) = Z5) := hZn
       clear hb hsz hv hZn
       go_simp
       rw [HZN.out, HV.out]
       clear HV HZN
       refine hK.out _ _ (HSK.out _ HBZ5.out) (fun hHeld => ?_)
       clear hK K
       try simp only [Act.put, zA, zB, zC]
       refine HTL b gu gw bf bs Z5 ⟨ga, U, HLU5.out, ⟨HBW.out _ HBZ5.out, HLF5.out, ?_, ?_, ?_, ?_, ?_⟩, HBS5.out, HBZ5.out, ?_⟩
       ·rw [HT.out]; exact HBF5.out
       ·rw [HT.out]; exact HTU5.out
       ·rw [HT.out]; exact HTW5.out
       ·have := HNZ5.out; omega
       ·have := HNZ5.out; omega
       ·have := HNZ5.out; omega
     ·obtain ⟨bs, hv⟩ : ∃ g, Z3.heap.size = g := ⟨_, rfl⟩
      obtain ⟨Z4, hZn⟩ : ∃ Y, Z3.alloc (.cells #[.pointer none] 62) = Y := ⟨_, rfl⟩
      have hb : Below Z3.heap.size Z3 Z4 := by rw [← hZn]; exact bl1 _ _
      have hsz : Z4.heap.size = Z3.heap.size + 1 := by rw [← hZn]; simp
      have HBZ4 : Hid (Below (w.heap.size + 1) W0 Z4) := HBZ3.out.trans (hb.mono (by have := HNZ3.out; omega))
      have HLF4 : Hid (LfV Z4 b f a n c ga U) := HLF3.out.below hb
      have HTU4 : Hid (TU Z4 gu T (fun _ => F.zero7)) := HTU3.out.move (hb.block _ (by have := HNZ3.out; omega)) hb.size
      have HTW4 : Hid (TW Z4 gw T (List.replicate T 0)) := HTW3.out.move (hb.block _ (by have := HNZ3.out; omega)) hb.size
      have HLU4 : Hid (LfU f n U) := HLU3.out
      have HBS4 : Hid (Bx Z4 bs [.pointer none]) := by show Bx _ _ _; rw [← hZn, ← hv]; exact Bx.new Z3 #[.pointer none] _
      have HNZ4 : Hid (w.heap.size + 1 ≤ Z4.heap.size ∧ w.heap.size + 1 ≤ b ∧ w.heap.size + 1 ≤ ga ∧ w.heap.size + 1 ≤ gu ∧ w.heap.size + 1 ≤ gw ∧ w.heap.size + 1 ≤ bs ∧ b < Z4.heap.size ∧ ga < Z4.heap.size ∧ gu < Z4.heap.size ∧ gw < Z4.heap.size ∧ bs < Z4.heap.size ∧ gu ≠ b ∧ gu ≠ ga ∧ gu ≠ gw ∧ gw ≠ b ∧ gw ≠ ga ∧ bs ≠ b ∧ bs ≠ ga ∧ bs ≠ gu ∧ bs ≠ gw) := by
       have h3 := HNZ3.out
       show w.heap.size + 1 ≤ Z4.heap.size ∧ w.heap.size + 1 ≤ b ∧ w.heap.size + 1 ≤ ga ∧ w.heap.size + 1 ≤ gu ∧ w.heap.size + 1 ≤ gw ∧ w.heap.size + 1 ≤ bs ∧ b < Z4.heap.size ∧ ga < Z4.heap.size ∧ gu < Z4.heap.size ∧ gw < Z4.heap.size ∧ bs < Z4.heap.size ∧ gu ≠ b ∧ gu ≠ ga ∧ gu ≠ gw ∧ gw ≠ b ∧ gw ≠ ga ∧ bs ≠ b ∧ bs ≠ ga ∧ bs ≠ gu ∧ bs ≠ gw
       omega
      have HV : Hid (Z3.heap.size = bs) := hv
      have HZN : Hid (Z3.alloc (.cells #[.pointer none] 62) = Z4) := hZn
      clear hb hsz hv hZn
      go_simp
      rw [HZN.out, HV.out]
      clear HV HZN
      refine hK.out _ _ (HSK.out _ HBZ4.out) (fun hHeld => ?_)
      clear hK K
      try simp only [Act.put, zA, zB, zC]
      refine wpAnyH_ready (rs := [9]) (by kernel_rfl) (by simp) ?_
      refine AllReadyH.cons (tA rfl) (fun K hK => ?_) AllReadyH.nil
      ·obtain ⟨bf, hv⟩ : ∃ g, Z4.heap.size = g := ⟨_, rfl⟩
       obtain ⟨Z5, hZn⟩ : ∃ Y, Z4.alloc (.cells #[.pointer (some ⟨b, 0, none⟩), .slice (some ⟨gu, 0, none⟩) T T, .slice (some ⟨gw, 0, none⟩) T T] 81) = Y := ⟨_, rfl⟩
       have hb : Below Z4.heap.size Z4 Z5 := by rw [← hZn]; exact bl1 _ _
       have hsz : Z5.heap.size = Z4.heap.size + 1 := by rw [← hZn]; simp
       have HBZ5 : Hid (Below (w.heap.size + 1) W0 Z5) := HBZ4.out.trans (hb.mono (by have := HNZ4.out; omega))
       have HLF5 : Hid (LfV Z5 b f a n c ga U) := HLF4.out.below hb
       have HTU5 : Hid (TU Z5 gu T (fun _ => F.zero7)) := HTU4.out.move (hb.block _ (by have := HNZ4.out; omega)) hb.size
       have HTW5 : Hid (TW Z5 gw T (List.replicate T 0)) := HTW4.out.move (hb.block _ (by have := HNZ4.out; omega)) hb.size
       have HBS5 : Hid (Bx Z5 bs [.pointer none]) := HBS4.out.below hb
       have HLU5 : Hid (LfU f n U) := HLU4.out
       have HBF5 : Hid (Bx Z5 bf [.pointer (some ⟨b, 0, none⟩), .slice (some ⟨gu, 0, none⟩) T T, .slice (some ⟨gw, 0, none⟩) T T]) := by show Bx _ _ _; rw [← hZn, ← hv]; exact Bx.new Z4 #[.pointer (some ⟨b, 0, none⟩), .slice (some ⟨gu, 0, none⟩) T T, .slice (some ⟨gw, 0, none⟩) T T] _
       have HNZ5 : Hid (w.heap.size + 1 ≤ Z5.heap.size ∧ w.heap.size + 1 ≤ b ∧ w.heap.size + 1 ≤ ga ∧ w.heap.size + 1 ≤ gu ∧ w.heap.size + 1 ≤ gw ∧ w.heap.size + 1 ≤ bs ∧ w.heap.size + 1 ≤ bf ∧ b < Z5.heap.size ∧ ga < Z5.heap.size ∧ gu < Z5.heap.size ∧ gw < Z5.heap.size ∧ bs < Z5.heap.size ∧ bf < Z5.heap.size ∧ gu ≠ b ∧ gu ≠ ga ∧ gu ≠ gw ∧ gu ≠ bf ∧ gw ≠ b ∧ gw ≠ ga ∧ gw ≠ bf ∧ bs ≠ b ∧ bs ≠ ga ∧ bs ≠ bf ∧ bs ≠ gu ∧ bs ≠ gw) := by
        have h3 := HNZ4.out
        show w.heap.size + 1 ≤ Z5.heap.size ∧ w.heap.size + 1 ≤ b ∧ w.heap.size + 1 ≤ ga ∧ w.heap.size + 1 ≤ gu ∧ w.heap.size + 1 ≤ gw ∧ w.heap.size + 1 ≤ bs ∧ w.heap.size + 1 ≤ bf ∧ b < Z5.heap.size ∧ ga < Z5.heap.size ∧ gu < Z5.heap.size ∧ gw < Z5.heap.size ∧ bs < Z5.heap.size ∧ bf < Z5.heap.size ∧ gu ≠ b ∧ gu ≠ ga ∧ gu ≠ gw ∧ gu ≠ bf ∧ gw ≠ b ∧ gw ≠ ga ∧ gw ≠ bf ∧ bs ≠ b ∧ bs ≠ ga ∧ bs ≠ bf ∧ bs ≠ gu ∧ bs ≠ gw
        omega
       have HV : Hid (Z4.heap.size = bf) := hv
       have HZN : Hid (Z4.alloc (.cells #[.pointer (some ⟨b, 0, none⟩), .slice (some ⟨gu, 0, none⟩) T T, .slice (some ⟨gw, 0, none⟩) T T] 81) = Z5) := hZn
       clear hb hsz hv hZn
       go_simp
       rw [HZN.out, HV.out]
       clear HV HZN
       refine hK.out _ _ (HSK.out _ HBZ5.out) (fun hHeld => ?_)
       clear hK K
       try simp only [Act.put, zA, zB, zC]
       refine HTL b gu gw bf bs Z5 ⟨ga, U, HLU5.out, ⟨HBW.out _ HBZ5.out, HLF5.out, ?_, ?_, ?_, ?_, ?_⟩, HBS5.out, HBZ5.out, ?_⟩
       ·rw [HT.out]; exact HBF5.out
       ·rw [HT.out]; exact HTU5.out
       ·rw [HT.out]; exact HTW5.out
       ·have := HNZ5.out; omega
       ·have := HNZ5.out; omega
       ·have := HNZ5.out; omega
    ·obtain ⟨bs, hv⟩ : ∃ g, Z2.heap.size = g := ⟨_, rfl⟩
     obtain ⟨Z3, hZn⟩ : ∃ Y, Z2.alloc (.cells #[.pointer none] 62) = Y := ⟨_, rfl⟩
     have hb : Below Z2.heap.size Z2 Z3 := by rw [← hZn]; exact bl1 _ _
     have hsz : Z3.heap.size = Z2.heap.size + 1 := by rw [← hZn]; simp
     have HBZ3 : Hid (Below (w.heap.size + 1) W0 Z3) := HBZ2.out.trans (hb.mono (by have := HNZ2.out; omega))
     have HLF3 : Hid (LfV Z3 b f a n c ga U) := HLF2.out.below hb
     have HTU3 : Hid (TU Z3 gu T (fun _ => F.zero7)) := HTU2.out.move (hb.block _ (by have := HNZ2.out; omega)) hb.size
     have HLU3 : Hid (LfU f n U) := HLU2.out
     have HBS3 : Hid (Bx Z3 bs [.pointer none]) := by show Bx _ _ _; rw [← hZn, ← hv]; exact Bx.new Z2 #[.pointer none] _
     have HNZ3 : Hid (w.heap.size + 1 ≤ Z3.heap.size ∧ w.heap.size + 1 ≤ b ∧ w.heap.size + 1 ≤ ga ∧ w.heap.size + 1 ≤ gu ∧ w.heap.size + 1 ≤ bs ∧ b < Z3.heap.size ∧ ga < Z3.heap.size ∧ gu < Z3.heap.size ∧ bs < Z3.heap.size ∧ gu ≠ b ∧ gu ≠ ga ∧ bs ≠ b ∧ bs ≠ ga ∧ bs ≠ gu) := by
      have h3 := HNZ2.out
      show w.heap.size + 1 ≤ Z3.heap.size ∧ w.heap.size + 1 ≤ b ∧ w.heap.size + 1 ≤ ga ∧ w.heap.size + 1 ≤ gu ∧ w.heap.size + 1 ≤ bs ∧ b < Z3.heap.size ∧ ga < Z3.heap.size ∧ gu < Z3.heap.size ∧ bs < Z3.heap.size ∧ gu ≠ b ∧ gu ≠ ga ∧ bs ≠ b ∧ bs ≠ ga ∧ bs ≠ gu
      omega
     have HV : Hid (Z2.heap.size = bs) := hv
     have HZN : Hid (Z2.alloc (.cells #[.pointer none] 62) = Z3) := hZn
     clear hb hsz hv hZn
     go_simp
     rw [HZN.out, HV.out]
     clear HV HZN
     refine hK.out _ _ (HSK.out _ HBZ3.out) (fun hHeld => ?_)
     clear hK K
     try simp only [Act.put, zA, zB, zC]
     refine wpAnyH_ready (rs := [7]) (by kernel_rfl) (by simp) ?_
     refine AllReadyH.cons (tA rfl) (fun K hK => ?_) AllReadyH.nil
     ·obtain ⟨gw, hv⟩ : ∃ g, Z3.heap.size = g := ⟨_, rfl⟩
      obtain ⟨Z4, hZn⟩ : ∃ Y, Z3.alloc (.cells (Array.replicate T (.int .i64 0)) 3) = Y := ⟨_, rfl⟩
      have hb : Below Z3.heap.size Z3 Z4 := by rw [← hZn]; exact bl1 _ _
      have hsz : Z4.heap.size = Z3.heap.size + 1 := by rw [← hZn]; simp
      have HBZ4 : Hid (Below (w.heap.size + 1) W0 Z4) := HBZ3.out.trans (hb.mono (by have := HNZ3.out; omega))
      have HLF4 : Hid (LfV Z4 b f a n c ga U) := HLF3.out.below hb
      have HTU4 : Hid (TU Z4 gu T (fun _ => F.zero7)) := HTU3.out.move (hb.block _ (by have := HNZ3.out; omega)) hb.size
      have HBS4 : Hid (Bx Z4 bs [.pointer none]) := HBS3.out.below hb
      have HLU4 : Hid (LfU f n U) := HLU3.out
      have HTW4 : Hid (TW Z4 gw T (List.replicate T 0)) := by show TW _ _ _ _; rw [← hZn, ← hv]; exact TW.new Z3 T
      have HNZ4 : Hid (w.heap.size + 1 ≤ Z4.heap.size ∧ w.heap.size + 1 ≤ b ∧ w.heap.size + 1 ≤ ga ∧ w.heap.size + 1 ≤ gu ∧ w.heap.size + 1 ≤ gw ∧ w.heap.size + 1 ≤ bs ∧ b < Z4.heap.size ∧ ga < Z4.heap.size ∧ gu < Z4.heap.size ∧ gw < Z4.heap.size ∧ bs < Z4.heap.size ∧ gu ≠ b ∧ gu ≠ ga ∧ gu ≠ gw ∧ gw ≠ b ∧ gw ≠ ga ∧ bs ≠ b ∧ bs ≠ ga ∧ bs ≠ gu ∧ bs ≠ gw) := by
       have h3 := HNZ3.out
       show w.heap.size + 1 ≤ Z4.heap.size ∧ w.heap.size + 1 ≤ b ∧ w.heap.size + 1 ≤ ga ∧ w.heap.size + 1 ≤ gu ∧ w.heap.size + 1 ≤ gw ∧ w.heap.size + 1 ≤ bs ∧ b < Z4.heap.size ∧ ga < Z4.heap.size ∧ gu < Z4.heap.size ∧ gw < Z4.heap.size ∧ bs < Z4.heap.size ∧ gu ≠ b ∧ gu ≠ ga ∧ gu ≠ gw ∧ gw ≠ b ∧ gw ≠ ga ∧ bs ≠ b ∧ bs ≠ ga ∧ bs ≠ gu ∧ bs ≠ gw
       omega
      have HV : Hid (Z3.heap.size = gw) := hv
      have HZN : Hid (Z3.alloc (.cells (Array.replicate T (.int .i64 0)) 3) = Z4) := hZn
      have hmk := makeInt Z3 T (by omega)
      rw [hZn, hv] at hmk
      clear hb hsz hv hZn
      go_simp
      clear hmk
      clear HV HZN
      refine hK.out _ _ (HSK.out _ HBZ4.out) (fun hHeld => ?_)
      clear hK K
      try simp only [Act.put, zA, zB, zC]
      refine tjr 8 ?_
      simp only [Act.put, zA, zB, zC]
      refine wpAnyH_ready (rs := [9]) (by kernel_rfl) (by simp) ?_
      refine AllReadyH.cons (tA rfl) (fun K hK => ?_) AllReadyH.nil
      ·obtain ⟨bf, hv⟩ : ∃ g, Z4.heap.size = g := ⟨_, rfl⟩
       obtain ⟨Z5, hZn⟩ : ∃ Y, Z4.alloc (.cells #[.pointer (some ⟨b, 0, none⟩), .slice (some ⟨gu, 0, none⟩) T T, .slice (some ⟨gw, 0, none⟩) T T] 81) = Y := ⟨_, rfl⟩
       have hb : Below Z4.heap.size Z4 Z5 := by rw [← hZn]; exact bl1 _ _
       have hsz : Z5.heap.size = Z4.heap.size + 1 := by rw [← hZn]; simp
       have HBZ5 : Hid (Below (w.heap.size + 1) W0 Z5) := HBZ4.out.trans (hb.mono (by have := HNZ4.out; omega))
       have HLF5 : Hid (LfV Z5 b f a n c ga U) := HLF4.out.below hb
       have HTU5 : Hid (TU Z5 gu T (fun _ => F.zero7)) := HTU4.out.move (hb.block _ (by have := HNZ4.out; omega)) hb.size
       have HTW5 : Hid (TW Z5 gw T (List.replicate T 0)) := HTW4.out.move (hb.block _ (by have := HNZ4.out; omega)) hb.size
       have HBS5 : Hid (Bx Z5 bs [.pointer none]) := HBS4.out.below hb
       have HLU5 : Hid (LfU f n U) := HLU4.out
       have HBF5 : Hid (Bx Z5 bf [.pointer (some ⟨b, 0, none⟩), .slice (some ⟨gu, 0, none⟩) T T, .slice (some ⟨gw, 0, none⟩) T T]) := by show Bx _ _ _; rw [← hZn, ← hv]; exact Bx.new Z4 #[.pointer (some ⟨b, 0, none⟩), .slice (some ⟨gu, 0, none⟩) T T, .slice (some ⟨gw, 0, none⟩) T T] _
       have HNZ5 : Hid (w.heap.size + 1 ≤ Z5.heap.size ∧ w.heap.size + 1 ≤ b ∧ w.heap.size + 1 ≤ ga ∧ w.heap.size + 1 ≤ gu ∧ w.heap.size + 1 ≤ gw ∧ w.heap.size + 1 ≤ bs ∧ w.heap.size + 1 ≤ bf ∧ b < Z5.heap.size ∧ ga < Z5.heap.size ∧ gu < Z5.heap.size ∧ gw < Z5.heap.size ∧ bs < Z5.heap.size ∧ bf < Z5.heap.size ∧ gu ≠ b ∧ gu ≠ ga ∧ gu ≠ gw ∧ gu ≠ bf ∧ gw ≠ b ∧ gw ≠ ga ∧ gw ≠ bf ∧ bs ≠ b ∧ bs ≠ ga ∧ bs ≠ bf ∧ bs ≠ gu ∧ bs ≠ gw) := by
        have h3 := HNZ4.out
        show w.heap.size + 1 ≤ Z5.heap.size ∧ w.heap.size + 1 ≤ b ∧ w.heap.size + 1 ≤ ga ∧ w.heap.size + 1 ≤ gu ∧ w.heap.size + 1 ≤ gw ∧ w.heap.size + 1 ≤ bs ∧ w.heap.size + 1 ≤ bf ∧ b < Z5.heap.size ∧ ga < Z5.heap.size ∧ gu < Z5.heap.size ∧ gw < Z5.heap.size ∧ bs < Z5.heap.size ∧ bf < Z5.heap.size ∧ gu ≠ b ∧ gu ≠ ga ∧ gu ≠ gw ∧ gu ≠ bf ∧ gw ≠ b ∧ gw ≠ ga ∧ gw ≠ bf ∧ bs ≠ b ∧ bs ≠ ga ∧ bs ≠ bf ∧ bs ≠ gu ∧ bs ≠ gw
        omega
       have HV : Hid (Z4.heap.size = bf) := hv
       have HZN : Hid (Z4.alloc (.cells #[.pointer (some ⟨b, 0, none⟩), .slice (some ⟨gu, 0, none⟩) T T, .slice (some ⟨gw, 0, none⟩) T T] 81) = Z5) := hZn
       clear hb hsz hv hZn
       go_simp
       rw [HZN.out, HV.out]
       clear HV HZN
       refine hK.out _ _ (HSK.out _ HBZ5.out) (fun hHeld => ?_)
       clear hK K
       try simp only [Act.put, zA, zB, zC]
       refine HTL b gu gw bf bs Z5 ⟨ga, U, HLU5.out, ⟨HBW.out _ HBZ5.out, HLF5.out, ?_, ?_, ?_, ?_, ?_⟩, HBS5.out, HBZ5.out, ?_⟩
       ·rw [HT.out]; exact HBF5.out
       ·rw [HT.out]; exact HTU5.out
       ·rw [HT.out]; exact HTW5.out
       ·have := HNZ5.out; omega
       ·have := HNZ5.out; omega
       ·have := HNZ5.out; omega
   ·obtain ⟨gw, hv⟩ : ∃ g, Z1.heap.size = g := ⟨_, rfl⟩
    obtain ⟨Z2, hZn⟩ : ∃ Y, Z1.alloc (.cells (Array.replicate T (.int .i64 0)) 3) = Y := ⟨_, rfl⟩
    have hb : Below Z1.heap.size Z1 Z2 := by rw [← hZn]; exact bl1 _ _
    have hsz : Z2.heap.size = Z1.heap.size + 1 := by rw [← hZn]; simp
    have HBZ2 : Hid (Below (w.heap.size + 1) W0 Z2) := HBZ1.out.trans (hb.mono (by have := HNZ1.out; omega))
    have HLF2 : Hid (LfV Z2 b f a n c ga U) := HLF1.out.below hb
    have HLU2 : Hid (LfU f n U) := HLU1.out
    have HTW2 : Hid (TW Z2 gw T (List.replicate T 0)) := by show TW _ _ _ _; rw [← hZn, ← hv]; exact TW.new Z1 T
    have HNZ2 : Hid (w.heap.size + 1 ≤ Z2.heap.size ∧ w.heap.size + 1 ≤ b ∧ w.heap.size + 1 ≤ ga ∧ w.heap.size + 1 ≤ gw ∧ b < Z2.heap.size ∧ ga < Z2.heap.size ∧ gw < Z2.heap.size ∧ gw ≠ b ∧ gw ≠ ga) := by
     have h3 := HNZ1.out
     show w.heap.size + 1 ≤ Z2.heap.size ∧ w.heap.size + 1 ≤ b ∧ w.heap.size + 1 ≤ ga ∧ w.heap.size + 1 ≤ gw ∧ b < Z2.heap.size ∧ ga < Z2.heap.size ∧ gw < Z2.heap.size ∧ gw ≠ b ∧ gw ≠ ga
     omega
    have HV : Hid (Z1.heap.size = gw) := hv
    have HZN : Hid (Z1.alloc (.cells (Array.replicate T (.int .i64 0)) 3) = Z2) := hZn
    have hmk := makeInt Z1 T (by omega)
    rw [hZn, hv] at hmk
    clear hb hsz hv hZn
    go_simp
    clear hmk
    clear HV HZN
    refine hK.out _ _ (HSK.out _ HBZ2.out) (fun hHeld => ?_)
    clear hK K
    try simp only [Act.put, zA, zB, zC]
    refine wpAnyH_ready (rs := [4, 10]) (by kernel_rfl) (by simp) ?_
    refine AllReadyH.cons (tA rfl) (fun K hK => ?_) (AllReadyH.cons (tA rfl) (fun K hK => ?_) AllReadyH.nil)
    ·obtain ⟨gu, hv⟩ : ∃ g, Z2.heap.size = g := ⟨_, rfl⟩
     obtain ⟨Z3, hZn⟩ : ∃ Y, Z2.alloc (.cells (Array.replicate (T * 7) (.int .u64 0)) 54) = Y := ⟨_, rfl⟩
     have hb : Below Z2.heap.size Z2 Z3 := by rw [← hZn]; exact bl1 _ _
     have hsz : Z3.heap.size = Z2.heap.size + 1 := by rw [← hZn]; simp
     have HBZ3 : Hid (Below (w.heap.size + 1) W0 Z3) := HBZ2.out.trans (hb.mono (by have := HNZ2.out; omega))
     have HLF3 : Hid (LfV Z3 b f a n c ga U) := HLF2.out.below hb
     have HTW3 : Hid (TW Z3 gw T (List.replicate T 0)) := HTW2.out.move (hb.block _ (by have := HNZ2.out; omega)) hb.size
     have HLU3 : Hid (LfU f n U) := HLU2.out
     have HTU3 : Hid (TU Z3 gu T (fun _ => F.zero7)) := by show TU _ _ _ _; rw [← hZn, ← hv]; exact TU.new Z2 T
     have HNZ3 : Hid (w.heap.size + 1 ≤ Z3.heap.size ∧ w.heap.size + 1 ≤ b ∧ w.heap.size + 1 ≤ ga ∧ w.heap.size + 1 ≤ gu ∧ w.heap.size + 1 ≤ gw ∧ b < Z3.heap.size ∧ ga < Z3.heap.size ∧ gu < Z3.heap.size ∧ gw < Z3.heap.size ∧ gu ≠ b ∧ gu ≠ ga ∧ gu ≠ gw ∧ gw ≠ b ∧ gw ≠ ga) := by
      have h3 := HNZ2.out
      show w.heap.size + 1 ≤ Z3.heap.size ∧ w.heap.size + 1 ≤ b ∧ w.heap.size + 1 ≤ ga ∧ w.heap.size + 1 ≤ gu ∧ w.heap.size + 1 ≤ gw ∧ b < Z3.heap.size ∧ ga < Z3.heap.size ∧ gu < Z3.heap.size ∧ gw < Z3.heap.size ∧ gu ≠ b ∧ gu ≠ ga ∧ gu ≠ gw ∧ gw ≠ b ∧ gw ≠ ga
      omega
     have HV : Hid (Z2.heap.size = gu) := hv
     have HZN : Hid (Z2.alloc (.cells (Array.replicate (T * 7) (.int .u64 0)) 54) = Z3) := hZn
     have hmk := makeSet Z2 T (by omega)
     rw [hZn, hv] at hmk
     clear hb hsz hv hZn
     go_simp
     clear hmk
     clear HV HZN
     refine hK.out _ _ (HSK.out _ HBZ3.out) (fun hHeld => ?_)
     clear hK K
     try simp only [Act.put, zA, zB, zC]
     refine tjr 8 ?_
     simp only [Act.put, zA, zB, zC]
     refine wpAnyH_ready (rs := [9, 10]) (by kernel_rfl) (by simp) ?_
     refine AllReadyH.cons (tA rfl) (fun K hK => ?_) (AllReadyH.cons (tA rfl) (fun K hK => ?_) AllReadyH.nil)
     ·obtain ⟨bf, hv⟩ : ∃ g, Z3.heap.size = g := ⟨_, rfl⟩
      obtain ⟨Z4, hZn⟩ : ∃ Y, Z3.alloc (.cells #[.pointer (some ⟨b, 0, none⟩), .slice (some ⟨gu, 0, none⟩) T T, .slice (some ⟨gw, 0, none⟩) T T] 81) = Y := ⟨_, rfl⟩
      have hb : Below Z3.heap.size Z3 Z4 := by rw [← hZn]; exact bl1 _ _
      have hsz : Z4.heap.size = Z3.heap.size + 1 := by rw [← hZn]; simp
      have HBZ4 : Hid (Below (w.heap.size + 1) W0 Z4) := HBZ3.out.trans (hb.mono (by have := HNZ3.out; omega))
      have HLF4 : Hid (LfV Z4 b f a n c ga U) := HLF3.out.below hb
      have HTU4 : Hid (TU Z4 gu T (fun _ => F.zero7)) := HTU3.out.move (hb.block _ (by have := HNZ3.out; omega)) hb.size
      have HTW4 : Hid (TW Z4 gw T (List.replicate T 0)) := HTW3.out.move (hb.block _ (by have := HNZ3.out; omega)) hb.size
      have HLU4 : Hid (LfU f n U) := HLU3.out
      have HBF4 : Hid (Bx Z4 bf [.pointer (some ⟨b, 0, none⟩), .slice (some ⟨gu, 0, none⟩) T T, .slice (some ⟨gw, 0, none⟩) T T]) := by show Bx _ _ _; rw [← hZn, ← hv]; exact Bx.new Z3 #[.pointer (some ⟨b, 0, none⟩), .slice (some ⟨gu, 0, none⟩) T T, .slice (some ⟨gw, 0, none⟩) T T] _
      have HNZ4 : Hid (w.heap.size + 1 ≤ Z4.heap.size ∧ w.heap.size + 1 ≤ b ∧ w.heap.size + 1 ≤ ga ∧ w.heap.size + 1 ≤ gu ∧ w.heap.size + 1 ≤ gw ∧ w.heap.size + 1 ≤ bf ∧ b < Z4.heap.size ∧ ga < Z4.heap.size ∧ gu < Z4.heap.size ∧ gw < Z4.heap.size ∧ bf < Z4.heap.size ∧ gu ≠ b ∧ gu ≠ ga ∧ gu ≠ gw ∧ gu ≠ bf ∧ gw ≠ b ∧ gw ≠ ga ∧ gw ≠ bf) := by
       have h3 := HNZ3.out
       show w.heap.size + 1 ≤ Z4.heap.size ∧ w.heap.size + 1 ≤ b ∧ w.heap.size + 1 ≤ ga ∧ w.heap.size + 1 ≤ gu ∧ w.heap.size + 1 ≤ gw ∧ w.heap.size + 1 ≤ bf ∧ b < Z4.heap.size ∧ ga < Z4.heap.size ∧ gu < Z4.heap.size ∧ gw < Z4.heap.size ∧ bf < Z4.heap.size ∧ gu ≠ b ∧ gu ≠ ga ∧ gu ≠ gw ∧ gu ≠ bf ∧ gw ≠ b ∧ gw ≠ ga ∧ gw ≠ bf
       omega
      have HV : Hid (Z3.heap.size = bf) := hv
      have HZN : Hid (Z3.alloc (.cells #[.pointer (some ⟨b, 0, none⟩), .slice (some ⟨gu, 0, none⟩) T T, .slice (some ⟨gw, 0, none⟩) T T] 81) = Z4) := hZn
      clear hb hsz hv hZn
      go_simp
      rw [HZN.out, HV.out]
      clear HV HZN
      refine hK.out _ _ (HSK.out _ HBZ4.out) (fun hHeld => ?_)
      clear hK K
      try simp only [Act.put, zA, zB, zC]
      refine wpAnyH_ready (rs := [10]) (by kernel_rfl) (by simp) ?_
      refine AllReadyH.cons (tA rfl) (fun K hK => ?_) AllReadyH.nil
      ·obtain ⟨bs, hv⟩ : ∃ g, Z4.heap.size = g := ⟨_, rfl⟩
       obtain ⟨Z5, hZn⟩ : ∃ Y, Z4.alloc (.cells #[.pointer none] 62) = Y := ⟨_, rfl⟩
       have hb : Below Z4.heap.size Z4 Z5 := by rw [← hZn]; exact bl1 _ _
       have hsz : Z5.heap.size = Z4.heap.size + 1 := by rw [← hZn]; simp
       have HBZ5 : Hid (Below (w.heap.size + 1) W0 Z5) := HBZ4.out.trans (hb.mono (by have := HNZ4.out; omega))
       have HLF5 : Hid (LfV Z5 b f a n c ga U) := HLF4.out.below hb
       have HTU5 : Hid (TU Z5 gu T (fun _ => F.zero7)) := HTU4.out.move (hb.block _ (by have := HNZ4.out; omega)) hb.size
       have HTW5 : Hid (TW Z5 gw T (List.replicate T 0)) := HTW4.out.move (hb.block _ (by have := HNZ4.out; omega)) hb.size
       have HBF5 : Hid (Bx Z5 bf [.pointer (some ⟨b, 0, none⟩), .slice (some ⟨gu, 0, none⟩) T T, .slice (some ⟨gw, 0, none⟩) T T]) := HBF4.out.below hb
       have HLU5 : Hid (LfU f n U) := HLU4.out
       have HBS5 : Hid (Bx Z5 bs [.pointer none]) := by show Bx _ _ _; rw [← hZn, ← hv]; exact Bx.new Z4 #[.pointer none] _
       have HNZ5 : Hid (w.heap.size + 1 ≤ Z5.heap.size ∧ w.heap.size + 1 ≤ b ∧ w.heap.size + 1 ≤ ga ∧ w.heap.size + 1 ≤ gu ∧ w.heap.size + 1 ≤ gw ∧ w.heap.size + 1 ≤ bs ∧ w.heap.size + 1 ≤ bf ∧ b < Z5.heap.size ∧ ga < Z5.heap.size ∧ gu < Z5.heap.size ∧ gw < Z5.heap.size ∧ bs < Z5.heap.size ∧ bf < Z5.heap.size ∧ gu ≠ b ∧ gu ≠ ga ∧ gu ≠ gw ∧ gu ≠ bf ∧ gw ≠ b ∧ gw ≠ ga ∧ gw ≠ bf ∧ bs ≠ b ∧ bs ≠ ga ∧ bs ≠ bf ∧ bs ≠ gu ∧ bs ≠ gw) := by
        have h3 := HNZ4.out
        show w.heap.size + 1 ≤ Z5.heap.size ∧ w.heap.size + 1 ≤ b ∧ w.heap.size + 1 ≤ ga ∧ w.heap.size + 1 ≤ gu ∧ w.heap.size + 1 ≤ gw ∧ w.heap.size + 1 ≤ bs ∧ w.heap.size + 1 ≤ bf ∧ b < Z5.heap.size ∧ ga < Z5.heap.size ∧ gu < Z5.heap.size ∧ gw < Z5.heap.size ∧ bs < Z5.heap.size ∧ bf < Z5.heap.size ∧ gu ≠ b ∧ gu ≠ ga ∧ gu ≠ gw ∧ gu ≠ bf ∧ gw ≠ b ∧ gw ≠ ga ∧ gw ≠ bf ∧ bs ≠ b ∧ bs ≠ ga ∧ bs ≠ bf ∧ bs ≠ gu ∧ bs ≠ gw
        omega
       have HV : Hid (Z4.heap.size = bs) := hv
       have HZN : Hid (Z4.alloc (.cells #[.pointer none] 62) = Z5) := hZn
       clear hb hsz hv hZn
       go_simp
       rw [HZN.out, HV.out]
       clear HV HZN
       refine hK.out _ _ (HSK.out _ HBZ5.out) (fun hHeld => ?_)
       clear hK K
       try simp only [Act.put, zA, zB, zC]
       refine HTL b gu gw bf bs Z5 ⟨ga, U, HLU5.out, ⟨HBW.out _ HBZ5.out, HLF5.out, ?_, ?_, ?_, ?_, ?_⟩, HBS5.out, HBZ5.out, ?_⟩
       ·rw [HT.out]; exact HBF5.out
       ·rw [HT.out]; exact HTU5.out
       ·rw [HT.out]; exact HTW5.out
       ·have := HNZ5.out; omega
       ·have := HNZ5.out; omega
       ·have := HNZ5.out; omega
     ·obtain ⟨bs, hv⟩ : ∃ g, Z3.heap.size = g := ⟨_, rfl⟩
      obtain ⟨Z4, hZn⟩ : ∃ Y, Z3.alloc (.cells #[.pointer none] 62) = Y := ⟨_, rfl⟩
      have hb : Below Z3.heap.size Z3 Z4 := by rw [← hZn]; exact bl1 _ _
      have hsz : Z4.heap.size = Z3.heap.size + 1 := by rw [← hZn]; simp
      have HBZ4 : Hid (Below (w.heap.size + 1) W0 Z4) := HBZ3.out.trans (hb.mono (by have := HNZ3.out; omega))
      have HLF4 : Hid (LfV Z4 b f a n c ga U) := HLF3.out.below hb
      have HTU4 : Hid (TU Z4 gu T (fun _ => F.zero7)) := HTU3.out.move (hb.block _ (by have := HNZ3.out; omega)) hb.size
      have HTW4 : Hid (TW Z4 gw T (List.replicate T 0)) := HTW3.out.move (hb.block _ (by have := HNZ3.out; omega)) hb.size
      have HLU4 : Hid (LfU f n U) := HLU3.out
      have HBS4 : Hid (Bx Z4 bs [.pointer none]) := by show Bx _ _ _; rw [← hZn, ← hv]; exact Bx.new Z3 #[.pointer none] _
      have HNZ4 : Hid (w.heap.size + 1 ≤ Z4.heap.size ∧ w.heap.size + 1 ≤ b ∧ w.heap.size + 1 ≤ ga ∧ w.heap.size + 1 ≤ gu ∧ w.heap.size + 1 ≤ gw ∧ w.heap.size + 1 ≤ bs ∧ b < Z4.heap.size ∧ ga < Z4.heap.size ∧ gu < Z4.heap.size ∧ gw < Z4.heap.size ∧ bs < Z4.heap.size ∧ gu ≠ b ∧ gu ≠ ga ∧ gu ≠ gw ∧ gw ≠ b ∧ gw ≠ ga ∧ bs ≠ b ∧ bs ≠ ga ∧ bs ≠ gu ∧ bs ≠ gw) := by
       have h3 := HNZ3.out
       show w.heap.size + 1 ≤ Z4.heap.size ∧ w.heap.size + 1 ≤ b ∧ w.heap.size + 1 ≤ ga ∧ w.heap.size + 1 ≤ gu ∧ w.heap.size + 1 ≤ gw ∧ w.heap.size + 1 ≤ bs ∧ b < Z4.heap.size ∧ ga < Z4.heap.size ∧ gu < Z4.heap.size ∧ gw < Z4.heap.size ∧ bs < Z4.heap.size ∧ gu ≠ b ∧ gu ≠ ga ∧ gu ≠ gw ∧ gw ≠ b ∧ gw ≠ ga ∧ bs ≠ b ∧ bs ≠ ga ∧ bs ≠ gu ∧ bs ≠ gw
       omega
      have HV : Hid (Z3.heap.size = bs) := hv
      have HZN : Hid (Z3.alloc (.cells #[.pointer none] 62) = Z4) := hZn
      clear hb hsz hv hZn
      go_simp
      rw [HZN.out, HV.out]
      clear HV HZN
      refine hK.out _ _ (HSK.out _ HBZ4.out) (fun hHeld => ?_)
      clear hK K
      try simp only [Act.put, zA, zB, zC]
      refine wpAnyH_ready (rs := [9]) (by kernel_rfl) (by simp) ?_
      refine AllReadyH.cons (tA rfl) (fun K hK => ?_) AllReadyH.nil
      ·obtain ⟨bf, hv⟩ : ∃ g, Z4.heap.size = g := ⟨_, rfl⟩
       obtain ⟨Z5, hZn⟩ : ∃ Y, Z4.alloc (.cells #[.pointer (some ⟨b, 0, none⟩), .slice (some ⟨gu, 0, none⟩) T T, .slice (some ⟨gw, 0, none⟩) T T] 81) = Y := ⟨_, rfl⟩
       have hb : Below Z4.heap.size Z4 Z5 := by rw [← hZn]; exact bl1 _ _
       have hsz : Z5.heap.size = Z4.heap.size + 1 := by rw [← hZn]; simp
       have HBZ5 : Hid (Below (w.heap.size + 1) W0 Z5) := HBZ4.out.trans (hb.mono (by have := HNZ4.out; omega))
       have HLF5 : Hid (LfV Z5 b f a n c ga U) := HLF4.out.below hb
       have HTU5 : Hid (TU Z5 gu T (fun _ => F.zero7)) := HTU4.out.move (hb.block _ (by have := HNZ4.out; omega)) hb.size
       have HTW5 : Hid (TW Z5 gw T (List.replicate T 0)) := HTW4.out.move (hb.block _ (by have := HNZ4.out; omega)) hb.size
       have HBS5 : Hid (Bx Z5 bs [.pointer none]) := HBS4.out.below hb
       have HLU5 : Hid (LfU f n U) := HLU4.out
       have HBF5 : Hid (Bx Z5 bf [.pointer (some ⟨b, 0, none⟩), .slice (some ⟨gu, 0, none⟩) T T, .slice (some ⟨gw, 0, none⟩) T T]) := by show Bx _ _ _; rw [← hZn, ← hv]; exact Bx.new Z4 #[.pointer (some ⟨b, 0, none⟩), .slice (some ⟨gu, 0, none⟩) T T, .slice (some ⟨gw, 0, none⟩) T T] _
       have HNZ5 : Hid (w.heap.size + 1 ≤ Z5.heap.size ∧ w.heap.size + 1 ≤ b ∧ w.heap.size + 1 ≤ ga ∧ w.heap.size + 1 ≤ gu ∧ w.heap.size + 1 ≤ gw ∧ w.heap.size + 1 ≤ bs ∧ w.heap.size + 1 ≤ bf ∧ b < Z5.heap.size ∧ ga < Z5.heap.size ∧ gu < Z5.heap.size ∧ gw < Z5.heap.size ∧ bs < Z5.heap.size ∧ bf < Z5.heap.size ∧ gu ≠ b ∧ gu ≠ ga ∧ gu ≠ gw ∧ gu ≠ bf ∧ gw ≠ b ∧ gw ≠ ga ∧ gw ≠ bf ∧ bs ≠ b ∧ bs ≠ ga ∧ bs ≠ bf ∧ bs ≠ gu ∧ bs ≠ gw) := by
        have h3 := HNZ4.out
        show w.heap.size + 1 ≤ Z5.heap.size ∧ w.heap.size + 1 ≤ b ∧ w.heap.size + 1 ≤ ga ∧ w.heap.size + 1 ≤ gu ∧ w.heap.size + 1 ≤ gw ∧ w.heap.size + 1 ≤ bs ∧ w.heap.size + 1 ≤ bf ∧ b < Z5.heap.size ∧ ga < Z5.heap.size ∧ gu < Z5.heap.size ∧ gw < Z5.heap.size ∧ bs < Z5.heap.size ∧ bf < Z5.heap.size ∧ gu ≠ b ∧ gu ≠ ga ∧ gu ≠ gw ∧ gu ≠ bf ∧ gw ≠ b ∧ gw ≠ ga ∧ gw ≠ bf ∧ bs ≠ b ∧ bs ≠ ga ∧ bs ≠ bf ∧ bs ≠ gu ∧ bs ≠ gw
        omega
       have HV : Hid (Z4.heap.size = bf) := hv
       have HZN : Hid (Z4.alloc (.cells #[.pointer (some ⟨b, 0, none⟩), .slice (some ⟨gu, 0, none⟩) T T, .slice (some ⟨gw, 0, none⟩) T T] 81) = Z5) := hZn
       clear hb hsz hv hZn
       go_simp
       rw [HZN.out, HV.out]
       clear HV HZN
       refine hK.out _ _ (HSK.out _ HBZ5.out) (fun hHeld => ?_)
       clear hK K
       try simp only [Act.put, zA, zB, zC]
       refine HTL b gu gw bf bs Z5 ⟨ga, U, HLU5.out, ⟨HBW.out _ HBZ5.out, HLF5.out, ?_, ?_, ?_, ?_, ?_⟩, HBS5.out, HBZ5.out, ?_⟩
       ·rw [HT.out]; exact HBF5.out
       ·rw [HT.out]; exact HTU5.out
       ·rw [HT.out]; exact HTW5.out
       ·have := HNZ5.out; omega
       ·have := HNZ5.out; omega
       ·have := HNZ5.out; omega
    ·obtain ⟨bs, hv⟩ : ∃ g, Z2.heap.size = g := ⟨_, rfl⟩
     obtain ⟨Z3, hZn⟩ : ∃ Y, Z2.alloc (.cells #[.pointer none] 62) = Y := ⟨_, rfl⟩
     have hb : Below Z2.heap.size Z2 Z3 := by rw [← hZn]; exact bl1 _ _
     have hsz : Z3.heap.size = Z2.heap.size + 1 := by rw [← hZn]; simp
     have HBZ3 : Hid (Below (w.heap.size + 1) W0 Z3) := HBZ2.out.trans (hb.mono (by have := HNZ2.out; omega))
     have HLF3 : Hid (LfV Z3 b f a n c ga U) := HLF2.out.below hb
     have HTW3 : Hid (TW Z3 gw T (List.replicate T 0)) := HTW2.out.move (hb.block _ (by have := HNZ2.out; omega)) hb.size
     have HLU3 : Hid (LfU f n U) := HLU2.out
     have HBS3 : Hid (Bx Z3 bs [.pointer none]) := by show Bx _ _ _; rw [← hZn, ← hv]; exact Bx.new Z2 #[.pointer none] _
     have HNZ3 : Hid (w.heap.size + 1 ≤ Z3.heap.size ∧ w.heap.size + 1 ≤ b ∧ w.heap.size + 1 ≤ ga ∧ w.heap.size + 1 ≤ gw ∧ w.heap.size + 1 ≤ bs ∧ b < Z3.heap.size ∧ ga < Z3.heap.size ∧ gw < Z3.heap.size ∧ bs < Z3.heap.size ∧ gw ≠ b ∧ gw ≠ ga ∧ bs ≠ b ∧ bs ≠ ga ∧ bs ≠ gw) := by
      have h3 := HNZ2.out
      show w.heap.size + 1 ≤ Z3.heap.size ∧ w.heap.size + 1 ≤ b ∧ w.heap.size + 1 ≤ ga ∧ w.heap.size + 1 ≤ gw ∧ w.heap.size + 1 ≤ bs ∧ b < Z3.heap.size ∧ ga < Z3.heap.size ∧ gw < Z3.heap.size ∧ bs < Z3.heap.size ∧ gw ≠ b ∧ gw ≠ ga ∧ bs ≠ b ∧ bs ≠ ga ∧ bs ≠ gw
      omega
     have HV : Hid (Z2.heap.size = bs) := hv
     have HZN : Hid (Z2.alloc (.cells #[.pointer none] 62) = Z3) := hZn
     clear hb hsz hv hZn
     go_simp
     rw [HZN.out, HV.out]
     clear HV HZN
     refine hK.out _ _ (HSK.out _ HBZ3.out) (fun hHeld => ?_)
     clear hK K
     try simp only [Act.put, zA, zB, zC]
     refine wpAnyH_ready (rs := [4]) (by kernel_rfl) (by simp) ?_
     refine AllReadyH.cons (tA rfl) (fun K hK => ?_) AllReadyH.nil
     ·obtain ⟨gu, hv⟩ : ∃ g, Z3.heap.size = g := ⟨_, rfl⟩
      obtain ⟨Z4, hZn⟩ : ∃ Y, Z3.alloc (.cells (Array.replicate (T * 7) (.int .u64 0)) 54) = Y := ⟨_, rfl⟩
      have hb : Below Z3.heap.size Z3 Z4 := by rw [← hZn]; exact bl1 _ _
      have hsz : Z4.heap.size = Z3.heap.size + 1 := by rw [← hZn]; simp
      have HBZ4 : Hid (Below (w.heap.size + 1) W0 Z4) := HBZ3.out.trans (hb.mono (by have := HNZ3.out; omega))
      have HLF4 : Hid (LfV Z4 b f a n c ga U) := HLF3.out.below hb
      have HTW4 : Hid (TW Z4 gw T (List.replicate T 0)) := HTW3.out.move (hb.block _ (by have := HNZ3.out; omega)) hb.size
      have HBS4 : Hid (Bx Z4 bs [.pointer none]) := HBS3.out.below hb
      have HLU4 : Hid (LfU f n U) := HLU3.out
      have HTU4 : Hid (TU Z4 gu T (fun _ => F.zero7)) := by show TU _ _ _ _; rw [← hZn, ← hv]; exact TU.new Z3 T
      have HNZ4 : Hid (w.heap.size + 1 ≤ Z4.heap.size ∧ w.heap.size + 1 ≤ b ∧ w.heap.size + 1 ≤ ga ∧ w.heap.size + 1 ≤ gu ∧ w.heap.size + 1 ≤ gw ∧ w.heap.size + 1 ≤ bs ∧ b < Z4.heap.size ∧ ga < Z4.heap.size ∧ gu < Z4.heap.size ∧ gw < Z4.heap.size ∧ bs < Z4.heap.size ∧ gu ≠ b ∧ gu ≠ ga ∧ gu ≠ gw ∧ gw ≠ b ∧ gw ≠ ga ∧ bs ≠ b ∧ bs ≠ ga ∧ bs ≠ gu ∧ bs ≠ gw) := by
       have h3 := HNZ3.out
       show w.heap.size + 1 ≤ Z4.heap.size ∧ w.heap.size + 1 ≤ b ∧ w.heap.size + 1 ≤ ga ∧ w.heap.size + 1 ≤ gu ∧ w.heap.size + 1 ≤ gw ∧ w.heap.size + 1 ≤ bs ∧ b < Z4.heap.size ∧ ga < Z4.heap.size ∧ gu < Z4.heap.size ∧ gw < Z4.heap.size ∧ bs < Z4.heap.size ∧ gu ≠ b ∧ gu ≠ ga ∧ gu ≠ gw ∧ gw ≠ b ∧ gw ≠ ga ∧ bs ≠ b ∧ bs ≠ ga ∧ bs ≠ gu ∧ bs ≠ gw
       omega
      have HV : Hid (Z3.heap.size = gu) := hv
      have HZN : Hid (Z3.alloc (.cells (Array.replicate (T * 7) (.int .u64 0)) 54) = Z4) := hZn
      have hmk := makeSet Z3 T (by omega)
      rw [hZn, hv] at hmk
      clear hb hsz hv hZn
      go_simp
      clear hmk
      clear HV HZN
      refine hK.out _ _ (HSK.out _ HBZ4.out) (fun hHeld => ?_)
      clear hK K
      try simp only [Act.put, zA, zB, zC]
      refine tjr 8 ?_
      simp only [Act.put, zA, zB, zC]
      refine wpAnyH_ready (rs := [9]) (by kernel_rfl) (by simp) ?_
      refine AllReadyH.cons (tA rfl) (fun K hK => ?_) AllReadyH.nil
      ·obtain ⟨bf, hv⟩ : ∃ g, Z4.heap.size = g := ⟨_, rfl⟩
       obtain ⟨Z5, hZn⟩ : ∃ Y, Z4.alloc (.cells #[.pointer (some ⟨b, 0, none⟩), .slice (some ⟨gu, 0, none⟩) T T, .slice (some ⟨gw, 0, none⟩) T T] 81) = Y := ⟨_, rfl⟩
       have hb : Below Z4.heap.size Z4 Z5 := by rw [← hZn]; exact bl1 _ _
       have hsz : Z5.heap.size = Z4.heap.size + 1 := by rw [← hZn]; simp
       have HBZ5 : Hid (Below (w.heap.size + 1) W0 Z5) := HBZ4.out.trans (hb.mono (by have := HNZ4.out; omega))
       have HLF5 : Hid (LfV Z5 b f a n c ga U) := HLF4.out.below hb
       have HTU5 : Hid (TU Z5 gu T (fun _ => F.zero7)) := HTU4.out.move (hb.block _ (by have := HNZ4.out; omega)) hb.size
       have HTW5 : Hid (TW Z5 gw T (List.replicate T 0)) := HTW4.out.move (hb.block _ (by have := HNZ4.out; omega)) hb.size
       have HBS5 : Hid (Bx Z5 bs [.pointer none]) := HBS4.out.below hb
       have HLU5 : Hid (LfU f n U) := HLU4.out
       have HBF5 : Hid (Bx Z5 bf [.pointer (some ⟨b, 0, none⟩), .slice (some ⟨gu, 0, none⟩) T T, .slice (some ⟨gw, 0, none⟩) T T]) := by show Bx _ _ _; rw [← hZn, ← hv]; exact Bx.new Z4 #[.pointer (some ⟨b, 0, none⟩), .slice (some ⟨gu, 0, none⟩) T T, .slice (some ⟨gw, 0, none⟩) T T] _
       have HNZ5 : Hid (w.heap.size + 1 ≤ Z5.heap.size ∧ w.heap.size + 1 ≤ b ∧ w.heap.size + 1 ≤ ga ∧ w.heap.size + 1 ≤ gu ∧ w.heap.size + 1 ≤ gw ∧ w.heap.size + 1 ≤ bs ∧ w.heap.size + 1 ≤ bf ∧ b < Z5.heap.size ∧ ga < Z5.heap.size ∧ gu < Z5.heap.size ∧ gw < Z5.heap.size ∧ bs < Z5.heap.size ∧ bf < Z5.heap.size ∧ gu ≠ b ∧ gu ≠ ga ∧ gu ≠ gw ∧ gu ≠ bf ∧ gw ≠ b ∧ gw ≠ ga ∧ gw ≠ bf ∧ bs ≠ b ∧ bs ≠ ga ∧ bs ≠ bf ∧ bs ≠ gu ∧ bs ≠ gw) := by
        have h3 := HNZ4.out
        show w.heap.size + 1 ≤ Z5.heap.size ∧ w.heap.size + 1 ≤ b ∧ w.heap.size + 1 ≤ ga ∧ w.heap.size + 1 ≤ gu ∧ w.heap.size + 1 ≤ gw ∧ w.heap.size + 1 ≤ bs ∧ w.heap.size + 1 ≤ bf ∧ b < Z5.heap.size ∧ ga < Z5.heap.size ∧ gu < Z5.heap.size ∧ gw < Z5.heap.size ∧ bs < Z5.heap.size ∧ bf < Z5.heap.size ∧ gu ≠ b ∧ gu ≠ ga ∧ gu ≠ gw ∧ gu ≠ bf ∧ gw ≠ b ∧ gw ≠ ga ∧ gw ≠ bf ∧ bs ≠ b ∧ bs ≠ ga ∧ bs ≠ bf ∧ bs ≠ gu ∧ bs ≠ gw
        omega
       have HV : Hid (Z4.heap.size = bf) := hv
       have HZN : Hid (Z4.alloc (.cells #[.pointer (some ⟨b, 0, none⟩), .slice (some ⟨gu, 0, none⟩) T T, .slice (some ⟨gw, 0, none⟩) T T] 81) = Z5) := hZn
       clear hb hsz hv hZn
       go_simp
       rw [HZN.out, HV.out]
       clear HV HZN
       refine hK.out _ _ (HSK.out _ HBZ5.out) (fun hHeld => ?_)
       clear hK K
       try simp only [Act.put, zA, zB, zC]
       refine HTL b gu gw bf bs Z5 ⟨ga, U, HLU5.out, ⟨HBW.out _ HBZ5.out, HLF5.out, ?_, ?_, ?_, ?_, ?_⟩, HBS5.out, HBZ5.out, ?_⟩
       ·rw [HT.out]; exact HBF5.out
       ·rw [HT.out]; exact HTU5.out
       ·rw [HT.out]; exact HTW5.out
       ·have := HNZ5.out; omega
       ·have := HNZ5.out; omega
       ·have := HNZ5.out; omega
   ·obtain ⟨bs, hv⟩ : ∃ g, Z1.heap.size = g := ⟨_, rfl⟩
    obtain ⟨Z2, hZn⟩ : ∃ Y, Z1.alloc (.cells #[.pointer none] 62) = Y := ⟨_, rfl⟩
    have hb : Below Z1.heap.size Z1 Z2 := by rw [← hZn]; exact bl1 _ _
    have hsz : Z2.heap.size = Z1.heap.size + 1 := by rw [← hZn]; simp
    have HBZ2 : Hid (Below (w.heap.size + 1) W0 Z2) := HBZ1.out.trans (hb.mono (by have := HNZ1.out; omega))
    have HLF2 : Hid (LfV Z2 b f a n c ga U) := HLF1.out.below hb
    have HLU2 : Hid (LfU f n U) := HLU1.out
    have HBS2 : Hid (Bx Z2 bs [.pointer none]) := by show Bx _ _ _; rw [← hZn, ← hv]; exact Bx.new Z1 #[.pointer none] _
    have HNZ2 : Hid (w.heap.size + 1 ≤ Z2.heap.size ∧ w.heap.size + 1 ≤ b ∧ w.heap.size + 1 ≤ ga ∧ w.heap.size + 1 ≤ bs ∧ b < Z2.heap.size ∧ ga < Z2.heap.size ∧ bs < Z2.heap.size ∧ bs ≠ b ∧ bs ≠ ga) := by
     have h3 := HNZ1.out
     show w.heap.size + 1 ≤ Z2.heap.size ∧ w.heap.size + 1 ≤ b ∧ w.heap.size + 1 ≤ ga ∧ w.heap.size + 1 ≤ bs ∧ b < Z2.heap.size ∧ ga < Z2.heap.size ∧ bs < Z2.heap.size ∧ bs ≠ b ∧ bs ≠ ga
     omega
    have HV : Hid (Z1.heap.size = bs) := hv
    have HZN : Hid (Z1.alloc (.cells #[.pointer none] 62) = Z2) := hZn
    clear hb hsz hv hZn
    go_simp
    rw [HZN.out, HV.out]
    clear HV HZN
    refine hK.out _ _ (HSK.out _ HBZ2.out) (fun hHeld => ?_)
    clear hK K
    try simp only [Act.put, zA, zB, zC]
    refine wpAnyH_ready (rs := [4, 7]) (by kernel_rfl) (by simp) ?_
    refine AllReadyH.cons (tA rfl) (fun K hK => ?_) (AllReadyH.cons (tA rfl) (fun K hK => ?_) AllReadyH.nil)
    ·obtain ⟨gu, hv⟩ : ∃ g, Z2.heap.size = g := ⟨_, rfl⟩
     obtain ⟨Z3, hZn⟩ : ∃ Y, Z2.alloc (.cells (Array.replicate (T * 7) (.int .u64 0)) 54) = Y := ⟨_, rfl⟩
     have hb : Below Z2.heap.size Z2 Z3 := by rw [← hZn]; exact bl1 _ _
     have hsz : Z3.heap.size = Z2.heap.size + 1 := by rw [← hZn]; simp
     have HBZ3 : Hid (Below (w.heap.size + 1) W0 Z3) := HBZ2.out.trans (hb.mono (by have := HNZ2.out; omega))
     have HLF3 : Hid (LfV Z3 b f a n c ga U) := HLF2.out.below hb
     have HBS3 : Hid (Bx Z3 bs [.pointer none]) := HBS2.out.below hb
     have HLU3 : Hid (LfU f n U) := HLU2.out
     have HTU3 : Hid (TU Z3 gu T (fun _ => F.zero7)) := by show TU _ _ _ _; rw [← hZn, ← hv]; exact TU.new Z2 T
     have HNZ3 : Hid (w.heap.size + 1 ≤ Z3.heap.size ∧ w.heap.size + 1 ≤ b ∧ w.heap.size + 1 ≤ ga ∧ w.heap.size + 1 ≤ gu ∧ w.heap.size + 1 ≤ bs ∧ b < Z3.heap.size ∧ ga < Z3.heap.size ∧ gu < Z3.heap.size ∧ bs < Z3.heap.size ∧ gu ≠ b ∧ gu ≠ ga ∧ bs ≠ b ∧ bs ≠ ga ∧ bs ≠ gu) := by
      have h3 := HNZ2.out
      show w.heap.size + 1 ≤ Z3.heap.size ∧ w.heap.size + 1 ≤ b ∧ w.heap.size + 1 ≤ ga ∧ w.heap.size + 1 ≤ gu ∧ w.heap.size + 1 ≤ bs ∧ b < Z3.heap.size ∧ ga < Z3.heap.size ∧ gu < Z3.heap.size ∧ bs < Z3.heap.size ∧ gu ≠ b ∧ gu ≠ ga ∧ bs ≠ b ∧ bs ≠ ga ∧ bs ≠ gu
      omega
     have HV : Hid (Z2.heap.size = gu) := hv
     have HZN : Hid (Z2.alloc (.cells (Array.replicate (T * 7) (.int .u64 0)) 54) = Z3) := hZn
     have hmk := makeSet Z2 T (by omega)
     rw [hZn, hv] at hmk
     clear hb hsz hv hZn
     go_simp
     clear hmk
     clear HV HZN
     refine hK.out _ _ (HSK.out _ HBZ3.out) (fun hHeld => ?_)
     clear hK K
     try simp only [Act.put, zA, zB, zC]
     refine wpAnyH_ready (rs := [7]) (by kernel_rfl) (by simp) ?_
     refine AllReadyH.cons (tA rfl) (fun K hK => ?_) AllReadyH.nil
     ·obtain ⟨gw, hv⟩ : ∃ g, Z3.heap.size = g := ⟨_, rfl⟩
      obtain ⟨Z4, hZn⟩ : ∃ Y, Z3.alloc (.cells (Array.replicate T (.int .i64 0)) 3) = Y := ⟨_, rfl⟩
      have hb : Below Z3.heap.size Z3 Z4 := by rw [← hZn]; exact bl1 _ _
      have hsz : Z4.heap.size = Z3.heap.size + 1 := by rw [← hZn]; simp
      have HBZ4 : Hid (Below (w.heap.size + 1) W0 Z4) := HBZ3.out.trans (hb.mono (by have := HNZ3.out; omega))
      have HLF4 : Hid (LfV Z4 b f a n c ga U) := HLF3.out.below hb
      have HTU4 : Hid (TU Z4 gu T (fun _ => F.zero7)) := HTU3.out.move (hb.block _ (by have := HNZ3.out; omega)) hb.size
      have HBS4 : Hid (Bx Z4 bs [.pointer none]) := HBS3.out.below hb
      have HLU4 : Hid (LfU f n U) := HLU3.out
      have HTW4 : Hid (TW Z4 gw T (List.replicate T 0)) := by show TW _ _ _ _; rw [← hZn, ← hv]; exact TW.new Z3 T
      have HNZ4 : Hid (w.heap.size + 1 ≤ Z4.heap.size ∧ w.heap.size + 1 ≤ b ∧ w.heap.size + 1 ≤ ga ∧ w.heap.size + 1 ≤ gu ∧ w.heap.size + 1 ≤ gw ∧ w.heap.size + 1 ≤ bs ∧ b < Z4.heap.size ∧ ga < Z4.heap.size ∧ gu < Z4.heap.size ∧ gw < Z4.heap.size ∧ bs < Z4.heap.size ∧ gu ≠ b ∧ gu ≠ ga ∧ gu ≠ gw ∧ gw ≠ b ∧ gw ≠ ga ∧ bs ≠ b ∧ bs ≠ ga ∧ bs ≠ gu ∧ bs ≠ gw) := by
       have h3 := HNZ3.out
       show w.heap.size + 1 ≤ Z4.heap.size ∧ w.heap.size + 1 ≤ b ∧ w.heap.size + 1 ≤ ga ∧ w.heap.size + 1 ≤ gu ∧ w.heap.size + 1 ≤ gw ∧ w.heap.size + 1 ≤ bs ∧ b < Z4.heap.size ∧ ga < Z4.heap.size ∧ gu < Z4.heap.size ∧ gw < Z4.heap.size ∧ bs < Z4.heap.size ∧ gu ≠ b ∧ gu ≠ ga ∧ gu ≠ gw ∧ gw ≠ b ∧ gw ≠ ga ∧ bs ≠ b ∧ bs ≠ ga ∧ bs ≠ gu ∧ bs ≠ gw
       omega
      have HV : Hid (Z3.heap.size = gw) := hv
      have HZN : Hid (Z3.alloc (.cells (Array.replicate T (.int .i64 0)) 3) = Z4) := hZn
      have hmk := makeInt Z3 T (by omega)
      rw [hZn, hv] at hmk
      clear hb hsz hv hZn
      go_simp
      clear hmk
      clear HV HZN
      refine hK.out _ _ (HSK.out _ HBZ4.out) (fun hHeld => ?_)
      clear hK K
      try simp only [Act.put, zA, zB, zC]
      refine tjr 8 ?_
      simp only [Act.put, zA, zB, zC]
      refine wpAnyH_ready (rs := [9]) (by kernel_rfl) (by simp) ?_
      refine AllReadyH.cons (tA rfl) (fun K hK => ?_) AllReadyH.nil
      ·obtain ⟨bf, hv⟩ : ∃ g, Z4.heap.size = g := ⟨_, rfl⟩
       obtain ⟨Z5, hZn⟩ : ∃ Y, Z4.alloc (.cells #[.pointer (some ⟨b, 0, none⟩), .slice (some ⟨gu, 0, none⟩) T T, .slice (some ⟨gw, 0, none⟩) T T] 81) = Y := ⟨_, rfl⟩
       have hb : Below Z4.heap.size Z4 Z5 := by rw [← hZn]; exact bl1 _ _
       have hsz : Z5.heap.size = Z4.heap.size + 1 := by rw [← hZn]; simp
       have HBZ5 : Hid (Below (w.heap.size + 1) W0 Z5) := HBZ4.out.trans (hb.mono (by have := HNZ4.out; omega))
       have HLF5 : Hid (LfV Z5 b f a n c ga U) := HLF4.out.below hb
       have HTU5 : Hid (TU Z5 gu T (fun _ => F.zero7)) := HTU4.out.move (hb.block _ (by have := HNZ4.out; omega)) hb.size
       have HTW5 : Hid (TW Z5 gw T (List.replicate T 0)) := HTW4.out.move (hb.block _ (by have := HNZ4.out; omega)) hb.size
       have HBS5 : Hid (Bx Z5 bs [.pointer none]) := HBS4.out.below hb
       have HLU5 : Hid (LfU f n U) := HLU4.out
       have HBF5 : Hid (Bx Z5 bf [.pointer (some ⟨b, 0, none⟩), .slice (some ⟨gu, 0, none⟩) T T, .slice (some ⟨gw, 0, none⟩) T T]) := by show Bx _ _ _; rw [← hZn, ← hv]; exact Bx.new Z4 #[.pointer (some ⟨b, 0, none⟩), .slice (some ⟨gu, 0, none⟩) T T, .slice (some ⟨gw, 0, none⟩) T T] _
       have HNZ5 : Hid (w.heap.size + 1 ≤ Z5.heap.size ∧ w.heap.size + 1 ≤ b ∧ w.heap.size + 1 ≤ ga ∧ w.heap.size + 1 ≤ gu ∧ w.heap.size + 1 ≤ gw ∧ w.heap.size + 1 ≤ bs ∧ w.heap.size + 1 ≤ bf ∧ b < Z5.heap.size ∧ ga < Z5.heap.size ∧ gu < Z5.heap.size ∧ gw < Z5.heap.size ∧ bs < Z5.heap.size ∧ bf < Z5.heap.size ∧ gu ≠ b ∧ gu ≠ ga ∧ gu ≠ gw ∧ gu ≠ bf ∧ gw ≠ b ∧ gw ≠ ga ∧ gw ≠ bf ∧ bs ≠ b ∧ bs ≠ ga ∧ bs ≠ bf ∧ bs ≠ gu ∧ bs ≠ gw) := by
        have h3 := HNZ4.out
        show w.heap.size + 1 ≤ Z5.heap.size ∧ w.heap.size + 1 ≤ b ∧ w.heap.size + 1 ≤ ga ∧ w.heap.size + 1 ≤ gu ∧ w.heap.size + 1 ≤ gw ∧ w.heap.size + 1 ≤ bs ∧ w.heap.size + 1 ≤ bf ∧ b < Z5.heap.size ∧ ga < Z5.heap.size ∧ gu < Z5.heap.size ∧ gw < Z5.heap.size ∧ bs < Z5.heap.size ∧ bf < Z5.heap.size ∧ gu ≠ b ∧ gu ≠ ga ∧ gu ≠ gw ∧ gu ≠ bf ∧ gw ≠ b ∧ gw ≠ ga ∧ gw ≠ bf ∧ bs ≠ b ∧ bs ≠ ga ∧ bs ≠ bf ∧ bs ≠ gu ∧ bs ≠ gw
        omega
       have HV : Hid (Z4.heap.size = bf) := hv
       have HZN : Hid (Z4.alloc (.cells #[.pointer (some ⟨b, 0, none⟩), .slice (some ⟨gu, 0, none⟩) T T, .slice (some ⟨gw, 0, none⟩) T T] 81) = Z5) := hZn
       clear hb hsz hv hZn
       go_simp
       rw [HZN.out, HV.out]
       clear HV HZN
       refine hK.out _ _ (HSK.out _ HBZ5.out) (fun hHeld => ?_)
       clear hK K
       try simp only [Act.put, zA, zB, zC]
       refine HTL b gu gw bf bs Z5 ⟨ga, U, HLU5.out, ⟨HBW.out _ HBZ5.out, HLF5.out, ?_, ?_, ?_, ?_, ?_⟩, HBS5.out, HBZ5.out, ?_⟩
       ·rw [HT.out]; exact HBF5.out
       ·rw [HT.out]; exact HTU5.out
       ·rw [HT.out]; exact HTW5.out
       ·have := HNZ5.out; omega
       ·have := HNZ5.out; omega
       ·have := HNZ5.out; omega
    ·obtain ⟨gw, hv⟩ : ∃ g, Z2.heap.size = g := ⟨_, rfl⟩
     obtain ⟨Z3, hZn⟩ : ∃ Y, Z2.alloc (.cells (Array.replicate T (.int .i64 0)) 3) = Y := ⟨_, rfl⟩
     have hb : Below Z2.heap.size Z2 Z3 := by rw [← hZn]; exact bl1 _ _
     have hsz : Z3.heap.size = Z2.heap.size + 1 := by rw [← hZn]; simp
     have HBZ3 : Hid (Below (w.heap.size + 1) W0 Z3) := HBZ2.out.trans (hb.mono (by have := HNZ2.out; omega))
     have HLF3 : Hid (LfV Z3 b f a n c ga U) := HLF2.out.below hb
     have HBS3 : Hid (Bx Z3 bs [.pointer none]) := HBS2.out.below hb
     have HLU3 : Hid (LfU f n U) := HLU2.out
     have HTW3 : Hid (TW Z3 gw T (List.replicate T 0)) := by show TW _ _ _ _; rw [← hZn, ← hv]; exact TW.new Z2 T
     have HNZ3 : Hid (w.heap.size + 1 ≤ Z3.heap.size ∧ w.heap.size + 1 ≤ b ∧ w.heap.size + 1 ≤ ga ∧ w.heap.size + 1 ≤ gw ∧ w.heap.size + 1 ≤ bs ∧ b < Z3.heap.size ∧ ga < Z3.heap.size ∧ gw < Z3.heap.size ∧ bs < Z3.heap.size ∧ gw ≠ b ∧ gw ≠ ga ∧ bs ≠ b ∧ bs ≠ ga ∧ bs ≠ gw) := by
      have h3 := HNZ2.out
      show w.heap.size + 1 ≤ Z3.heap.size ∧ w.heap.size + 1 ≤ b ∧ w.heap.size + 1 ≤ ga ∧ w.heap.size + 1 ≤ gw ∧ w.heap.size + 1 ≤ bs ∧ b < Z3.heap.size ∧ ga < Z3.heap.size ∧ gw < Z3.heap.size ∧ bs < Z3.heap.size ∧ gw ≠ b ∧ gw ≠ ga ∧ bs ≠ b ∧ bs ≠ ga ∧ bs ≠ gw
      omega
     have HV : Hid (Z2.heap.size = gw) := hv
     have HZN : Hid (Z2.alloc (.cells (Array.replicate T (.int .i64 0)) 3) = Z3) := hZn
     have hmk := makeInt Z2 T (by omega)
     rw [hZn, hv] at hmk
     clear hb hsz hv hZn
     go_simp
     clear hmk
     clear HV HZN
     refine hK.out _ _ (HSK.out _ HBZ3.out) (fun hHeld => ?_)
     clear hK K
     try simp only [Act.put, zA, zB, zC]
     refine wpAnyH_ready (rs := [4]) (by kernel_rfl) (by simp) ?_
     refine AllReadyH.cons (tA rfl) (fun K hK => ?_) AllReadyH.nil
     ·obtain ⟨gu, hv⟩ : ∃ g, Z3.heap.size = g := ⟨_, rfl⟩
      obtain ⟨Z4, hZn⟩ : ∃ Y, Z3.alloc (.cells (Array.replicate (T * 7) (.int .u64 0)) 54) = Y := ⟨_, rfl⟩
      have hb : Below Z3.heap.size Z3 Z4 := by rw [← hZn]; exact bl1 _ _
      have hsz : Z4.heap.size = Z3.heap.size + 1 := by rw [← hZn]; simp
      have HBZ4 : Hid (Below (w.heap.size + 1) W0 Z4) := HBZ3.out.trans (hb.mono (by have := HNZ3.out; omega))
      have HLF4 : Hid (LfV Z4 b f a n c ga U) := HLF3.out.below hb
      have HTW4 : Hid (TW Z4 gw T (List.replicate T 0)) := HTW3.out.move (hb.block _ (by have := HNZ3.out; omega)) hb.size
      have HBS4 : Hid (Bx Z4 bs [.pointer none]) := HBS3.out.below hb
      have HLU4 : Hid (LfU f n U) := HLU3.out
      have HTU4 : Hid (TU Z4 gu T (fun _ => F.zero7)) := by show TU _ _ _ _; rw [← hZn, ← hv]; exact TU.new Z3 T
      have HNZ4 : Hid (w.heap.size + 1 ≤ Z4.heap.size ∧ w.heap.size + 1 ≤ b ∧ w.heap.size + 1 ≤ ga ∧ w.heap.size + 1 ≤ gu ∧ w.heap.size + 1 ≤ gw ∧ w.heap.size + 1 ≤ bs ∧ b < Z4.heap.size ∧ ga < Z4.heap.size ∧ gu < Z4.heap.size ∧ gw < Z4.heap.size ∧ bs < Z4.heap.size ∧ gu ≠ b ∧ gu ≠ ga ∧ gu ≠ gw ∧ gw ≠ b ∧ gw ≠ ga ∧ bs ≠ b ∧ bs ≠ ga ∧ bs ≠ gu ∧ bs ≠ gw) := by
       have h3 := HNZ3.out
       show w.heap.size + 1 ≤ Z4.heap.size ∧ w.heap.size + 1 ≤ b ∧ w.heap.size + 1 ≤ ga ∧ w.heap.size + 1 ≤ gu ∧ w.heap.size + 1 ≤ gw ∧ w.heap.size + 1 ≤ bs ∧ b < Z4.heap.size ∧ ga < Z4.heap.size ∧ gu < Z4.heap.size ∧ gw < Z4.heap.size ∧ bs < Z4.heap.size ∧ gu ≠ b ∧ gu ≠ ga ∧ gu ≠ gw ∧ gw ≠ b ∧ gw ≠ ga ∧ bs ≠ b ∧ bs ≠ ga ∧ bs ≠ gu ∧ bs ≠ gw
       omega
      have HV : Hid (Z3.heap.size = gu) := hv
      have HZN : Hid (Z3.alloc (.cells (Array.replicate (T * 7) (.int .u64 0)) 54) = Z4) := hZn
      have hmk := makeSet Z3 T (by omega)
      rw [hZn, hv] at hmk
      clear hb hsz hv hZn
      go_simp
      clear hmk
      clear HV HZN
      refine hK.out _ _ (HSK.out _ HBZ4.out) (fun hHeld => ?_)
      clear hK K
      try simp only [Act.put, zA, zB, zC]
      refine tjr 8 ?_
      simp only [Act.put, zA, zB, zC]
      refine wpAnyH_ready (rs := [9]) (by kernel_rfl) (by simp) ?_
      refine AllReadyH.cons (tA rfl) (fun K hK => ?_) AllReadyH.nil
      ·obtain ⟨bf, hv⟩ : ∃ g, Z4.heap.size = g := ⟨_, rfl⟩
       obtain ⟨Z5, hZn⟩ : ∃ Y, Z4.alloc (.cells #[.pointer (some ⟨b, 0, none⟩), .slice (some ⟨gu, 0, none⟩) T T, .slice (some ⟨gw, 0, none⟩) T T] 81) = Y := ⟨_, rfl⟩
       have hb : Below Z4.heap.size Z4 Z5 := by rw [← hZn]; exact bl1 _ _
       have hsz : Z5.heap.size = Z4.heap.size + 1 := by rw [← hZn]; simp
       have HBZ5 : Hid (Below (w.heap.size + 1) W0 Z5) := HBZ4.out.trans (hb.mono (by have := HNZ4.out; omega))
       have HLF5 : Hid (LfV Z5 b f a n c ga U) := HLF4.out.below hb
       have HTU5 : Hid (TU Z5 gu T (fun _ => F.zero7)) := HTU4.out.move (hb.block _ (by have := HNZ4.out; omega)) hb.size
       have HTW5 : Hid (TW Z5 gw T (List.replicate T 0)) := HTW4.out.move (hb.block _ (by have := HNZ4.out; omega)) hb.size
       have HBS5 : Hid (Bx Z5 bs [.pointer none]) := HBS4.out.below hb
       have HLU5 : Hid (LfU f n U) := HLU4.out
       have HBF5 : Hid (Bx Z5 bf [.pointer (some ⟨b, 0, none⟩), .slice (some ⟨gu, 0, none⟩) T T, .slice (some ⟨gw, 0, none⟩) T T]) := by show Bx _ _ _; rw [← hZn, ← hv]; exact Bx.new Z4 #[.pointer (some ⟨b, 0, none⟩), .slice (some ⟨gu, 0, none⟩) T T, .slice (some ⟨gw, 0, none⟩) T T] _
       have HNZ5 : Hid (w.heap.size + 1 ≤ Z5.heap.size ∧ w.heap.size + 1 ≤ b ∧ w.heap.size + 1 ≤ ga ∧ w.heap.size + 1 ≤ gu ∧ w.heap.size + 1 ≤ gw ∧ w.heap.size + 1 ≤ bs ∧ w.heap.size + 1 ≤ bf ∧ b < Z5.heap.size ∧ ga < Z5.heap.size ∧ gu < Z5.heap.size ∧ gw < Z5.heap.size ∧ bs < Z5.heap.size ∧ bf < Z5.heap.size ∧ gu ≠ b ∧ gu ≠ ga ∧ gu ≠ gw ∧ gu ≠ bf ∧ gw ≠ b ∧ gw ≠ ga ∧ gw ≠ bf ∧ bs ≠ b ∧ bs ≠ ga ∧ bs ≠ bf ∧ bs ≠ gu ∧ bs ≠ gw) := by
        have h3 := HNZ4.out
        show w.heap.size + 1 ≤ Z5.heap.size ∧ w.heap.size + 1 ≤ b ∧ w.heap.size + 1 ≤ ga ∧ w.heap.size + 1 ≤ gu ∧ w.heap.size + 1 ≤ gw ∧ w.heap.size + 1 ≤ bs ∧ w.heap.size + 1 ≤ bf ∧ b < Z5.heap.size ∧ ga < Z5.heap.size ∧ gu < Z5.heap.size ∧ gw < Z5.heap.size ∧ bs < Z5.heap.size ∧ bf < Z5.heap.size ∧ gu ≠ b ∧ gu ≠ ga ∧ gu ≠ gw ∧ gu ≠ bf ∧ gw ≠ b ∧ gw ≠ ga ∧ gw ≠ bf ∧ bs ≠ b ∧ bs ≠ ga ∧ bs ≠ bf ∧ bs ≠ gu ∧ bs ≠ gw
        omega
       have HV : Hid (Z4.heap.size = bf) := hv
       have HZN : Hid (Z4.alloc (.cells #[.pointer (some ⟨b, 0, none⟩), .slice (some ⟨gu, 0, none⟩) T T, .slice (some ⟨gw, 0, none⟩) T T] 81) = Z5) := hZn
       clear hb hsz hv hZn
       go_simp
       rw [HZN.out, HV.out]
       clear HV HZN
       refine hK.out _ _ (HSK.out _ HBZ5.out) (fun hHeld => ?_)
       clear hK K
       try simp only [Act.put, zA, zB, zC]
       refine HTL b gu gw bf bs Z5 ⟨ga, U, HLU5.out, ⟨HBW.out _ HBZ5.out, HLF5.out, ?_, ?_, ?_, ?_, ?_⟩, HBS5.out, HBZ5.out, ?_⟩
       ·rw [HT.out]; exact HBF5.out
       ·rw [HT.out]; exact HTU5.out
       ·rw [HT.out]; exact HTW5.out
       ·have := HNZ5.out; omega
       ·have := HNZ5.out; omega
       ·have := HNZ5.out; omega
  ·obtain ⟨gu, hv⟩ : ∃ g, Z0.heap.size = g := ⟨_, rfl⟩
   obtain ⟨Z1, hZn⟩ : ∃ Y, Z0.alloc (.cells (Array.replicate (T * 7) (.int .u64 0)) 54) = Y := ⟨_, rfl⟩
   have hb : Below Z0.heap.size Z0 Z1 := by rw [← hZn]; exact bl1 _ _
   have hsz : Z1.heap.size = Z0.heap.size + 1 := by rw [← hZn]; simp
   have HBZ1 : Hid (Below (w.heap.size + 1) W0 Z1) := HBZ0.out.trans (hb.mono (by have := HNZ0.out; omega))
   have HTU1 : Hid (TU Z1 gu T (fun _ => F.zero7)) := by show TU _ _ _ _; rw [← hZn, ← hv]; exact TU.new Z0 T
   have HNZ1 : Hid (w.heap.size + 1 ≤ Z1.heap.size ∧ w.heap.size + 1 ≤ gu ∧ gu < Z1.heap.size) := by
    have h3 := HNZ0.out
    show w.heap.size + 1 ≤ Z1.heap.size ∧ w.heap.size + 1 ≤ gu ∧ gu < Z1.heap.size
    omega
   have HV : Hid (Z0.heap.size = gu) := hv
   have HZN : Hid (Z0.alloc (.cells (Array.replicate (T * 7) (.int .u64 0)) 54) = Z1) := hZn
   have hmk := makeSet Z0 T (by omega)
   rw [hZn, hv] at hmk
   clear hb hsz hv hZn
   go_simp
   clear hmk
   clear HV HZN
   refine hK.out _ _ (HSK.out _ HBZ1.out) (fun hHeld => ?_)
   clear hK K
   try simp only [Act.put, zA, zB, zC]
   refine wpAnyH_ready (rs := [1, 7, 10]) (by kernel_rfl) (by simp) ?_
   refine AllReadyH.cons (tA rfl) (fun K hK => ?_) (AllReadyH.cons (tA rfl) (fun K hK => ?_) (AllReadyH.cons (tA rfl) (fun K hK => ?_) AllReadyH.nil))
   ·go_simp
    refine Calls.mono (HNL.out _ (HBW.out _ HBZ1.out)) ?_
    rintro e Z2 ⟨b, ga, U, rfl, hlf, hlu, ⟨hge1, hge2⟩, hb⟩
    have HBZ2 : Hid (Below (w.heap.size + 1) W0 Z2) := HBZ1.out.trans (hb.mono (by have := HNZ1.out; omega))
    have HTU2 : Hid (TU Z2 gu T (fun _ => F.zero7)) := HTU1.out.move (hb.block _ (by have := HNZ1.out; omega)) hb.size
    have HLF2 : Hid (LfV Z2 b f a n c ga U) := hlf
    have HLU2 : Hid (LfU f n U) := hlu
    have HNZ2 : Hid (w.heap.size + 1 ≤ Z2.heap.size ∧ w.heap.size + 1 ≤ b ∧ w.heap.size + 1 ≤ ga ∧ w.heap.size + 1 ≤ gu ∧ b < Z2.heap.size ∧ ga < Z2.heap.size ∧ gu < Z2.heap.size ∧ gu ≠ b ∧ gu ≠ ga) := by
     have h1 := lt_of_cell hlf.c0
     have h2 := lt_of_cell (hlf.sets 0 (by omega) 0 (by omega))
     have h3 := HNZ1.out
     have h4 := hb.size
     show w.heap.size + 1 ≤ Z2.heap.size ∧ w.heap.size + 1 ≤ b ∧ w.heap.size + 1 ≤ ga ∧ w.heap.size + 1 ≤ gu ∧ b < Z2.heap.size ∧ ga < Z2.heap.size ∧ gu < Z2.heap.size ∧ gu ≠ b ∧ gu ≠ ga
     omega
    clear hlf hlu hge1 hge2 hb
    try go_wp2_with fail
    refine hK.out _ _ (HSK.out _ HBZ2.out) (fun hHeld => ?_)
    clear hK K
    try simp only [Act.put, zA, zB, zC]
    refine wpAnyH_ready (rs := [7, 10]) (by kernel_rfl) (by simp) ?_
    refine AllReadyH.cons (tA rfl) (fun K hK => ?_) (AllReadyH.cons (tA rfl) (fun K hK => ?_) AllReadyH.nil)
    ·obtain ⟨gw, hv⟩ : ∃ g, Z2.heap.size = g := ⟨_, rfl⟩
     obtain ⟨Z3, hZn⟩ : ∃ Y, Z2.alloc (.cells (Array.replicate T (.int .i64 0)) 3) = Y := ⟨_, rfl⟩
     have hb : Below Z2.heap.size Z2 Z3 := by rw [← hZn]; exact bl1 _ _
     have hsz : Z3.heap.size = Z2.heap.size + 1 := by rw [← hZn]; simp
     have HBZ3 : Hid (Below (w.heap.size + 1) W0 Z3) := HBZ2.out.trans (hb.mono (by have := HNZ2.out; omega))
     have HLF3 : Hid (LfV Z3 b f a n c ga U) := HLF2.out.below hb
     have HTU3 : Hid (TU Z3 gu T (fun _ => F.zero7)) := HTU2.out.move (hb.block _ (by have := HNZ2.out; omega)) hb.size
     have HLU3 : Hid (LfU f n U) := HLU2.out
     have HTW3 : Hid (TW Z3 gw T (List.replicate T 0)) := by show TW _ _ _ _; rw [← hZn, ← hv]; exact TW.new Z2 T
     have HNZ3 : Hid (w.heap.size + 1 ≤ Z3.heap.size ∧ w.heap.size + 1 ≤ b ∧ w.heap.size + 1 ≤ ga ∧ w.heap.size + 1 ≤ gu ∧ w.heap.size + 1 ≤ gw ∧ b < Z3.heap.size ∧ ga < Z3.heap.size ∧ gu < Z3.heap.size ∧ gw < Z3.heap.size ∧ gu ≠ b ∧ gu ≠ ga ∧ gu ≠ gw ∧ gw ≠ b ∧ gw ≠ ga) := by
      have h3 := HNZ2.out
      show w.heap.size + 1 ≤ Z3.heap.size ∧ w.heap.size + 1 ≤ b ∧ w.heap.size + 1 ≤ ga ∧ w.heap.size + 1 ≤ gu ∧ w.heap.size + 1 ≤ gw ∧ b < Z3.heap.size ∧ ga < Z3.heap.size ∧ gu < Z3.heap.size ∧ gw < Z3.heap.size ∧ gu ≠ b ∧ gu ≠ ga ∧ gu ≠ gw ∧ gw ≠ b ∧ gw ≠ ga
      omega
     have HV : Hid (Z2.heap.size = gw) := hv
     have HZN : Hid (Z2.alloc (.cells (Array.replicate T (.int .i64 0)) 3) = Z3) := hZn
     have hmk := makeInt Z2 T (by omega)
     rw [hZn, hv] at hmk
     clear hb hsz hv hZn
     go_simp
     clear hmk
     clear HV HZN
     refine hK.out _ _ (HSK.out _ HBZ3.out) (fun hHeld => ?_)
     clear hK K
     try simp only [Act.put, zA, zB, zC]
     refine tjr 8 ?_
     simp only [Act.put, zA, zB, zC]
     refine wpAnyH_ready (rs := [9, 10]) (by kernel_rfl) (by simp) ?_
     refine AllReadyH.cons (tA rfl) (fun K hK => ?_) (AllReadyH.cons (tA rfl) (fun K hK => ?_) AllReadyH.nil)
     ·obtain ⟨bf, hv⟩ : ∃ g, Z3.heap.size = g := ⟨_, rfl⟩
      obtain ⟨Z4, hZn⟩ : ∃ Y, Z3.alloc (.cells #[.pointer (some ⟨b, 0, none⟩), .slice (some ⟨gu, 0, none⟩) T T, .slice (some ⟨gw, 0, none⟩) T T] 81) = Y := ⟨_, rfl⟩
      have hb : Below Z3.heap.size Z3 Z4 := by rw [← hZn]; exact bl1 _ _
      have hsz : Z4.heap.size = Z3.heap.size + 1 := by rw [← hZn]; simp
      have HBZ4 : Hid (Below (w.heap.size + 1) W0 Z4) := HBZ3.out.trans (hb.mono (by have := HNZ3.out; omega))
      have HLF4 : Hid (LfV Z4 b f a n c ga U) := HLF3.out.below hb
      have HTU4 : Hid (TU Z4 gu T (fun _ => F.zero7)) := HTU3.out.move (hb.block _ (by have := HNZ3.out; omega)) hb.size
      have HTW4 : Hid (TW Z4 gw T (List.replicate T 0)) := HTW3.out.move (hb.block _ (by have := HNZ3.out; omega)) hb.size
      have HLU4 : Hid (LfU f n U) := HLU3.out
      have HBF4 : Hid (Bx Z4 bf [.pointer (some ⟨b, 0, none⟩), .slice (some ⟨gu, 0, none⟩) T T, .slice (some ⟨gw, 0, none⟩) T T]) := by show Bx _ _ _; rw [← hZn, ← hv]; exact Bx.new Z3 #[.pointer (some ⟨b, 0, none⟩), .slice (some ⟨gu, 0, none⟩) T T, .slice (some ⟨gw, 0, none⟩) T T] _
      have HNZ4 : Hid (w.heap.size + 1 ≤ Z4.heap.size ∧ w.heap.size + 1 ≤ b ∧ w.heap.size + 1 ≤ ga ∧ w.heap.size + 1 ≤ gu ∧ w.heap.size + 1 ≤ gw ∧ w.heap.size + 1 ≤ bf ∧ b < Z4.heap.size ∧ ga < Z4.heap.size ∧ gu < Z4.heap.size ∧ gw < Z4.heap.size ∧ bf < Z4.heap.size ∧ gu ≠ b ∧ gu ≠ ga ∧ gu ≠ gw ∧ gu ≠ bf ∧ gw ≠ b ∧ gw ≠ ga ∧ gw ≠ bf) := by
       have h3 := HNZ3.out
       show w.heap.size + 1 ≤ Z4.heap.size ∧ w.heap.size + 1 ≤ b ∧ w.heap.size + 1 ≤ ga ∧ w.heap.size + 1 ≤ gu ∧ w.heap.size + 1 ≤ gw ∧ w.heap.size + 1 ≤ bf ∧ b < Z4.heap.size ∧ ga < Z4.heap.size ∧ gu < Z4.heap.size ∧ gw < Z4.heap.size ∧ bf < Z4.heap.size ∧ gu ≠ b ∧ gu ≠ ga ∧ gu ≠ gw ∧ gu ≠ bf ∧ gw ≠ b ∧ gw ≠ ga ∧ gw ≠ bf
       omega
      have HV : Hid (Z3.heap.size = bf) := hv
      have HZN : Hid (Z3.alloc (.cells #[.pointer (some ⟨b, 0, none⟩), .slice (some ⟨gu, 0, none⟩) T T, .slice (some ⟨gw, 0, none⟩) T T] 81) = Z4) := hZn
      clear hb hsz hv hZn
      go_simp
      rw [HZN.out, HV.out]
      clear HV HZN
      refine hK.out _ _ (HSK.out _ HBZ4.out) (fun hHeld => ?_)
      clear hK K
      try simp only [Act.put, zA, zB, zC]
      refine wpAnyH_ready (rs := [10]) (by kernel_rfl) (by simp) ?_
      refine AllReadyH.cons (tA rfl) (fun K hK => ?_) AllReadyH.nil
      ·obtain ⟨bs, hv⟩ : ∃ g, Z4.heap.size = g := ⟨_, rfl⟩
       obtain ⟨Z5, hZn⟩ : ∃ Y, Z4.alloc (.cells #[.pointer none] 62) = Y := ⟨_, rfl⟩
       have hb : Below Z4.heap.size Z4 Z5 := by rw [← hZn]; exact bl1 _ _
       have hsz : Z5.heap.size = Z4.heap.size + 1 := by rw [← hZn]; simp
       have HBZ5 : Hid (Below (w.heap.size + 1) W0 Z5) := HBZ4.out.trans (hb.mono (by have := HNZ4.out; omega))
       have HLF5 : Hid (LfV Z5 b f a n c ga U) := HLF4.out.below hb
       have HTU5 : Hid (TU Z5 gu T (fun _ => F.zero7)) := HTU4.out.move (hb.block _ (by have := HNZ4.out; omega)) hb.size
       have HTW5 : Hid (TW Z5 gw T (List.replicate T 0)) := HTW4.out.move (hb.block _ (by have := HNZ4.out; omega)) hb.size
       have HBF5 : Hid (Bx Z5 bf [.pointer (some ⟨b, 0, none⟩), .slice (some ⟨gu, 0, none⟩) T T, .slice (some ⟨gw, 0, none⟩) T T]) := HBF4.out.below hb
       have HLU5 : Hid (LfU f n U) := HLU4.out
       have HBS5 : Hid (Bx Z5 bs [.pointer none]) := by show Bx _ _ _; rw [← hZn, ← hv]; exact Bx.new Z4 #[.pointer none] _
       have HNZ5 : Hid (w.heap.size + 1 ≤ Z5.heap.size ∧ w.heap.size + 1 ≤ b ∧ w.heap.size + 1 ≤ ga ∧ w.heap.size + 1 ≤ gu ∧ w.heap.size + 1 ≤ gw ∧ w.heap.size + 1 ≤ bs ∧ w.heap.size + 1 ≤ bf ∧ b < Z5.heap.size ∧ ga < Z5.heap.size ∧ gu < Z5.heap.size ∧ gw < Z5.heap.size ∧ bs < Z5.heap.size ∧ bf < Z5.heap.size ∧ gu ≠ b ∧ gu ≠ ga ∧ gu ≠ gw ∧ gu ≠ bf ∧ gw ≠ b ∧ gw ≠ ga ∧ gw ≠ bf ∧ bs ≠ b ∧ bs ≠ ga ∧ bs ≠ bf ∧ bs ≠ gu ∧ bs ≠ gw) := by
        have h3 := HNZ4.out
        show w.heap.size + 1 ≤ Z5.heap.size ∧ w.heap.size + 1 ≤ b ∧ w.heap.size + 1 ≤ ga ∧ w.heap.size + 1 ≤ gu ∧ w.heap.size + 1 ≤ gw ∧ w.heap.size + 1 ≤ bs ∧ w.heap.size + 1 ≤ bf ∧ b < Z5.heap.size ∧ ga < Z5.heap.size ∧ gu < Z5.heap.size ∧ gw < Z5.heap.size ∧ bs < Z5.heap.size ∧ bf < Z5.heap.size ∧ gu ≠ b ∧ gu ≠ ga ∧ gu ≠ gw ∧ gu ≠ bf ∧ gw ≠ b ∧ gw ≠ ga ∧ gw ≠ bf ∧ bs ≠ b ∧ bs ≠ ga ∧ bs ≠ bf ∧ bs ≠ gu ∧ bs ≠ gw
        omega
       have HV : Hid (Z4.heap.size = bs) := hv
       have HZN : Hid (Z4.alloc (.cells #[.pointer none] 62) = Z5) := hZn
       clear hb hsz hv hZn
       go_simp
       rw [HZN.out, HV.out]
       clear HV HZN
       refine hK.out _ _ (HSK.out _ HBZ5.out) (fun hHeld => ?_)
       clear hK K
       try simp only [Act.put, zA, zB, zC]
       refine HTL b gu gw bf bs Z5 ⟨ga, U, HLU5.out, ⟨HBW.out _ HBZ5.out, HLF5.out, ?_, ?_, ?_, ?_, ?_⟩, HBS5.out, HBZ5.out, ?_⟩
       ·rw [HT.out]; exact HBF5.out
       ·rw [HT.out]; exact HTU5.out
       ·rw [HT.out]; exact HTW5.out
       ·have := HNZ5.out; omega
       ·have := HNZ5.out; omega
       ·have := HNZ5.out; omega
     ·obtain ⟨bs, hv⟩ : ∃ g, Z3.heap.size = g := ⟨_, rfl⟩
      obtain ⟨Z4, hZn⟩ : ∃ Y, Z3.alloc (.cells #[.pointer none] 62) = Y := ⟨_, rfl⟩
      have hb : Below Z3.heap.size Z3 Z4 := by rw [← hZn]; exact bl1 _ _
      have hsz : Z4.heap.size = Z3.heap.size + 1 := by rw [← hZn]; simp
      have HBZ4 : Hid (Below (w.heap.size + 1) W0 Z4) := HBZ3.out.trans (hb.mono (by have := HNZ3.out; omega))
      have HLF4 : Hid (LfV Z4 b f a n c ga U) := HLF3.out.below hb
      have HTU4 : Hid (TU Z4 gu T (fun _ => F.zero7)) := HTU3.out.move (hb.block _ (by have := HNZ3.out; omega)) hb.size
      have HTW4 : Hid (TW Z4 gw T (List.replicate T 0)) := HTW3.out.move (hb.block _ (by have := HNZ3.out; omega)) hb.size
      have HLU4 : Hid (LfU f n U) := HLU3.out
      have HBS4 : Hid (Bx Z4 bs [.pointer none]) := by show Bx _ _ _; rw [← hZn, ← hv]; exact Bx.new Z3 #[.pointer none] _
      have HNZ4 : Hid (w.heap.size + 1 ≤ Z4.heap.size ∧ w.heap.size + 1 ≤ b ∧ w.heap.size + 1 ≤ ga ∧ w.heap.size + 1 ≤ gu ∧ w.heap.size + 1 ≤ gw ∧ w.heap.size + 1 ≤ bs ∧ b < Z4.heap.size ∧ ga < Z4.heap.size ∧ gu < Z4.heap.size ∧ gw < Z4.heap.size ∧ bs < Z4.heap.size ∧ gu ≠ b ∧ gu ≠ ga ∧ gu ≠ gw ∧ gw ≠ b ∧ gw ≠ ga ∧ bs ≠ b ∧ bs ≠ ga ∧ bs ≠ gu ∧ bs ≠ gw) := by
       have h3 := HNZ3.out
       show w.heap.size + 1 ≤ Z4.heap.size ∧ w.heap.size + 1 ≤ b ∧ w.heap.size + 1 ≤ ga ∧ w.heap.size + 1 ≤ gu ∧ w.heap.size + 1 ≤ gw ∧ w.heap.size + 1 ≤ bs ∧ b < Z4.heap.size ∧ ga < Z4.heap.size ∧ gu < Z4.heap.size ∧ gw < Z4.heap.size ∧ bs < Z4.heap.size ∧ gu ≠ b ∧ gu ≠ ga ∧ gu ≠ gw ∧ gw ≠ b ∧ gw ≠ ga ∧ bs ≠ b ∧ bs ≠ ga ∧ bs ≠ gu ∧ bs ≠ gw
       omega
      have HV : Hid (Z3.heap.size = bs) := hv
      have HZN : Hid (Z3.alloc (.cells #[.pointer none] 62) = Z4) := hZn
      clear hb hsz hv hZn
      go_simp
      rw [HZN.out, HV.out]
      clear HV HZN
      refine hK.out _ _ (HSK.out _ HBZ4.out) (fun hHeld => ?_)
      clear hK K
      try simp only [Act.put, zA, zB, zC]
      refine wpAnyH_ready (rs := [9]) (by kernel_rfl) (by simp) ?_
      refine AllReadyH.cons (tA rfl) (fun K hK => ?_) AllReadyH.nil
      ·obtain ⟨bf, hv⟩ : ∃ g, Z4.heap.size = g := ⟨_, rfl⟩
       obtain ⟨Z5, hZn⟩ : ∃ Y, Z4.alloc (.cells #[.pointer (some ⟨b, 0, none⟩), .slice (some ⟨gu, 0, none⟩) T T, .slice (some ⟨gw, 0, none⟩) T T] 81) = Y := ⟨_, rfl⟩
       have hb : Below Z4.heap.size Z4 Z5 := by rw [← hZn]; exact bl1 _ _
       have hsz : Z5.heap.size = Z4.heap.size + 1 := by rw [← hZn]; simp
       have HBZ5 : Hid (Below (w.heap.size + 1) W0 Z5) := HBZ4.out.trans (hb.mono (by have := HNZ4.out; omega))
       have HLF5 : Hid (LfV Z5 b f a n c ga U) := HLF4.out.below hb
       have HTU5 : Hid (TU Z5 gu T (fun _ => F.zero7)) := HTU4.out.move (hb.block _ (by have := HNZ4.out; omega)) hb.size
       have HTW5 : Hid (TW Z5 gw T (List.replicate T 0)) := HTW4.out.move (hb.block _ (by have := HNZ4.out; omega)) hb.size
       have HBS5 : Hid (Bx Z5 bs [.pointer none]) := HBS4.out.below hb
       have HLU5 : Hid (LfU f n U) := HLU4.out
       have HBF5 : Hid (Bx Z5 bf [.pointer (some ⟨b, 0, none⟩), .slice (some ⟨gu, 0, none⟩) T T, .slice (some ⟨gw, 0, none⟩) T T]) := by show Bx _ _ _; rw [← hZn, ← hv]; exact Bx.new Z4 #[.pointer (some ⟨b, 0, none⟩), .slice (some ⟨gu, 0, none⟩) T T, .slice (some ⟨gw, 0, none⟩) T T] _
       have HNZ5 : Hid (w.heap.size + 1 ≤ Z5.heap.size ∧ w.heap.size + 1 ≤ b ∧ w.heap.size + 1 ≤ ga ∧ w.heap.size + 1 ≤ gu ∧ w.heap.size + 1 ≤ gw ∧ w.heap.size + 1 ≤ bs ∧ w.heap.size + 1 ≤ bf ∧ b < Z5.heap.size ∧ ga < Z5.heap.size ∧ gu < Z5.heap.size ∧ gw < Z5.heap.size ∧ bs < Z5.heap.size ∧ bf < Z5.heap.size ∧ gu ≠ b ∧ gu ≠ ga ∧ gu ≠ gw ∧ gu ≠ bf ∧ gw ≠ b ∧ gw ≠ ga ∧ gw ≠ bf ∧ bs ≠ b ∧ bs ≠ ga ∧ bs ≠ bf ∧ bs ≠ gu ∧ bs ≠ gw) := by
        have h3 := HNZ4.out
        show w.heap.size + 1 ≤ Z5.heap.size ∧ w.heap.size + 1 ≤ b ∧ w.heap.size + 1 ≤ ga ∧ w.heap.size + 1 ≤ gu ∧ w.heap.size + 1 ≤ gw ∧ w.heap.size + 1 ≤ bs ∧ w.heap.size + 1 ≤ bf ∧ b < Z5.heap.size ∧ ga < Z5.heap.size ∧ gu < Z5.heap.size ∧ gw < Z5.heap.size ∧ bs < Z5.heap.size ∧ bf < Z5.heap.size ∧ gu ≠ b ∧ gu ≠ ga ∧ gu ≠ gw ∧ gu ≠ bf ∧ gw ≠ b ∧ gw ≠ ga ∧ gw ≠ bf ∧ bs ≠ b ∧ bs ≠ ga ∧ bs ≠ bf ∧ bs ≠ gu ∧ bs ≠ gw
        omega
       have HV : Hid (Z4.heap.size = bf) := hv
       have HZN : Hid (Z4.alloc (.cells #[.pointer (some ⟨b, 0, none⟩), .slice (some ⟨gu, 0, none⟩) T T, .slice (some ⟨gw, 0, none⟩) T T] 81) = Z5) := hZn
       clear hb hsz hv hZn
       go_simp
       rw [HZN.out, HV.out]
       clear HV HZN
       refine hK.out _ _ (HSK.out _ HBZ5.out) (fun hHeld => ?_)
       clear hK K
       try simp only [Act.put, zA, zB, zC]
       refine HTL b gu gw bf bs Z5 ⟨ga, U, HLU5.out, ⟨HBW.out _ HBZ5.out, HLF5.out, ?_, ?_, ?_, ?_, ?_⟩, HBS5.out, HBZ5.out, ?_⟩
       ·rw [HT.out]; exact HBF5.out
       ·rw [HT.out]; exact HTU5.out
       ·rw [HT.out]; exact HTW5.out
       ·have := HNZ5.out; omega
       ·have := HNZ5.out; omega
       ·have := HNZ5.out; omega
    ·obtain ⟨bs, hv⟩ : ∃ g, Z2.heap.size = g := ⟨_, rfl⟩
     obtain ⟨Z3, hZn⟩ : ∃ Y, Z2.alloc (.cells #[.pointer none] 62) = Y := ⟨_, rfl⟩
     have hb : Below Z2.heap.size Z2 Z3 := by rw [← hZn]; exact bl1 _ _
     have hsz : Z3.heap.size = Z2.heap.size + 1 := by rw [← hZn]; simp
     have HBZ3 : Hid (Below (w.heap.size + 1) W0 Z3) := HBZ2.out.trans (hb.mono (by have := HNZ2.out; omega))
     have HLF3 : Hid (LfV Z3 b f a n c ga U) := HLF2.out.below hb
     have HTU3 : Hid (TU Z3 gu T (fun _ => F.zero7)) := HTU2.out.move (hb.block _ (by have := HNZ2.out; omega)) hb.size
     have HLU3 : Hid (LfU f n U) := HLU2.out
     have HBS3 : Hid (Bx Z3 bs [.pointer none]) := by show Bx _ _ _; rw [← hZn, ← hv]; exact Bx.new Z2 #[.pointer none] _
     have HNZ3 : Hid (w.heap.size + 1 ≤ Z3.heap.size ∧ w.heap.size + 1 ≤ b ∧ w.heap.size + 1 ≤ ga ∧ w.heap.size + 1 ≤ gu ∧ w.heap.size + 1 ≤ bs ∧ b < Z3.heap.size ∧ ga < Z3.heap.size ∧ gu < Z3.heap.size ∧ bs < Z3.heap.size ∧ gu ≠ b ∧ gu ≠ ga ∧ bs ≠ b ∧ bs ≠ ga ∧ bs ≠ gu) := by
      have h3 := HNZ2.out
      show w.heap.size + 1 ≤ Z3.heap.size ∧ w.heap.size + 1 ≤ b ∧ w.heap.size + 1 ≤ ga ∧ w.heap.size + 1 ≤ gu ∧ w.heap.size + 1 ≤ bs ∧ b < Z3.heap.size ∧ ga < Z3.heap.size ∧ gu < Z3.heap.size ∧ bs < Z3.heap.size ∧ gu ≠ b ∧ gu ≠ ga ∧ bs ≠ b ∧ bs ≠ ga ∧ bs ≠ gu
      omega
     have HV : Hid (Z2.heap.size = bs) := hv
     have HZN : Hid (Z2.alloc (.cells #[.pointer none] 62) = Z3) := hZn
     clear hb hsz hv hZn
     go_simp
     rw [HZN.out, HV.out]
     clear HV HZN
     refine hK.out _ _ (HSK.out _ HBZ3.out) (fun hHeld => ?_)
     clear hK K
     try simp only [Act.put, zA, zB, zC]
     refine wpAnyH_ready (rs := [7]) (by kernel_rfl) (by simp) ?_
     refine AllReadyH.cons (tA rfl) (fun K hK => ?_) AllReadyH.nil
     ·obtain ⟨gw, hv⟩ : ∃ g, Z3.heap.size = g := ⟨_, rfl⟩
      obtain ⟨Z4, hZn⟩ : ∃ Y, Z3.alloc (.cells (Array.replicate T (.int .i64 0)) 3) = Y := ⟨_, rfl⟩
      have hb : Below Z3.heap.size Z3 Z4 := by rw [← hZn]; exact bl1 _ _
      have hsz : Z4.heap.size = Z3.heap.size + 1 := by rw [← hZn]; simp
      have HBZ4 : Hid (Below (w.heap.size + 1) W0 Z4) := HBZ3.out.trans (hb.mono (by have := HNZ3.out; omega))
      have HLF4 : Hid (LfV Z4 b f a n c ga U) := HLF3.out.below hb
      have HTU4 : Hid (TU Z4 gu T (fun _ => F.zero7)) := HTU3.out.move (hb.block _ (by have := HNZ3.out; omega)) hb.size
      have HBS4 : Hid (Bx Z4 bs [.pointer none]) := HBS3.out.below hb
      have HLU4 : Hid (LfU f n U) := HLU3.out
      have HTW4 : Hid (TW Z4 gw T (List.replicate T 0)) := by show TW _ _ _ _; rw [← hZn, ← hv]; exact TW.new Z3 T
      have HNZ4 : Hid (w.heap.size + 1 ≤ Z4.heap.size ∧ w.heap.size + 1 ≤ b ∧ w.heap.size + 1 ≤ ga ∧ w.heap.size + 1 ≤ gu ∧ w.heap.size + 1 ≤ gw ∧ w.heap.size + 1 ≤ bs ∧ b < Z4.heap.size ∧ ga < Z4.heap.size ∧ gu < Z4.heap.size ∧ gw < Z4.heap.size ∧ bs < Z4.heap.size ∧ gu ≠ b ∧ gu ≠ ga ∧ gu ≠ gw ∧ gw ≠ b ∧ gw ≠ ga ∧ bs ≠ b ∧ bs ≠ ga ∧ bs ≠ gu ∧ bs ≠ gw) := by
       have h3 := HNZ3.out
       show w.heap.size + 1 ≤ Z4.heap.size ∧ w.heap.size + 1 ≤ b ∧ w.heap.size + 1 ≤ ga ∧ w.heap.size + 1 ≤ gu ∧ w.heap.size + 1 ≤ gw ∧ w.heap.size + 1 ≤ bs ∧ b < Z4.heap.size ∧ ga < Z4.heap.size ∧ gu < Z4.heap.size ∧ gw < Z4.heap.size ∧ bs < Z4.heap.size ∧ gu ≠ b ∧ gu ≠ ga ∧ gu ≠ gw ∧ gw ≠ b ∧ gw ≠ ga ∧ bs ≠ b ∧ bs ≠ ga ∧ bs ≠ gu ∧ bs ≠ gw
       omega
      have HV : Hid (Z3.heap.size = gw) := hv
      have HZN : Hid (Z3.alloc (.cells (Array.replicate T (.int .i64 0)) 3) = Z4) := hZn
      have hmk := makeInt Z3 T (by omega)
      rw [hZn, hv] at hmk
      clear hb hsz hv hZn
      go_simp
      clear hmk
      clear HV HZN
      refine hK.out _ _ (HSK.out _ HBZ4.out) (fun hHeld => ?_)
      clear hK K
      try simp only [Act.put, zA, zB, zC]
      refine tjr 8 ?_
      simp only [Act.put, zA, zB, zC]
      refine wpAnyH_ready (rs := [9]) (by kernel_rfl) (by simp) ?_
      refine AllReadyH.cons (tA rfl) (fun K hK => ?_) AllReadyH.nil
      ·obtain ⟨bf, hv⟩ : ∃ g, Z4.heap.size = g := ⟨_, rfl⟩
       obtain ⟨Z5, hZn⟩ : ∃ Y, Z4.alloc (.cells #[.pointer (some ⟨b, 0, none⟩), .slice (some ⟨gu, 0, none⟩) T T, .slice (some ⟨gw, 0, none⟩) T T] 81) = Y := ⟨_, rfl⟩
       have hb : Below Z4.heap.size Z4 Z5 := by rw [← hZn]; exact bl1 _ _
       have hsz : Z5.heap.size = Z4.heap.size + 1 := by rw [← hZn]; simp
       have HBZ5 : Hid (Below (w.heap.size + 1) W0 Z5) := HBZ4.out.trans (hb.mono (by have := HNZ4.out; omega))
       have HLF5 : Hid (LfV Z5 b f a n c ga U) := HLF4.out.below hb
       have HTU5 : Hid (TU Z5 gu T (fun _ => F.zero7)) := HTU4.out.move (hb.block _ (by have := HNZ4.out; omega)) hb.size
       have HTW5 : Hid (TW Z5 gw T (List.replicate T 0)) := HTW4.out.move (hb.block _ (by have := HNZ4.out; omega)) hb.size
       have HBS5 : Hid (Bx Z5 bs [.pointer none]) := HBS4.out.below hb
       have HLU5 : Hid (LfU f n U) := HLU4.out
       have HBF5 : Hid (Bx Z5 bf [.pointer (some ⟨b, 0, none⟩), .slice (some ⟨gu, 0, none⟩) T T, .slice (some ⟨gw, 0, none⟩) T T]) := by show Bx _ _ _; rw [← hZn, ← hv]; exact Bx.new Z4 #[.pointer (some ⟨b, 0, none⟩), .slice (some ⟨gu, 0, none⟩) T T, .slice (some ⟨gw, 0, none⟩) T T] _
       have HNZ5 : Hid (w.heap.size + 1 ≤ Z5.heap.size ∧ w.heap.size + 1 ≤ b ∧ w.heap.size + 1 ≤ ga ∧ w.heap.size + 1 ≤ gu ∧ w.heap.size + 1 ≤ gw ∧ w.heap.size + 1 ≤ bs ∧ w.heap.size + 1 ≤ bf ∧ b < Z5.heap.size ∧ ga < Z5.heap.size ∧ gu < Z5.heap.size ∧ gw < Z5.heap.size ∧ bs < Z5.heap.size ∧ bf < Z5.heap.size ∧ gu ≠ b ∧ gu ≠ ga ∧ gu ≠ gw ∧ gu ≠ bf ∧ gw ≠ b ∧ gw ≠ ga ∧ gw ≠ bf ∧ bs ≠ b ∧ bs ≠ ga ∧ bs ≠ bf ∧ bs ≠ gu ∧ bs ≠ gw) := by
        have h3 := HNZ4.out
        show w.heap.size + 1 ≤ Z5.heap.size ∧ w.heap.size + 1 ≤ b ∧ w.heap.size + 1 ≤ ga ∧ w.heap.size + 1 ≤ gu ∧ w.heap.size + 1 ≤ gw ∧ w.heap.size + 1 ≤ bs ∧ w.heap.size + 1 ≤ bf ∧ b < Z5.heap.size ∧ ga < Z5.heap.size ∧ gu < Z5.heap.size ∧ gw < Z5.heap.size ∧ bs < Z5.heap.size ∧ bf < Z5.heap.size ∧ gu ≠ b ∧ gu ≠ ga ∧ gu ≠ gw ∧ gu ≠ bf ∧ gw ≠ b ∧ gw ≠ ga ∧ gw ≠ bf ∧ bs ≠ b ∧ bs ≠ ga ∧ bs ≠ bf ∧ bs ≠ gu ∧ bs ≠ gw
        omega
       have HV : Hid (Z4.heap.size = bf) := hv
       have HZN : Hid (Z4.alloc (.cells #[.pointer (some ⟨b, 0, none⟩), .slice (some ⟨gu, 0, none⟩) T T, .slice (some ⟨gw, 0, none⟩) T T] 81) = Z5) := hZn
       clear hb hsz hv hZn
       go_simp
       rw [HZN.out, HV.out]
       clear HV HZN
       refine hK.out _ _ (HSK.out _ HBZ5.out) (fun hHeld => ?_)
       clear hK K
       try simp only [Act.put, zA, zB, zC]
       refine HTL b gu gw bf bs Z5 ⟨ga, U, HLU5.out, ⟨HBW.out _ HBZ5.out, HLF5.out, ?_, ?_, ?_, ?_, ?_⟩, HBS5.out, HBZ5.out, ?_⟩
       ·rw [HT.out]; exact HBF5.out
       ·rw [HT.out]; exact HTU5.out
       ·rw [HT.out]; exact HTW5.out
       ·have := HNZ5.out; omega
       ·have := HNZ5.out; omega
       ·have := HNZ5.out; omega
   ·obtain ⟨gw, hv⟩ : ∃ g, Z1.heap.size = g := ⟨_, rfl⟩
    obtain ⟨Z2, hZn⟩ : ∃ Y, Z1.alloc (.cells (Array.replicate T (.int .i64 0)) 3) = Y := ⟨_, rfl⟩
    have hb : Below Z1.heap.size Z1 Z2 := by rw [← hZn]; exact bl1 _ _
    have hsz : Z2.heap.size = Z1.heap.size + 1 := by rw [← hZn]; simp
    have HBZ2 : Hid (Below (w.heap.size + 1) W0 Z2) := HBZ1.out.trans (hb.mono (by have := HNZ1.out; omega))
    have HTU2 : Hid (TU Z2 gu T (fun _ => F.zero7)) := HTU1.out.move (hb.block _ (by have := HNZ1.out; omega)) hb.size
    have HTW2 : Hid (TW Z2 gw T (List.replicate T 0)) := by show TW _ _ _ _; rw [← hZn, ← hv]; exact TW.new Z1 T
    have HNZ2 : Hid (w.heap.size + 1 ≤ Z2.heap.size ∧ w.heap.size + 1 ≤ gu ∧ w.heap.size + 1 ≤ gw ∧ gu < Z2.heap.size ∧ gw < Z2.heap.size ∧ gu ≠ gw) := by
     have h3 := HNZ1.out
     show w.heap.size + 1 ≤ Z2.heap.size ∧ w.heap.size + 1 ≤ gu ∧ w.heap.size + 1 ≤ gw ∧ gu < Z2.heap.size ∧ gw < Z2.heap.size ∧ gu ≠ gw
     omega
    have HV : Hid (Z1.heap.size = gw) := hv
    have HZN : Hid (Z1.alloc (.cells (Array.replicate T (.int .i64 0)) 3) = Z2) := hZn
    have hmk := makeInt Z1 T (by omega)
    rw [hZn, hv] at hmk
    clear hb hsz hv hZn
    go_simp
    clear hmk
    clear HV HZN
    refine hK.out _ _ (HSK.out _ HBZ2.out) (fun hHeld => ?_)
    clear hK K
    try simp only [Act.put, zA, zB, zC]
    refine wpAnyH_ready (rs := [1, 10]) (by kernel_rfl) (by simp) ?_
    refine AllReadyH.cons (tA rfl) (fun K hK => ?_) (AllReadyH.cons (tA rfl) (fun K hK => ?_) AllReadyH.nil)
    ·go_simp
     refine Calls.mono (HNL.out _ (HBW.out _ HBZ2.out)) ?_
     rintro e Z3 ⟨b, ga, U, rfl, hlf, hlu, ⟨hge1, hge2⟩, hb⟩
     have HBZ3 : Hid (Below (w.heap.size + 1) W0 Z3) := HBZ2.out.trans (hb.mono (by have := HNZ2.out; omega))
     have HTU3 : Hid (TU Z3 gu T (fun _ => F.zero7)) := HTU2.out.move (hb.block _ (by have := HNZ2.out; omega)) hb.size
     have HTW3 : Hid (TW Z3 gw T (List.replicate T 0)) := HTW2.out.move (hb.block _ (by have := HNZ2.out; omega)) hb.size
     have HLF3 : Hid (LfV Z3 b f a n c ga U) := hlf
     have HLU3 : Hid (LfU f n U) := hlu
     have HNZ3 : Hid (w.heap.size + 1 ≤ Z3.heap.size ∧ w.heap.size + 1 ≤ b ∧ w.heap.size + 1 ≤ ga ∧ w.heap.size + 1 ≤ gu ∧ w.heap.size + 1 ≤ gw ∧ b < Z3.heap.size ∧ ga < Z3.heap.size ∧ gu < Z3.heap.size ∧ gw < Z3.heap.size ∧ gu ≠ b ∧ gu ≠ ga ∧ gu ≠ gw ∧ gw ≠ b ∧ gw ≠ ga) := by
      have h1 := lt_of_cell hlf.c0
      have h2 := lt_of_cell (hlf.sets 0 (by omega) 0 (by omega))
      have h3 := HNZ2.out
      have h4 := hb.size
      show w.heap.size + 1 ≤ Z3.heap.size ∧ w.heap.size + 1 ≤ b ∧ w.heap.size + 1 ≤ ga ∧ w.heap.size + 1 ≤ gu ∧ w.heap.size + 1 ≤ gw ∧ b < Z3.heap.size ∧ ga < Z3.heap.size ∧ gu < Z3.heap.size ∧ gw < Z3.heap.size ∧ gu ≠ b ∧ gu ≠ ga ∧ gu ≠ gw ∧ gw ≠ b ∧ gw ≠ ga
      omega
     clear hlf hlu hge1 hge2 hb
     try go_wp2_with fail
     refine hK.out _ _ (HSK.out _ HBZ3.out) (fun hHeld => ?_)
     clear hK K
     try simp only [Act.put, zA, zB, zC]
     refine tjr 8 ?_
     simp only [Act.put, zA, zB, zC]
     refine wpAnyH_ready (rs := [9, 10]) (by kernel_rfl) (by simp) ?_
     refine AllReadyH.cons (tA rfl) (fun K hK => ?_) (AllReadyH.cons (tA rfl) (fun K hK => ?_) AllReadyH.nil)
     ·obtain ⟨bf, hv⟩ : ∃ g, Z3.heap.size = g := ⟨_, rfl⟩
      obtain ⟨Z4, hZn⟩ : ∃ Y, Z3.alloc (.cells #[.pointer (some ⟨b, 0, none⟩), .slice (some ⟨gu, 0, none⟩) T T, .slice (some ⟨gw, 0, none⟩) T T] 81) = Y := ⟨_, rfl⟩
      have hb : Below Z3.heap.size Z3 Z4 := by rw [← hZn]; exact bl1 _ _
      have hsz : Z4.heap.size = Z3.heap.size + 1 := by rw [← hZn]; simp
      have HBZ4 : Hid (Below (w.heap.size + 1) W0 Z4) := HBZ3.out.trans (hb.mono (by have := HNZ3.out; omega))
      have HLF4 : Hid (LfV Z4 b f a n c ga U) := HLF3.out.below hb
      have HTU4 : Hid (TU Z4 gu T (fun _ => F.zero7)) := HTU3.out.move (hb.block _ (by have := HNZ3.out; omega)) hb.size
      have HTW4 : Hid (TW Z4 gw T (List.replicate T 0)) := HTW3.out.move (hb.block _ (by have := HNZ3.out; omega)) hb.size
      have HLU4 : Hid (LfU f n U) := HLU3.out
      have HBF4 : Hid (Bx Z4 bf [.pointer (some ⟨b, 0, none⟩), .slice (some ⟨gu, 0, none⟩) T T, .slice (some ⟨gw, 0, none⟩) T T]) := by show Bx _ _ _; rw [← hZn, ← hv]; exact Bx.new Z3 #[.pointer (some ⟨b, 0, none⟩), .slice (some ⟨gu, 0, none⟩) T T, .slice (some ⟨gw, 0, none⟩) T T] _
      have HNZ4 : Hid (w.heap.size + 1 ≤ Z4.heap.size ∧ w.heap.size + 1 ≤ b ∧ w.heap.size + 1 ≤ ga ∧ w.heap.size + 1 ≤ gu ∧ w.heap.size + 1 ≤ gw ∧ w.heap.size + 1 ≤ bf ∧ b < Z4.heap.size ∧ ga < Z4.heap.size ∧ gu < Z4.heap.size ∧ gw < Z4.heap.size ∧ bf < Z4.heap.size ∧ gu ≠ b ∧ gu ≠ ga ∧ gu ≠ gw ∧ gu ≠ bf ∧ gw ≠ b ∧ gw ≠ ga ∧ gw ≠ bf) := by
       have h3 := HNZ3.out
       show w.heap.size + 1 ≤ Z4.heap.size ∧ w.heap.size + 1 ≤ b ∧ w.heap.size + 1 ≤ ga ∧ w.heap.size + 1 ≤ gu ∧ w.heap.size + 1 ≤ gw ∧ w.heap.size + 1 ≤ bf ∧ b < Z4.heap.size ∧ ga < Z4.heap.size ∧ gu < Z4.heap.size ∧ gw < Z4.heap.size ∧ bf < Z4.heap.size ∧ gu ≠ b ∧ gu ≠ ga ∧ gu ≠ gw ∧ gu ≠ bf ∧ gw ≠ b ∧ gw ≠ ga ∧ gw ≠ bf
       omega
      have HV : Hid (Z3.heap.size = bf) := hv
      have HZN : Hid (Z3.alloc (.cells #[.pointer (some ⟨b, 0, none⟩), .slice (some ⟨gu, 0, none⟩) T T, .slice (some ⟨gw, 0, none⟩) T T] 81) = Z4) := hZn
      clear hb hsz hv hZn
      go_simp
      rw [HZN.out, HV.out]
      clear HV HZN
      refine hK.out _ _ (HSK.out _ HBZ4.out) (fun hHeld => ?_)
      clear hK K
      try simp only [Act.put, zA, zB, zC]
      refine wpAnyH_ready (rs := [10]) (by kernel_rfl) (by simp) ?_
      refine AllReadyH.cons (tA rfl) (fun K hK => ?_) AllReadyH.nil
      ·obtain ⟨bs, hv⟩ : ∃ g, Z4.heap.size = g := ⟨_, rfl⟩
       obtain ⟨Z5, hZn⟩ : ∃ Y, Z4.alloc (.cells #[.pointer none] 62) = Y := ⟨_, rfl⟩
       have hb : Below Z4.heap.size Z4 Z5 := by rw [← hZn]; exact bl1 _ _
       have hsz : Z5.heap.size = Z4.heap.size + 1 := by rw [← hZn]; simp
       have HBZ5 : Hid (Below (w.heap.size + 1) W0 Z5) := HBZ4.out.trans (hb.mono (by have := HNZ4.out; omega))
       have HLF5 : Hid (LfV Z5 b f a n c ga U) := HLF4.out.below hb
       have HTU5 : Hid (TU Z5 gu T (fun _ => F.zero7)) := HTU4.out.move (hb.block _ (by have := HNZ4.out; omega)) hb.size
       have HTW5 : Hid (TW Z5 gw T (List.replicate T 0)) := HTW4.out.move (hb.block _ (by have := HNZ4.out; omega)) hb.size
       have HBF5 : Hid (Bx Z5 bf [.pointer (some ⟨b, 0, none⟩), .slice (some ⟨gu, 0, none⟩) T T, .slice (some ⟨gw, 0, none⟩) T T]) := HBF4.out.below hb
       have HLU5 : Hid (LfU f n U) := HLU4.out
       have HBS5 : Hid (Bx Z5 bs [.pointer none]) := by show Bx _ _ _; rw [← hZn, ← hv]; exact Bx.new Z4 #[.pointer none] _
       have HNZ5 : Hid (w.heap.size + 1 ≤ Z5.heap.size ∧ w.heap.size + 1 ≤ b ∧ w.heap.size + 1 ≤ ga ∧ w.heap.size + 1 ≤ gu ∧ w.heap.size + 1 ≤ gw ∧ w.heap.size + 1 ≤ bs ∧ w.heap.size + 1 ≤ bf ∧ b < Z5.heap.size ∧ ga < Z5.heap.size ∧ gu < Z5.heap.size ∧ gw < Z5.heap.size ∧ bs < Z5.heap.size ∧ bf < Z5.heap.size ∧ gu ≠ b ∧ gu ≠ ga ∧ gu ≠ gw ∧ gu ≠ bf ∧ gw ≠ b ∧ gw ≠ ga ∧ gw ≠ bf ∧ bs ≠ b ∧ bs ≠ ga ∧ bs ≠ bf ∧ bs ≠ gu ∧ bs ≠ gw) := by
        have h3 := HNZ4.out
        show w.heap.size + 1 ≤ Z5.heap.size ∧ w.heap.size + 1 ≤ b ∧ w.heap.size + 1 ≤ ga ∧ w.heap.size + 1 ≤ gu ∧ w.heap.size + 1 ≤ gw ∧ w.heap.size + 1 ≤ bs ∧ w.heap.size + 1 ≤ bf ∧ b < Z5.heap.size ∧ ga < Z5.heap.size ∧ gu < Z5.heap.size ∧ gw < Z5.heap.size ∧ bs < Z5.heap.size ∧ bf < Z5.heap.size ∧ gu ≠ b ∧ gu ≠ ga ∧ gu ≠ gw ∧ gu ≠ bf ∧ gw ≠ b ∧ gw ≠ ga ∧ gw ≠ bf ∧ bs ≠ b ∧ bs ≠ ga ∧ bs ≠ bf ∧ bs ≠ gu ∧ bs ≠ gw
        omega
       have HV : Hid (Z4.heap.size = bs) := hv
       have HZN : Hid (Z4.alloc (.cells #[.pointer none] 62) = Z5) := hZn
       clear hb hsz hv hZn
       go_simp
       rw [HZN.out, HV.out]
       clear HV HZN
       refine hK.out _ _ (HSK.out _ HBZ5.out) (fun hHeld => ?_)
       clear hK K
       try simp only [Act.put, zA, zB, zC]
       refine HTL b gu gw bf bs Z5 ⟨ga, U, HLU5.out, ⟨HBW.out _ HBZ5.out, HLF5.out, ?_, ?_, ?_, ?_, ?_⟩, HBS5.out, HBZ5.out, ?_⟩
       ·rw [HT.out]; exact HBF5.out
       ·rw [HT.out]; exact HTU5.out
       ·rw [HT.out]; exact HTW5.out
       ·have := HNZ5.out; omega
       ·have := HNZ5.out; omega
       ·have := HNZ5.out; omega
     ·obtain ⟨bs, hv⟩ : ∃ g, Z3.heap.size = g := ⟨_, rfl⟩
      obtain ⟨Z4, hZn⟩ : ∃ Y, Z3.alloc (.cells #[.pointer none] 62) = Y := ⟨_, rfl⟩
      have hb : Below Z3.heap.size Z3 Z4 := by rw [← hZn]; exact bl1 _ _
      have hsz : Z4.heap.size = Z3.heap.size + 1 := by rw [← hZn]; simp
      have HBZ4 : Hid (Below (w.heap.size + 1) W0 Z4) := HBZ3.out.trans (hb.mono (by have := HNZ3.out; omega))
      have HLF4 : Hid (LfV Z4 b f a n c ga U) := HLF3.out.below hb
      have HTU4 : Hid (TU Z4 gu T (fun _ => F.zero7)) := HTU3.out.move (hb.block _ (by have := HNZ3.out; omega)) hb.size
      have HTW4 : Hid (TW Z4 gw T (List.replicate T 0)) := HTW3.out.move (hb.block _ (by have := HNZ3.out; omega)) hb.size
      have HLU4 : Hid (LfU f n U) := HLU3.out
      have HBS4 : Hid (Bx Z4 bs [.pointer none]) := by show Bx _ _ _; rw [← hZn, ← hv]; exact Bx.new Z3 #[.pointer none] _
      have HNZ4 : Hid (w.heap.size + 1 ≤ Z4.heap.size ∧ w.heap.size + 1 ≤ b ∧ w.heap.size + 1 ≤ ga ∧ w.heap.size + 1 ≤ gu ∧ w.heap.size + 1 ≤ gw ∧ w.heap.size + 1 ≤ bs ∧ b < Z4.heap.size ∧ ga < Z4.heap.size ∧ gu < Z4.heap.size ∧ gw < Z4.heap.size ∧ bs < Z4.heap.size ∧ gu ≠ b ∧ gu ≠ ga ∧ gu ≠ gw ∧ gw ≠ b ∧ gw ≠ ga ∧ bs ≠ b ∧ bs ≠ ga ∧ bs ≠ gu ∧ bs ≠ gw) := by
       have h3 := HNZ3.out
       show w.heap.size + 1 ≤ Z4.heap.size ∧ w.heap.size + 1 ≤ b ∧ w.heap.size + 1 ≤ ga ∧ w.heap.size + 1 ≤ gu ∧ w.heap.size + 1 ≤ gw ∧ w.heap.size + 1 ≤ bs ∧ b < Z4.heap.size ∧ ga < Z4.heap.size ∧ gu < Z4.heap.size ∧ gw < Z4.heap.size ∧ bs < Z4.heap.size ∧ gu ≠ b ∧ gu ≠ ga ∧ gu ≠ gw ∧ gw ≠ b ∧ gw ≠ ga ∧ bs ≠ b ∧ bs ≠ ga ∧ bs ≠ gu ∧ bs ≠ gw
       omega
      have HV : Hid (Z3.heap.size = bs) := hv
      have HZN : Hid (Z3.alloc (.cells #[.pointer none] 62) = Z4) := hZn
      clear hb hsz hv hZn
      go_simp
      rw [HZN.out, HV.out]
      clear HV HZN
      refine hK.out _ _ (HSK.out _ HBZ4.out) (fun hHeld => ?_)
      clear hK K
      try simp only [Act.put, zA, zB, zC]
      refine wpAnyH_ready (rs := [9]) (by kernel_rfl) (by simp) ?_
      refine AllReadyH.cons (tA rfl) (fun K hK => ?_) AllReadyH.nil
      ·obtain ⟨bf, hv⟩ : ∃ g, Z4.heap.size = g := ⟨_, rfl⟩
       obtain ⟨Z5, hZn⟩ : ∃ Y, Z4.alloc (.cells #[.pointer (some ⟨b, 0, none⟩), .slice (some ⟨gu, 0, none⟩) T T, .slice (some ⟨gw, 0, none⟩) T T] 81) = Y := ⟨_, rfl⟩
       have hb : Below Z4.heap.size Z4 Z5 := by rw [← hZn]; exact bl1 _ _
       have hsz : Z5.heap.size = Z4.heap.size + 1 := by rw [← hZn]; simp
       have HBZ5 : Hid (Below (w.heap.size + 1) W0 Z5) := HBZ4.out.trans (hb.mono (by have := HNZ4.out; omega))
       have HLF5 : Hid (LfV Z5 b f a n c ga U) := HLF4.out.below hb
       have HTU5 : Hid (TU Z5 gu T (fun _ => F.zero7)) := HTU4.out.move (hb.block _ (by have := HNZ4.out; omega)) hb.size
       have HTW5 : Hid (TW Z5 gw T (List.replicate T 0)) := HTW4.out.move (hb.block _ (by have := HNZ4.out; omega)) hb.size
       have HBS5 : Hid (Bx Z5 bs [.pointer none]) := HBS4.out.below hb
       have HLU5 : Hid (LfU f n U) := HLU4.out
       have HBF5 : Hid (Bx Z5 bf [.pointer (some ⟨b, 0, none⟩), .slice (some ⟨gu, 0, none⟩) T T, .slice (some ⟨gw, 0, none⟩) T T]) := by show Bx _ _ _; rw [← hZn, ← hv]; exact Bx.new Z4 #[.pointer (some ⟨b, 0, none⟩), .slice (some ⟨gu, 0, none⟩) T T, .slice (some ⟨gw, 0, none⟩) T T] _
       have HNZ5 : Hid (w.heap.size + 1 ≤ Z5.heap.size ∧ w.heap.size + 1 ≤ b ∧ w.heap.size + 1 ≤ ga ∧ w.heap.size + 1 ≤ gu ∧ w.heap.size + 1 ≤ gw ∧ w.heap.size + 1 ≤ bs ∧ w.heap.size + 1 ≤ bf ∧ b < Z5.heap.size ∧ ga < Z5.heap.size ∧ gu < Z5.heap.size ∧ gw < Z5.heap.size ∧ bs < Z5.heap.size ∧ bf < Z5.heap.size ∧ gu ≠ b ∧ gu ≠ ga ∧ gu ≠ gw ∧ gu ≠ bf ∧ gw ≠ b ∧ gw ≠ ga ∧ gw ≠ bf ∧ bs ≠ b ∧ bs ≠ ga ∧ bs ≠ bf ∧ bs ≠ gu ∧ bs ≠ gw) := by
        have h3 := HNZ4.out
        show w.heap.size + 1 ≤ Z5.heap.size ∧ w.heap.size + 1 ≤ b ∧ w.heap.size + 1 ≤ ga ∧ w.heap.size + 1 ≤ gu ∧ w.heap.size + 1 ≤ gw ∧ w.heap.size + 1 ≤ bs ∧ w.heap.size + 1 ≤ bf ∧ b < Z5.heap.size ∧ ga < Z5.heap.size ∧ gu < Z5.heap.size ∧ gw < Z5.heap.size ∧ bs < Z5.heap.size ∧ bf < Z5.heap.size ∧ gu ≠ b ∧ gu ≠ ga ∧ gu ≠ gw ∧ gu ≠ bf ∧ gw ≠ b ∧ gw ≠ ga ∧ gw ≠ bf ∧ bs ≠ b ∧ bs ≠ ga ∧ bs ≠ bf ∧ bs ≠ gu ∧ bs ≠ gw
        omega
       have HV : Hid (Z4.heap.size = bf) := hv
       have HZN : Hid (Z4.alloc (.cells #[.pointer (some ⟨b, 0, none⟩), .slice (some ⟨gu, 0, none⟩) T T, .slice (some ⟨gw, 0, none⟩) T T] 81) = Z5) := hZn
       clear hb hsz hv hZn
       go_simp
       rw [HZN.out, HV.out]
       clear HV HZN
       refine hK.out _ _ (HSK.out _ HBZ5.out) (fun hHeld => ?_)
       clear hK K
       try simp only [Act.put, zA, zB, zC]
       refine HTL b gu gw bf bs Z5 ⟨ga, U, HLU5.out, ⟨HBW.out _ HBZ5.out, HLF5.out, ?_, ?_, ?_, ?_, ?_⟩, HBS5.out, HBZ5.out, ?_⟩
       ·rw [HT.out]; exact HBF5.out
       ·rw [HT.out]; exact HTU5.out
       ·rw [HT.out]; exact HTW5.out
       ·have := HNZ5.out; omega
       ·have := HNZ5.out; omega
       ·have := HNZ5.out; omega
    ·obtain ⟨bs, hv⟩ : ∃ g, Z2.heap.size = g := ⟨_, rfl⟩
     obtain ⟨Z3, hZn⟩ : ∃ Y, Z2.alloc (.cells #[.pointer none] 62) = Y := ⟨_, rfl⟩
     have hb : Below Z2.heap.size Z2 Z3 := by rw [← hZn]; exact bl1 _ _
     have hsz : Z3.heap.size = Z2.heap.size + 1 := by rw [← hZn]; simp
     have HBZ3 : Hid (Below (w.heap.size + 1) W0 Z3) := HBZ2.out.trans (hb.mono (by have := HNZ2.out; omega))
     have HTU3 : Hid (TU Z3 gu T (fun _ => F.zero7)) := HTU2.out.move (hb.block _ (by have := HNZ2.out; omega)) hb.size
     have HTW3 : Hid (TW Z3 gw T (List.replicate T 0)) := HTW2.out.move (hb.block _ (by have := HNZ2.out; omega)) hb.size
     have HBS3 : Hid (Bx Z3 bs [.pointer none]) := by show Bx _ _ _; rw [← hZn, ← hv]; exact Bx.new Z2 #[.pointer none] _
     have HNZ3 : Hid (w.heap.size + 1 ≤ Z3.heap.size ∧ w.heap.size + 1 ≤ gu ∧ w.heap.size + 1 ≤ gw ∧ w.heap.size + 1 ≤ bs ∧ gu < Z3.heap.size ∧ gw < Z3.heap.size ∧ bs < Z3.heap.size ∧ gu ≠ gw ∧ bs ≠ gu ∧ bs ≠ gw) := by
      have h3 := HNZ2.out
      show w.heap.size + 1 ≤ Z3.heap.size ∧ w.heap.size + 1 ≤ gu ∧ w.heap.size + 1 ≤ gw ∧ w.heap.size + 1 ≤ bs ∧ gu < Z3.heap.size ∧ gw < Z3.heap.size ∧ bs < Z3.heap.size ∧ gu ≠ gw ∧ bs ≠ gu ∧ bs ≠ gw
      omega
     have HV : Hid (Z2.heap.size = bs) := hv
     have HZN : Hid (Z2.alloc (.cells #[.pointer none] 62) = Z3) := hZn
     clear hb hsz hv hZn
     go_simp
     rw [HZN.out, HV.out]
     clear HV HZN
     refine hK.out _ _ (HSK.out _ HBZ3.out) (fun hHeld => ?_)
     clear hK K
     try simp only [Act.put, zA, zB, zC]
     refine wpAnyH_ready (rs := [1]) (by kernel_rfl) (by simp) ?_
     refine AllReadyH.cons (tA rfl) (fun K hK => ?_) AllReadyH.nil
     ·go_simp
      refine Calls.mono (HNL.out _ (HBW.out _ HBZ3.out)) ?_
      rintro e Z4 ⟨b, ga, U, rfl, hlf, hlu, ⟨hge1, hge2⟩, hb⟩
      have HBZ4 : Hid (Below (w.heap.size + 1) W0 Z4) := HBZ3.out.trans (hb.mono (by have := HNZ3.out; omega))
      have HTU4 : Hid (TU Z4 gu T (fun _ => F.zero7)) := HTU3.out.move (hb.block _ (by have := HNZ3.out; omega)) hb.size
      have HTW4 : Hid (TW Z4 gw T (List.replicate T 0)) := HTW3.out.move (hb.block _ (by have := HNZ3.out; omega)) hb.size
      have HBS4 : Hid (Bx Z4 bs [.pointer none]) := HBS3.out.below hb
      have HLF4 : Hid (LfV Z4 b f a n c ga U) := hlf
      have HLU4 : Hid (LfU f n U) := hlu
      have HNZ4 : Hid (w.heap.size + 1 ≤ Z4.heap.size ∧ w.heap.size + 1 ≤ b ∧ w.heap.size + 1 ≤ ga ∧ w.heap.size + 1 ≤ gu ∧ w.heap.size + 1 ≤ gw ∧ w.heap.size + 1 ≤ bs ∧ b < Z4.heap.size ∧ ga < Z4.heap.size ∧ gu < Z4.heap.size ∧ gw < Z4.heap.size ∧ bs < Z4.heap.size ∧ gu ≠ b ∧ gu ≠ ga ∧ gu ≠ gw ∧ gw ≠ b ∧ gw ≠ ga ∧ bs ≠ b ∧ bs ≠ ga ∧ bs ≠ gu ∧ bs ≠ gw) := by
       have h1 := lt_of_cell hlf.c0
       have h2 := lt_of_cell (hlf.sets 0 (by omega) 0 (by omega))
       have h3 := HNZ3.out
       have h4 := hb.size
       show w.heap.size + 1 ≤ Z4.heap.size ∧ w.heap.size + 1 ≤ b ∧ w.heap.size + 1 ≤ ga ∧ w.heap.size + 1 ≤ gu ∧ w.heap.size + 1 ≤ gw ∧ w.heap.size + 1 ≤ bs ∧ b < Z4.heap.size ∧ ga < Z4.heap.size ∧ gu < Z4.heap.size ∧ gw < Z4.heap.size ∧ bs < Z4.heap.size ∧ gu ≠ b ∧ gu ≠ ga ∧ gu ≠ gw ∧ gw ≠ b ∧ gw ≠ ga ∧ bs ≠ b ∧ bs ≠ ga ∧ bs ≠ gu ∧ bs ≠ gw
       omega
      clear hlf hlu hge1 hge2 hb
      try go_wp2_with fail
      refine hK.out _ _ (HSK.out _ HBZ4.out) (fun hHeld => ?_)
      clear hK K
      try simp only [Act.put, zA, zB, zC]
      refine tjr 8 ?_
      simp only [Act.put, zA, zB, zC]
      refine wpAnyH_ready (rs := [9]) (by kernel_rfl) (by simp) ?_
      refine AllReadyH.cons (tA rfl) (fun K hK => ?_) AllReadyH.nil
      ·obtain ⟨bf, hv⟩ : ∃ g, Z4.heap.size = g := ⟨_, rfl⟩
       obtain ⟨Z5, hZn⟩ : ∃ Y, Z4.alloc (.cells #[.pointer (some ⟨b, 0, none⟩), .slice (some ⟨gu, 0, none⟩) T T, .slice (some ⟨gw, 0, none⟩) T T] 81) = Y := ⟨_, rfl⟩
       have hb : Below Z4.heap.size Z4 Z5 := by rw [← hZn]; exact bl1 _ _
       have hsz : Z5.heap.size = Z4.heap.size + 1 := by rw [← hZn]; simp
       have HBZ5 : Hid (Below (w.heap.size + 1) W0 Z5) := HBZ4.out.trans (hb.mono (by have := HNZ4.out; omega))
       have HLF5 : Hid (LfV Z5 b f a n c ga U) := HLF4.out.below hb
       have HTU5 : Hid (TU Z5 gu T (fun _ => F.zero7)) := HTU4.out.move (hb.block _ (by have := HNZ4.out; omega)) hb.size
       have HTW5 : Hid (TW Z5 gw T (List.replicate T 0)) := HTW4.out.move (hb.block _ (by have := HNZ4.out; omega)) hb.size
       have HBS5 : Hid (Bx Z5 bs [.pointer none]) := HBS4.out.below hb
       have HLU5 : Hid (LfU f n U) := HLU4.out
       have HBF5 : Hid (Bx Z5 bf [.pointer (some ⟨b, 0, none⟩), .slice (some ⟨gu, 0, none⟩) T T, .slice (some ⟨gw, 0, none⟩) T T]) := by show Bx _ _ _; rw [← hZn, ← hv]; exact Bx.new Z4 #[.pointer (some ⟨b, 0, none⟩), .slice (some ⟨gu, 0, none⟩) T T, .slice (some ⟨gw, 0, none⟩) T T] _
       have HNZ5 : Hid (w.heap.size + 1 ≤ Z5.heap.size ∧ w.heap.size + 1 ≤ b ∧ w.heap.size + 1 ≤ ga ∧ w.heap.size + 1 ≤ gu ∧ w.heap.size + 1 ≤ gw ∧ w.heap.size + 1 ≤ bs ∧ w.heap.size + 1 ≤ bf ∧ b < Z5.heap.size ∧ ga < Z5.heap.size ∧ gu < Z5.heap.size ∧ gw < Z5.heap.size ∧ bs < Z5.heap.size ∧ bf < Z5.heap.size ∧ gu ≠ b ∧ gu ≠ ga ∧ gu ≠ gw ∧ gu ≠ bf ∧ gw ≠ b ∧ gw ≠ ga ∧ gw ≠ bf ∧ bs ≠ b ∧ bs ≠ ga ∧ bs ≠ bf ∧ bs ≠ gu ∧ bs ≠ gw) := by
        have h3 := HNZ4.out
        show w.heap.size + 1 ≤ Z5.heap.size ∧ w.heap.size + 1 ≤ b ∧ w.heap.size + 1 ≤ ga ∧ w.heap.size + 1 ≤ gu ∧ w.heap.size + 1 ≤ gw ∧ w.heap.size + 1 ≤ bs ∧ w.heap.size + 1 ≤ bf ∧ b < Z5.heap.size ∧ ga < Z5.heap.size ∧ gu < Z5.heap.size ∧ gw < Z5.heap.size ∧ bs < Z5.heap.size ∧ bf < Z5.heap.size ∧ gu ≠ b ∧ gu ≠ ga ∧ gu ≠ gw ∧ gu ≠ bf ∧ gw ≠ b ∧ gw ≠ ga ∧ gw ≠ bf ∧ bs ≠ b ∧ bs ≠ ga ∧ bs ≠ bf ∧ bs ≠ gu ∧ bs ≠ gw
        omega
       have HV : Hid (Z4.heap.size = bf) := hv
       have HZN : Hid (Z4.alloc (.cells #[.pointer (some ⟨b, 0, none⟩), .slice (some ⟨gu, 0, none⟩) T T, .slice (some ⟨gw, 0, none⟩) T T] 81) = Z5) := hZn
       clear hb hsz hv hZn
       go_simp
       rw [HZN.out, HV.out]
       clear HV HZN
       refine hK.out _ _ (HSK.out _ HBZ5.out) (fun hHeld => ?_)
       clear hK K
       try simp only [Act.put, zA, zB, zC]
       refine HTL b gu gw bf bs Z5 ⟨ga, U, HLU5.out, ⟨HBW.out _ HBZ5.out, HLF5.out, ?_, ?_, ?_, ?_, ?_⟩, HBS5.out, HBZ5.out, ?_⟩
       ·rw [HT.out]; exact HBF5.out
       ·rw [HT.out]; exact HTU5.out
       ·rw [HT.out]; exact HTW5.out
       ·have := HNZ5.out; omega
       ·have := HNZ5.out; omega
       ·have := HNZ5.out; omega
   ·obtain ⟨bs, hv⟩ : ∃ g, Z1.heap.size = g := ⟨_, rfl⟩
    obtain ⟨Z2, hZn⟩ : ∃ Y, Z1.alloc (.cells #[.pointer none] 62) = Y := ⟨_, rfl⟩
    have hb : Below Z1.heap.size Z1 Z2 := by rw [← hZn]; exact bl1 _ _
    have hsz : Z2.heap.size = Z1.heap.size + 1 := by rw [← hZn]; simp
    have HBZ2 : Hid (Below (w.heap.size + 1) W0 Z2) := HBZ1.out.trans (hb.mono (by have := HNZ1.out; omega))
    have HTU2 : Hid (TU Z2 gu T (fun _ => F.zero7)) := HTU1.out.move (hb.block _ (by have := HNZ1.out; omega)) hb.size
    have HBS2 : Hid (Bx Z2 bs [.pointer none]) := by show Bx _ _ _; rw [← hZn, ← hv]; exact Bx.new Z1 #[.pointer none] _
    have HNZ2 : Hid (w.heap.size + 1 ≤ Z2.heap.size ∧ w.heap.size + 1 ≤ gu ∧ w.heap.size + 1 ≤ bs ∧ gu < Z2.heap.size ∧ bs < Z2.heap.size ∧ bs ≠ gu) := by
     have h3 := HNZ1.out
     show w.heap.size + 1 ≤ Z2.heap.size ∧ w.heap.size + 1 ≤ gu ∧ w.heap.size + 1 ≤ bs ∧ gu < Z2.heap.size ∧ bs < Z2.heap.size ∧ bs ≠ gu
     omega
    have HV : Hid (Z1.heap.size = bs) := hv
    have HZN : Hid (Z1.alloc (.cells #[.pointer none] 62) = Z2) := hZn
    clear hb hsz hv hZn
    go_simp
    rw [HZN.out, HV.out]
    clear HV HZN
    refine hK.out _ _ (HSK.out _ HBZ2.out) (fun hHeld => ?_)
    clear hK K
    try simp only [Act.put, zA, zB, zC]
    refine wpAnyH_ready (rs := [1, 7]) (by kernel_rfl) (by simp) ?_
    refine AllReadyH.cons (tA rfl) (fun K hK => ?_) (AllReadyH.cons (tA rfl) (fun K hK => ?_) AllReadyH.nil)
    ·go_simp
     refine Calls.mono (HNL.out _ (HBW.out _ HBZ2.out)) ?_
     rintro e Z3 ⟨b, ga, U, rfl, hlf, hlu, ⟨hge1, hge2⟩, hb⟩
     have HBZ3 : Hid (Below (w.heap.size + 1) W0 Z3) := HBZ2.out.trans (hb.mono (by have := HNZ2.out; omega))
     have HTU3 : Hid (TU Z3 gu T (fun _ => F.zero7)) := HTU2.out.move (hb.block _ (by have := HNZ2.out; omega)) hb.size
     have HBS3 : Hid (Bx Z3 bs [.pointer none]) := HBS2.out.below hb
     have HLF3 : Hid (LfV Z3 b f a n c ga U) := hlf
     have HLU3 : Hid (LfU f n U) := hlu
     have HNZ3 : Hid (w.heap.size + 1 ≤ Z3.heap.size ∧ w.heap.size + 1 ≤ b ∧ w.heap.size + 1 ≤ ga ∧ w.heap.size + 1 ≤ gu ∧ w.heap.size + 1 ≤ bs ∧ b < Z3.heap.size ∧ ga < Z3.heap.size ∧ gu < Z3.heap.size ∧ bs < Z3.heap.size ∧ gu ≠ b ∧ gu ≠ ga ∧ bs ≠ b ∧ bs ≠ ga ∧ bs ≠ gu) := by
      have h1 := lt_of_cell hlf.c0
      have h2 := lt_of_cell (hlf.sets 0 (by omega) 0 (by omega))
      have h3 := HNZ2.out
      have h4 := hb.size
      show w.heap.size + 1 ≤ Z3.heap.size ∧ w.heap.size + 1 ≤ b ∧ w.heap.size + 1 ≤ ga ∧ w.heap.size + 1 ≤ gu ∧ w.heap.size + 1 ≤ bs ∧ b < Z3.heap.size ∧ ga < Z3.heap.size ∧ gu < Z3.heap.size ∧ bs < Z3.heap.size ∧ gu ≠ b ∧ gu ≠ ga ∧ bs ≠ b ∧ bs ≠ ga ∧ bs ≠ gu
      omega
     clear hlf hlu hge1 hge2 hb
     try go_wp2_with fail
     refine hK.out _ _ (HSK.out _ HBZ3.out) (fun hHeld => ?_)
     clear hK K
     try simp only [Act.put, zA, zB, zC]
     refine wpAnyH_ready (rs := [7]) (by kernel_rfl) (by simp) ?_
     refine AllReadyH.cons (tA rfl) (fun K hK => ?_) AllReadyH.nil
     ·obtain ⟨gw, hv⟩ : ∃ g, Z3.heap.size = g := ⟨_, rfl⟩
      obtain ⟨Z4, hZn⟩ : ∃ Y, Z3.alloc (.cells (Array.replicate T (.int .i64 0)) 3) = Y := ⟨_, rfl⟩
      have hb : Below Z3.heap.size Z3 Z4 := by rw [← hZn]; exact bl1 _ _
      have hsz : Z4.heap.size = Z3.heap.size + 1 := by rw [← hZn]; simp
      have HBZ4 : Hid (Below (w.heap.size + 1) W0 Z4) := HBZ3.out.trans (hb.mono (by have := HNZ3.out; omega))
      have HLF4 : Hid (LfV Z4 b f a n c ga U) := HLF3.out.below hb
      have HTU4 : Hid (TU Z4 gu T (fun _ => F.zero7)) := HTU3.out.move (hb.block _ (by have := HNZ3.out; omega)) hb.size
      have HBS4 : Hid (Bx Z4 bs [.pointer none]) := HBS3.out.below hb
      have HLU4 : Hid (LfU f n U) := HLU3.out
      have HTW4 : Hid (TW Z4 gw T (List.replicate T 0)) := by show TW _ _ _ _; rw [← hZn, ← hv]; exact TW.new Z3 T
      have HNZ4 : Hid (w.heap.size + 1 ≤ Z4.heap.size ∧ w.heap.size + 1 ≤ b ∧ w.heap.size + 1 ≤ ga ∧ w.heap.size + 1 ≤ gu ∧ w.heap.size + 1 ≤ gw ∧ w.heap.size + 1 ≤ bs ∧ b < Z4.heap.size ∧ ga < Z4.heap.size ∧ gu < Z4.heap.size ∧ gw < Z4.heap.size ∧ bs < Z4.heap.size ∧ gu ≠ b ∧ gu ≠ ga ∧ gu ≠ gw ∧ gw ≠ b ∧ gw ≠ ga ∧ bs ≠ b ∧ bs ≠ ga ∧ bs ≠ gu ∧ bs ≠ gw) := by
       have h3 := HNZ3.out
       show w.heap.size + 1 ≤ Z4.heap.size ∧ w.heap.size + 1 ≤ b ∧ w.heap.size + 1 ≤ ga ∧ w.heap.size + 1 ≤ gu ∧ w.heap.size + 1 ≤ gw ∧ w.heap.size + 1 ≤ bs ∧ b < Z4.heap.size ∧ ga < Z4.heap.size ∧ gu < Z4.heap.size ∧ gw < Z4.heap.size ∧ bs < Z4.heap.size ∧ gu ≠ b ∧ gu ≠ ga ∧ gu ≠ gw ∧ gw ≠ b ∧ gw ≠ ga ∧ bs ≠ b ∧ bs ≠ ga ∧ bs ≠ gu ∧ bs ≠ gw
       omega
      have HV : Hid (Z3.heap.size = gw) := hv
      have HZN : Hid (Z3.alloc (.cells (Array.replicate T (.int .i64 0)) 3) = Z4) := hZn
      have hmk := makeInt Z3 T (by omega)
      rw [hZn, hv] at hmk
      clear hb hsz hv hZn
      go_simp
      clear hmk
      clear HV HZN
      refine hK.out _ _ (HSK.out _ HBZ4.out) (fun hHeld => ?_)
      clear hK K
      try simp only [Act.put, zA, zB, zC]
      refine tjr 8 ?_
      simp only [Act.put, zA, zB, zC]
      refine wpAnyH_ready (rs := [9]) (by kernel_rfl) (by simp) ?_
      refine AllReadyH.cons (tA rfl) (fun K hK => ?_) AllReadyH.nil
      ·obtain ⟨bf, hv⟩ : ∃ g, Z4.heap.size = g := ⟨_, rfl⟩
       obtain ⟨Z5, hZn⟩ : ∃ Y, Z4.alloc (.cells #[.pointer (some ⟨b, 0, none⟩), .slice (some ⟨gu, 0, none⟩) T T, .slice (some ⟨gw, 0, none⟩) T T] 81) = Y := ⟨_, rfl⟩
       have hb : Below Z4.heap.size Z4 Z5 := by rw [← hZn]; exact bl1 _ _
       have hsz : Z5.heap.size = Z4.heap.size + 1 := by rw [← hZn]; simp
       have HBZ5 : Hid (Below (w.heap.size + 1) W0 Z5) := HBZ4.out.trans (hb.mono (by have := HNZ4.out; omega))
       have HLF5 : Hid (LfV Z5 b f a n c ga U) := HLF4.out.below hb
       have HTU5 : Hid (TU Z5 gu T (fun _ => F.zero7)) := HTU4.out.move (hb.block _ (by have := HNZ4.out; omega)) hb.size
       have HTW5 : Hid (TW Z5 gw T (List.replicate T 0)) := HTW4.out.move (hb.block _ (by have := HNZ4.out; omega)) hb.size
       have HBS5 : Hid (Bx Z5 bs [.pointer none]) := HBS4.out.below hb
       have HLU5 : Hid (LfU f n U) := HLU4.out
       have HBF5 : Hid (Bx Z5 bf [.pointer (some ⟨b, 0, none⟩), .slice (some ⟨gu, 0, none⟩) T T, .slice (some ⟨gw, 0, none⟩) T T]) := by show Bx _ _ _; rw [← hZn, ← hv]; exact Bx.new Z4 #[.pointer (some ⟨b, 0, none⟩), .slice (some ⟨gu, 0, none⟩) T T, .slice (some ⟨gw, 0, none⟩) T T] _
       have HNZ5 : Hid (w.heap.size + 1 ≤ Z5.heap.size ∧ w.heap.size + 1 ≤ b ∧ w.heap.size + 1 ≤ ga ∧ w.heap.size + 1 ≤ gu ∧ w.heap.size + 1 ≤ gw ∧ w.heap.size + 1 ≤ bs ∧ w.heap.size + 1 ≤ bf ∧ b < Z5.heap.size ∧ ga < Z5.heap.size ∧ gu < Z5.heap.size ∧ gw < Z5.heap.size ∧ bs < Z5.heap.size ∧ bf < Z5.heap.size ∧ gu ≠ b ∧ gu ≠ ga ∧ gu ≠ gw ∧ gu ≠ bf ∧ gw ≠ b ∧ gw ≠ ga ∧ gw ≠ bf ∧ bs ≠ b ∧ bs ≠ ga ∧ bs ≠ bf ∧ bs ≠ gu ∧ bs ≠ gw) := by
        have h3 := HNZ4.out
        show w.heap.size + 1 ≤ Z5.heap.size ∧ w.heap.size + 1 ≤ b ∧ w.heap.size + 1 ≤ ga ∧ w.heap.size + 1 ≤ gu ∧ w.heap.size + 1 ≤ gw ∧ w.heap.size + 1 ≤ bs ∧ w.heap.size + 1 ≤ bf ∧ b < Z5.heap.size ∧ ga < Z5.heap.size ∧ gu < Z5.heap.size ∧ gw < Z5.heap.size ∧ bs < Z5.heap.size ∧ bf < Z5.heap.size ∧ gu ≠ b ∧ gu ≠ ga ∧ gu ≠ gw ∧ gu ≠ bf ∧ gw ≠ b ∧ gw ≠ ga ∧ gw ≠ bf ∧ bs ≠ b ∧ bs ≠ ga ∧ bs ≠ bf ∧ bs ≠ gu ∧ bs ≠ gw
        omega
       have HV : Hid (Z4.heap.size = bf) := hv
       have HZN : Hid (Z4.alloc (.cells #[.pointer (some ⟨b, 0, none⟩), .slice (some ⟨gu, 0, none⟩) T T, .slice (some ⟨gw, 0, none⟩) T T] 81) = Z5) := hZn
       clear hb hsz hv hZn
       go_simp
       rw [HZN.out, HV.out]
       clear HV HZN
       refine hK.out _ _ (HSK.out _ HBZ5.out) (fun hHeld => ?_)
       clear hK K
       try simp only [Act.put, zA, zB, zC]
       refine HTL b gu gw bf bs Z5 ⟨ga, U, HLU5.out, ⟨HBW.out _ HBZ5.out, HLF5.out, ?_, ?_, ?_, ?_, ?_⟩, HBS5.out, HBZ5.out, ?_⟩
       ·rw [HT.out]; exact HBF5.out
       ·rw [HT.out]; exact HTU5.out
       ·rw [HT.out]; exact HTW5.out
       ·have := HNZ5.out; omega
       ·have := HNZ5.out; omega
       ·have := HNZ5.out; omega
    ·obtain ⟨gw, hv⟩ : ∃ g, Z2.heap.size = g := ⟨_, rfl⟩
     obtain ⟨Z3, hZn⟩ : ∃ Y, Z2.alloc (.cells (Array.replicate T (.int .i64 0)) 3) = Y := ⟨_, rfl⟩
     have hb : Below Z2.heap.size Z2 Z3 := by rw [← hZn]; exact bl1 _ _
     have hsz : Z3.heap.size = Z2.heap.size + 1 := by rw [← hZn]; simp
     have HBZ3 : Hid (Below (w.heap.size + 1) W0 Z3) := HBZ2.out.trans (hb.mono (by have := HNZ2.out; omega))
     have HTU3 : Hid (TU Z3 gu T (fun _ => F.zero7)) := HTU2.out.move (hb.block _ (by have := HNZ2.out; omega)) hb.size
     have HBS3 : Hid (Bx Z3 bs [.pointer none]) := HBS2.out.below hb
     have HTW3 : Hid (TW Z3 gw T (List.replicate T 0)) := by show TW _ _ _ _; rw [← hZn, ← hv]; exact TW.new Z2 T
     have HNZ3 : Hid (w.heap.size + 1 ≤ Z3.heap.size ∧ w.heap.size + 1 ≤ gu ∧ w.heap.size + 1 ≤ gw ∧ w.heap.size + 1 ≤ bs ∧ gu < Z3.heap.size ∧ gw < Z3.heap.size ∧ bs < Z3.heap.size ∧ gu ≠ gw ∧ bs ≠ gu ∧ bs ≠ gw) := by
      have h3 := HNZ2.out
      show w.heap.size + 1 ≤ Z3.heap.size ∧ w.heap.size + 1 ≤ gu ∧ w.heap.size + 1 ≤ gw ∧ w.heap.size + 1 ≤ bs ∧ gu < Z3.heap.size ∧ gw < Z3.heap.size ∧ bs < Z3.heap.size ∧ gu ≠ gw ∧ bs ≠ gu ∧ bs ≠ gw
      omega
     have HV : Hid (Z2.heap.size = gw) := hv
     have HZN : Hid (Z2.alloc (.cells (Array.replicate T (.int .i64 0)) 3) = Z3) := hZn
     have hmk := makeInt Z2 T (by omega)
     rw [hZn, hv] at hmk
     clear hb hsz hv hZn
     go_simp
     clear hmk
     clear HV HZN
     refine hK.out _ _ (HSK.out _ HBZ3.out) (fun hHeld => ?_)
     clear hK K
     try simp only [Act.put, zA, zB, zC]
     refine wpAnyH_ready (rs := [1]) (by kernel_rfl) (by simp) ?_
     refine AllReadyH.cons (tA rfl) (fun K hK => ?_) AllReadyH.nil
     ·go_simp
      refine Calls.mono (HNL.out _ (HBW.out _ HBZ3.out)) ?_
      rintro e Z4 ⟨b, ga, U, rfl, hlf, hlu, ⟨hge1, hge2⟩, hb⟩
      have HBZ4 : Hid (Below (w.heap.size + 1) W0 Z4) := HBZ3.out.trans (hb.mono (by have := HNZ3.out; omega))
      have HTU4 : Hid (TU Z4 gu T (fun _ => F.zero7)) := HTU3.out.move (hb.block _ (by have := HNZ3.out; omega)) hb.size
      have HTW4 : Hid (TW Z4 gw T (List.replicate T 0)) := HTW3.out.move (hb.block _ (by have := HNZ3.out; omega)) hb.size
      have HBS4 : Hid (Bx Z4 bs [.pointer none]) := HBS3.out.below hb
      have HLF4 : Hid (LfV Z4 b f a n c ga U) := hlf
      have HLU4 : Hid (LfU f n U) := hlu
      have HNZ4 : Hid (w.heap.size + 1 ≤ Z4.heap.size ∧ w.heap.size + 1 ≤ b ∧ w.heap.size + 1 ≤ ga ∧ w.heap.size + 1 ≤ gu ∧ w.heap.size + 1 ≤ gw ∧ w.heap.size + 1 ≤ bs ∧ b < Z4.heap.size ∧ ga < Z4.heap.size ∧ gu < Z4.heap.size ∧ gw < Z4.heap.size ∧ bs < Z4.heap.size ∧ gu ≠ b ∧ gu ≠ ga ∧ gu ≠ gw ∧ gw ≠ b ∧ gw ≠ ga ∧ bs ≠ b ∧ bs ≠ ga ∧ bs ≠ gu ∧ bs ≠ gw) := by
       have h1 := lt_of_cell hlf.c0
       have h2 := lt_of_cell (hlf.sets 0 (by omega) 0 (by omega))
       have h3 := HNZ3.out
       have h4 := hb.size
       show w.heap.size + 1 ≤ Z4.heap.size ∧ w.heap.size + 1 ≤ b ∧ w.heap.size + 1 ≤ ga ∧ w.heap.size + 1 ≤ gu ∧ w.heap.size + 1 ≤ gw ∧ w.heap.size + 1 ≤ bs ∧ b < Z4.heap.size ∧ ga < Z4.heap.size ∧ gu < Z4.heap.size ∧ gw < Z4.heap.size ∧ bs < Z4.heap.size ∧ gu ≠ b ∧ gu ≠ ga ∧ gu ≠ gw ∧ gw ≠ b ∧ gw ≠ ga ∧ bs ≠ b ∧ bs ≠ ga ∧ bs ≠ gu ∧ bs ≠ gw
       omega
      clear hlf hlu hge1 hge2 hb
      try go_wp2_with fail
      refine hK.out _ _ (HSK.out _ HBZ4.out) (fun hHeld => ?_)
      clear hK K
      try simp only [Act.put, zA, zB, zC]
      refine tjr 8 ?_
      simp only [Act.put, zA, zB, zC]
      refine wpAnyH_ready (rs := [9]) (by kernel_rfl) (by simp) ?_
      refine AllReadyH.cons (tA rfl) (fun K hK => ?_) AllReadyH.nil
      ·obtain ⟨bf, hv⟩ : ∃ g, Z4.heap.size = g := ⟨_, rfl⟩
       obtain ⟨Z5, hZn⟩ : ∃ Y, Z4.alloc (.cells #[.pointer (some ⟨b, 0, none⟩), .slice (some ⟨gu, 0, none⟩) T T, .slice (some ⟨gw, 0, none⟩) T T] 81) = Y := ⟨_, rfl⟩
       have hb : Below Z4.heap.size Z4 Z5 := by rw [← hZn]; exact bl1 _ _
       have hsz : Z5.heap.size = Z4.heap.size + 1 := by rw [← hZn]; simp
       have HBZ5 : Hid (Below (w.heap.size + 1) W0 Z5) := HBZ4.out.trans (hb.mono (by have := HNZ4.out; omega))
       have HLF5 : Hid (LfV Z5 b f a n c ga U) := HLF4.out.below hb
       have HTU5 : Hid (TU Z5 gu T (fun _ => F.zero7)) := HTU4.out.move (hb.block _ (by have := HNZ4.out; omega)) hb.size
       have HTW5 : Hid (TW Z5 gw T (List.replicate T 0)) := HTW4.out.move (hb.block _ (by have := HNZ4.out; omega)) hb.size
       have HBS5 : Hid (Bx Z5 bs [.pointer none]) := HBS4.out.below hb
       have HLU5 : Hid (LfU f n U) := HLU4.out
       have HBF5 : Hid (Bx Z5 bf [.pointer (some ⟨b, 0, none⟩), .slice (some ⟨gu, 0, none⟩) T T, .slice (some ⟨gw, 0, none⟩) T T]) := by show Bx _ _ _; rw [← hZn, ← hv]; exact Bx.new Z4 #[.pointer (some ⟨b, 0, none⟩), .slice (some ⟨gu, 0, none⟩) T T, .slice (some ⟨gw, 0, none⟩) T T] _
       have HNZ5 : Hid (w.heap.size + 1 ≤ Z5.heap.size ∧ w.heap.size + 1 ≤ b ∧ w.heap.size + 1 ≤ ga ∧ w.heap.size + 1 ≤ gu ∧ w.heap.size + 1 ≤ gw ∧ w.heap.size + 1 ≤ bs ∧ w.heap.size + 1 ≤ bf ∧ b < Z5.heap.size ∧ ga < Z5.heap.size ∧ gu < Z5.heap.size ∧ gw < Z5.heap.size ∧ bs < Z5.heap.size ∧ bf < Z5.heap.size ∧ gu ≠ b ∧ gu ≠ ga ∧ gu ≠ gw ∧ gu ≠ bf ∧ gw ≠ b ∧ gw ≠ ga ∧ gw ≠ bf ∧ bs ≠ b ∧ bs ≠ ga ∧ bs ≠ bf ∧ bs ≠ gu ∧ bs ≠ gw) := by
        have h3 := HNZ4.out
        show w.heap.size + 1 ≤ Z5.heap.size ∧ w.heap.size + 1 ≤ b ∧ w.heap.size + 1 ≤ ga ∧ w.heap.size + 1 ≤ gu ∧ w.heap.size + 1 ≤ gw ∧ w.heap.size + 1 ≤ bs ∧ w.heap.size + 1 ≤ bf ∧ b < Z5.heap.size ∧ ga < Z5.heap.size ∧ gu < Z5.heap.size ∧ gw < Z5.heap.size ∧ bs < Z5.heap.size ∧ bf < Z5.heap.size ∧ gu ≠ b ∧ gu ≠ ga ∧ gu ≠ gw ∧ gu ≠ bf ∧ gw ≠ b ∧ gw ≠ ga ∧ gw ≠ bf ∧ bs ≠ b ∧ bs ≠ ga ∧ bs ≠ bf ∧ bs ≠ gu ∧ bs ≠ gw
        omega
       have HV : Hid (Z4.heap.size = bf) := hv
       have HZN : Hid (Z4.alloc (.cells #[.pointer (some ⟨b, 0, none⟩), .slice (some ⟨gu, 0, none⟩) T T, .slice (some ⟨gw, 0, none⟩) T T] 81) = Z5) := hZn
       clear hb hsz hv hZn
       go_simp
       rw [HZN.out, HV.out]
       clear HV HZN
       refine hK.out _ _ (HSK.out _ HBZ5.out) (fun hHeld => ?_)
       clear hK K
       try simp only [Act.put, zA, zB, zC]
       refine HTL b gu gw bf bs Z5 ⟨ga, U, HLU5.out, ⟨HBW.out _ HBZ5.out, HLF5.out, ?_, ?_, ?_, ?_, ?_⟩, HBS5.out, HBZ5.out, ?_⟩
       ·rw [HT.out]; exact HBF5.out
       ·rw [HT.out]; exact HTU5.out
       ·rw [HT.out]; exact HTW5.out
       ·have := HNZ5.out; omega
       ·have := HNZ5.out; omega
       ·have := HNZ5.out; omega
  ·obtain ⟨gw, hv⟩ : ∃ g, Z0.heap.size = g := ⟨_, rfl⟩
   obtain ⟨Z1, hZn⟩ : ∃ Y, Z0.alloc (.cells (Array.replicate T (.int .i64 0)) 3) = Y := ⟨_, rfl⟩
   have hb : Below Z0.heap.size Z0 Z1 := by rw [← hZn]; exact bl1 _ _
   have hsz : Z1.heap.size = Z0.heap.size + 1 := by rw [← hZn]; simp
   have HBZ1 : Hid (Below (w.heap.size + 1) W0 Z1) := HBZ0.out.trans (hb.mono (by have := HNZ0.out; omega))
   have HTW1 : Hid (TW Z1 gw T (List.replicate T 0)) := by show TW _ _ _ _; rw [← hZn, ← hv]; exact TW.new Z0 T
   have HNZ1 : Hid (w.heap.size + 1 ≤ Z1.heap.size ∧ w.heap.size + 1 ≤ gw ∧ gw < Z1.heap.size) := by
    have h3 := HNZ0.out
    show w.heap.size + 1 ≤ Z1.heap.size ∧ w.heap.size + 1 ≤ gw ∧ gw < Z1.heap.size
    omega
   have HV : Hid (Z0.heap.size = gw) := hv
   have HZN : Hid (Z0.alloc (.cells (Array.replicate T (.int .i64 0)) 3) = Z1) := hZn
   have hmk := makeInt Z0 T (by omega)
   rw [hZn, hv] at hmk
   clear hb hsz hv hZn
   go_simp
   clear hmk
   clear HV HZN
   refine hK.out _ _ (HSK.out _ HBZ1.out) (fun hHeld => ?_)
   clear hK K
   try simp only [Act.put, zA, zB, zC]
   refine wpAnyH_ready (rs := [1, 4, 10]) (by kernel_rfl) (by simp) ?_
   refine AllReadyH.cons (tA rfl) (fun K hK => ?_) (AllReadyH.cons (tA rfl) (fun K hK => ?_) (AllReadyH.cons (tA rfl) (fun K hK => ?_) AllReadyH.nil))
   ·go_simp
    refine Calls.mono (HNL.out _ (HBW.out _ HBZ1.out)) ?_
    rintro e Z2 ⟨b, ga, U, rfl, hlf, hlu, ⟨hge1, hge2⟩, hb⟩
    have HBZ2 : Hid (Below (w.heap.size + 1) W0 Z2) := HBZ1.out.trans (hb.mono (by have := HNZ1.out; omega))
    have HTW2 : Hid (TW Z2 gw T (List.replicate T 0)) := HTW1.out.move (hb.block _ (by have := HNZ1.out; omega)) hb.size
    have HLF2 : Hid (LfV Z2 b f a n c ga U) := hlf
    have HLU2 : Hid (LfU f n U) := hlu
    have HNZ2 : Hid (w.heap.size + 1 ≤ Z2.heap.size ∧ w.heap.size + 1 ≤ b ∧ w.heap.size + 1 ≤ ga ∧ w.heap.size + 1 ≤ gw ∧ b < Z2.heap.size ∧ ga < Z2.heap.size ∧ gw < Z2.heap.size ∧ gw ≠ b ∧ gw ≠ ga) := by
     have h1 := lt_of_cell hlf.c0
     have h2 := lt_of_cell (hlf.sets 0 (by omega) 0 (by omega))
     have h3 := HNZ1.out
     have h4 := hb.size
     show w.heap.size + 1 ≤ Z2.heap.size ∧ w.heap.size + 1 ≤ b ∧ w.heap.size + 1 ≤ ga ∧ w.heap.size + 1 ≤ gw ∧ b < Z2.heap.size ∧ ga < Z2.heap.size ∧ gw < Z2.heap.size ∧ gw ≠ b ∧ gw ≠ ga
     omega
    clear hlf hlu hge1 hge2 hb
    try go_wp2_with fail
    refine hK.out _ _ (HSK.out _ HBZ2.out) (fun hHeld => ?_)
    clear hK K
    try simp only [Act.put, zA, zB, zC]
    refine wpAnyH_ready (rs := [4, 10]) (by kernel_rfl) (by simp) ?_
    refine AllReadyH.cons (tA rfl) (fun K hK => ?_) (AllReadyH.cons (tA rfl) (fun K hK => ?_) AllReadyH.nil)
    ·obtain ⟨gu, hv⟩ : ∃ g, Z2.heap.size = g := ⟨_, rfl⟩
     obtain ⟨Z3, hZn⟩ : ∃ Y, Z2.alloc (.cells (Array.replicate (T * 7) (.int .u64 0)) 54) = Y := ⟨_, rfl⟩
     have hb : Below Z2.heap.size Z2 Z3 := by rw [← hZn]; exact bl1 _ _
     have hsz : Z3.heap.size = Z2.heap.size + 1 := by rw [← hZn]; simp
     have HBZ3 : Hid (Below (w.heap.size + 1) W0 Z3) := HBZ2.out.trans (hb.mono (by have := HNZ2.out; omega))
     have HLF3 : Hid (LfV Z3 b f a n c ga U) := HLF2.out.below hb
     have HTW3 : Hid (TW Z3 gw T (List.replicate T 0)) := HTW2.out.move (hb.block _ (by have := HNZ2.out; omega)) hb.size
     have HLU3 : Hid (LfU f n U) := HLU2.out
     have HTU3 : Hid (TU Z3 gu T (fun _ => F.zero7)) := by show TU _ _ _ _; rw [← hZn, ← hv]; exact TU.new Z2 T
     have HNZ3 : Hid (w.heap.size + 1 ≤ Z3.heap.size ∧ w.heap.size + 1 ≤ b ∧ w.heap.size + 1 ≤ ga ∧ w.heap.size + 1 ≤ gu ∧ w.heap.size + 1 ≤ gw ∧ b < Z3.heap.size ∧ ga < Z3.heap.size ∧ gu < Z3.heap.size ∧ gw < Z3.heap.size ∧ gu ≠ b ∧ gu ≠ ga ∧ gu ≠ gw ∧ gw ≠ b ∧ gw ≠ ga) := by
      have h3 := HNZ2.out
      show w.heap.size + 1 ≤ Z3.heap.size ∧ w.heap.size + 1 ≤ b ∧ w.heap.size + 1 ≤ ga ∧ w.heap.size + 1 ≤ gu ∧ w.heap.size + 1 ≤ gw ∧ b < Z3.heap.size ∧ ga < Z3.heap.size ∧ gu < Z3.heap.size ∧ gw < Z3.heap.size ∧ gu ≠ b ∧ gu ≠ ga ∧ gu ≠ gw ∧ gw ≠ b ∧ gw ≠ ga
      omega
     have HV : Hid (Z2.heap.size = gu) := hv
     have HZN : Hid (Z2.alloc (.cells (Array.replicate (T * 7) (.int .u64 0)) 54) = Z3) := hZn
     have hmk := makeSet Z2 T (by omega)
     rw [hZn, hv] at hmk
     clear hb hsz hv hZn
     go_simp
     clear hmk
     clear HV HZN
     refine hK.out _ _ (HSK.out _ HBZ3.out) (fun hHeld => ?_)
     clear hK K
     try simp only [Act.put, zA, zB, zC]
     refine tjr 8 ?_
     simp only [Act.put, zA, zB, zC]
     refine wpAnyH_ready (rs := [9, 10]) (by kernel_rfl) (by simp) ?_
     refine AllReadyH.cons (tA rfl) (fun K hK => ?_) (AllReadyH.cons (tA rfl) (fun K hK => ?_) AllReadyH.nil)
     ·obtain ⟨bf, hv⟩ : ∃ g, Z3.heap.size = g := ⟨_, rfl⟩
      obtain ⟨Z4, hZn⟩ : ∃ Y, Z3.alloc (.cells #[.pointer (some ⟨b, 0, none⟩), .slice (some ⟨gu, 0, none⟩) T T, .slice (some ⟨gw, 0, none⟩) T T] 81) = Y := ⟨_, rfl⟩
      have hb : Below Z3.heap.size Z3 Z4 := by rw [← hZn]; exact bl1 _ _
      have hsz : Z4.heap.size = Z3.heap.size + 1 := by rw [← hZn]; simp
      have HBZ4 : Hid (Below (w.heap.size + 1) W0 Z4) := HBZ3.out.trans (hb.mono (by have := HNZ3.out; omega))
      have HLF4 : Hid (LfV Z4 b f a n c ga U) := HLF3.out.below hb
      have HTU4 : Hid (TU Z4 gu T (fun _ => F.zero7)) := HTU3.out.move (hb.block _ (by have := HNZ3.out; omega)) hb.size
      have HTW4 : Hid (TW Z4 gw T (List.replicate T 0)) := HTW3.out.move (hb.block _ (by have := HNZ3.out; omega)) hb.size
      have HLU4 : Hid (LfU f n U) := HLU3.out
      have HBF4 : Hid (Bx Z4 bf [.pointer (some ⟨b, 0, none⟩), .slice (some ⟨gu, 0, none⟩) T T, .slice (some ⟨gw, 0, none⟩) T T]) := by show Bx _ _ _; rw [← hZn, ← hv]; exact Bx.new Z3 #[.pointer (some ⟨b, 0, none⟩), .slice (some ⟨gu, 0, none⟩) T T, .slice (some ⟨gw, 0, none⟩) T T] _
      have HNZ4 : Hid (w.heap.size + 1 ≤ Z4.heap.size ∧ w.heap.size + 1 ≤ b ∧ w.heap.size + 1 ≤ ga ∧ w.heap.size + 1 ≤ gu ∧ w.heap.size + 1 ≤ gw ∧ w.heap.size + 1 ≤ bf ∧ b < Z4.heap.size ∧ ga < Z4.heap.size ∧ gu < Z4.heap.size ∧ gw < Z4.heap.size ∧ bf < Z4.heap.size ∧ gu ≠ b ∧ gu ≠ ga ∧ gu ≠ gw ∧ gu ≠ bf ∧ gw ≠ b ∧ gw ≠ ga ∧ gw ≠ bf) := by
       have h3 := HNZ3.out
       show w.heap.size + 1 ≤ Z4.heap.size ∧ w.heap.size + 1 ≤ b ∧ w.heap.size + 1 ≤ ga ∧ w.heap.size + 1 ≤ gu ∧ w.heap.size + 1 ≤ gw ∧ w.heap.size + 1 ≤ bf ∧ b < Z4.heap.size ∧ ga < Z4.heap.size ∧ gu < Z4.heap.size ∧ gw < Z4.heap.size ∧ bf < Z4.heap.size ∧ gu ≠ b ∧ gu ≠ ga ∧ gu ≠ gw ∧ gu ≠ bf ∧ gw ≠ b ∧ gw ≠ ga ∧ gw ≠ bf
       omega
      have HV : Hid (Z3.heap.size = bf) := hv
      have HZN : Hid (Z3.alloc (.cells #[.pointer (some ⟨b, 0, none⟩), .slice (some ⟨gu, 0, none⟩) T T, .slice (some ⟨gw, 0, none⟩) T T] 81) = Z4) := hZn
      clear hb hsz hv hZn
      go_simp
      rw [HZN.out, HV.out]
      clear HV HZN
      refine hK.out _ _ (HSK.out _ HBZ4.out) (fun hHeld => ?_)
      clear hK K
      try simp only [Act.put, zA, zB, zC]
      refine wpAnyH_ready (rs := [10]) (by kernel_rfl) (by simp) ?_
      refine AllReadyH.cons (tA rfl) (fun K hK => ?_) AllReadyH.nil
      ·obtain ⟨bs, hv⟩ : ∃ g, Z4.heap.size = g := ⟨_, rfl⟩
       obtain ⟨Z5, hZn⟩ : ∃ Y, Z4.alloc (.cells #[.pointer none] 62) = Y := ⟨_, rfl⟩
       have hb : Below Z4.heap.size Z4 Z5 := by rw [← hZn]; exact bl1 _ _
       have hsz : Z5.heap.size = Z4.heap.size + 1 := by rw [← hZn]; simp
       have HBZ5 : Hid (Below (w.heap.size + 1) W0 Z5) := HBZ4.out.trans (hb.mono (by have := HNZ4.out; omega))
       have HLF5 : Hid (LfV Z5 b f a n c ga U) := HLF4.out.below hb
       have HTU5 : Hid (TU Z5 gu T (fun _ => F.zero7)) := HTU4.out.move (hb.block _ (by have := HNZ4.out; omega)) hb.size
       have HTW5 : Hid (TW Z5 gw T (List.replicate T 0)) := HTW4.out.move (hb.block _ (by have := HNZ4.out; omega)) hb.size
       have HBF5 : Hid (Bx Z5 bf [.pointer (some ⟨b, 0, none⟩), .slice (some ⟨gu, 0, none⟩) T T, .slice (some ⟨gw, 0, none⟩) T T]) := HBF4.out.below hb
       have HLU5 : Hid (LfU f n U) := HLU4.out
       have HBS5 : Hid (Bx Z5 bs [.pointer none]) := by show Bx _ _ _; rw [← hZn, ← hv]; exact Bx.new Z4 #[.pointer none] _
       have HNZ5 : Hid (w.heap.size + 1 ≤ Z5.heap.size ∧ w.heap.size + 1 ≤ b ∧ w.heap.size + 1 ≤ ga ∧ w.heap.size + 1 ≤ gu ∧ w.heap.size + 1 ≤ gw ∧ w.heap.size + 1 ≤ bs ∧ w.heap.size + 1 ≤ bf ∧ b < Z5.heap.size ∧ ga < Z5.heap.size ∧ gu < Z5.heap.size ∧ gw < Z5.heap.size ∧ bs < Z5.heap.size ∧ bf < Z5.heap.size ∧ gu ≠ b ∧ gu ≠ ga ∧ gu ≠ gw ∧ gu ≠ bf ∧ gw ≠ b ∧ gw ≠ ga ∧ gw ≠ bf ∧ bs ≠ b ∧ bs ≠ ga ∧ bs ≠ bf ∧ bs ≠ gu ∧ bs ≠ gw) := by
        have h3 := HNZ4.out
        show w.heap.size + 1 ≤ Z5.heap.size ∧ w.heap.size + 1 ≤ b ∧ w.heap.size + 1 ≤ ga ∧ w.heap.size + 1 ≤ gu ∧ w.heap.size + 1 ≤ gw ∧ w.heap.size + 1 ≤ bs ∧ w.heap.size + 1 ≤ bf ∧ b < Z5.heap.size ∧ ga < Z5.heap.size ∧ gu < Z5.heap.size ∧ gw < Z5.heap.size ∧ bs < Z5.heap.size ∧ bf < Z5.heap.size ∧ gu ≠ b ∧ gu ≠ ga ∧ gu ≠ gw ∧ gu ≠ bf ∧ gw ≠ b ∧ gw ≠ ga ∧ gw ≠ bf ∧ bs ≠ b ∧ bs ≠ ga ∧ bs ≠ bf ∧ bs ≠ gu ∧ bs ≠ gw
        omega
       have HV : Hid (Z4.heap.size = bs) := hv
       have HZN : Hid (Z4.alloc (.cells #[.pointer none] 62) = Z5) := hZn
       clear hb hsz hv hZn
       go_simp
       rw [HZN.out, HV.out]
       clear HV HZN
       refine hK.out _ _ (HSK.out _ HBZ5.out) (fun hHeld => ?_)
       clear hK K
       try simp only [Act.put, zA, zB, zC]
       refine HTL b gu gw bf bs Z5 ⟨ga, U, HLU5.out, ⟨HBW.out _ HBZ5.out, HLF5.out, ?_, ?_, ?_, ?_, ?_⟩, HBS5.out, HBZ5.out, ?_⟩
       ·rw [HT.out]; exact HBF5.out
       ·rw [HT.out]; exact HTU5.out
       ·rw [HT.out]; exact HTW5.out
       ·have := HNZ5.out; omega
       ·have := HNZ5.out; omega
       ·have := HNZ5.out; omega
     ·obtain ⟨bs, hv⟩ : ∃ g, Z3.heap.size = g := ⟨_, rfl⟩
      obtain ⟨Z4, hZn⟩ : ∃ Y, Z3.alloc (.cells #[.pointer none] 62) = Y := ⟨_, rfl⟩
      have hb : Below Z3.heap.size Z3 Z4 := by rw [← hZn]; exact bl1 _ _
      have hsz : Z4.heap.size = Z3.heap.size + 1 := by rw [← hZn]; simp
      have HBZ4 : Hid (Below (w.heap.size + 1) W0 Z4) := HBZ3.out.trans (hb.mono (by have := HNZ3.out; omega))
      have HLF4 : Hid (LfV Z4 b f a n c ga U) := HLF3.out.below hb
      have HTU4 : Hid (TU Z4 gu T (fun _ => F.zero7)) := HTU3.out.move (hb.block _ (by have := HNZ3.out; omega)) hb.size
      have HTW4 : Hid (TW Z4 gw T (List.replicate T 0)) := HTW3.out.move (hb.block _ (by have := HNZ3.out; omega)) hb.size
      have HLU4 : Hid (LfU f n U) := HLU3.out
      have HBS4 : Hid (Bx Z4 bs [.pointer none]) := by show Bx _ _ _; rw [← hZn, ← hv]; exact Bx.new Z3 #[.pointer none] _
      have HNZ4 : Hid (w.heap.size + 1 ≤ Z4.heap.size ∧ w.heap.size + 1 ≤ b ∧ w.heap.size + 1 ≤ ga ∧ w.heap.size + 1 ≤ gu ∧ w.heap.size + 1 ≤ gw ∧ w.heap.size + 1 ≤ bs ∧ b < Z4.heap.size ∧ ga < Z4.heap.size ∧ gu < Z4.heap.size ∧ gw < Z4.heap.size ∧ bs < Z4.heap.size ∧ gu ≠ b ∧ gu ≠ ga ∧ gu ≠ gw ∧ gw ≠ b ∧ gw ≠ ga ∧ bs ≠ b ∧ bs ≠ ga ∧ bs ≠ gu ∧ bs ≠ gw) := by
       have h3 := HNZ3.out
       show w.heap.size + 1 ≤ Z4.heap.size ∧ w.heap.size + 1 ≤ b ∧ w.heap.size + 1 ≤ ga ∧ w.heap.size + 1 ≤ gu ∧ w.heap.size + 1 ≤ gw ∧ w.heap.size + 1 ≤ bs ∧ b < Z4.heap.size ∧ ga < Z4.heap.size ∧ gu < Z4.heap.size ∧ gw < Z4.heap.size ∧ bs < Z4.heap.size ∧ gu ≠ b ∧ gu ≠ ga ∧ gu ≠ gw ∧ gw ≠ b ∧ gw ≠ ga ∧ bs ≠ b ∧ bs ≠ ga ∧ bs ≠ gu ∧ bs ≠ gw
       omega
      have HV : Hid (Z3.heap.size = bs) := hv
      have HZN : Hid (Z3.alloc (.cells #[.pointer none] 62) = Z4) := hZn
      clear hb hsz hv hZn
      go_simp
      rw [HZN.out, HV.out]
      clear HV HZN
      refine hK.out _ _ (HSK.out _ HBZ4.out) (fun hHeld => ?_)
      clear hK K
      try simp only [Act.put, zA, zB, zC]
      refine wpAnyH_ready (rs := [9]) (by kernel_rfl) (by simp) ?_
      refine AllReadyH.cons (tA rfl) (fun K hK => ?_) AllReadyH.nil
      ·obtain ⟨bf, hv⟩ : ∃ g, Z4.heap.size = g := ⟨_, rfl⟩
       obtain ⟨Z5, hZn⟩ : ∃ Y, Z4.alloc (.cells #[.pointer (some ⟨b, 0, none⟩), .slice (some ⟨gu, 0, none⟩) T T, .slice (some ⟨gw, 0, none⟩) T T] 81) = Y := ⟨_, rfl⟩
       have hb : Below Z4.heap.size Z4 Z5 := by rw [← hZn]; exact bl1 _ _
       have hsz : Z5.heap.size = Z4.heap.size + 1 := by rw [← hZn]; simp
       have HBZ5 : Hid (Below (w.heap.size + 1) W0 Z5) := HBZ4.out.trans (hb.mono (by have := HNZ4.out; omega))
       have HLF5 : Hid (LfV Z5 b f a n c ga U) := HLF4.out.below hb
       have HTU5 : Hid (TU Z5 gu T (fun _ => F.zero7)) := HTU4.out.move (hb.block _ (by have := HNZ4.out; omega)) hb.size
       have HTW5 : Hid (TW Z5 gw T (List.replicate T 0)) := HTW4.out.move (hb.block _ (by have := HNZ4.out; omega)) hb.size
       have HBS5 : Hid (Bx Z5 bs [.pointer none]) := HBS4.out.below hb
       have HLU5 : Hid (LfU f n U) := HLU4.out
       have HBF5 : Hid (Bx Z5 bf [.pointer (some ⟨b, 0, none⟩), .slice (some ⟨gu, 0, none⟩) T T, .slice (some ⟨gw, 0, none⟩) T T]) := by show Bx _ _ _; rw [← hZn, ← hv]; exact Bx.new Z4 #[.pointer (some ⟨b, 0, none⟩), .slice (some ⟨gu, 0, none⟩) T T, .slice (some ⟨gw, 0, none⟩) T T] _
       have HNZ5 : Hid (w.heap.size + 1 ≤ Z5.heap.size ∧ w.heap.size + 1 ≤ b ∧ w.heap.size + 1 ≤ ga ∧ w.heap.size + 1 ≤ gu ∧ w.heap.size + 1 ≤ gw ∧ w.heap.size + 1 ≤ bs ∧ w.heap.size + 1 ≤ bf ∧ b < Z5.heap.size ∧ ga < Z5.heap.size ∧ gu < Z5.heap.size ∧ gw < Z5.heap.size ∧ bs < Z5.heap.size ∧ bf < Z5.heap.size ∧ gu ≠ b ∧ gu ≠ ga ∧ gu ≠ gw ∧ gu ≠ bf ∧ gw ≠ b ∧ gw ≠ ga ∧ gw ≠ bf ∧ bs ≠ b ∧ bs ≠ ga ∧ bs ≠ bf ∧ bs ≠ gu ∧ bs ≠ gw) := by
        have h3 := HNZ4.out
        show w.heap.size + 1 ≤ Z5.heap.size ∧ w.heap.size + 1 ≤ b ∧ w.heap.size + 1 ≤ ga ∧ w.heap.size + 1 ≤ gu ∧ w.heap.size + 1 ≤ gw ∧ w.heap.size + 1 ≤ bs ∧ w.heap.size + 1 ≤ bf ∧ b < Z5.heap.size ∧ ga < Z5.heap.size ∧ gu < Z5.heap.size ∧ gw < Z5.heap.size ∧ bs < Z5.heap.size ∧ bf < Z5.heap.size ∧ gu ≠ b ∧ gu ≠ ga ∧ gu ≠ gw ∧ gu ≠ bf ∧ gw ≠ b ∧ gw ≠ ga ∧ gw ≠ bf ∧ bs ≠ b ∧ bs ≠ ga ∧ bs ≠ bf ∧ bs ≠ gu ∧ bs ≠ gw
        omega
       have HV : Hid (Z4.heap.size = bf) := hv
       have HZN : Hid (Z4.alloc (.cells #[.pointer (some ⟨b, 0, none⟩), .slice (some ⟨gu, 0, none⟩) T T, .slice (some ⟨gw, 0, none⟩) T T] 81) = Z5) := hZn
       clear hb hsz hv hZn
       go_simp
       rw [HZN.out, HV.out]
       clear HV HZN
       refine hK.out _ _ (HSK.out _ HBZ5.out) (fun hHeld => ?_)
       clear hK K
       try simp only [Act.put, zA, zB, zC]
       refine HTL b gu gw bf bs Z5 ⟨ga, U, HLU5.out, ⟨HBW.out _ HBZ5.out, HLF5.out, ?_, ?_, ?_, ?_, ?_⟩, HBS5.out, HBZ5.out, ?_⟩
       ·rw [HT.out]; exact HBF5.out
       ·rw [HT.out]; exact HTU5.out
       ·rw [HT.out]; exact HTW5.out
       ·have := HNZ5.out; omega
       ·have := HNZ5.out; omega
       ·have := HNZ5.out; omega
    ·obtain ⟨bs, hv⟩ : ∃ g, Z2.heap.size = g := ⟨_, rfl⟩
     obtain ⟨Z3, hZn⟩ : ∃ Y, Z2.alloc (.cells #[.pointer none] 62) = Y := ⟨_, rfl⟩
     have hb : Below Z2.heap.size Z2 Z3 := by rw [← hZn]; exact bl1 _ _
     have hsz : Z3.heap.size = Z2.heap.size + 1 := by rw [← hZn]; simp
     have HBZ3 : Hid (Below (w.heap.size + 1) W0 Z3) := HBZ2.out.trans (hb.mono (by have := HNZ2.out; omega))
     have HLF3 : Hid (LfV Z3 b f a n c ga U) := HLF2.out.below hb
     have HTW3 : Hid (TW Z3 gw T (List.replicate T 0)) := HTW2.out.move (hb.block _ (by have := HNZ2.out; omega)) hb.size
     have HLU3 : Hid (LfU f n U) := HLU2.out
     have HBS3 : Hid (Bx Z3 bs [.pointer none]) := by show Bx _ _ _; rw [← hZn, ← hv]; exact Bx.new Z2 #[.pointer none] _
     have HNZ3 : Hid (w.heap.size + 1 ≤ Z3.heap.size ∧ w.heap.size + 1 ≤ b ∧ w.heap.size + 1 ≤ ga ∧ w.heap.size + 1 ≤ gw ∧ w.heap.size + 1 ≤ bs ∧ b < Z3.heap.size ∧ ga < Z3.heap.size ∧ gw < Z3.heap.size ∧ bs < Z3.heap.size ∧ gw ≠ b ∧ gw ≠ ga ∧ bs ≠ b ∧ bs ≠ ga ∧ bs ≠ gw) := by
      have h3 := HNZ2.out
      show w.heap.size + 1 ≤ Z3.heap.size ∧ w.heap.size + 1 ≤ b ∧ w.heap.size + 1 ≤ ga ∧ w.heap.size + 1 ≤ gw ∧ w.heap.size + 1 ≤ bs ∧ b < Z3.heap.size ∧ ga < Z3.heap.size ∧ gw < Z3.heap.size ∧ bs < Z3.heap.size ∧ gw ≠ b ∧ gw ≠ ga ∧ bs ≠ b ∧ bs ≠ ga ∧ bs ≠ gw
      omega
     have HV : Hid (Z2.heap.size = bs) := hv
     have HZN : Hid (Z2.alloc (.cells #[.pointer none] 62) = Z3) := hZn
     clear hb hsz hv hZn
     go_simp
     rw [HZN.out, HV.out]
     clear HV HZN
     refine hK.out _ _ (HSK.out _ HBZ3.out) (fun hHeld => ?_)
     clear hK K
     try simp only [Act.put, zA, zB, zC]
     refine wpAnyH_ready (rs := [4]) (by kernel_rfl) (by simp) ?_
     refine AllReadyH.cons (tA rfl) (fun K hK => ?_) AllReadyH.nil
     ·obtain ⟨gu, hv⟩ : ∃ g, Z3.heap.size = g := ⟨_, rfl⟩
      obtain ⟨Z4, hZn⟩ : ∃ Y, Z3.alloc (.cells (Array.replicate (T * 7) (.int .u64 0)) 54) = Y := ⟨_, rfl⟩
      have hb : Below Z3.heap.size Z3 Z4 := by rw [← hZn]; exact bl1 _ _
      have hsz : Z4.heap.size = Z3.heap.size + 1 := by rw [← hZn]; simp
      have HBZ4 : Hid (Below (w.heap.size + 1) W0 Z4) := HBZ3.out.trans (hb.mono (by have := HNZ3.out; omega))
      have HLF4 : Hid (LfV Z4 b f a n c ga U) := HLF3.out.below hb
      have HTW4 : Hid (TW Z4 gw T (List.replicate T 0)) := HTW3.out.move (hb.block _ (by have := HNZ3.out; omega)) hb.size
      have HBS4 : Hid (Bx Z4 bs [.pointer none]) := HBS3.out.below hb
      have HLU4 : Hid (LfU f n U) := HLU3.out
      have HTU4 : Hid (TU Z4 gu T (fun _ => F.zero7)) := by show TU _ _ _ _; rw [← hZn, ← hv]; exact TU.new Z3 T
      have HNZ4 : Hid (w.heap.size + 1 ≤ Z4.heap.size ∧ w.heap.size + 1 ≤ b ∧ w.heap.size + 1 ≤ ga ∧ w.heap.size + 1 ≤ gu ∧ w.heap.size + 1 ≤ gw ∧ w.heap.size + 1 ≤ bs ∧ b < Z4.heap.size ∧ ga < Z4.heap.size ∧ gu < Z4.heap.size ∧ gw < Z4.heap.size ∧ bs < Z4.heap.size ∧ gu ≠ b ∧ gu ≠ ga ∧ gu ≠ gw ∧ gw ≠ b ∧ gw ≠ ga ∧ bs ≠ b ∧ bs ≠ ga ∧ bs ≠ gu ∧ bs ≠ gw) := by
       have h3 := HNZ3.out
       show w.heap.size + 1 ≤ Z4.heap.size ∧ w.heap.size + 1 ≤ b ∧ w.heap.size + 1 ≤ ga ∧ w.heap.size + 1 ≤ gu ∧ w.heap.size + 1 ≤ gw ∧ w.heap.size + 1 ≤ bs ∧ b < Z4.heap.size ∧ ga < Z4.heap.size ∧ gu < Z4.heap.size ∧ gw < Z4.heap.size ∧ bs < Z4.heap.size ∧ gu ≠ b ∧ gu ≠ ga ∧ gu ≠ gw ∧ gw ≠ b ∧ gw ≠ ga ∧ bs ≠ b ∧ bs ≠ ga ∧ bs ≠ gu ∧ bs ≠ gw
       omega
      have HV : Hid (Z3.heap.size = gu) := hv
      have HZN : Hid (Z3.alloc (.cells (Array.replicate (T * 7) (.int .u64 0)) 54) = Z4) := hZn
      have hmk := makeSet Z3 T (by omega)
      rw [hZn, hv] at hmk
      clear hb hsz hv hZn
      go_simp
      clear hmk
      clear HV HZN
      refine hK.out _ _ (HSK.out _ HBZ4.out) (fun hHeld => ?_)
      clear hK K
      try simp only [Act.put, zA, zB, zC]
      refine tjr 8 ?_
      simp only [Act.put, zA, zB, zC]
      refine wpAnyH_ready (rs := [9]) (by kernel_rfl) (by simp) ?_
      refine AllReadyH.cons (tA rfl) (fun K hK => ?_) AllReadyH.nil
      ·obtain ⟨bf, hv⟩ : ∃ g, Z4.heap.size = g := ⟨_, rfl⟩
       obtain ⟨Z5, hZn⟩ : ∃ Y, Z4.alloc (.cells #[.pointer (some ⟨b, 0, none⟩), .slice (some ⟨gu, 0, none⟩) T T, .slice (some ⟨gw, 0, none⟩) T T] 81) = Y := ⟨_, rfl⟩
       have hb : Below Z4.heap.size Z4 Z5 := by rw [← hZn]; exact bl1 _ _
       have hsz : Z5.heap.size = Z4.heap.size + 1 := by rw [← hZn]; simp
       have HBZ5 : Hid (Below (w.heap.size + 1) W0 Z5) := HBZ4.out.trans (hb.mono (by have := HNZ4.out; omega))
       have HLF5 : Hid (LfV Z5 b f a n c ga U) := HLF4.out.below hb
       have HTU5 : Hid (TU Z5 gu T (fun _ => F.zero7)) := HTU4.out.move (hb.block _ (by have := HNZ4.out; omega)) hb.size
       have HTW5 : Hid (TW Z5 gw T (List.replicate T 0)) := HTW4.out.move (hb.block _ (by have := HNZ4.out; omega)) hb.size
       have HBS5 : Hid (Bx Z5 bs [.pointer none]) := HBS4.out.below hb
       have HLU5 : Hid (LfU f n U) := HLU4.out
       have HBF5 : Hid (Bx Z5 bf [.pointer (some ⟨b, 0, none⟩), .slice (some ⟨gu, 0, none⟩) T T, .slice (some ⟨gw, 0, none⟩) T T]) := by show Bx _ _ _; rw [← hZn, ← hv]; exact Bx.new Z4 #[.pointer (some ⟨b, 0, none⟩), .slice (some ⟨gu, 0, none⟩) T T, .slice (some ⟨gw, 0, none⟩) T T] _
       have HNZ5 : Hid (w.heap.size + 1 ≤ Z5.heap.size ∧ w.heap.size + 1 ≤ b ∧ w.heap.size + 1 ≤ ga ∧ w.heap.size + 1 ≤ gu ∧ w.heap.size + 1 ≤ gw ∧ w.heap.size + 1 ≤ bs ∧ w.heap.size + 1 ≤ bf ∧ b < Z5.heap.size ∧ ga < Z5.heap.size ∧ gu < Z5.heap.size ∧ gw < Z5.heap.size ∧ bs < Z5.heap.size ∧ bf < Z5.heap.size ∧ gu ≠ b ∧ gu ≠ ga ∧ gu ≠ gw ∧ gu ≠ bf ∧ gw ≠ b ∧ gw ≠ ga ∧ gw ≠ bf ∧ bs ≠ b ∧ bs ≠ ga ∧ bs ≠ bf ∧ bs ≠ gu ∧ bs ≠ gw) := by
        have h3 := HNZ4.out
        show w.heap.size + 1 ≤ Z5.heap.size ∧ w.heap.size + 1 ≤ b ∧ w.heap.size + 1 ≤ ga ∧ w.heap.size + 1 ≤ gu ∧ w.heap.size + 1 ≤ gw ∧ w.heap.size + 1 ≤ bs ∧ w.heap.size + 1 ≤ bf ∧ b < Z5.heap.size ∧ ga < Z5.heap.size ∧ gu < Z5.heap.size ∧ gw < Z5.heap.size ∧ bs < Z5.heap.size ∧ bf < Z5.heap.size ∧ gu ≠ b ∧ gu ≠ ga ∧ gu ≠ gw ∧ gu ≠ bf ∧ gw ≠ b ∧ gw ≠ ga ∧ gw ≠ bf ∧ bs ≠ b ∧ bs ≠ ga ∧ bs ≠ bf ∧ bs ≠ gu ∧ bs ≠ gw
        omega
       have HV : Hid (Z4.heap.size = bf) := hv
       have HZN : Hid (Z4.alloc (.cells #[.pointer (some ⟨b, 0, none⟩), .slice (some ⟨gu, 0, none⟩) T T, .slice (some ⟨gw, 0, none⟩) T T] 81) = Z5) := hZn
       clear hb hsz hv hZn
       go_simp
       rw [HZN.out, HV.out]
       clear HV HZN
       refine hK.out _ _ (HSK.out _ HBZ5.out) (fun hHeld => ?_)
       clear hK K
       try simp only [Act.put, zA, zB, zC]
       refine HTL b gu gw bf bs Z5 ⟨ga, U, HLU5.out, ⟨HBW.out _ HBZ5.out, HLF5.out, ?_, ?_, ?_, ?_, ?_⟩, HBS5.out, HBZ5.out, ?_⟩
       ·rw [HT.out]; exact HBF5.out
       ·rw [HT.out]; exact HTU5.out
       ·rw [HT.out]; exact HTW5.out
       ·have := HNZ5.out; omega
       ·have := HNZ5.out; omega
       ·have := HNZ5.out; omega
   ·obtain ⟨gu, hv⟩ : ∃ g, Z1.heap.size = g := ⟨_, rfl⟩
    obtain ⟨Z2, hZn⟩ : ∃ Y, Z1.alloc (.cells (Array.replicate (T * 7) (.int .u64 0)) 54) = Y := ⟨_, rfl⟩
    have hb : Below Z1.heap.size Z1 Z2 := by rw [← hZn]; exact bl1 _ _
    have hsz : Z2.heap.size = Z1.heap.size + 1 := by rw [← hZn]; simp
    have HBZ2 : Hid (Below (w.heap.size + 1) W0 Z2) := HBZ1.out.trans (hb.mono (by have := HNZ1.out; omega))
    have HTW2 : Hid (TW Z2 gw T (List.replicate T 0)) := HTW1.out.move (hb.block _ (by have := HNZ1.out; omega)) hb.size
    have HTU2 : Hid (TU Z2 gu T (fun _ => F.zero7)) := by show TU _ _ _ _; rw [← hZn, ← hv]; exact TU.new Z1 T
    have HNZ2 : Hid (w.heap.size + 1 ≤ Z2.heap.size ∧ w.heap.size + 1 ≤ gu ∧ w.heap.size + 1 ≤ gw ∧ gu < Z2.heap.size ∧ gw < Z2.heap.size ∧ gu ≠ gw) := by
     have h3 := HNZ1.out
     show w.heap.size + 1 ≤ Z2.heap.size ∧ w.heap.size + 1 ≤ gu ∧ w.heap.size + 1 ≤ gw ∧ gu < Z2.heap.size ∧ gw < Z2.heap.size ∧ gu ≠ gw
     omega
    have HV : Hid (Z1.heap.size = gu) := hv
    have HZN : Hid (Z1.alloc (.cells (Array.replicate (T * 7) (.int .u64 0)) 54) = Z2) := hZn
    have hmk := makeSet Z1 T (by omega)
    rw [hZn, hv] at hmk
    clear hb hsz hv hZn
    go_simp
    clear hmk
    clear HV HZN
    refine hK.out _ _ (HSK.out _ HBZ2.out) (fun hHeld => ?_)
    clear hK K
    try simp only [Act.put, zA, zB, zC]
    refine wpAnyH_ready (rs := [1, 10]) (by kernel_rfl) (by simp) ?_
    refine AllReadyH.cons (tA rfl) (fun K hK => ?_) (AllReadyH.cons (tA rfl) (fun K hK => ?_) AllReadyH.nil)
    ·go_simp
     refine Calls.mono (HNL.out _ (HBW.out _ HBZ2.out)) ?_
     rintro e Z3 ⟨b, ga, U, rfl, hlf, hlu, ⟨hge1, hge2⟩, hb⟩
     have HBZ3 : Hid (Below (w.heap.size + 1) W0 Z3) := HBZ2.out.trans (hb.mono (by have := HNZ2.out; omega))
     have HTU3 : Hid (TU Z3 gu T (fun _ => F.zero7)) := HTU2.out.move (hb.block _ (by have := HNZ2.out; omega)) hb.size
     have HTW3 : Hid (TW Z3 gw T (List.replicate T 0)) := HTW2.out.move (hb.block _ (by have := HNZ2.out; omega)) hb.size
     have HLF3 : Hid (LfV Z3 b f a n c ga U) := hlf
     have HLU3 : Hid (LfU f n U) := hlu
     have HNZ3 : Hid (w.heap.size + 1 ≤ Z3.heap.size ∧ w.heap.size + 1 ≤ b ∧ w.heap.size + 1 ≤ ga ∧ w.heap.size + 1 ≤ gu ∧ w.heap.size + 1 ≤ gw ∧ b < Z3.heap.size ∧ ga < Z3.heap.size ∧ gu < Z3.heap.size ∧ gw < Z3.heap.size ∧ gu ≠ b ∧ gu ≠ ga ∧ gu ≠ gw ∧ gw ≠ b ∧ gw ≠ ga) := by
      have h1 := lt_of_cell hlf.c0
      have h2 := lt_of_cell (hlf.sets 0 (by omega) 0 (by omega))
      have h3 := HNZ2.out
      have h4 := hb.size
      show w.heap.size + 1 ≤ Z3.heap.size ∧ w.heap.size + 1 ≤ b ∧ w.heap.size + 1 ≤ ga ∧ w.heap.size + 1 ≤ gu ∧ w.heap.size + 1 ≤ gw ∧ b < Z3.heap.size ∧ ga < Z3.heap.size ∧ gu < Z3.heap.size ∧ gw < Z3.heap.size ∧ gu ≠ b ∧ gu ≠ ga ∧ gu ≠ gw ∧ gw ≠ b ∧ gw ≠ ga
      omega
     clear hlf hlu hge1 hge2 hb
     try go_wp2_with fail
     refine hK.out _ _ (HSK.out _ HBZ3.out) (fun hHeld => ?_)
     clear hK K
     try simp only [Act.put, zA, zB, zC]
     refine tjr 8 ?_
     simp only [Act.put, zA, zB, zC]
     refine wpAnyH_ready (rs := [9, 10]) (by kernel_rfl) (by simp) ?_
     refine AllReadyH.cons (tA rfl) (fun K hK => ?_) (AllReadyH.cons (tA rfl) (fun K hK => ?_) AllReadyH.nil)
     ·obtain ⟨bf, hv⟩ : ∃ g, Z3.heap.size = g := ⟨_, rfl⟩
      obtain ⟨Z4, hZn⟩ : ∃ Y, Z3.alloc (.cells #[.pointer (some ⟨b, 0, none⟩), .slice (some ⟨gu, 0, none⟩) T T, .slice (some ⟨gw, 0, none⟩) T T] 81) = Y := ⟨_, rfl⟩
      have hb : Below Z3.heap.size Z3 Z4 := by rw [← hZn]; exact bl1 _ _
      have hsz : Z4.heap.size = Z3.heap.size + 1 := by rw [← hZn]; simp
      have HBZ4 : Hid (Below (w.heap.size + 1) W0 Z4) := HBZ3.out.trans (hb.mono (by have := HNZ3.out; omega))
      have HLF4 : Hid (LfV Z4 b f a n c ga U) := HLF3.out.below hb
      have HTU4 : Hid (TU Z4 gu T (fun _ => F.zero7)) := HTU3.out.move (hb.block _ (by have := HNZ3.out; omega)) hb.size
      have HTW4 : Hid (TW Z4 gw T (List.replicate T 0)) := HTW3.out.move (hb.block _ (by have := HNZ3.out; omega)) hb.size
      have HLU4 : Hid (LfU f n U) := HLU3.out
      have HBF4 : Hid (Bx Z4 bf [.pointer (some ⟨b, 0, none⟩), .slice (some ⟨gu, 0, none⟩) T T, .slice (some ⟨gw, 0, none⟩) T T]) := by show Bx _ _ _; rw [← hZn, ← hv]; exact Bx.new Z3 #[.pointer (some ⟨b, 0, none⟩), .slice (some ⟨gu, 0, none⟩) T T, .slice (some ⟨gw, 0, none⟩) T T] _
      have HNZ4 : Hid (w.heap.size + 1 ≤ Z4.heap.size ∧ w.heap.size + 1 ≤ b ∧ w.heap.size + 1 ≤ ga ∧ w.heap.size + 1 ≤ gu ∧ w.heap.size + 1 ≤ gw ∧ w.heap.size + 1 ≤ bf ∧ b < Z4.heap.size ∧ ga < Z4.heap.size ∧ gu < Z4.heap.size ∧ gw < Z4.heap.size ∧ bf < Z4.heap.size ∧ gu ≠ b ∧ gu ≠ ga ∧ gu ≠ gw ∧ gu ≠ bf ∧ gw ≠ b ∧ gw ≠ ga ∧ gw ≠ bf) := by
       have h3 := HNZ3.out
       show w.heap.size + 1 ≤ Z4.heap.size ∧ w.heap.size + 1 ≤ b ∧ w.heap.size + 1 ≤ ga ∧ w.heap.size + 1 ≤ gu ∧ w.heap.size + 1 ≤ gw ∧ w.heap.size + 1 ≤ bf ∧ b < Z4.heap.size ∧ ga < Z4.heap.size ∧ gu < Z4.heap.size ∧ gw < Z4.heap.size ∧ bf < Z4.heap.size ∧ gu ≠ b ∧ gu ≠ ga ∧ gu ≠ gw ∧ gu ≠ bf ∧ gw ≠ b ∧ gw ≠ ga ∧ gw ≠ bf
       omega
      have HV : Hid (Z3.heap.size = bf) := hv
      have HZN : Hid (Z3.alloc (.cells #[.pointer (some ⟨b, 0, none⟩), .slice (some ⟨gu, 0, none⟩) T T, .slice (some ⟨gw, 0, none⟩) T T] 81) = Z4) := hZn
      clear hb hsz hv hZn
      go_simp
      rw [HZN.out, HV.out]
      clear HV HZN
      refine hK.out _ _ (HSK.out _ HBZ4.out) (fun hHeld => ?_)
      clear hK K
      try simp only [Act.put, zA, zB, zC]
      refine wpAnyH_ready (rs := [10]) (by kernel_rfl) (by simp) ?_
      refine AllReadyH.cons (tA rfl) (fun K hK => ?_) AllReadyH.nil
      ·obtain ⟨bs, hv⟩ : ∃ g, Z4.heap.size = g := ⟨_, rfl⟩
       obtain ⟨Z5, hZn⟩ : ∃ Y, Z4.alloc (.cells #[.pointer none] 62) = Y := ⟨_, rfl⟩
       have hb : Below Z4.heap.size Z4 Z5 := by rw [← hZn]; exact bl1 _ _
       have hsz : Z5.heap.size = Z4.heap.size + 1 := by rw [← hZn]; simp
       have HBZ5 : Hid (Below (w.heap.size + 1) W0 Z5) := HBZ4.out.trans (hb.mono (by have := HNZ4.out; omega))
       have HLF5 : Hid (LfV Z5 b f a n c ga U) := HLF4.out.below hb
       have HTU5 : Hid (TU Z5 gu T (fun _ => F.zero7)) := HTU4.out.move (hb.block _ (by have := HNZ4.out; omega)) hb.size
       have HTW5 : Hid (TW Z5 gw T (List.replicate T 0)) := HTW4.out.move (hb.block _ (by have := HNZ4.out; omega)) hb.size
       have HBF5 : Hid (Bx Z5 bf [.pointer (some ⟨b, 0, none⟩), .slice (some ⟨gu, 0, none⟩) T T, .slice (some ⟨gw, 0, none⟩) T T]) := HBF4.out.below hb
       have HLU5 : Hid (LfU f n U) := HLU4.out
       have HBS5 : Hid (Bx Z5 bs [.pointer none]) := by show Bx _ _ _; rw [← hZn, ← hv]; exact Bx.new Z4 #[.pointer none] _
       have HNZ5 : Hid (w.heap.size + 1 ≤ Z5.heap.size ∧ w.heap.size + 1 ≤ b ∧ w.heap.size + 1 ≤ ga ∧ w.heap.size + 1 ≤ gu ∧ w.heap.size + 1 ≤ gw ∧ w.heap.size + 1 ≤ bs ∧ w.heap.size + 1 ≤ bf ∧ b < Z5.heap.size ∧ ga < Z5.heap.size ∧ gu < Z5.heap.size ∧ gw < Z5.heap.size ∧ bs < Z5.heap.size ∧ bf < Z5.heap.size ∧ gu ≠ b ∧ gu ≠ ga ∧ gu ≠ gw ∧ gu ≠ bf ∧ gw ≠ b ∧ gw ≠ ga ∧ gw ≠ bf ∧ bs ≠ b ∧ bs ≠ ga ∧ bs ≠ bf ∧ bs ≠ gu ∧ bs ≠ gw) := by
        have h3 := HNZ4.out
        show w.heap.size + 1 ≤ Z5.heap.size ∧ w.heap.size + 1 ≤ b ∧ w.heap.size + 1 ≤ ga ∧ w.heap.size + 1 ≤ gu ∧ w.heap.size + 1 ≤ gw ∧ w.heap.size + 1 ≤ bs ∧ w.heap.size + 1 ≤ bf ∧ b < Z5.heap.size ∧ ga < Z5.heap.size ∧ gu < Z5.heap.size ∧ gw < Z5.heap.size ∧ bs < Z5.heap.size ∧ bf < Z5.heap.size ∧ gu ≠ b ∧ gu ≠ ga ∧ gu ≠ gw ∧ gu ≠ bf ∧ gw ≠ b ∧ gw ≠ ga ∧ gw ≠ bf ∧ bs ≠ b ∧ bs ≠ ga ∧ bs ≠ bf ∧ bs ≠ gu ∧ bs ≠ gw
        omega
       have HV : Hid (Z4.heap.size = bs) := hv
       have HZN : Hid (Z4.alloc (.cells #[.pointer none] 62) = Z5) := hZn
       clear hb hsz hv hZn
       go_simp
       rw [HZN.out, HV.out]
       clear HV HZN
       refine hK.out _ _ (HSK.out _ HBZ5.out) (fun hHeld => ?_)
       clear hK K
       try simp only [Act.put, zA, zB, zC]
       refine HTL b gu gw bf bs Z5 ⟨ga, U, HLU5.out, ⟨HBW.out _ HBZ5.out, HLF5.out, ?_, ?_, ?_, ?_, ?_⟩, HBS5.out, HBZ5.out, ?_⟩
       ·rw [HT.out]; exact HBF5.out
       ·rw [HT.out]; exact HTU5.out
       ·rw [HT.out]; exact HTW5.out
       ·have := HNZ5.out; omega
       ·have := HNZ5.out; omega
       ·have := HNZ5.out; omega
     ·obtain ⟨bs, hv⟩ : ∃ g, Z3.heap.size = g := ⟨_, rfl⟩
      obtain ⟨Z4, hZn⟩ : ∃ Y, Z3.alloc (.cells #[.pointer none] 62) = Y := ⟨_, rfl⟩
      have hb : Below Z3.heap.size Z3 Z4 := by rw [← hZn]; exact bl1 _ _
      have hsz : Z4.heap.size = Z3.heap.size + 1 := by rw [← hZn]; simp
      have HBZ4 : Hid (Below (w.heap.size + 1) W0 Z4) := HBZ3.out.trans (hb.mono (by have := HNZ3.out; omega))
      have HLF4 : Hid (LfV Z4 b f a n c ga U) := HLF3.out.below hb
      have HTU4 : Hid (TU Z4 gu T (fun _ => F.zero7)) := HTU3.out.move (hb.block _ (by have := HNZ3.out; omega)) hb.size
      have HTW4 : Hid (TW Z4 gw T (List.replicate T 0)) := HTW3.out.move (hb.block _ (by have := HNZ3.out; omega)) hb.size
      have HLU4 : Hid (LfU f n U) := HLU3.out
      have HBS4 : Hid (Bx Z4 bs [.pointer none]) := by show Bx _ _ _; rw [← hZn, ← hv]; exact Bx.new Z3 #[.pointer none] _
      have HNZ4 : Hid (w.heap.size + 1 ≤ Z4.heap.size ∧ w.heap.size + 1 ≤ b ∧ w.heap.size + 1 ≤ ga ∧ w.heap.size + 1 ≤ gu ∧ w.heap.size + 1 ≤ gw ∧ w.heap.size + 1 ≤ bs ∧ b < Z4.heap.size ∧ ga < Z4.heap.size ∧ gu < Z4.heap.size ∧ gw < Z4.heap.size ∧ bs < Z4.heap.size ∧ gu ≠ b ∧ gu ≠ ga ∧ gu ≠ gw ∧ gw ≠ b ∧ gw ≠ ga ∧ bs ≠ b ∧ bs ≠ ga ∧ bs ≠ gu ∧ bs ≠ gw) := by
       have h3 := HNZ3.out
       show w.heap.size + 1 ≤ Z4.heap.size ∧ w.heap.size + 1 ≤ b ∧ w.heap.size + 1 ≤ ga ∧ w.heap.size + 1 ≤ gu ∧ w.heap.size + 1 ≤ gw ∧ w.heap.size + 1 ≤ bs ∧ b < Z4.heap.size ∧ ga < Z4.heap.size ∧ gu < Z4.heap.size ∧ gw < Z4.heap.size ∧ bs < Z4.heap.size ∧ gu ≠ b ∧ gu ≠ ga ∧ gu ≠ gw ∧ gw ≠ b ∧ gw ≠ ga ∧ bs ≠ b ∧ bs ≠ ga ∧ bs ≠ gu ∧ bs ≠ gw
       omega
      have HV : Hid (Z3.heap.size = bs) := hv
      have HZN : Hid (Z3.alloc (.cells #[.pointer none] 62) = Z4) := hZn
      clear hb hsz hv hZn
      go_simp
      rw [HZN.out, HV.out]
      clear HV HZN
      refine hK.out _ _ (HSK.out _ HBZ4.out) (fun hHeld => ?_)
      clear hK K
      try simp only [Act.put, zA, zB, zC]
      refine wpAnyH_ready (rs := [9]) (by kernel_rfl) (by simp) ?_
      refine AllReadyH.cons (tA rfl) (fun K hK => ?_) AllReadyH.nil
      ·obtain ⟨bf, hv⟩ : ∃ g, Z4.heap.size = g := ⟨_, rfl⟩
       obtain ⟨Z5, hZn⟩ : ∃ Y, Z4.alloc (.cells #[.pointer (some ⟨b, 0, none⟩), .slice (some ⟨gu, 0, none⟩) T T, .slice (some ⟨gw, 0, none⟩) T T] 81) = Y := ⟨_, rfl⟩
       have hb : Below Z4.heap.size Z4 Z5 := by rw [← hZn]; exact bl1 _ _
       have hsz : Z5.heap.size = Z4.heap.size + 1 := by rw [← hZn]; simp
       have HBZ5 : Hid (Below (w.heap.size + 1) W0 Z5) := HBZ4.out.trans (hb.mono (by have := HNZ4.out; omega))
       have HLF5 : Hid (LfV Z5 b f a n c ga U) := HLF4.out.below hb
       have HTU5 : Hid (TU Z5 gu T (fun _ => F.zero7)) := HTU4.out.move (hb.block _ (by have := HNZ4.out; omega)) hb.size
       have HTW5 : Hid (TW Z5 gw T (List.replicate T 0)) := HTW4.out.move (hb.block _ (by have := HNZ4.out; omega)) hb.size
       have HBS5 : Hid (Bx Z5 bs [.pointer none]) := HBS4.out.below hb
       have HLU5 : Hid (LfU f n U) := HLU4.out
       have HBF5 : Hid (Bx Z5 bf [.pointer (some ⟨b, 0, none⟩), .slice (some ⟨gu, 0, none⟩) T T, .slice (some ⟨gw, 0, none⟩) T T]) := by show Bx _ _ _; rw [← hZn, ← hv]; exact Bx.new Z4 #[.pointer (some ⟨b, 0, none⟩), .slice (some ⟨gu, 0, none⟩) T T, .slice (some ⟨gw, 0, none⟩) T T] _
       have HNZ5 : Hid (w.heap.size + 1 ≤ Z5.heap.size ∧ w.heap.size + 1 ≤ b ∧ w.heap.size + 1 ≤ ga ∧ w.heap.size + 1 ≤ gu ∧ w.heap.size + 1 ≤ gw ∧ w.heap.size + 1 ≤ bs ∧ w.heap.size + 1 ≤ bf ∧ b < Z5.heap.size ∧ ga < Z5.heap.size ∧ gu < Z5.heap.size ∧ gw < Z5.heap.size ∧ bs < Z5.heap.size ∧ bf < Z5.heap.size ∧ gu ≠ b ∧ gu ≠ ga ∧ gu ≠ gw ∧ gu ≠ bf ∧ gw ≠ b ∧ gw ≠ ga ∧ gw ≠ bf ∧ bs ≠ b ∧ bs ≠ ga ∧ bs ≠ bf ∧ bs ≠ gu ∧ bs ≠ gw) := by
        have h3 := HNZ4.out
        show w.heap.size + 1 ≤ Z5.heap.size ∧ w.heap.size + 1 ≤ b ∧ w.heap.size + 1 ≤ ga ∧ w.heap.size + 1 ≤ gu ∧ w.heap.size + 1 ≤ gw ∧ w.heap.size + 1 ≤ bs ∧ w.heap.size + 1 ≤ bf ∧ b < Z5.heap.size ∧ ga < Z5.heap.size ∧ gu < Z5.heap.size ∧ gw < Z5.heap.size ∧ bs < Z5.heap.size ∧ bf < Z5.heap.size ∧ gu ≠ b ∧ gu ≠ ga ∧ gu ≠ gw ∧ gu ≠ bf ∧ gw ≠ b ∧ gw ≠ ga ∧ gw ≠ bf ∧ bs ≠ b ∧ bs ≠ ga ∧ bs ≠ bf ∧ bs ≠ gu ∧ bs ≠ gw
        omega
       have HV : Hid (Z4.heap.size = bf) := hv
       have HZN : Hid (Z4.alloc (.cells #[.pointer (some ⟨b, 0, none⟩), .slice (some ⟨gu, 0, none⟩) T T, .slice (some ⟨gw, 0, none⟩) T T] 81) = Z5) := hZn
       clear hb hsz hv hZn
       go_simp
       rw [HZN.out, HV.out]
       clear HV HZN
       refine hK.out _ _ (HSK.out _ HBZ5.out) (fun hHeld => ?_)
       clear hK K
       try simp only [Act.put, zA, zB, zC]
       refine HTL b gu gw bf bs Z5 ⟨ga, U, HLU5.out, ⟨HBW.out _ HBZ5.out, HLF5.out, ?_, ?_, ?_, ?_, ?_⟩, HBS5.out, HBZ5.out, ?_⟩
       ·rw [HT.out]; exact HBF5.out
       ·rw [HT.out]; exact HTU5.out
       ·rw [HT.out]; exact HTW5.out
       ·have := HNZ5.out; omega
       ·have := HNZ5.out; omega
       ·have := HNZ5.out; omega
    ·obtain ⟨bs, hv⟩ : ∃ g, Z2.heap.size = g := ⟨_, rfl⟩
     obtain ⟨Z3, hZn⟩ : ∃ Y, Z2.alloc (.cells #[.pointer none] 62) = Y := ⟨_, rfl⟩
     have hb : Below Z2.heap.size Z2 Z3 := by rw [← hZn]; exact bl1 _ _
     have hsz : Z3.heap.size = Z2.heap.size + 1 := by rw [← hZn]; simp
     have HBZ3 : Hid (Below (w.heap.size + 1) W0 Z3) := HBZ2.out.trans (hb.mono (by have := HNZ2.out; omega))
     have HTU3 : Hid (TU Z3 gu T (fun _ => F.zero7)) := HTU2.out.move (hb.block _ (by have := HNZ2.out; omega)) hb.size
     have HTW3 : Hid (TW Z3 gw T (List.replicate T 0)) := HTW2.out.move (hb.block _ (by have := HNZ2.out; omega)) hb.size
     have HBS3 : Hid (Bx Z3 bs [.pointer none]) := by show Bx _ _ _; rw [← hZn, ← hv]; exact Bx.new Z2 #[.pointer none] _
     have HNZ3 : Hid (w.heap.size + 1 ≤ Z3.heap.size ∧ w.heap.size + 1 ≤ gu ∧ w.heap.size + 1 ≤ gw ∧ w.heap.size + 1 ≤ bs ∧ gu < Z3.heap.size ∧ gw < Z3.heap.size ∧ bs < Z3.heap.size ∧ gu ≠ gw ∧ bs ≠ gu ∧ bs ≠ gw) := by
      have h3 := HNZ2.out
      show w.heap.size + 1 ≤ Z3.heap.size ∧ w.heap.size + 1 ≤ gu ∧ w.heap.size + 1 ≤ gw ∧ w.heap.size + 1 ≤ bs ∧ gu < Z3.heap.size ∧ gw < Z3.heap.size ∧ bs < Z3.heap.size ∧ gu ≠ gw ∧ bs ≠ gu ∧ bs ≠ gw
      omega
     have HV : Hid (Z2.heap.size = bs) := hv
     have HZN : Hid (Z2.alloc (.cells #[.pointer none] 62) = Z3) := hZn
     clear hb hsz hv hZn
     go_simp
     rw [HZN.out, HV.out]
     clear HV HZN
     refine hK.out _ _ (HSK.out _ HBZ3.out) (fun hHeld => ?_)
     clear hK K
     try simp only [Act.put, zA, zB, zC]
     refine wpAnyH_ready (rs := [1]) (by kernel_rfl) (by simp) ?_
     refine AllReadyH.cons (tA rfl) (fun K hK => ?_) AllReadyH.nil
     ·go_simp
      refine Calls.mono (HNL.out _ (HBW.out _ HBZ3.out)) ?_
      rintro e Z4 ⟨b, ga, U, rfl, hlf, hlu, ⟨hge1, hge2⟩, hb⟩
      have HBZ4 : Hid (Below (w.heap.size + 1) W0 Z4) := HBZ3.out.trans (hb.mono (by have := HNZ3.out; omega))
      have HTU4 : Hid (TU Z4 gu T (fun _ => F.zero7)) := HTU3.out.move (hb.block _ (by have := HNZ3.out; omega)) hb.size
      have HTW4 : Hid (TW Z4 gw T (List.replicate T 0)) := HTW3.out.move (hb.block _ (by have := HNZ3.out; omega)) hb.size
      have HBS4 : Hid (Bx Z4 bs [.pointer none]) := HBS3.out.below hb
      have HLF4 : Hid (LfV Z4 b f a n c ga U) := hlf
      have HLU4 : Hid (LfU f n U) := hlu
      have HNZ4 : Hid (w.heap.size + 1 ≤ Z4.heap.size ∧ w.heap.size + 1 ≤ b ∧ w.heap.size + 1 ≤ ga ∧ w.heap.size + 1 ≤ gu ∧ w.heap.size + 1 ≤ gw ∧ w.heap.size + 1 ≤ bs ∧ b < Z4.heap.size ∧ ga < Z4.heap.size ∧ gu < Z4.heap.size ∧ gw < Z4.heap.size ∧ bs < Z4.heap.size ∧ gu ≠ b ∧ gu ≠ ga ∧ gu ≠ gw ∧ gw ≠ b ∧ gw ≠ ga ∧ bs ≠ b ∧ bs ≠ ga ∧ bs ≠ gu ∧ bs ≠ gw) := by
       have h1 := lt_of_cell hlf.c0
       have h2 := lt_of_cell (hlf.sets 0 (by omega) 0 (by omega))
       have h3 := HNZ3.out
       have h4 := hb.size
       show w.heap.size + 1 ≤ Z4.heap.size ∧ w.heap.size + 1 ≤ b ∧ w.heap.size + 1 ≤ ga ∧ w.heap.size + 1 ≤ gu ∧ w.heap.size + 1 ≤ gw ∧ w.heap.size + 1 ≤ bs ∧ b < Z4.heap.size ∧ ga < Z4.heap.size ∧ gu < Z4.heap.size ∧ gw < Z4.heap.size ∧ bs < Z4.heap.size ∧ gu ≠ b ∧ gu ≠ ga ∧ gu ≠ gw ∧ gw ≠ b ∧ gw ≠ ga ∧ bs ≠ b ∧ bs ≠ ga ∧ bs ≠ gu ∧ bs ≠ gw
       omega
      clear hlf hlu hge1 hge2 hb
      try go_wp2_with fail
      refine hK.out _ _ (HSK.out _ HBZ4.out) (fun hHeld => ?_)
      clear hK K
      try simp only [Act.put, zA, zB, zC]
      refine tjr 8 ?_
      simp only [Act.put, zA, zB, zC]
      refine wpAnyH_ready (rs := [9]) (by kernel_rfl) (by simp) ?_
      refine AllReadyH.cons (tA rfl) (fun K hK => ?_) AllReadyH.nil
      ·obtain ⟨bf, hv⟩ : ∃ g, Z4.heap.size = g := ⟨_, rfl⟩
       obtain ⟨Z5, hZn⟩ : ∃ Y, Z4.alloc (.cells #[.pointer (some ⟨b, 0, none⟩), .slice (some ⟨gu, 0, none⟩) T T, .slice (some ⟨gw, 0, none⟩) T T] 81) = Y := ⟨_, rfl⟩
       have hb : Below Z4.heap.size Z4 Z5 := by rw [← hZn]; exact bl1 _ _
       have hsz : Z5.heap.size = Z4.heap.size + 1 := by rw [← hZn]; simp
       have HBZ5 : Hid (Below (w.heap.size + 1) W0 Z5) := HBZ4.out.trans (hb.mono (by have := HNZ4.out; omega))
       have HLF5 : Hid (LfV Z5 b f a n c ga U) := HLF4.out.below hb
       have HTU5 : Hid (TU Z5 gu T (fun _ => F.zero7)) := HTU4.out.move (hb.block _ (by have := HNZ4.out; omega)) hb.size
       have HTW5 : Hid (TW Z5 gw T (List.replicate T 0)) := HTW4.out.move (hb.block _ (by have := HNZ4.out; omega)) hb.size
       have HBS5 : Hid (Bx Z5 bs [.pointer none]) := HBS4.out.below hb
       have HLU5 : Hid (LfU f n U) := HLU4.out
       have HBF5 : Hid (Bx Z5 bf [.pointer (some ⟨b, 0, none⟩), .slice (some ⟨gu, 0, none⟩) T T, .slice (some ⟨gw, 0, none⟩) T T]) := by show Bx _ _ _; rw [← hZn, ← hv]; exact Bx.new Z4 #[.pointer (some ⟨b, 0, none⟩), .slice (some ⟨gu, 0, none⟩) T T, .slice (some ⟨gw, 0, none⟩) T T] _
       have HNZ5 : Hid (w.heap.size + 1 ≤ Z5.heap.size ∧ w.heap.size + 1 ≤ b ∧ w.heap.size + 1 ≤ ga ∧ w.heap.size + 1 ≤ gu ∧ w.heap.size + 1 ≤ gw ∧ w.heap.size + 1 ≤ bs ∧ w.heap.size + 1 ≤ bf ∧ b < Z5.heap.size ∧ ga < Z5.heap.size ∧ gu < Z5.heap.size ∧ gw < Z5.heap.size ∧ bs < Z5.heap.size ∧ bf < Z5.heap.size ∧ gu ≠ b ∧ gu ≠ ga ∧ gu ≠ gw ∧ gu ≠ bf ∧ gw ≠ b ∧ gw ≠ ga ∧ gw ≠ bf ∧ bs ≠ b ∧ bs ≠ ga ∧ bs ≠ bf ∧ bs ≠ gu ∧ bs ≠ gw) := by
        have h3 := HNZ4.out
        show w.heap.size + 1 ≤ Z5.heap.size ∧ w.heap.size + 1 ≤ b ∧ w.heap.size + 1 ≤ ga ∧ w.heap.size + 1 ≤ gu ∧ w.heap.size + 1 ≤ gw ∧ w.heap.size + 1 ≤ bs ∧ w.heap.size + 1 ≤ bf ∧ b < Z5.heap.size ∧ ga < Z5.heap.size ∧ gu < Z5.heap.size ∧ gw < Z5.heap.size ∧ bs < Z5.heap.size ∧ bf < Z5.heap.size ∧ gu ≠ b ∧ gu ≠ ga ∧ gu ≠ gw ∧ gu ≠ bf ∧ gw ≠ b ∧ gw ≠ ga ∧ gw ≠ bf ∧ bs ≠ b ∧ bs ≠ ga ∧ bs ≠ bf ∧ bs ≠ gu ∧ bs ≠ gw
        omega
       have HV : Hid (Z4.heap.size = bf) := hv
       have HZN : Hid (Z4.alloc (.cells #[.pointer (some ⟨b, 0, none⟩), .slice (some ⟨gu, 0, none⟩) T T, .slice (some ⟨gw, 0, none⟩) T T] 81) = Z5) := hZn
       clear hb hsz hv hZn
       go_simp
       rw [HZN.out, HV.out]
       clear HV HZN
       refine hK.out _ _ (HSK.out _ HBZ5.out) (fun hHeld => ?_)
       clear hK K
       try simp only [Act.put, zA, zB, zC]
       refine HTL b gu gw bf bs Z5 ⟨ga, U, HLU5.out, ⟨HBW.out _ HBZ5.out, HLF5.out, ?_, ?_, ?_, ?_, ?_⟩, HBS5.out, HBZ5.out, ?_⟩
       ·rw [HT.out]; exact HBF5.out
       ·rw [HT.out]; exact HTU5.out
       ·rw [HT.out]; exact HTW5.out
       ·have := HNZ5.out; omega
       ·have := HNZ5.out; omega
       ·have := HNZ5.out; omega
   ·obtain ⟨bs, hv⟩ : ∃ g, Z1.heap.size = g := ⟨_, rfl⟩
    obtain ⟨Z2, hZn⟩ : ∃ Y, Z1.alloc (.cells #[.pointer none] 62) = Y := ⟨_, rfl⟩
    have hb : Below Z1.heap.size Z1 Z2 := by rw [← hZn]; exact bl1 _ _
    have hsz : Z2.heap.size = Z1.heap.size + 1 := by rw [← hZn]; simp
    have HBZ2 : Hid (Below (w.heap.size + 1) W0 Z2) := HBZ1.out.trans (hb.mono (by have := HNZ1.out; omega))
    have HTW2 : Hid (TW Z2 gw T (List.replicate T 0)) := HTW1.out.move (hb.block _ (by have := HNZ1.out; omega)) hb.size
    have HBS2 : Hid (Bx Z2 bs [.pointer none]) := by show Bx _ _ _; rw [← hZn, ← hv]; exact Bx.new Z1 #[.pointer none] _
    have HNZ2 : Hid (w.heap.size + 1 ≤ Z2.heap.size ∧ w.heap.size + 1 ≤ gw ∧ w.heap.size + 1 ≤ bs ∧ gw < Z2.heap.size ∧ bs < Z2.heap.size ∧ bs ≠ gw) := by
     have h3 := HNZ1.out
     show w.heap.size + 1 ≤ Z2.heap.size ∧ w.heap.size + 1 ≤ gw ∧ w.heap.size + 1 ≤ bs ∧ gw < Z2.heap.size ∧ bs < Z2.heap.size ∧ bs ≠ gw
     omega
    have HV : Hid (Z1.heap.size = bs) := hv
    have HZN : Hid (Z1.alloc (.cells #[.pointer none] 62) = Z2) := hZn
    clear hb hsz hv hZn
    go_simp
    rw [HZN.out, HV.out]
    clear HV HZN
    refine hK.out _ _ (HSK.out _ HBZ2.out) (fun hHeld => ?_)
    clear hK K
    try simp only [Act.put, zA, zB, zC]
    refine wpAnyH_ready (rs := [1, 4]) (by kernel_rfl) (by simp) ?_
    refine AllReadyH.cons (tA rfl) (fun K hK => ?_) (AllReadyH.cons (tA rfl) (fun K hK => ?_) AllReadyH.nil)
    ·go_simp
     refine Calls.mono (HNL.out _ (HBW.out _ HBZ2.out)) ?_
     rintro e Z3 ⟨b, ga, U, rfl, hlf, hlu, ⟨hge1, hge2⟩, hb⟩
     have HBZ3 : Hid (Below (w.heap.size + 1) W0 Z3) := HBZ2.out.trans (hb.mono (by have := HNZ2.out; omega))
     have HTW3 : Hid (TW Z3 gw T (List.replicate T 0)) := HTW2.out.move (hb.block _ (by have := HNZ2.out; omega)) hb.size
     have HBS3 : Hid (Bx Z3 bs [.pointer none]) := HBS2.out.below hb
     have HLF3 : Hid (LfV Z3 b f a n c ga U) := hlf
     have HLU3 : Hid (LfU f n U) := hlu
     have HNZ3 : Hid (w.heap.size + 1 ≤ Z3.heap.size ∧ w.heap.size + 1 ≤ b ∧ w.heap.size + 1 ≤ ga ∧ w.heap.size + 1 ≤ gw ∧ w.heap.size + 1 ≤ bs ∧ b < Z3.heap.size ∧ ga < Z3.heap.size ∧ gw < Z3.heap.size ∧ bs < Z3.heap.size ∧ gw ≠ b ∧ gw ≠ ga ∧ bs ≠ b ∧ bs ≠ ga ∧ bs ≠ gw) := by
      have h1 := lt_of_cell hlf.c0
      have h2 := lt_of_cell (hlf.sets 0 (by omega) 0 (by omega))
      have h3 := HNZ2.out
      have h4 := hb.size
      show w.heap.size + 1 ≤ Z3.heap.size ∧ w.heap.size + 1 ≤ b ∧ w.heap.size + 1 ≤ ga ∧ w.heap.size + 1 ≤ gw ∧ w.heap.size + 1 ≤ bs ∧ b < Z3.heap.size ∧ ga < Z3.heap.size ∧ gw < Z3.heap.size ∧ bs < Z3.heap.size ∧ gw ≠ b ∧ gw ≠ ga ∧ bs ≠ b ∧ bs ≠ ga ∧ bs ≠ gw
      omega
     clear hlf hlu hge1 hge2 hb
     try go_wp2_with fail
     refine hK.out _ _ (HSK.out _ HBZ3.out) (fun hHeld => ?_)
     clear hK K
     try simp only [Act.put, zA, zB, zC]
     refine wpAnyH_ready (rs := [4]) (by kernel_rfl) (by simp) ?_
     refine AllReadyH.cons (tA rfl) (fun K hK => ?_) AllReadyH.nil
     ·obtain ⟨gu, hv⟩ : ∃ g, Z3.heap.size = g := ⟨_, rfl⟩
      obtain ⟨Z4, hZn⟩ : ∃ Y, Z3.alloc (.cells (Array.replicate (T * 7) (.int .u64 0)) 54) = Y := ⟨_, rfl⟩
      have hb : Below Z3.heap.size Z3 Z4 := by rw [← hZn]; exact bl1 _ _
      have hsz : Z4.heap.size = Z3.heap.size + 1 := by rw [← hZn]; simp
      have HBZ4 : Hid (Below (w.heap.size + 1) W0 Z4) := HBZ3.out.trans (hb.mono (by have := HNZ3.out; omega))
      have HLF4 : Hid (LfV Z4 b f a n c ga U) := HLF3.out.below hb
      have HTW4 : Hid (TW Z4 gw T (List.replicate T 0)) := HTW3.out.move (hb.block _ (by have := HNZ3.out; omega)) hb.size
      have HBS4 : Hid (Bx Z4 bs [.pointer none]) := HBS3.out.below hb
      have HLU4 : Hid (LfU f n U) := HLU3.out
      have HTU4 : Hid (TU Z4 gu T (fun _ => F.zero7)) := by show TU _ _ _ _; rw [← hZn, ← hv]; exact TU.new Z3 T
      have HNZ4 : Hid (w.heap.size + 1 ≤ Z4.heap.size ∧ w.heap.size + 1 ≤ b ∧ w.heap.size + 1 ≤ ga ∧ w.heap.size + 1 ≤ gu ∧ w.heap.size + 1 ≤ gw ∧ w.heap.size + 1 ≤ bs ∧ b < Z4.heap.size ∧ ga < Z4.heap.size ∧ gu < Z4.heap.size ∧ gw < Z4.heap.size ∧ bs < Z4.heap.size ∧ gu ≠ b ∧ gu ≠ ga ∧ gu ≠ gw ∧ gw ≠ b ∧ gw ≠ ga ∧ bs ≠ b ∧ bs ≠ ga ∧ bs ≠ gu ∧ bs ≠ gw) := by
       have h3 := HNZ3.out
       show w.heap.size + 1 ≤ Z4.heap.size ∧ w.heap.size + 1 ≤ b ∧ w.heap.size + 1 ≤ ga ∧ w.heap.size + 1 ≤ gu ∧ w.heap.size + 1 ≤ gw ∧ w.heap.size + 1 ≤ bs ∧ b < Z4.heap.size ∧ ga < Z4.heap.size ∧ gu < Z4.heap.size ∧ gw < Z4.heap.size ∧ bs < Z4.heap.size ∧ gu ≠ b ∧ gu ≠ ga ∧ gu ≠ gw ∧ gw ≠ b ∧ gw ≠ ga ∧ bs ≠ b ∧ bs ≠ ga ∧ bs ≠ gu ∧ bs ≠ gw
       omega
      have HV : Hid (Z3.heap.size = gu) := hv
      have HZN : Hid (Z3.alloc (.cells (Array.replicate (T * 7) (.int .u64 0)) 54) = Z4) := hZn
      have hmk := makeSet Z3 T (by omega)
      rw [hZn, hv] at hmk
      clear hb hsz hv hZn
      go_simp
      clear hmk
      clear HV HZN
      refine hK.out _ _ (HSK.out _ HBZ4.out) (fun hHeld => ?_)
      clear hK K
      try simp only [Act.put, zA, zB, zC]
      refine tjr 8 ?_
      simp only [Act.put, zA, zB, zC]
      refine wpAnyH_ready (rs := [9]) (by kernel_rfl) (by simp) ?_
      refine AllReadyH.cons (tA rfl) (fun K hK => ?_) AllReadyH.nil
      ·obtain ⟨bf, hv⟩ : ∃ g, Z4.heap.size = g := ⟨_, rfl⟩
       obtain ⟨Z5, hZn⟩ : ∃ Y, Z4.alloc (.cells #[.pointer (some ⟨b, 0, none⟩), .slice (some ⟨gu, 0, none⟩) T T, .slice (some ⟨gw, 0, none⟩) T T] 81) = Y := ⟨_, rfl⟩
       have hb : Below Z4.heap.size Z4 Z5 := by rw [← hZn]; exact bl1 _ _
       have hsz : Z5.heap.size = Z4.heap.size + 1 := by rw [← hZn]; simp
       have HBZ5 : Hid (Below (w.heap.size + 1) W0 Z5) := HBZ4.out.trans (hb.mono (by have := HNZ4.out; omega))
       have HLF5 : Hid (LfV Z5 b f a n c ga U) := HLF4.out.below hb
       have HTU5 : Hid (TU Z5 gu T (fun _ => F.zero7)) := HTU4.out.move (hb.block _ (by have := HNZ4.out; omega)) hb.size
       have HTW5 : Hid (TW Z5 gw T (List.replicate T 0)) := HTW4.out.move (hb.block _ (by have := HNZ4.out; omega)) hb.size
       have HBS5 : Hid (Bx Z5 bs [.pointer none]) := HBS4.out.below hb
       have HLU5 : Hid (LfU f n U) := HLU4.out
       have HBF5 : Hid (Bx Z5 bf [.pointer (some ⟨b, 0, none⟩), .slice (some ⟨gu, 0, none⟩) T T, .slice (some ⟨gw, 0, none⟩) T T]) := by show Bx _ _ _; rw [← hZn, ← hv]; exact Bx.new Z4 #[.pointer (some ⟨b, 0, none⟩), .slice (some ⟨gu, 0, none⟩) T T, .slice (some ⟨gw, 0, none⟩) T T] _
       have HNZ5 : Hid (w.heap.size + 1 ≤ Z5.heap.size ∧ w.heap.size + 1 ≤ b ∧ w.heap.size + 1 ≤ ga ∧ w.heap.size + 1 ≤ gu ∧ w.heap.size + 1 ≤ gw ∧ w.heap.size + 1 ≤ bs ∧ w.heap.size + 1 ≤ bf ∧ b < Z5.heap.size ∧ ga < Z5.heap.size ∧ gu < Z5.heap.size ∧ gw < Z5.heap.size ∧ bs < Z5.heap.size ∧ bf < Z5.heap.size ∧ gu ≠ b ∧ gu ≠ ga ∧ gu ≠ gw ∧ gu ≠ bf ∧ gw ≠ b ∧ gw ≠ ga ∧ gw ≠ bf ∧ bs ≠ b ∧ bs ≠ ga ∧ bs ≠ bf ∧ bs ≠ gu ∧ bs ≠ gw) := by
        have h3 := HNZ4.out
        show w.heap.size + 1 ≤ Z5.heap.size ∧ w.heap.size + 1 ≤ b ∧ w.heap.size + 1 ≤ ga ∧ w.heap.size + 1 ≤ gu ∧ w.heap.size + 1 ≤ gw ∧ w.heap.size + 1 ≤ bs ∧ w.heap.size + 1 ≤ bf ∧ b < Z5.heap.size ∧ ga < Z5.heap.size ∧ gu < Z5.heap.size ∧ gw < Z5.heap.size ∧ bs < Z5.heap.size ∧ bf < Z5.heap.size ∧ gu ≠ b ∧ gu ≠ ga ∧ gu ≠ gw ∧ gu ≠ bf ∧ gw ≠ b ∧ gw ≠ ga ∧ gw ≠ bf ∧ bs ≠ b ∧ bs ≠ ga ∧ bs ≠ bf ∧ bs ≠ gu ∧ bs ≠ gw
        omega
       have HV : Hid (Z4.heap.size = bf) := hv
       have HZN : Hid (Z4.alloc (.cells #[.pointer (some ⟨b, 0, none⟩), .slice (some ⟨gu, 0, none⟩) T T, .slice (some ⟨gw, 0, none⟩) T T] 81) = Z5) := hZn
       clear hb hsz hv hZn
       go_simp
       rw [HZN.out, HV.out]
       clear HV HZN
       refine hK.out _ _ (HSK.out _ HBZ5.out) (fun hHeld => ?_)
       clear hK K
       try simp only [Act.put, zA, zB, zC]
       refine HTL b gu gw bf bs Z5 ⟨ga, U, HLU5.out, ⟨HBW.out _ HBZ5.out, HLF5.out, ?_, ?_, ?_, ?_, ?_⟩, HBS5.out, HBZ5.out, ?_⟩
       ·rw [HT.out]; exact HBF5.out
       ·rw [HT.out]; exact HTU5.out
       ·rw [HT.out]; exact HTW5.out
       ·have := HNZ5.out; omega
       ·have := HNZ5.out; omega
       ·have := HNZ5.out; omega
    ·obtain ⟨gu, hv⟩ : ∃ g, Z2.heap.size = g := ⟨_, rfl⟩
     obtain ⟨Z3, hZn⟩ : ∃ Y, Z2.alloc (.cells (Array.replicate (T * 7) (.int .u64 0)) 54) = Y := ⟨_, rfl⟩
     have hb : Below Z2.heap.size Z2 Z3 := by rw [← hZn]; exact bl1 _ _
     have hsz : Z3.heap.size = Z2.heap.size + 1 := by rw [← hZn]; simp
     have HBZ3 : Hid (Below (w.heap.size + 1) W0 Z3) := HBZ2.out.trans (hb.mono (by have := HNZ2.out; omega))
     have HTW3 : Hid (TW Z3 gw T (List.replicate T 0)) := HTW2.out.move (hb.block _ (by have := HNZ2.out; omega)) hb.size
     have HBS3 : Hid (Bx Z3 bs [.pointer none]) := HBS2.out.below hb
     have HTU3 : Hid (TU Z3 gu T (fun _ => F.zero7)) := by show TU _ _ _ _; rw [← hZn, ← hv]; exact TU.new Z2 T
     have HNZ3 : Hid (w.heap.size + 1 ≤ Z3.heap.size ∧ w.heap.size + 1 ≤ gu ∧ w.heap.size + 1 ≤ gw ∧ w.heap.size + 1 ≤ bs ∧ gu < Z3.heap.size ∧ gw < Z3.heap.size ∧ bs < Z3.heap.size ∧ gu ≠ gw ∧ bs ≠ gu ∧ bs ≠ gw) := by
      have h3 := HNZ2.out
      show w.heap.size + 1 ≤ Z3.heap.size ∧ w.heap.size + 1 ≤ gu ∧ w.heap.size + 1 ≤ gw ∧ w.heap.size + 1 ≤ bs ∧ gu < Z3.heap.size ∧ gw < Z3.heap.size ∧ bs < Z3.heap.size ∧ gu ≠ gw ∧ bs ≠ gu ∧ bs ≠ gw
      omega
     have HV : Hid (Z2.heap.size = gu) := hv
     have HZN : Hid (Z2.alloc (.cells (Array.replicate (T * 7) (.int .u64 0)) 54) = Z3) := hZn
     have hmk := makeSet Z2 T (by omega)
     rw [hZn, hv] at hmk
     clear hb hsz hv hZn
     go_simp
     clear hmk
     clear HV HZN
     refine hK.out _ _ (HSK.out _ HBZ3.out) (fun hHeld => ?_)
     clear hK K
     try simp only [Act.put, zA, zB, zC]
     refine wpAnyH_ready (rs := [1]) (by kernel_rfl) (by simp) ?_
     refine AllReadyH.cons (tA rfl) (fun K hK => ?_) AllReadyH.nil
     ·go_simp
      refine Calls.mono (HNL.out _ (HBW.out _ HBZ3.out)) ?_
      rintro e Z4 ⟨b, ga, U, rfl, hlf, hlu, ⟨hge1, hge2⟩, hb⟩
      have HBZ4 : Hid (Below (w.heap.size + 1) W0 Z4) := HBZ3.out.trans (hb.mono (by have := HNZ3.out; omega))
      have HTU4 : Hid (TU Z4 gu T (fun _ => F.zero7)) := HTU3.out.move (hb.block _ (by have := HNZ3.out; omega)) hb.size
      have HTW4 : Hid (TW Z4 gw T (List.replicate T 0)) := HTW3.out.move (hb.block _ (by have := HNZ3.out; omega)) hb.size
      have HBS4 : Hid (Bx Z4 bs [.pointer none]) := HBS3.out.below hb
      have HLF4 : Hid (LfV Z4 b f a n c ga U) := hlf
      have HLU4 : Hid (LfU f n U) := hlu
      have HNZ4 : Hid (w.heap.size + 1 ≤ Z4.heap.size ∧ w.heap.size + 1 ≤ b ∧ w.heap.size + 1 ≤ ga ∧ w.heap.size + 1 ≤ gu ∧ w.heap.size + 1 ≤ gw ∧ w.heap.size + 1 ≤ bs ∧ b < Z4.heap.size ∧ ga < Z4.heap.size ∧ gu < Z4.heap.size ∧ gw < Z4.heap.size ∧ bs < Z4.heap.size ∧ gu ≠ b ∧ gu ≠ ga ∧ gu ≠ gw ∧ gw ≠ b ∧ gw ≠ ga ∧ bs ≠ b ∧ bs ≠ ga ∧ bs ≠ gu ∧ bs ≠ gw) := by
       have h1 := lt_of_cell hlf.c0
       have h2 := lt_of_cell (hlf.sets 0 (by omega) 0 (by omega))
       have h3 := HNZ3.out
       have h4 := hb.size
       show w.heap.size + 1 ≤ Z4.heap.size ∧ w.heap.size + 1 ≤ b ∧ w.heap.size + 1 ≤ ga ∧ w.heap.size + 1 ≤ gu ∧ w.heap.size + 1 ≤ gw ∧ w.heap.size + 1 ≤ bs ∧ b < Z4.heap.size ∧ ga < Z4.heap.size ∧ gu < Z4.heap.size ∧ gw < Z4.heap.size ∧ bs < Z4.heap.size ∧ gu ≠ b ∧ gu ≠ ga ∧ gu ≠ gw ∧ gw ≠ b ∧ gw ≠ ga ∧ bs ≠ b ∧ bs ≠ ga ∧ bs ≠ gu ∧ bs ≠ gw
       omega
      clear hlf hlu hge1 hge2 hb
      try go_wp2_with fail
      refine hK.out _ _ (HSK.out _ HBZ4.out) (fun hHeld => ?_)
      clear hK K
      try simp only [Act.put, zA, zB, zC]
      refine tjr 8 ?_
      simp only [Act.put, zA, zB, zC]
      refine wpAnyH_ready (rs := [9]) (by kernel_rfl) (by simp) ?_
      refine AllReadyH.cons (tA rfl) (fun K hK => ?_) AllReadyH.nil
      ·obtain ⟨bf, hv⟩ : ∃ g, Z4.heap.size = g := ⟨_, rfl⟩
       obtain ⟨Z5, hZn⟩ : ∃ Y, Z4.alloc (.cells #[.pointer (some ⟨b, 0, none⟩), .slice (some ⟨gu, 0, none⟩) T T, .slice (some ⟨gw, 0, none⟩) T T] 81) = Y := ⟨_, rfl⟩
       have hb : Below Z4.heap.size Z4 Z5 := by rw [← hZn]; exact bl1 _ _
       have hsz : Z5.heap.size = Z4.heap.size + 1 := by rw [← hZn]; simp
       have HBZ5 : Hid (Below (w.heap.size + 1) W0 Z5) := HBZ4.out.trans (hb.mono (by have := HNZ4.out; omega))
       have HLF5 : Hid (LfV Z5 b f a n c ga U) := HLF4.out.below hb
       have HTU5 : Hid (TU Z5 gu T (fun _ => F.zero7)) := HTU4.out.move (hb.block _ (by have := HNZ4.out; omega)) hb.size
       have HTW5 : Hid (TW Z5 gw T (List.replicate T 0)) := HTW4.out.move (hb.block _ (by have := HNZ4.out; omega)) hb.size
       have HBS5 : Hid (Bx Z5 bs [.pointer none]) := HBS4.out.below hb
       have HLU5 : Hid (LfU f n U) := HLU4.out
       have HBF5 : Hid (Bx Z5 bf [.pointer (some ⟨b, 0, none⟩), .slice (some ⟨gu, 0, none⟩) T T, .slice (some ⟨gw, 0, none⟩) T T]) := by show Bx _ _ _; rw [← hZn, ← hv]; exact Bx.new Z4 #[.pointer (some ⟨b, 0, none⟩), .slice (some ⟨gu, 0, none⟩) T T, .slice (some ⟨gw, 0, none⟩) T T] _
       have HNZ5 : Hid (w.heap.size + 1 ≤ Z5.heap.size ∧ w.heap.size + 1 ≤ b ∧ w.heap.size + 1 ≤ ga ∧ w.heap.size + 1 ≤ gu ∧ w.heap.size + 1 ≤ gw ∧ w.heap.size + 1 ≤ bs ∧ w.heap.size + 1 ≤ bf ∧ b < Z5.heap.size ∧ ga < Z5.heap.size ∧ gu < Z5.heap.size ∧ gw < Z5.heap.size ∧ bs < Z5.heap.size ∧ bf < Z5.heap.size ∧ gu ≠ b ∧ gu ≠ ga ∧ gu ≠ gw ∧ gu ≠ bf ∧ gw ≠ b ∧ gw ≠ ga ∧ gw ≠ bf ∧ bs ≠ b ∧ bs ≠ ga ∧ bs ≠ bf ∧ bs ≠ gu ∧ bs ≠ gw) := by
        have h3 := HNZ4.out
        show w.heap.size + 1 ≤ Z5.heap.size ∧ w.heap.size + 1 ≤ b ∧ w.heap.size + 1 ≤ ga ∧ w.heap.size + 1 ≤ gu ∧ w.heap.size + 1 ≤ gw ∧ w.heap.size + 1 ≤ bs ∧ w.heap.size + 1 ≤ bf ∧ b < Z5.heap.size ∧ ga < Z5.heap.size ∧ gu < Z5.heap.size ∧ gw < Z5.heap.size ∧ bs < Z5.heap.size ∧ bf < Z5.heap.size ∧ gu ≠ b ∧ gu ≠ ga ∧ gu ≠ gw ∧ gu ≠ bf ∧ gw ≠ b ∧ gw ≠ ga ∧ gw ≠ bf ∧ bs ≠ b ∧ bs ≠ ga ∧ bs ≠ bf ∧ bs ≠ gu ∧ bs ≠ gw
        omega
       have HV : Hid (Z4.heap.size = bf) := hv
       have HZN : Hid (Z4.alloc (.cells #[.pointer (some ⟨b, 0, none⟩), .slice (some ⟨gu, 0, none⟩) T T, .slice (some ⟨gw, 0, none⟩) T T] 81) = Z5) := hZn
       clear hb hsz hv hZn
       go_simp
       rw [HZN.out, HV.out]
       clear HV HZN
       refine hK.out _ _ (HSK.out _ HBZ5.out) (fun hHeld => ?_)
       clear hK K
       try simp only [Act.put, zA, zB, zC]
       refine HTL b gu gw bf bs Z5 ⟨ga, U, HLU5.out, ⟨HBW.out _ HBZ5.out, HLF5.out, ?_, ?_, ?_, ?_, ?_⟩, HBS5.out, HBZ5.out, ?_⟩
       ·rw [HT.out]; exact HBF5.out
       ·rw [HT.out]; exact HTU5.out
       ·rw [HT.out]; exact HTW5.out
       ·have := HNZ5.out; omega
       ·have := HNZ5.out; omega
       ·have := HNZ5.out; omega
  ·obtain ⟨bs, hv⟩ : ∃ g, Z0.heap.size = g := ⟨_, rfl⟩
   obtain ⟨Z1, hZn⟩ : ∃ Y, Z0.alloc (.cells #[.pointer none] 62) = Y := ⟨_, rfl⟩
   have hb : Below Z0.heap.size Z0 Z1 := by rw [← hZn]; exact bl1 _ _
   have hsz : Z1.heap.size = Z0.heap.size + 1 := by rw [← hZn]; simp
   have HBZ1 : Hid (Below (w.heap.size + 1) W0 Z1) := HBZ0.out.trans (hb.mono (by have := HNZ0.out; omega))
   have HBS1 : Hid (Bx Z1 bs [.pointer none]) := by show Bx _ _ _; rw [← hZn, ← hv]; exact Bx.new Z0 #[.pointer none] _
   have HNZ1 : Hid (w.heap.size + 1 ≤ Z1.heap.size ∧ w.heap.size + 1 ≤ bs ∧ bs < Z1.heap.size) := by
    have h3 := HNZ0.out
    show w.heap.size + 1 ≤ Z1.heap.size ∧ w.heap.size + 1 ≤ bs ∧ bs < Z1.heap.size
    omega
   have HV : Hid (Z0.heap.size = bs) := hv
   have HZN : Hid (Z0.alloc (.cells #[.pointer none] 62) = Z1) := hZn
   clear hb hsz hv hZn
   go_simp
   rw [HZN.out, HV.out]
   clear HV HZN
   refine hK.out _ _ (HSK.out _ HBZ1.out) (fun hHeld => ?_)
   clear hK K
   try simp only [Act.put, zA, zB, zC]
   refine wpAnyH_ready (rs := [1, 4, 7]) (by kernel_rfl) (by simp) ?_
   refine AllReadyH.cons (tA rfl) (fun K hK => ?_) (AllReadyH.cons (tA rfl) (fun K hK => ?_) (AllReadyH.cons (tA rfl) (fun K hK => ?_) AllReadyH.nil))
   ·go_simp
    refine Calls.mono (HNL.out _ (HBW.out _ HBZ1.out)) ?_
    rintro e Z2 ⟨b, ga, U, rfl, hlf, hlu, ⟨hge1, hge2⟩, hb⟩
    have HBZ2 : Hid (Below (w.heap.size + 1) W0 Z2) := HBZ1.out.trans (hb.mono (by have := HNZ1.out; omega))
    have HBS2 : Hid (Bx Z2 bs [.pointer none]) := HBS1.out.below hb
    have HLF2 : Hid (LfV Z2 b f a n c ga U) := hlf
    have HLU2 : Hid (LfU f n U) := hlu
    have HNZ2 : Hid (w.heap.size + 1 ≤ Z2.heap.size ∧ w.heap.size + 1 ≤ b ∧ w.heap.size + 1 ≤ ga ∧ w.heap.size + 1 ≤ bs ∧ b < Z2.heap.size ∧ ga < Z2.heap.size ∧ bs < Z2.heap.size ∧ bs ≠ b ∧ bs ≠ ga) := by
     have h1 := lt_of_cell hlf.c0
     have h2 := lt_of_cell (hlf.sets 0 (by omega) 0 (by omega))
     have h3 := HNZ1.out
     have h4 := hb.size
     show w.heap.size + 1 ≤ Z2.heap.size ∧ w.heap.size + 1 ≤ b ∧ w.heap.size + 1 ≤ ga ∧ w.heap.size + 1 ≤ bs ∧ b < Z2.heap.size ∧ ga < Z2.heap.size ∧ bs < Z2.heap.size ∧ bs ≠ b ∧ bs ≠ ga
     omega
    clear hlf hlu hge1 hge2 hb
    try go_wp2_with fail
    refine hK.out _ _ (HSK.out _ HBZ2.out) (fun hHeld => ?_)
    clear hK K
    try simp only [Act.put, zA, zB, zC]
    refine wpAnyH_ready (rs := [4, 7]) (by kernel_rfl) (by simp) ?_
    refine AllReadyH.cons (tA rfl) (fun K hK => ?_) (AllReadyH.cons (tA rfl) (fun K hK => ?_) AllReadyH.nil)
    ·obtain ⟨gu, hv⟩ : ∃ g, Z2.heap.size = g := ⟨_, rfl⟩
     obtain ⟨Z3, hZn⟩ : ∃ Y, Z2.alloc (.cells (Array.replicate (T * 7) (.int .u64 0)) 54) = Y := ⟨_, rfl⟩
     have hb : Below Z2.heap.size Z2 Z3 := by rw [← hZn]; exact bl1 _ _
     have hsz : Z3.heap.size = Z2.heap.size + 1 := by rw [← hZn]; simp
     have HBZ3 : Hid (Below (w.heap.size + 1) W0 Z3) := HBZ2.out.trans (hb.mono (by have := HNZ2.out; omega))
     have HLF3 : Hid (LfV Z3 b f a n c ga U) := HLF2.out.below hb
     have HBS3 : Hid (Bx Z3 bs [.pointer none]) := HBS2.out.below hb
     have HLU3 : Hid (LfU f n U) := HLU2.out
     have HTU3 : Hid (TU Z3 gu T (fun _ => F.zero7)) := by show TU _ _ _ _; rw [← hZn, ← hv]; exact TU.new Z2 T
     have HNZ3 : Hid (w.heap.size + 1 ≤ Z3.heap.size ∧ w.heap.size + 1 ≤ b ∧ w.heap.size + 1 ≤ ga ∧ w.heap.size + 1 ≤ gu ∧ w.heap.size + 1 ≤ bs ∧ b < Z3.heap.size ∧ ga < Z3.heap.size ∧ gu < Z3.heap.size ∧ bs < Z3.heap.size ∧ gu ≠ b ∧ gu ≠ ga ∧ bs ≠ b ∧ bs ≠ ga ∧ bs ≠ gu) := by
      have h3 := HNZ2.out
      show w.heap.size + 1 ≤ Z3.heap.size ∧ w.heap.size + 1 ≤ b ∧ w.heap.size + 1 ≤ ga ∧ w.heap.size + 1 ≤ gu ∧ w.heap.size + 1 ≤ bs ∧ b < Z3.heap.size ∧ ga < Z3.heap.size ∧ gu < Z3.heap.size ∧ bs < Z3.heap.size ∧ gu ≠ b ∧ gu ≠ ga ∧ bs ≠ b ∧ bs ≠ ga ∧ bs ≠ gu
      omega
     have HV : Hid (Z2.heap.size = gu) := hv
     have HZN : Hid (Z2.alloc (.cells (Array.replicate (T * 7) (.int .u64 0)) 54) = Z3) := hZn
     have hmk := makeSet Z2 T (by omega)
     rw [hZn, hv] at hmk
     clear hb hsz hv hZn
     go_simp
     clear hmk
     clear HV HZN
     refine hK.out _ _ (HSK.out _ HBZ3.out) (fun hHeld => ?_)
     clear hK K
     try simp only [Act.put, zA, zB, zC]
     refine wpAnyH_ready (rs := [7]) (by kernel_rfl) (by simp) ?_
     refine AllReadyH.cons (tA rfl) (fun K hK => ?_) AllReadyH.nil
     ·obtain ⟨gw, hv⟩ : ∃ g, Z3.heap.size = g := ⟨_, rfl⟩
      obtain ⟨Z4, hZn⟩ : ∃ Y, Z3.alloc (.cells (Array.replicate T (.int .i64 0)) 3) = Y := ⟨_, rfl⟩
      have hb : Below Z3.heap.size Z3 Z4 := by rw [← hZn]; exact bl1 _ _
      have hsz : Z4.heap.size = Z3.heap.size + 1 := by rw [← hZn]; simp
      have HBZ4 : Hid (Below (w.heap.size + 1) W0 Z4) := HBZ3.out.trans (hb.mono (by have := HNZ3.out; omega))
      have HLF4 : Hid (LfV Z4 b f a n c ga U) := HLF3.out.below hb
      have HTU4 : Hid (TU Z4 gu T (fun _ => F.zero7)) := HTU3.out.move (hb.block _ (by have := HNZ3.out; omega)) hb.size
      have HBS4 : Hid (Bx Z4 bs [.pointer none]) := HBS3.out.below hb
      have HLU4 : Hid (LfU f n U) := HLU3.out
      have HTW4 : Hid (TW Z4 gw T (List.replicate T 0)) := by show TW _ _ _ _; rw [← hZn, ← hv]; exact TW.new Z3 T
      have HNZ4 : Hid (w.heap.size + 1 ≤ Z4.heap.size ∧ w.heap.size + 1 ≤ b ∧ w.heap.size + 1 ≤ ga ∧ w.heap.size + 1 ≤ gu ∧ w.heap.size + 1 ≤ gw ∧ w.heap.size + 1 ≤ bs ∧ b < Z4.heap.size ∧ ga < Z4.heap.size ∧ gu < Z4.heap.size ∧ gw < Z4.heap.size ∧ bs < Z4.heap.size ∧ gu ≠ b ∧ gu ≠ ga ∧ gu ≠ gw ∧ gw ≠ b ∧ gw ≠ ga ∧ bs ≠ b ∧ bs ≠ ga ∧ bs ≠ gu ∧ bs ≠ gw) := by
       have h3 := HNZ3.out
       show w.heap.size + 1 ≤ Z4.heap.size ∧ w.heap.size + 1 ≤ b ∧ w.heap.size + 1 ≤ ga ∧ w.heap.size + 1 ≤ gu ∧ w.heap.size + 1 ≤ gw ∧ w.heap.size + 1 ≤ bs ∧ b < Z4.heap.size ∧ ga < Z4.heap.size ∧ gu < Z4.heap.size ∧ gw < Z4.heap.size ∧ bs < Z4.heap.size ∧ gu ≠ b ∧ gu ≠ ga ∧ gu ≠ gw ∧ gw ≠ b ∧ gw ≠ ga ∧ bs ≠ b ∧ bs ≠ ga ∧ bs ≠ gu ∧ bs ≠ gw
       omega
      have HV : Hid (Z3.heap.size = gw) := hv
      have HZN : Hid (Z3.alloc (.cells (Array.replicate T (.int .i64 0)) 3) = Z4) := hZn
      have hmk := makeInt Z3 T (by omega)
      rw [hZn, hv] at hmk
      clear hb hsz hv hZn
      go_simp
      clear hmk
      clear HV HZN
      refine hK.out _ _ (HSK.out _ HBZ4.out) (fun hHeld => ?_)
      clear hK K
      try simp only [Act.put, zA, zB, zC]
      refine tjr 8 ?_
      simp only [Act.put, zA, zB, zC]
      refine wpAnyH_ready (rs := [9]) (by kernel_rfl) (by simp) ?_
      refine AllReadyH.cons (tA rfl) (fun K hK => ?_) AllReadyH.nil
      ·obtain ⟨bf, hv⟩ : ∃ g, Z4.heap.size = g := ⟨_, rfl⟩
       obtain ⟨Z5, hZn⟩ : ∃ Y, Z4.alloc (.cells #[.pointer (some ⟨b, 0, none⟩), .slice (some ⟨gu, 0, none⟩) T T, .slice (some ⟨gw, 0, none⟩) T T] 81) = Y := ⟨_, rfl⟩
       have hb : Below Z4.heap.size Z4 Z5 := by rw [← hZn]; exact bl1 _ _
       have hsz : Z5.heap.size = Z4.heap.size + 1 := by rw [← hZn]; simp
       have HBZ5 : Hid (Below (w.heap.size + 1) W0 Z5) := HBZ4.out.trans (hb.mono (by have := HNZ4.out; omega))
       have HLF5 : Hid (LfV Z5 b f a n c ga U) := HLF4.out.below hb
       have HTU5 : Hid (TU Z5 gu T (fun _ => F.zero7)) := HTU4.out.move (hb.block _ (by have := HNZ4.out; omega)) hb.size
       have HTW5 : Hid (TW Z5 gw T (List.replicate T 0)) := HTW4.out.move (hb.block _ (by have := HNZ4.out; omega)) hb.size
       have HBS5 : Hid (Bx Z5 bs [.pointer none]) := HBS4.out.below hb
       have HLU5 : Hid (LfU f n U) := HLU4.out
       have HBF5 : Hid (Bx Z5 bf [.pointer (some ⟨b, 0, none⟩), .slice (some ⟨gu, 0, none⟩) T T, .slice (some ⟨gw, 0, none⟩) T T]) := by show Bx _ _ _; rw [← hZn, ← hv]; exact Bx.new Z4 #[.pointer (some ⟨b, 0, none⟩), .slice (some ⟨gu, 0, none⟩) T T, .slice (some ⟨gw, 0, none⟩) T T] _
       have HNZ5 : Hid (w.heap.size + 1 ≤ Z5.heap.size ∧ w.heap.size + 1 ≤ b ∧ w.heap.size + 1 ≤ ga ∧ w.heap.size + 1 ≤ gu ∧ w.heap.size + 1 ≤ gw ∧ w.heap.size + 1 ≤ bs ∧ w.heap.size + 1 ≤ bf ∧ b < Z5.heap.size ∧ ga < Z5.heap.size ∧ gu < Z5.heap.size ∧ gw < Z5.heap.size ∧ bs < Z5.heap.size ∧ bf < Z5.heap.size ∧ gu ≠ b ∧ gu ≠ ga ∧ gu ≠ gw ∧ gu ≠ bf ∧ gw ≠ b ∧ gw ≠ ga ∧ gw ≠ bf ∧ bs ≠ b ∧ bs ≠ ga ∧ bs ≠ bf ∧ bs ≠ gu ∧ bs ≠ gw) := by
        have h3 := HNZ4.out
        show w.heap.size + 1 ≤ Z5.heap.size ∧ w.heap.size + 1 ≤ b ∧ w.heap.size + 1 ≤ ga ∧ w.heap.size + 1 ≤ gu ∧ w.heap.size + 1 ≤ gw ∧ w.heap.size + 1 ≤ bs ∧ w.heap.size + 1 ≤ bf ∧ b < Z5.heap.size ∧ ga < Z5.heap.size ∧ gu < Z5.heap.size ∧ gw < Z5.heap.size ∧ bs < Z5.heap.size ∧ bf < Z5.heap.size ∧ gu ≠ b ∧ gu ≠ ga ∧ gu ≠ gw ∧ gu ≠ bf ∧ gw ≠ b ∧ gw ≠ ga ∧ gw ≠ bf ∧ bs ≠ b ∧ bs ≠ ga ∧ bs ≠ bf ∧ bs ≠ gu ∧ bs ≠ gw
        omega
       have HV : Hid (Z4.heap.size = bf) := hv
       have HZN : Hid (Z4.alloc (.cells #[.pointer (some ⟨b, 0, none⟩), .slice (some ⟨gu, 0, none⟩) T T, .slice (some ⟨gw, 0, none⟩) T T] 81) = Z5) := hZn
       clear hb hsz hv hZn
       go_simp
       rw [HZN.out, HV.out]
       clear HV HZN
       refine hK.out _ _ (HSK.out _ HBZ5.out) (fun hHeld => ?_)
       clear hK K
       try simp only [Act.put, zA, zB, zC]
       refine HTL b gu gw bf bs Z5 ⟨ga, U, HLU5.out, ⟨HBW.out _ HBZ5.out, HLF5.out, ?_, ?_, ?_, ?_, ?_⟩, HBS5.out, HBZ5.out, ?_⟩
       ·rw [HT.out]; exact HBF5.out
       ·rw [HT.out]; exact HTU5.out
       ·rw [HT.out]; exact HTW5.out
       ·have := HNZ5.out; omega
       ·have := HNZ5.out; omega
       ·have := HNZ5.out; omega
    ·obtain ⟨gw, hv⟩ : ∃ g, Z2.heap.size = g := ⟨_, rfl⟩
     obtain ⟨Z3, hZn⟩ : ∃ Y, Z2.alloc (.cells (Array.replicate T (.int .i64 0)) 3) = Y := ⟨_, rfl⟩
     have hb : Below Z2.heap.size Z2 Z3 := by rw [← hZn]; exact bl1 _ _
     have hsz : Z3.heap.size = Z2.heap.size + 1 := by rw [← hZn]; simp
     have HBZ3 : Hid (Below (w.heap.size + 1) W0 Z3) := HBZ2.out.trans (hb.mono (by have := HNZ2.out; omega))
     have HLF3 : Hid (LfV Z3 b f a n c ga U) := HLF2.out.below hb
     have HBS3 : Hid (Bx Z3 bs [.pointer none]) := HBS2.out.below hb
     have HLU3 : Hid (LfU f n U) := HLU2.out
     have HTW3 : Hid (TW Z3 gw T (List.replicate T 0)) := by show TW _ _ _ _; rw [← hZn, ← hv]; exact TW.new Z2 T
     have HNZ3 : Hid (w.heap.size + 1 ≤ Z3.heap.size ∧ w.heap.size + 1 ≤ b ∧ w.heap.size + 1 ≤ ga ∧ w.heap.size + 1 ≤ gw ∧ w.heap.size + 1 ≤ bs ∧ b < Z3.heap.size ∧ ga < Z3.heap.size ∧ gw < Z3.heap.size ∧ bs < Z3.heap.size ∧ gw ≠ b ∧ gw ≠ ga ∧ bs ≠ b ∧ bs ≠ ga ∧ bs ≠ gw) := by
      have h3 := HNZ2.out
      show w.heap.size + 1 ≤ Z3.heap.size ∧ w.heap.size + 1 ≤ b ∧ w.heap.size + 1 ≤ ga ∧ w.heap.size + 1 ≤ gw ∧ w.heap.size + 1 ≤ bs ∧ b < Z3.heap.size ∧ ga < Z3.heap.size ∧ gw < Z3.heap.size ∧ bs < Z3.heap.size ∧ gw ≠ b ∧ gw ≠ ga ∧ bs ≠ b ∧ bs ≠ ga ∧ bs ≠ gw
      omega
     have HV : Hid (Z2.heap.size = gw) := hv
     have HZN : Hid (Z2.alloc (.cells (Array.replicate T (.int .i64 0)) 3) = Z3) := hZn
     have hmk := makeInt Z2 T (by omega)
     rw [hZn, hv] at hmk
     clear hb hsz hv hZn
     go_simp
     clear hmk
     clear HV HZN
     refine hK.out _ _ (HSK.out _ HBZ3.out) (fun hHeld => ?_)
     clear hK K
     try simp only [Act.put, zA, zB, zC]
     refine wpAnyH_ready (rs := [4]) (by kernel_rfl) (by simp) ?_
     refine AllReadyH.cons (tA rfl) (fun K hK => ?_) AllReadyH.nil
     ·obtain ⟨gu, hv⟩ : ∃ g, Z3.heap.size = g := ⟨_, rfl⟩
      obtain ⟨Z4, hZn⟩ : ∃ Y, Z3.alloc (.cells (Array.replicate (T * 7) (.int .u64 0)) 54) = Y := ⟨_, rfl⟩
      have hb : Below Z3.heap.size Z3 Z4 := by rw [← hZn]; exact bl1 _ _
      have hsz : Z4.heap.size = Z3.heap.size + 1 := by rw [← hZn]; simp
      have HBZ4 : Hid (Below (w.heap.size + 1) W0 Z4) := HBZ3.out.trans (hb.mono (by have := HNZ3.out; omega))
      have HLF4 : Hid (LfV Z4 b f a n c ga U) := HLF3.out.below hb
      have HTW4 : Hid (TW Z4 gw T (List.replicate T 0)) := HTW3.out.move (hb.block _ (by have := HNZ3.out; omega)) hb.size
      have HBS4 : Hid (Bx Z4 bs [.pointer none]) := HBS3.out.below hb
      have HLU4 : Hid (LfU f n U) := HLU3.out
      have HTU4 : Hid (TU Z4 gu T (fun _ => F.zero7)) := by show TU _ _ _ _; rw [← hZn, ← hv]; exact TU.new Z3 T
      have HNZ4 : Hid (w.heap.size + 1 ≤ Z4.heap.size ∧ w.heap.size + 1 ≤ b ∧ w.heap.size + 1 ≤ ga ∧ w.heap.size + 1 ≤ gu ∧ w.heap.size + 1 ≤ gw ∧ w.heap.size + 1 ≤ bs ∧ b < Z4.heap.size ∧ ga < Z4.heap.size ∧ gu < Z4.heap.size ∧ gw < Z4.heap.size ∧ bs < Z4.heap.size ∧ gu ≠ b ∧ gu ≠ ga ∧ gu ≠ gw ∧ gw ≠ b ∧ gw ≠ ga ∧ bs ≠ b ∧ bs ≠ ga ∧ bs ≠ gu ∧ bs ≠ gw) := by
       have h3 := HNZ3.out
       show w.heap.size + 1 ≤ Z4.heap.size ∧ w.heap.size + 1 ≤ b ∧ w.heap.size + 1 ≤ ga ∧ w.heap.size + 1 ≤ gu ∧ w.heap.size + 1 ≤ gw ∧ w.heap.size + 1 ≤ bs ∧ b < Z4.heap.size ∧ ga < Z4.heap.size ∧ gu < Z4.heap.size ∧ gw < Z4.heap.size ∧ bs < Z4.heap.size ∧ gu ≠ b ∧ gu ≠ ga ∧ gu ≠ gw ∧ gw ≠ b ∧ gw ≠ ga ∧ bs ≠ b ∧ bs ≠ ga ∧ bs ≠ gu ∧ bs ≠ gw
       omega
      have HV : Hid (Z3.heap.size = gu) := hv
      have HZN : Hid (Z3.alloc (.cells (Array.replicate (T * 7) (.int .u64 0)) 54) = Z4) := hZn
      have hmk := makeSet Z3 T (by omega)
      rw [hZn, hv] at hmk
      clear hb hsz hv hZn
      go_simp
      clear hmk
      clear HV HZN
      refine hK.out _ _ (HSK.out _ HBZ4.out) (fun hHeld => ?_)
      clear hK K
      try simp only [Act.put, zA, zB, zC]
      refine tjr 8 ?_
      simp only [Act.put, zA, zB, zC]
      refine wpAnyH_ready (rs := [9]) (by kernel_rfl) (by simp) ?_
      refine AllReadyH.cons (tA rfl) (fun K hK => ?_) AllReadyH.nil
      ·obtain ⟨bf, hv⟩ : ∃ g, Z4.heap.size = g := ⟨_, rfl⟩
       obtain ⟨Z5, hZn⟩ : ∃ Y, Z4.alloc (.cells #[.pointer (some ⟨b, 0, none⟩), .slice (some ⟨gu, 0, none⟩) T T, .slice (some ⟨gw, 0, none⟩) T T] 81) = Y := ⟨_, rfl⟩
       have hb : Below Z4.heap.size Z4 Z5 := by rw [← hZn]; exact bl1 _ _
       have hsz : Z5.heap.size = Z4.heap.size + 1 := by rw [← hZn]; simp
       have HBZ5 : Hid (Below (w.heap.size + 1) W0 Z5) := HBZ4.out.trans (hb.mono (by have := HNZ4.out; omega))
       have HLF5 : Hid (LfV Z5 b f a n c ga U) := HLF4.out.below hb
       have HTU5 : Hid (TU Z5 gu T (fun _ => F.zero7)) := HTU4.out.move (hb.block _ (by have := HNZ4.out; omega)) hb.size
       have HTW5 : Hid (TW Z5 gw T (List.replicate T 0)) := HTW4.out.move (hb.block _ (by have := HNZ4.out; omega)) hb.size
       have HBS5 : Hid (Bx Z5 bs [.pointer none]) := HBS4.out.below hb
       have HLU5 : Hid (LfU f n U) := HLU4.out
       have HBF5 : Hid (Bx Z5 bf [.pointer (some ⟨b, 0, none⟩), .slice (some ⟨gu, 0, none⟩) T T, .slice (some ⟨gw, 0, none⟩) T T]) := by show Bx _ _ _; rw [← hZn, ← hv]; exact Bx.new Z4 #[.pointer (some ⟨b, 0, none⟩), .slice (some ⟨gu, 0, none⟩) T T, .slice (some ⟨gw, 0, none⟩) T T] _
       have HNZ5 : Hid (w.heap.size + 1 ≤ Z5.heap.size ∧ w.heap.size + 1 ≤ b ∧ w.heap.size + 1 ≤ ga ∧ w.heap.size + 1 ≤ gu ∧ w.heap.size + 1 ≤ gw ∧ w.heap.size + 1 ≤ bs ∧ w.heap.size + 1 ≤ bf ∧ b < Z5.heap.size ∧ ga < Z5.heap.size ∧ gu < Z5.heap.size ∧ gw < Z5.heap.size ∧ bs < Z5.heap.size ∧ bf < Z5.heap.size ∧ gu ≠ b ∧ gu ≠ ga ∧ gu ≠ gw ∧ gu ≠ bf ∧ gw ≠ b ∧ gw ≠ ga ∧ gw ≠ bf ∧ bs ≠ b ∧ bs ≠ ga ∧ bs ≠ bf ∧ bs ≠ gu ∧ bs ≠ gw) := by
        have h3 := HNZ4.out
        show w.heap.size + 1 ≤ Z5.heap.size ∧ w.heap.size + 1 ≤ b ∧ w.heap.size + 1 ≤ ga ∧ w.heap.size + 1 ≤ gu ∧ w.heap.size + 1 ≤ gw ∧ w.heap.size + 1 ≤ bs ∧ w.heap.size + 1 ≤ bf ∧ b < Z5.heap.size ∧ ga < Z5.heap.size ∧ gu < Z5.heap.size ∧ gw < Z5.heap.size ∧ bs < Z5.heap.size ∧ bf < Z5.heap.size ∧ gu ≠ b ∧ gu ≠ ga ∧ gu ≠ gw ∧ gu ≠ bf ∧ gw ≠ b ∧ gw ≠ ga ∧ gw ≠ bf ∧ bs ≠ b ∧ bs ≠ ga ∧ bs ≠ bf ∧ bs ≠ gu ∧ bs ≠ gw
        omega
       have HV : Hid (Z4.heap.size = bf) := hv
       have HZN : Hid (Z4.alloc (.cells #[.pointer (some ⟨b, 0, none⟩), .slice (some ⟨gu, 0, none⟩) T T, .slice (some ⟨gw, 0, none⟩) T T] 81) = Z5) := hZn
       clear hb hsz hv hZn
       go_simp
       rw [HZN.out, HV.out]
       clear HV HZN
       refine hK.out _ _ (HSK.out _ HBZ5.out) (fun hHeld => ?_)
       clear hK K
       try simp only [Act.put, zA, zB, zC]
       refine HTL b gu gw bf bs Z5 ⟨ga, U, HLU5.out, ⟨HBW.out _ HBZ5.out, HLF5.out, ?_, ?_, ?_, ?_, ?_⟩, HBS5.out, HBZ5.out, ?_⟩
       ·rw [HT.out]; exact HBF5.out
       ·rw [HT.out]; exact HTU5.out
       ·rw [HT.out]; exact HTW5.out
       ·have := HNZ5.out; omega
       ·have := HNZ5.out; omega
       ·have := HNZ5.out; omega
   ·obtain ⟨gu, hv⟩ : ∃ g, Z1.heap.size = g := ⟨_, rfl⟩
    obtain ⟨Z2, hZn⟩ : ∃ Y, Z1.alloc (.cells (Array.replicate (T * 7) (.int .u64 0)) 54) = Y := ⟨_, rfl⟩
    have hb : Below Z1.heap.size Z1 Z2 := by rw [← hZn]; exact bl1 _ _
    have hsz : Z2.heap.size = Z1.heap.size + 1 := by rw [← hZn]; simp
    have HBZ2 : Hid (Below (w.heap.size + 1) W0 Z2) := HBZ1.out.trans (hb.mono (by have := HNZ1.out; omega))
    have HBS2 : Hid (Bx Z2 bs [.pointer none]) := HBS1.out.below hb
    have HTU2 : Hid (TU Z2 gu T (fun _ => F.zero7)) := by show TU _ _ _ _; rw [← hZn, ← hv]; exact TU.new Z1 T
    have HNZ2 : Hid (w.heap.size + 1 ≤ Z2.heap.size ∧ w.heap.size + 1 ≤ gu ∧ w.heap.size + 1 ≤ bs ∧ gu < Z2.heap.size ∧ bs < Z2.heap.size ∧ bs ≠ gu) := by
     have h3 := HNZ1.out
     show w.heap.size + 1 ≤ Z2.heap.size ∧ w.heap.size + 1 ≤ gu ∧ w.heap.size + 1 ≤ bs ∧ gu < Z2.heap.size ∧ bs < Z2.heap.size ∧ bs ≠ gu
     omega
    have HV : Hid (Z1.heap.size = gu) := hv
    have HZN : Hid (Z1.alloc (.cells (Array.replicate (T * 7) (.int .u64 0)) 54) = Z2) := hZn
    have hmk := makeSet Z1 T (by omega)
    rw [hZn, hv] at hmk
    clear hb hsz hv hZn
    go_simp
    clear hmk
    clear HV HZN
    refine hK.out _ _ (HSK.out _ HBZ2.out) (fun hHeld => ?_)
    clear hK K
    try simp only [Act.put, zA, zB, zC]
    refine wpAnyH_ready (rs := [1, 7]) (by kernel_rfl) (by simp) ?_
    refine AllReadyH.cons (tA rfl) (fun K hK => ?_) (AllReadyH.cons (tA rfl) (fun K hK => ?_) AllReadyH.nil)
    ·go_simp
     refine Calls.mono (HNL.out _ (HBW.out _ HBZ2.out)) ?_
     rintro e Z3 ⟨b, ga, U, rfl, hlf, hlu, ⟨hge1, hge2⟩, hb⟩
     have HBZ3 : Hid (Below (w.heap.size + 1) W0 Z3) := HBZ2.out.trans (hb.mono (by have := HNZ2.out; omega))
     have HTU3 : Hid (TU Z3 gu T (fun _ => F.zero7)) := HTU2.out.move (hb.block _ (by have := HNZ2.out; omega)) hb.size
     have HBS3 : Hid (Bx Z3 bs [.pointer none]) := HBS2.out.below hb
     have HLF3 : Hid (LfV Z3 b f a n c ga U) := hlf
     have HLU3 : Hid (LfU f n U) := hlu
     have HNZ3 : Hid (w.heap.size + 1 ≤ Z3.heap.size ∧ w.heap.size + 1 ≤ b ∧ w.heap.size + 1 ≤ ga ∧ w.heap.size + 1 ≤ gu ∧ w.heap.size + 1 ≤ bs ∧ b < Z3.heap.size ∧ ga < Z3.heap.size ∧ gu < Z3.heap.size ∧ bs < Z3.heap.size ∧ gu ≠ b ∧ gu ≠ ga ∧ bs ≠ b ∧ bs ≠ ga ∧ bs ≠ gu) := by
      have h1 := lt_of_cell hlf.c0
      have h2 := lt_of_cell (hlf.sets 0 (by omega) 0 (by omega))
      have h3 := HNZ2.out
      have h4 := hb.size
      show w.heap.size + 1 ≤ Z3.heap.size ∧ w.heap.size + 1 ≤ b ∧ w.heap.size + 1 ≤ ga ∧ w.heap.size + 1 ≤ gu ∧ w.heap.size + 1 ≤ bs ∧ b < Z3.heap.size ∧ ga < Z3.heap.size ∧ gu < Z3.heap.size ∧ bs < Z3.heap.size ∧ gu ≠ b ∧ gu ≠ ga ∧ bs ≠ b ∧ bs ≠ ga ∧ bs ≠ gu
      omega
     clear hlf hlu hge1 hge2 hb
     try go_wp2_with fail
     refine hK.out _ _ (HSK.out _ HBZ3.out) (fun hHeld => ?_)
     clear hK K
     try simp only [Act.put, zA, zB, zC]
     refine wpAnyH_ready (rs := [7]) (by kernel_rfl) (by simp) ?_
     refine AllReadyH.cons (tA rfl) (fun K hK => ?_) AllReadyH.nil
     ·obtain ⟨gw, hv⟩ : ∃ g, Z3.heap.size = g := ⟨_, rfl⟩
      obtain ⟨Z4, hZn⟩ : ∃ Y, Z3.alloc (.cells (Array.replicate T (.int .i64 0)) 3) = Y := ⟨_, rfl⟩
      have hb : Below Z3.heap.size Z3 Z4 := by rw [← hZn]; exact bl1 _ _
      have hsz : Z4.heap.size = Z3.heap.size + 1 := by rw [← hZn]; simp
      have HBZ4 : Hid (Below (w.heap.size + 1) W0 Z4) := HBZ3.out.trans (hb.mono (by have := HNZ3.out; omega))
      have HLF4 : Hid (LfV Z4 b f a n c ga U) := HLF3.out.below hb
      have HTU4 : Hid (TU Z4 gu T (fun _ => F.zero7)) := HTU3.out.move (hb.block _ (by have := HNZ3.out; omega)) hb.size
      have HBS4 : Hid (Bx Z4 bs [.pointer none]) := HBS3.out.below hb
      have HLU4 : Hid (LfU f n U) := HLU3.out
      have HTW4 : Hid (TW Z4 gw T (List.replicate T 0)) := by show TW _ _ _ _; rw [← hZn, ← hv]; exact TW.new Z3 T
      have HNZ4 : Hid (w.heap.size + 1 ≤ Z4.heap.size ∧ w.heap.size + 1 ≤ b ∧ w.heap.size + 1 ≤ ga ∧ w.heap.size + 1 ≤ gu ∧ w.heap.size + 1 ≤ gw ∧ w.heap.size + 1 ≤ bs ∧ b < Z4.heap.size ∧ ga < Z4.heap.size ∧ gu < Z4.heap.size ∧ gw < Z4.heap.size ∧ bs < Z4.heap.size ∧ gu ≠ b ∧ gu ≠ ga ∧ gu ≠ gw ∧ gw ≠ b ∧ gw ≠ ga ∧ bs ≠ b ∧ bs ≠ ga ∧ bs ≠ gu ∧ bs ≠ gw) := by
       have h3 := HNZ3.out
       show w.heap.size + 1 ≤ Z4.heap.size ∧ w.heap.size + 1 ≤ b ∧ w.heap.size + 1 ≤ ga ∧ w.heap.size + 1 ≤ gu ∧ w.heap.size + 1 ≤ gw ∧ w.heap.size + 1 ≤ bs ∧ b < Z4.heap.size ∧ ga < Z4.heap.size ∧ gu < Z4.heap.size ∧ gw < Z4.heap.size ∧ bs < Z4.heap.size ∧ gu ≠ b ∧ gu ≠ ga ∧ gu ≠ gw ∧ gw ≠ b ∧ gw ≠ ga ∧ bs ≠ b ∧ bs ≠ ga ∧ bs ≠ gu ∧ bs ≠ gw
       omega
      have HV : Hid (Z3.heap.size = gw) := hv
      have HZN : Hid (Z3.alloc (.cells (Array.replicate T (.int .i64 0)) 3) = Z4) := hZn
      have hmk := makeInt Z3 T (by omega)
      rw [hZn, hv] at hmk
      clear hb hsz hv hZn
      go_simp
      clear hmk
      clear HV HZN
      refine hK.out _ _ (HSK.out _ HBZ4.out) (fun hHeld => ?_)
      clear hK K
      try simp only [Act.put, zA, zB, zC]
      refine tjr 8 ?_
      simp only [Act.put, zA, zB, zC]
      refine wpAnyH_ready (rs := [9]) (by kernel_rfl) (by simp) ?_
      refine AllReadyH.cons (tA rfl) (fun K hK => ?_) AllReadyH.nil
      ·obtain ⟨bf, hv⟩ : ∃ g, Z4.heap.size = g := ⟨_, rfl⟩
       obtain ⟨Z5, hZn⟩ : ∃ Y, Z4.alloc (.cells #[.pointer (some ⟨b, 0, none⟩), .slice (some ⟨gu, 0, none⟩) T T, .slice (some ⟨gw, 0, none⟩) T T] 81) = Y := ⟨_, rfl⟩
       have hb : Below Z4.heap.size Z4 Z5 := by rw [← hZn]; exact bl1 _ _
       have hsz : Z5.heap.size = Z4.heap.size + 1 := by rw [← hZn]; simp
       have HBZ5 : Hid (Below (w.heap.size + 1) W0 Z5) := HBZ4.out.trans (hb.mono (by have := HNZ4.out; omega))
       have HLF5 : Hid (LfV Z5 b f a n c ga U) := HLF4.out.below hb
       have HTU5 : Hid (TU Z5 gu T (fun _ => F.zero7)) := HTU4.out.move (hb.block _ (by have := HNZ4.out; omega)) hb.size
       have HTW5 : Hid (TW Z5 gw T (List.replicate T 0)) := HTW4.out.move (hb.block _ (by have := HNZ4.out; omega)) hb.size
       have HBS5 : Hid (Bx Z5 bs [.pointer none]) := HBS4.out.below hb
       have HLU5 : Hid (LfU f n U) := HLU4.out
       have HBF5 : Hid (Bx Z5 bf [.pointer (some ⟨b, 0, none⟩), .slice (some ⟨gu, 0, none⟩) T T, .slice (some ⟨gw, 0, none⟩) T T]) := by show Bx _ _ _; rw [← hZn, ← hv]; exact Bx.new Z4 #[.pointer (some ⟨b, 0, none⟩), .slice (some ⟨gu, 0, none⟩) T T, .slice (some ⟨gw, 0, none⟩) T T] _
       have HNZ5 : Hid (w.heap.size + 1 ≤ Z5.heap.size ∧ w.heap.size + 1 ≤ b ∧ w.heap.size + 1 ≤ ga ∧ w.heap.size + 1 ≤ gu ∧ w.heap.size + 1 ≤ gw ∧ w.heap.size + 1 ≤ bs ∧ w.heap.size + 1 ≤ bf ∧ b < Z5.heap.size ∧ ga < Z5.heap.size ∧ gu < Z5.heap.size ∧ gw < Z5.heap.size ∧ bs < Z5.heap.size ∧ bf < Z5.heap.size ∧ gu ≠ b ∧ gu ≠ ga ∧ gu ≠ gw ∧ gu ≠ bf ∧ gw ≠ b ∧ gw ≠ ga ∧ gw ≠ bf ∧ bs ≠ b ∧ bs ≠ ga ∧ bs ≠ bf ∧ bs ≠ gu ∧ bs ≠ gw) := by
        have h3 := HNZ4.out
        show w.heap.size + 1 ≤ Z5.heap.size ∧ w.heap.size + 1 ≤ b ∧ w.heap.size + 1 ≤ ga ∧ w.heap.size + 1 ≤ gu ∧ w.heap.size + 1 ≤ gw ∧ w.heap.size + 1 ≤ bs ∧ w.heap.size + 1 ≤ bf ∧ b < Z5.heap.size ∧ ga < Z5.heap.size ∧ gu < Z5.heap.size ∧ gw < Z5.heap.size ∧ bs < Z5.heap.size ∧ bf < Z5.heap.size ∧ gu ≠ b ∧ gu ≠ ga ∧ gu ≠ gw ∧ gu ≠ bf ∧ gw ≠ b ∧ gw ≠ ga ∧ gw ≠ bf ∧ bs ≠ b ∧ bs ≠ ga ∧ bs ≠ bf ∧ bs ≠ gu ∧ bs ≠ gw
        omega
       have HV : Hid (Z4.heap.size = bf) := hv
       have HZN : Hid (Z4.alloc (.cells #[.pointer (some ⟨b, 0, none⟩), .slice (some ⟨gu, 0, none⟩) T T, .slice (some ⟨gw, 0, none⟩) T T] 81) = Z5) := hZn
       clear hb hsz hv hZn
       go_simp
       rw [HZN.out, HV.out]
       clear HV HZN
       refine hK.out _ _ (HSK.out _ HBZ5.out) (fun hHeld => ?_)
       clear hK K
       try simp only [Act.put, zA, zB, zC]
       refine HTL b gu gw bf bs Z5 ⟨ga, U, HLU5.out, ⟨HBW.out _ HBZ5.out, HLF5.out, ?_, ?_, ?_, ?_, ?_⟩, HBS5.out, HBZ5.out, ?_⟩
       ·rw [HT.out]; exact HBF5.out
       ·rw [HT.out]; exact HTU5.out
       ·rw [HT.out]; exact HTW5.out
       ·have := HNZ5.out; omega
       ·have := HNZ5.out; omega
       ·have := HNZ5.out; omega
    ·obtain ⟨gw, hv⟩ : ∃ g, Z2.heap.size = g := ⟨_, rfl⟩
     obtain ⟨Z3, hZn⟩ : ∃ Y, Z2.alloc (.cells (Array.replicate T (.int .i64 0)) 3) = Y := ⟨_, rfl⟩
     have hb : Below Z2.heap.size Z2 Z3 := by rw [← hZn]; exact bl1 _ _
     have hsz : Z3.heap.size = Z2.heap.size + 1 := by rw [← hZn]; simp
     have HBZ3 : Hid (Below (w.heap.size + 1) W0 Z3) := HBZ2.out.trans (hb.mono (by have := HNZ2.out; omega))
     have HTU3 : Hid (TU Z3 gu T (fun _ => F.zero7)) := HTU2.out.move (hb.block _ (by have := HNZ2.out; omega)) hb.size
     have HBS3 : Hid (Bx Z3 bs [.pointer none]) := HBS2.out.below hb
     have HTW3 : Hid (TW Z3 gw T (List.replicate T 0)) := by show TW _ _ _ _; rw [← hZn, ← hv]; exact TW.new Z2 T
     have HNZ3 : Hid (w.heap.size + 1 ≤ Z3.heap.size ∧ w.heap.size + 1 ≤ gu ∧ w.heap.size + 1 ≤ gw ∧ w.heap.size + 1 ≤ bs ∧ gu < Z3.heap.size ∧ gw < Z3.heap.size ∧ bs < Z3.heap.size ∧ gu ≠ gw ∧ bs ≠ gu ∧ bs ≠ gw) := by
      have h3 := HNZ2.out
      show w.heap.size + 1 ≤ Z3.heap.size ∧ w.heap.size + 1 ≤ gu ∧ w.heap.size + 1 ≤ gw ∧ w.heap.size + 1 ≤ bs ∧ gu < Z3.heap.size ∧ gw < Z3.heap.size ∧ bs < Z3.heap.size ∧ gu ≠ gw ∧ bs ≠ gu ∧ bs ≠ gw
      omega
     have HV : Hid (Z2.heap.size = gw) := hv
     have HZN : Hid (Z2.alloc (.cells (Array.replicate T (.int .i64 0)) 3) = Z3) := hZn
     have hmk := makeInt Z2 T (by omega)
     rw [hZn, hv] at hmk
     clear hb hsz hv hZn
     go_simp
     clear hmk
     clear HV HZN
     refine hK.out _ _ (HSK.out _ HBZ3.out) (fun hHeld => ?_)
     clear hK K
     try simp only [Act.put, zA, zB, zC]
     refine wpAnyH_ready (rs := [1]) (by kernel_rfl) (by simp) ?_
     refine AllReadyH.cons (tA rfl) (fun K hK => ?_) AllReadyH.nil
     ·go_simp
      refine Calls.mono (HNL.out _ (HBW.out _ HBZ3.out)) ?_
      rintro e Z4 ⟨b, ga, U, rfl, hlf, hlu, ⟨hge1, hge2⟩, hb⟩
      have HBZ4 : Hid (Below (w.heap.size + 1) W0 Z4) := HBZ3.out.trans (hb.mono (by have := HNZ3.out; omega))
      have HTU4 : Hid (TU Z4 gu T (fun _ => F.zero7)) := HTU3.out.move (hb.block _ (by have := HNZ3.out; omega)) hb.size
      have HTW4 : Hid (TW Z4 gw T (List.replicate T 0)) := HTW3.out.move (hb.block _ (by have := HNZ3.out; omega)) hb.size
      have HBS4 : Hid (Bx Z4 bs [.pointer none]) := HBS3.out.below hb
      have HLF4 : Hid (LfV Z4 b f a n c ga U) := hlf
      have HLU4 : Hid (LfU f n U) := hlu
      have HNZ4 : Hid (w.heap.size + 1 ≤ Z4.heap.size ∧ w.heap.size + 1 ≤ b ∧ w.heap.size + 1 ≤ ga ∧ w.heap.size + 1 ≤ gu ∧ w.heap.size + 1 ≤ gw ∧ w.heap.size + 1 ≤ bs ∧ b < Z4.heap.size ∧ ga < Z4.heap.size ∧ gu < Z4.heap.size ∧ gw < Z4.heap.size ∧ bs < Z4.heap.size ∧ gu ≠ b ∧ gu ≠ ga ∧ gu ≠ gw ∧ gw ≠ b ∧ gw ≠ ga ∧ bs ≠ b ∧ bs ≠ ga ∧ bs ≠ gu ∧ bs ≠ gw) := by
       have h1 := lt_of_cell hlf.c0
       have h2 := lt_of_cell (hlf.sets 0 (by omega) 0 (by omega))
       have h3 := HNZ3.out
       have h4 := hb.size
       show w.heap.size + 1 ≤ Z4.heap.size ∧ w.heap.size + 1 ≤ b ∧ w.heap.size + 1 ≤ ga ∧ w.heap.size + 1 ≤ gu ∧ w.heap.size + 1 ≤ gw ∧ w.heap.size + 1 ≤ bs ∧ b < Z4.heap.size ∧ ga < Z4.heap.size ∧ gu < Z4.heap.size ∧ gw < Z4.heap.size ∧ bs < Z4.heap.size ∧ gu ≠ b ∧ gu ≠ ga ∧ gu ≠ gw ∧ gw ≠ b ∧ gw ≠ ga ∧ bs ≠ b ∧ bs ≠ ga ∧ bs ≠ gu ∧ bs ≠ gw
       omega
      clear hlf hlu hge1 hge2 hb
      try go_wp2_with fail
      refine hK.out _ _ (HSK.out _ HBZ4.out) (fun hHeld => ?_)
      clear hK K
      try simp only [Act.put, zA, zB, zC]
      refine tjr 8 ?_
      simp only [Act.put, zA, zB, zC]
      refine wpAnyH_ready (rs := [9]) (by kernel_rfl) (by simp) ?_
      refine AllReadyH.cons (tA rfl) (fun K hK => ?_) AllReadyH.nil
      ·obtain ⟨bf, hv⟩ : ∃ g, Z4.heap.size = g := ⟨_, rfl⟩
       obtain ⟨Z5, hZn⟩ : ∃ Y, Z4.alloc (.cells #[.pointer (some ⟨b, 0, none⟩), .slice (some ⟨gu, 0, none⟩) T T, .slice (some ⟨gw, 0, none⟩) T T] 81) = Y := ⟨_, rfl⟩
       have hb : Below Z4.heap.size Z4 Z5 := by rw [← hZn]; exact bl1 _ _
       have hsz : Z5.heap.size = Z4.heap.size + 1 := by rw [← hZn]; simp
       have HBZ5 : Hid (Below (w.heap.size + 1) W0 Z5) := HBZ4.out.trans (hb.mono (by have := HNZ4.out; omega))
       have HLF5 : Hid (LfV Z5 b f a n c ga U) := HLF4.out.below hb
       have HTU5 : Hid (TU Z5 gu T (fun _ => F.zero7)) := HTU4.out.move (hb.block _ (by have := HNZ4.out; omega)) hb.size
       have HTW5 : Hid (TW Z5 gw T (List.replicate T 0)) := HTW4.out.move (hb.block _ (by have := HNZ4.out; omega)) hb.size
       have HBS5 : Hid (Bx Z5 bs [.pointer none]) := HBS4.out.below hb
       have HLU5 : Hid (LfU f n U) := HLU4.out
       have HBF5 : Hid (Bx Z5 bf [.pointer (some ⟨b, 0, none⟩), .slice (some ⟨gu, 0, none⟩) T T, .slice (some ⟨gw, 0, none⟩) T T]) := by show Bx _ _ _; rw [← hZn, ← hv]; exact Bx.new Z4 #[.pointer (some ⟨b, 0, none⟩), .slice (some ⟨gu, 0, none⟩) T T, .slice (some ⟨gw, 0, none⟩) T T] _
       have HNZ5 : Hid (w.heap.size + 1 ≤ Z5.heap.size ∧ w.heap.size + 1 ≤ b ∧ w.heap.size + 1 ≤ ga ∧ w.heap.size + 1 ≤ gu ∧ w.heap.size + 1 ≤ gw ∧ w.heap.size + 1 ≤ bs ∧ w.heap.size + 1 ≤ bf ∧ b < Z5.heap.size ∧ ga < Z5.heap.size ∧ gu < Z5.heap.size ∧ gw < Z5.heap.size ∧ bs < Z5.heap.size ∧ bf < Z5.heap.size ∧ gu ≠ b ∧ gu ≠ ga ∧ gu ≠ gw ∧ gu ≠ bf ∧ gw ≠ b ∧ gw ≠ ga ∧ gw ≠ bf ∧ bs ≠ b ∧ bs ≠ ga ∧ bs ≠ bf ∧ bs ≠ gu ∧ bs ≠ gw) := by
        have h3 := HNZ4.out
        show w.heap.size + 1 ≤ Z5.heap.size ∧ w.heap.size + 1 ≤ b ∧ w.heap.size + 1 ≤ ga ∧ w.heap.size + 1 ≤ gu ∧ w.heap.size + 1 ≤ gw ∧ w.heap.size + 1 ≤ bs ∧ w.heap.size + 1 ≤ bf ∧ b < Z5.heap.size ∧ ga < Z5.heap.size ∧ gu < Z5.heap.size ∧ gw < Z5.heap.size ∧ bs < Z5.heap.size ∧ bf < Z5.heap.size ∧ gu ≠ b ∧ gu ≠ ga ∧ gu ≠ gw ∧ gu ≠ bf ∧ gw ≠ b ∧ gw ≠ ga ∧ gw ≠ bf ∧ bs ≠ b ∧ bs ≠ ga ∧ bs ≠ bf ∧ bs ≠ gu ∧ bs ≠ gw
        omega
       have HV : Hid (Z4.heap.size = bf) := hv
       have HZN : Hid (Z4.alloc (.cells #[.pointer (some ⟨b, 0, none⟩), .slice (some ⟨gu, 0, none⟩) T T, .slice (some ⟨gw, 0, none⟩) T T] 81) = Z5) := hZn
       clear hb hsz hv hZn
       go_simp
       rw [HZN.out, HV.out]
       clear HV HZN
       refine hK.out _ _ (HSK.out _ HBZ5.out) (fun hHeld => ?_)
       clear hK K
       try simp only [Act.put, zA, zB, zC]
       refine HTL b gu gw bf bs Z5 ⟨ga, U, HLU5.out, ⟨HBW.out _ HBZ5.out, HLF5.out, ?_, ?_, ?_, ?_, ?_⟩, HBS5.out, HBZ5.out, ?_⟩
       ·rw [HT.out]; exact HBF5.out
       ·rw [HT.out]; exact HTU5.out
       ·rw [HT.out]; exact HTW5.out
       ·have := HNZ5.out; omega
       ·have := HNZ5.out; omega
       ·have := HNZ5.out; omega
   ·obtain ⟨gw, hv⟩ : ∃ g, Z1.heap.size = g := ⟨_, rfl⟩
    obtain ⟨Z2, hZn⟩ : ∃ Y, Z1.alloc (.cells (Array.replicate T (.int .i64 0)) 3) = Y := ⟨_, rfl⟩
    have hb : Below Z1.heap.size Z1 Z2 := by rw [← hZn]; exact bl1 _ _
    have hsz : Z2.heap.size = Z1.heap.size + 1 := by rw [← hZn]; simp
    have HBZ2 : Hid (Below (w.heap.size + 1) W0 Z2) := HBZ1.out.trans (hb.mono (by have := HNZ1.out; omega))
    have HBS2 : Hid (Bx Z2 bs [.pointer none]) := HBS1.out.below hb
    have HTW2 : Hid (TW Z2 gw T (List.replicate T 0)) := by show TW _ _ _ _; rw [← hZn, ← hv]; exact TW.new Z1 T
    have HNZ2 : Hid (w.heap.size + 1 ≤ Z2.heap.size ∧ w.heap.size + 1 ≤ gw ∧ w.heap.size + 1 ≤ bs ∧ gw < Z2.heap.size ∧ bs < Z2.heap.size ∧ bs ≠ gw) := by
     have h3 := HNZ1.out
     show w.heap.size + 1 ≤ Z2.heap.size ∧ w.heap.size + 1 ≤ gw ∧ w.heap.size + 1 ≤ bs ∧ gw < Z2.heap.size ∧ bs < Z2.heap.size ∧ bs ≠ gw
     omega
    have HV : Hid (Z1.heap.size = gw) := hv
    have HZN : Hid (Z1.alloc (.cells (Array.replicate T (.int .i64 0)) 3) = Z2) := hZn
    have hmk := makeInt Z1 T (by omega)
    rw [hZn, hv] at hmk
    clear hb hsz hv hZn
    go_simp
    clear hmk
    clear HV HZN
    refine hK.out _ _ (HSK.out _ HBZ2.out) (fun hHeld => ?_)
    clear hK K
    try simp only [Act.put, zA, zB, zC]
    refine wpAnyH_ready (rs := [1, 4]) (by kernel_rfl) (by simp) ?_
    refine AllReadyH.cons (tA rfl) (fun K hK => ?_) (AllReadyH.cons (tA rfl) (fun K hK => ?_) AllReadyH.nil)
    ·go_simp
     refine Calls.mono (HNL.out _ (HBW.out _ HBZ2.out)) ?_
     rintro e Z3 ⟨b, ga, U, rfl, hlf, hlu, ⟨hge1, hge2⟩, hb⟩
     have HBZ3 : Hid (Below (w.heap.size + 1) W0 Z3) := HBZ2.out.trans (hb.mono (by have := HNZ2.out; omega))
     have HTW3 : Hid (TW Z3 gw T (List.replicate T 0)) := HTW2.out.move (hb.block _ (by have := HNZ2.out; omega)) hb.size
     have HBS3 : Hid (Bx Z3 bs [.pointer none]) := HBS2.out.below hb
     have HLF3 : Hid (LfV Z3 b f a n c ga U) := hlf
     have HLU3 : Hid (LfU f n U) := hlu
     have HNZ3 : Hid (w.heap.size + 1 ≤ Z3.heap.size ∧ w.heap.size + 1 ≤ b ∧ w.heap.size + 1 ≤ ga ∧ w.heap.size + 1 ≤ gw ∧ w.heap.size + 1 ≤ bs ∧ b < Z3.heap.size ∧ ga < Z3.heap.size ∧ gw < Z3.heap.size ∧ bs < Z3.heap.size ∧ gw ≠ b ∧ gw ≠ ga ∧ bs ≠ b ∧ bs ≠ ga ∧ bs ≠ gw) := by
      have h1 := lt_of_cell hlf.c0
      have h2 := lt_of_cell (hlf.sets 0 (by omega) 0 (by omega))
      have h3 := HNZ2.out
      have h4 := hb.size
      show w.heap.size + 1 ≤ Z3.heap.size ∧ w.heap.size + 1 ≤ b ∧ w.heap.size + 1 ≤ ga ∧ w.heap.size + 1 ≤ gw ∧ w.heap.size + 1 ≤ bs ∧ b < Z3.heap.size ∧ ga < Z3.heap.size ∧ gw < Z3.heap.size ∧ bs < Z3.heap.size ∧ gw ≠ b ∧ gw ≠ ga ∧ bs ≠ b ∧ bs ≠ ga ∧ bs ≠ gw
      omega
     clear hlf hlu hge1 hge2 hb
     try go_wp2_with fail
     refine hK.out _ _ (HSK.out _ HBZ3.out) (fun hHeld => ?_)
     clear hK K
     try simp only [Act.put, zA, zB, zC]
     refine wpAnyH_ready (rs := [4]) (by kernel_rfl) (by simp) ?_
     refine AllReadyH.cons (tA rfl) (fun K hK => ?_) AllReadyH.nil
     ·obtain ⟨gu, hv⟩ : ∃ g, Z3.heap.size = g := ⟨_, rfl⟩
      obtain ⟨Z4, hZn⟩ : ∃ Y, Z3.alloc (.cells (Array.replicate (T * 7) (.int .u64 0)) 54) = Y := ⟨_, rfl⟩
      have hb : Below Z3.heap.size Z3 Z4 := by rw [← hZn]; exact bl1 _ _
      have hsz : Z4.heap.size = Z3.heap.size + 1 := by rw [← hZn]; simp
      have HBZ4 : Hid (Below (w.heap.size + 1) W0 Z4) := HBZ3.out.trans (hb.mono (by have := HNZ3.out; omega))
      have HLF4 : Hid (LfV Z4 b f a n c ga U) := HLF3.out.below hb
      have HTW4 : Hid (TW Z4 gw T (List.replicate T 0)) := HTW3.out.move (hb.block _ (by have := HNZ3.out; omega)) hb.size
      have HBS4 : Hid (Bx Z4 bs [.pointer none]) := HBS3.out.below hb
      have HLU4 : Hid (LfU f n U) := HLU3.out
      have HTU4 : Hid (TU Z4 gu T (fun _ => F.zero7)) := by show TU _ _ _ _; rw [← hZn, ← hv]; exact TU.new Z3 T
      have HNZ4 : Hid (w.heap.size + 1 ≤ Z4.heap.size ∧ w.heap.size + 1 ≤ b ∧ w.heap.size + 1 ≤ ga ∧ w.heap.size + 1 ≤ gu ∧ w.heap.size + 1 ≤ gw ∧ w.heap.size + 1 ≤ bs ∧ b < Z4.heap.size ∧ ga < Z4.heap.size ∧ gu < Z4.heap.size ∧ gw < Z4.heap.size ∧ bs < Z4.heap.size ∧ gu ≠ b ∧ gu ≠ ga ∧ gu ≠ gw ∧ gw ≠ b ∧ gw ≠ ga ∧ bs ≠ b ∧ bs ≠ ga ∧ bs ≠ gu ∧ bs ≠ gw) := by
       have h3 := HNZ3.out
       show w.heap.size + 1 ≤ Z4.heap.size ∧ w.heap.size + 1 ≤ b ∧ w.heap.size + 1 ≤ ga ∧ w.heap.size + 1 ≤ gu ∧ w.heap.size + 1 ≤ gw ∧ w.heap.size + 1 ≤ bs ∧ b < Z4.heap.size ∧ ga < Z4.heap.size ∧ gu < Z4.heap.size ∧ gw < Z4.heap.size ∧ bs < Z4.heap.size ∧ gu ≠ b ∧ gu ≠ ga ∧ gu ≠ gw ∧ gw ≠ b ∧ gw ≠ ga ∧ bs ≠ b ∧ bs ≠ ga ∧ bs ≠ gu ∧ bs ≠ gw
       omega
      have HV : Hid (Z3.heap.size = gu) := hv
      have HZN : Hid (Z3.alloc (.cells (Array.replicate (T * 7) (.int .u64 0)) 54) = Z4) := hZn
      have hmk := makeSet Z3 T (by omega)
      rw [hZn, hv] at hmk
      clear hb hsz hv hZn
      go_simp
      clear hmk
      clear HV HZN
      refine hK.out _ _ (HSK.out _ HBZ4.out) (fun hHeld => ?_)
      clear hK K
      try simp only [Act.put, zA, zB, zC]
      refine tjr 8 ?_
      simp only [Act.put, zA, zB, zC]
      refine wpAnyH_ready (rs := [9]) (by kernel_rfl) (by simp) ?_
      refine AllReadyH.cons (tA rfl) (fun K hK => ?_) AllReadyH.nil
      ·obtain ⟨bf, hv⟩ : ∃ g, Z4.heap.size = g := ⟨_, rfl⟩
       obtain ⟨Z5, hZn⟩ : ∃ Y, Z4.alloc (.cells #[.pointer (some ⟨b, 0, none⟩), .slice (some ⟨gu, 0, none⟩) T T, .slice (some ⟨gw, 0, none⟩) T T] 81) = Y := ⟨_, rfl⟩
       have hb : Below Z4.heap.size Z4 Z5 := by rw [← hZn]; exact bl1 _ _
       have hsz : Z5.heap.size = Z4.heap.size + 1 := by rw [← hZn]; simp
       have HBZ5 : Hid (Below (w.heap.size + 1) W0 Z5) := HBZ4.out.trans (hb.mono (by have := HNZ4.out; omega))
       have HLF5 : Hid (LfV Z5 b f a n c ga U) := HLF4.out.below hb
       have HTU5 : Hid (TU Z5 gu T (fun _ => F.zero7)) := HTU4.out.move (hb.block _ (by have := HNZ4.out; omega)) hb.size
       have HTW5 : Hid (TW Z5 gw T (List.replicate T 0)) := HTW4.out.move (hb.block _ (by have := HNZ4.out; omega)) hb.size
       have HBS5 : Hid (Bx Z5 bs [.pointer none]) := HBS4.out.below hb
       have HLU5 : Hid (LfU f n U) := HLU4.out
       have HBF5 : Hid (Bx Z5 bf [.pointer (some ⟨b, 0, none⟩), .slice (some ⟨gu, 0, none⟩) T T, .slice (some ⟨gw, 0, none⟩) T T]) := by show Bx _ _ _; rw [← hZn, ← hv]; exact Bx.new Z4 #[.pointer (some ⟨b, 0, none⟩), .slice (some ⟨gu, 0, none⟩) T T, .slice (some ⟨gw, 0, none⟩) T T] _
       have HNZ5 : Hid (w.heap.size + 1 ≤ Z5.heap.size ∧ w.heap.size + 1 ≤ b ∧ w.heap.size + 1 ≤ ga ∧ w.heap.size + 1 ≤ gu ∧ w.heap.size + 1 ≤ gw ∧ w.heap.size + 1 ≤ bs ∧ w.heap.size + 1 ≤ bf ∧ b < Z5.heap.size ∧ ga < Z5.heap.size ∧ gu < Z5.heap.size ∧ gw < Z5.heap.size ∧ bs < Z5.heap.size ∧ bf < Z5.heap.size ∧ gu ≠ b ∧ gu ≠ ga ∧ gu ≠ gw ∧ gu ≠ bf ∧ gw ≠ b ∧ gw ≠ ga ∧ gw ≠ bf ∧ bs ≠ b ∧ bs ≠ ga ∧ bs ≠ bf ∧ bs ≠ gu ∧ bs ≠ gw) := by
        have h3 := HNZ4.out
        show w.heap.size + 1 ≤ Z5.heap.size ∧ w.heap.size + 1 ≤ b ∧ w.heap.size + 1 ≤ ga ∧ w.heap.size + 1 ≤ gu ∧ w.heap.size + 1 ≤ gw ∧ w.heap.size + 1 ≤ bs ∧ w.heap.size + 1 ≤ bf ∧ b < Z5.heap.size ∧ ga < Z5.heap.size ∧ gu < Z5.heap.size ∧ gw < Z5.heap.size ∧ bs < Z5.heap.size ∧ bf < Z5.heap.size ∧ gu ≠ b ∧ gu ≠ ga ∧ gu ≠ gw ∧ gu ≠ bf ∧ gw ≠ b ∧ gw ≠ ga ∧ gw ≠ bf ∧ bs ≠ b ∧ bs ≠ ga ∧ bs ≠ bf ∧ bs ≠ gu ∧ bs ≠ gw
        omega
       have HV : Hid (Z4.heap.size = bf) := hv
       have HZN : Hid (Z4.alloc (.cells #[.pointer (some ⟨b, 0, none⟩), .slice (some ⟨gu, 0, none⟩) T T, .slice (some ⟨gw, 0, none⟩) T T] 81) = Z5) := hZn
       clear hb hsz hv hZn
       go_simp
       rw [HZN.out, HV.out]
       clear HV HZN
       refine hK.out _ _ (HSK.out _ HBZ5.out) (fun hHeld => ?_)
       clear hK K
       try simp only [Act.put, zA, zB, zC]
       refine HTL b gu gw bf bs Z5 ⟨ga, U, HLU5.out, ⟨HBW.out _ HBZ5.out, HLF5.out, ?_, ?_, ?_, ?_, ?_⟩, HBS5.out, HBZ5.out, ?_⟩
       ·rw [HT.out]; exact HBF5.out
       ·rw [HT.out]; exact HTU5.out
       ·rw [HT.out]; exact HTW5.out
       ·have := HNZ5.out; omega
       ·have := HNZ5.out; omega
       ·have := HNZ5.out; omega
    ·obtain ⟨gu, hv⟩ : ∃ g, Z2.heap.size = g := ⟨_, rfl⟩
     obtain ⟨Z3, hZn⟩ : ∃ Y, Z2.alloc (.cells (Array.replicate (T * 7) (.int .u64 0)) 54) = Y := ⟨_, rfl⟩
     have hb : Below Z2.heap.size Z2 Z3 := by rw [← hZn]; exact bl1 _ _
     have hsz : Z3.heap.size = Z2.heap.size + 1 := by rw [← hZn]; simp
     have HBZ3 : Hid (Below (w.heap.size + 1) W0 Z3) := HBZ2.out.trans (hb.mono (by have := HNZ2.out; omega))
     have HTW3 : Hid (TW Z3 gw T (List.replicate T 0)) := HTW2.out.move (hb.block _ (by have := HNZ2.out; omega)) hb.size
     have HBS3 : Hid (Bx Z3 bs [.pointer none]) := HBS2.out.below hb
     have HTU3 : Hid (TU Z3 gu T (fun _ => F.zero7)) := by show TU _ _ _ _; rw [← hZn, ← hv]; exact TU.new Z2 T
     have HNZ3 : Hid (w.heap.size + 1 ≤ Z3.heap.size ∧ w.heap.size + 1 ≤ gu ∧ w.heap.size + 1 ≤ gw ∧ w.heap.size + 1 ≤ bs ∧ gu < Z3.heap.size ∧ gw < Z3.heap.size ∧ bs < Z3.heap.size ∧ gu ≠ gw ∧ bs ≠ gu ∧ bs ≠ gw) := by
      have h3 := HNZ2.out
      show w.heap.size + 1 ≤ Z3.heap.size ∧ w.heap.size + 1 ≤ gu ∧ w.heap.size + 1 ≤ gw ∧ w.heap.size + 1 ≤ bs ∧ gu < Z3.heap.size ∧ gw < Z3.heap.size ∧ bs < Z3.heap.size ∧ gu ≠ gw ∧ bs ≠ gu ∧ bs ≠ gw
      omega
     have HV : Hid (Z2.heap.size = gu) := hv
     have HZN : Hid (Z2.alloc (.cells (Array.replicate (T * 7) (.int .u64 0)) 54) = Z3) := hZn
     have hmk := makeSet Z2 T (by omega)
     rw [hZn, hv] at hmk
     clear hb hsz hv hZn
     go_simp
     clear hmk
     clear HV HZN
     refine hK.out _ _ (HSK.out _ HBZ3.out) (fun hHeld => ?_)
     clear hK K
     try simp only [Act.put, zA, zB, zC]
     refine wpAnyH_ready (rs := [1]) (by kernel_rfl) (by simp) ?_
     refine AllReadyH.cons (tA rfl) (fun K hK => ?_) AllReadyH.nil
     ·go_simp
      refine Calls.mono (HNL.out _ (HBW.out _ HBZ3.out)) ?_
      rintro e Z4 ⟨b, ga, U, rfl, hlf, hlu, ⟨hge1, hge2⟩, hb⟩
      have HBZ4 : Hid (Below (w.heap.size + 1) W0 Z4) := HBZ3.out.trans (hb.mono (by have := HNZ3.out; omega))
      have HTU4 : Hid (TU Z4 gu T (fun _ => F.zero7)) := HTU3.out.move (hb.block _ (by have := HNZ3.out; omega)) hb.size
      have HTW4 : Hid (TW Z4 gw T (List.replicate T 0)) := HTW3.out.move (hb.block _ (by have := HNZ3.out; omega)) hb.size
      have HBS4 : Hid (Bx Z4 bs [.pointer none]) := HBS3.out.below hb
      have HLF4 : Hid (LfV Z4 b f a n c ga U) := hlf
      have HLU4 : Hid (LfU f n U) := hlu
      have HNZ4 : Hid (w.heap.size + 1 ≤ Z4.heap.size ∧ w.heap.size + 1 ≤ b ∧ w.heap.size + 1 ≤ ga ∧ w.heap.size + 1 ≤ gu ∧ w.heap.size + 1 ≤ gw ∧ w.heap.size + 1 ≤ bs ∧ b < Z4.heap.size ∧ ga < Z4.heap.size ∧ gu < Z4.heap.size ∧ gw < Z4.heap.size ∧ bs < Z4.heap.size ∧ gu ≠ b ∧ gu ≠ ga ∧ gu ≠ gw ∧ gw ≠ b ∧ gw ≠ ga ∧ bs ≠ b ∧ bs ≠ ga ∧ bs ≠ gu ∧ bs ≠ gw) := by
       have h1 := lt_of_cell hlf.c0
       have h2 := lt_of_cell (hlf.sets 0 (by omega) 0 (by omega))
       have h3 := HNZ3.out
       have h4 := hb.size
       show w.heap.size + 1 ≤ Z4.heap.size ∧ w.heap.size + 1 ≤ b ∧ w.heap.size + 1 ≤ ga ∧ w.heap.size + 1 ≤ gu ∧ w.heap.size + 1 ≤ gw ∧ w.heap.size + 1 ≤ bs ∧ b < Z4.heap.size ∧ ga < Z4.heap.size ∧ gu < Z4.heap.size ∧ gw < Z4.heap.size ∧ bs < Z4.heap.size ∧ gu ≠ b ∧ gu ≠ ga ∧ gu ≠ gw ∧ gw ≠ b ∧ gw ≠ ga ∧ bs ≠ b ∧ bs ≠ ga ∧ bs ≠ gu ∧ bs ≠ gw
       omega
      clear hlf hlu hge1 hge2 hb
      try go_wp2_with fail
      refine hK.out _ _ (HSK.out _ HBZ4.out) (fun hHeld => ?_)
      clear hK K
      try simp only [Act.put, zA, zB, zC]
      refine tjr 8 ?_
      simp only [Act.put, zA, zB, zC]
      refine wpAnyH_ready (rs := [9]) (by kernel_rfl) (by simp) ?_
      refine AllReadyH.cons (tA rfl) (fun K hK => ?_) AllReadyH.nil
      ·obtain ⟨bf, hv⟩ : ∃ g, Z4.heap.size = g := ⟨_, rfl⟩
       obtain ⟨Z5, hZn⟩ : ∃ Y, Z4.alloc (.cells #[.pointer (some ⟨b, 0, none⟩), .slice (some ⟨gu, 0, none⟩) T T, .slice (some ⟨gw, 0, none⟩) T T] 81) = Y := ⟨_, rfl⟩
       have hb : Below Z4.heap.size Z4 Z5 := by rw [← hZn]; exact bl1 _ _
       have hsz : Z5.heap.size = Z4.heap.size + 1 := by rw [← hZn]; simp
       have HBZ5 : Hid (Below (w.heap.size + 1) W0 Z5) := HBZ4.out.trans (hb.mono (by have := HNZ4.out; omega))
       have HLF5 : Hid (LfV Z5 b f a n c ga U) := HLF4.out.below hb
       have HTU5 : Hid (TU Z5 gu T (fun _ => F.zero7)) := HTU4.out.move (hb.block _ (by have := HNZ4.out; omega)) hb.size
       have HTW5 : Hid (TW Z5 gw T (List.replicate T 0)) := HTW4.out.move (hb.block _ (by have := HNZ4.out; omega)) hb.size
       have HBS5 : Hid (Bx Z5 bs [.pointer none]) := HBS4.out.below hb
       have HLU5 : Hid (LfU f n U) := HLU4.out
       have HBF5 : Hid (Bx Z5 bf [.pointer (some ⟨b, 0, none⟩), .slice (some ⟨gu, 0, none⟩) T T, .slice (some ⟨gw, 0, none⟩) T T]) := by show Bx _ _ _; rw [← hZn, ← hv]; exact Bx.new Z4 #[.pointer (some ⟨b, 0, none⟩), .slice (some ⟨gu, 0, none⟩) T T, .slice (some ⟨gw, 0, none⟩) T T] _
       have HNZ5 : Hid (w.heap.size + 1 ≤ Z5.heap.size ∧ w.heap.size + 1 ≤ b ∧ w.heap.size + 1 ≤ ga ∧ w.heap.size + 1 ≤ gu ∧ w.heap.size + 1 ≤ gw ∧ w.heap.size + 1 ≤ bs ∧ w.heap.size + 1 ≤ bf ∧ b < Z5.heap.size ∧ ga < Z5.heap.size ∧ gu < Z5.heap.size ∧ gw < Z5.heap.size ∧ bs < Z5.heap.size ∧ bf < Z5.heap.size ∧ gu ≠ b ∧ gu ≠ ga ∧ gu ≠ gw ∧ gu ≠ bf ∧ gw ≠ b ∧ gw ≠ ga ∧ gw ≠ bf ∧ bs ≠ b ∧ bs ≠ ga ∧ bs ≠ bf ∧ bs ≠ gu ∧ bs ≠ gw) := by
        have h3 := HNZ4.out
        show w.heap.size + 1 ≤ Z5.heap.size ∧ w.heap.size + 1 ≤ b ∧ w.heap.size + 1 ≤ ga ∧ w.heap.size + 1 ≤ gu ∧ w.heap.size + 1 ≤ gw ∧ w.heap.size + 1 ≤ bs ∧ w.heap.size + 1 ≤ bf ∧ b < Z5.heap.size ∧ ga < Z5.heap.size ∧ gu < Z5.heap.size ∧ gw < Z5.heap.size ∧ bs < Z5.heap.size ∧ bf < Z5.heap.size ∧ gu ≠ b ∧ gu ≠ ga ∧ gu ≠ gw ∧ gu ≠ bf ∧ gw ≠ b ∧ gw ≠ ga ∧ gw ≠ bf ∧ bs ≠ b ∧ bs ≠ ga ∧ bs ≠ bf ∧ bs ≠ gu ∧ bs ≠ gw
        omega
       have HV : Hid (Z4.heap.size = bf) := hv
       have HZN : Hid (Z4.alloc (.cells #[.pointer (some ⟨b, 0, none⟩), .slice (some ⟨gu, 0, none⟩) T T, .slice (some ⟨gw, 0, none⟩) T T] 81) = Z5) := hZn
       clear hb hsz hv hZn
       go_simp
       rw [HZN.out, HV.out]
       clear HV HZN
       refine hK.out _ _ (HSK.out _ HBZ5.out) (fun hHeld => ?_)
       clear hK K
       try simp only [Act.put, zA, zB, zC]
       refine HTL b gu gw bf bs Z5 ⟨ga, U, HLU5.out, ⟨HBW.out _ HBZ5.out, HLF5.out, ?_, ?_, ?_, ?_, ?_⟩, HBS5.out, HBZ5.out, ?_⟩
       ·rw [HT.out]; exact HBF5.out
       ·rw [HT.out]; exact HTU5.out
       ·rw [HT.out]; exact HTW5.out
       ·have := HNZ5.out; omega
       ·have := HNZ5.out; omega
       ·have := HNZ5.out; omega
 case tail =>
  rintro b gu gw bf bs W ⟨ga, U, hlu, hfn, hbs, hbw, hn⟩
  clear HNL HB0 HS0 HBZ0 HNZ0 hHeld
  obtain ⟨N, hN⟩ : ∃ N, W.heap.size = N := ⟨_, rfl⟩
  have hbl := hbs.lt
  rw [hN] at hfn hbl
  have HNB : Hid (bs < N ∧ w.heap.size + 1 ≤ bs ∧ bs ≠ b ∧ bs ≠ ga ∧ bs ≠ bf ∧ bs ≠ gu ∧ bs ≠ gw) := ⟨hbl, hn⟩
  have g0 := hbs.c 0 _ rfl
  have f0 := hbs.f 0
  obtain ⟨W1, hW1⟩ : ∃ W1, W.setCell ⟨bs, 0, none⟩ (.pointer (some ⟨bf, 0, none⟩)) = W1 := ⟨_, rfl⟩
  have HF1 : Hid (FnV w N b bf ga gu gw f a n c U (fun _ => F.zero7) (List.replicate f.temps.toNat 0) W1 ∧ Bx W1 bs [.pointer (some ⟨bf, 0, none⟩)]) := by
   show _ ∧ _
   rw [← hW1]
   exact ⟨hfn.far ⟨hn.2.1, hn.2.2.2.1, hn.2.2.1, hn.2.2.2.2.1, hn.2.2.2.2.2⟩ (by omega) _ HO.out HE.out, hbs.put 0 (by simp) (.pointer (some ⟨bf, 0, none⟩))⟩
  have HS1 : Hid _ := HSK.out W1 (by rw [← hW1]; exact hbw.setCell (p := ⟨bs, 0, none⟩) hn.1 _)
  have HLU : Hid (LfU f n U) := hlu
  clear hfn hbs hn hlu hN hbl hbw HSK HBW
  refine wpAnyH_ready (rs := [11]) (by kernel_rfl) (by simp) ?_
  refine AllReadyH.cons (tA rfl) (fun K hK => ?_) AllReadyH.nil
  go_simp
  try rw [hW1]
  refine hK.out _ _ HS1.out (fun hHeld => ?_)
  clear hK K
  try simp only [Act.put, zA, zB, zC]
  refine wpAnyH_done (by kernel_rfl) ?_ _
  clear hHeld hW1 g0 f0 HS1
  have c0 := HF1.out.2.c 0 _ rfl
  have c1 := HF1.out.1.bx.c 0 _ rfl
  have HAP : Hid _ := apart_any b W1
  gi_wp2
  refine ⟨trivial, (callsIn_wide.2 HAP.out).mono ?_⟩
  rintro e y ⟨rfl, rfl⟩
  clear HAP c0 c1
  obtain ⟨pp, hpp⟩ : ∃ pp, F.doneP f U n = pp := ⟨_, rfl⟩
  have HPP : Hid (F.doneP f U n = pp) := hpp
  have HPI : Hid (∀ (k : Nat) (p : Int × Int), pp[k]? = some p → (0 ≤ p.1 ∧ p.1 < T) ∧ (0 ≤ p.2 ∧ p.2 < T)) := fun k p hk => by
   have h1 := F.pair_in HLU.out (p := p) (by rw [hpp]; exact List.mem_of_getElem? hk)
   have h2 := HT.out
   omega
  have HPG : Hid (∀ Bp, Goes Tryd.prog 60 #[.pointer (some ⟨Bp, 0, none⟩)] (fun z : Int × Int => #[.agg #[.int .i64 z.1, .int .i64 z.2]]) pp (ApRd Bp b f a n c ga U)) := fun Bp => by rw [← hpp]; exact apart_goes HLU.out
  clear hpp
  obtain ⟨W2, hW2⟩ : ∃ W2, W1.alloc (.cells #[.pointer (some ⟨b, 0, none⟩)] 47) = W2 := ⟨_, rfl⟩
  have hb2 : Below W1.heap.size W1 W2 := by rw [← hW2]; exact bl1 _ _
  have hx2 := Bx.new W1 #[.pointer (some ⟨b, 0, none⟩)] 47
  rw [hW2] at hx2
  obtain ⟨Bp, hBp⟩ : ∃ Bp, W1.heap.size = Bp := ⟨_, rfl⟩
  have HS2 : Hid (W2.heap.size = Bp + 1 ∧ N ≤ Bp) := ⟨by rw [← hW2]; simp [hBp], by rw [← hBp]; exact HF1.out.1.top.2.2.2.2.2.2⟩
  have HF2 : Hid (FnV w N b bf ga gu gw f a n c U (fun _ => F.zero7) (List.replicate f.temps.toNat 0) W2 ∧ Bx W2 Bp [.pointer (some ⟨b, 0, none⟩)] ∧ Bx W2 bs [.pointer (some ⟨bf, 0, none⟩)]) :=
   ⟨HF1.out.1.below hb2 HO.out HE.out, by rw [← hBp]; exact hx2, HF1.out.2.below hb2⟩
  rw [hBp] at hb2 ⊢
  have HW2 : Hid _ := hW2
  clear hb2 hx2 hBp hW2 HF1
  gi_wp2
  rw [HW2.out]
  clear HW2
  refine range_a3 (β := Int × Int) (gf := 60) (lb := #[.pointer (some ⟨Bp, 0, none⟩)]) 86 (fun z => .int .i64 z.1) (fun z => .int .i64 z.2) (HPG.out Bp) rfl (enters_of Tryd.func60 (by kernel_rfl) rfl)
   (fun m W' => W2.heap.size ≤ W'.heap.size ∧ FnV w N b bf ga gu gw f a n c U (F.unS (pp.take m)) (List.replicate f.temps.toNat 0) W' ∧ Bx W' Bp [.pointer (some ⟨b, 0, none⟩)] ∧ Bx W' bs [.pointer (some ⟨bf, 0, none⟩)])
   (fun W' => False) .ret ?a2 (fun _ => rfl) (fun _ _ h => h.1) ?assign2 ?I2 ?Ix2 ?rd2 ?start2 ?body2 ?done2 ?stop2
  case assign2 =>
   intro lo sb z W' K hsb hK
   gi_wp2
   exact hK
  case I2 =>
   rintro m A B ⟨h1, h2, h3, h4⟩ hB
   have hs := HS2.out
   have hn := HNB.out
   exact ⟨Nat.le_trans h1 hB.size, h2.bel hB (by omega) HO.out HE.out, h3.bel hB (by omega), h4.bel hB (by omega)⟩
  case Ix2 =>
   rintro A B h hB
   exact h
  case rd2 =>
   rintro m A ⟨h1, h2, h3, h4⟩
   exact ⟨h3.c 0 _ rfl, h2.lf⟩
  case start2 => exact ⟨Nat.le_refl _, HF2.out.1, HF2.out.2.1, HF2.out.2.2⟩
  case stop2 =>
   rintro D2 W' hD2 h hK
   exact h.elim
  case body2 =>
   rintro lo m b7 z W' hk ⟨hsz, hA, hbp, hbs⟩ hb7 hx7 hl1 hl2 -
   have HKZ : Hid (pp[m]? = some z) := hk
   obtain ⟨⟨z0, z1⟩, z2, z3⟩ := HPI.out m z hk
   obtain ⟨o1, ho1⟩ : ∃ o1 : Nat, z.1 = o1 := ⟨z.1.toNat, by omega⟩
   obtain ⟨o2, ho2⟩ : ∃ o2 : Nat, z.2 = o2 := ⟨z.2.toNat, by omega⟩
   have HZ1 : Hid (z.1 = o1) := ho1
   have HZ2 : Hid (z.2 = o2) := ho2
   have hq1 : o1 < T := by omega
   have hq2 : o2 < T := by omega
   have hqi1 : (o1 : Int) < T := by omega
   have hqi2 : (o2 : Int) < T := by omega
   obtain ⟨u0, hu0⟩ : ∃ u0, F.unS (pp.take m) = u0 := ⟨_, rfl⟩
   have HU7_1 : Hid (∀ t, F.Set7 (u0 t)) := by show ∀ t, _; rw [← hu0]; exact F.unS_s7 _
   have HUN : Hid (F.unS (pp.take (m + 1)) = F.upd1 (F.upd1 u0 o1 o2) o2 o1) := by
    show _ = _
    rw [F.unS_take pp hk, hu0]
    unfold F.addP
    rw [ho1, ho2, Int.toNat_natCast, Int.toNat_natCast]
   rw [hu0] at hA
   have HF1 : Hid (FnV w N b bf ga gu gw f a n c U u0 (List.replicate f.temps.toNat 0) W' ∧ Bx W' Bp [.pointer (some ⟨b, 0, none⟩)] ∧ Bx W' bs [.pointer (some ⟨bf, 0, none⟩)] ∧ Bx W' b7 [.int .i64 z.1, .int .i64 z.2]) := ⟨hA, hbp, hbs, hx7⟩
   have HNE : Hid (Bp ≠ gu ∧ bs ≠ gu ∧ b7 ≠ gu ∧ gu < N ∧ W2.heap.size ≤ W'.heap.size ∧ N ≤ W2.heap.size ∧ bs < N) := by
    have h1 := HS2.out
    have h2 := HNB.out
    have h3 := hA.top
    show _ ∧ _
    omega
   clear hk z0 z1 z2 z3 ho1 ho2 hu0 hA hbp hbs hx7 hsz hb7 hl1 hl2 HF2
   have HSS1 : Hid (W'.drew.cell? ⟨bs, 0, none⟩ = some (.pointer (some ⟨bf, 0, none⟩)) ∧ W'.drew.cell? ⟨bf, 1, none⟩ = some (.slice (some ⟨gu, 0, none⟩) T T) ∧ W'.drew.cell? ⟨b7, 0, none⟩ = some (.int .i64 o1) ∧ W'.drew.cell? ⟨b7, 1, none⟩ = some (.int .i64 o2)) := by
    have h1 := HF1.out.1.bx.c 1 _ rfl
    have h2 := HF1.out.2.2.2
    have h3 := h2.c 0 _ rfl
    have h4 := h2.c 1 _ rfl
    rw [HZ1.out] at h3
    rw [HZ2.out] at h4
    rw [HT.out] at h1
    exact ⟨HF1.out.2.2.1.c 0 _ rfl, h1, h3, h4⟩
   gi_wp2
   refine region_round (S := (fun w' : World => w'.cell? ⟨bs, 0, none⟩ = some (.pointer (some ⟨bf, 0, none⟩)) ∧ w'.cell? ⟨bf, 1, none⟩ = some (.slice (some ⟨gu, 0, none⟩) T T) ∧ w'.cell? ⟨b7, 0, none⟩ = some (.int .i64 o1) ∧ w'.cell? ⟨b7, 1, none⟩ = some (.int .i64 o2))) (by kernel_rfl) (by kernel_rfl) (by rintro ⟨_, _, h⟩; exact h) HSS1.out (fun hHeld => ?_)
   refine tjr 0 ?_
   simp only [Act.put, zA, zB, zC]
   refine tjr 1 ?_
   simp only [Act.put, zA, zB, zC]
   refine tjr 2 ?_
   simp only [Act.put, zA, zB, zC]
   refine tjr 3 ?_
   simp only [Act.put, zA, zB, zC]
   refine tjr 4 ?_
   simp only [Act.put, zA, zB, zC]
   refine tjr 5 ?_
   simp only [Act.put, zA, zB, zC]
   refine tjr 6 ?_
   simp only [Act.put, zA, zB, zC]
   refine tjr 7 ?_
   simp only [Act.put, zA, zB, zC]
   refine tjr 8 ?_
   simp only [Act.put, zA, zB, zC]
   refine wpAnyH_ready (rs := [9]) (by kernel_rfl) (by simp) ?_
   refine AllReadyH.cons (tA rfl) (fun K hK => ?_) AllReadyH.nil
   clear hHeld
   go_simp
   refine Calls.mono (add_at (HF1.out.1.bel (Below.refl _ _).drew (Nat.le_refl _) HO.out HE.out).tu (HU7_1.out) (t := o1) (o := o2) (by rw [HT.out]; exact hq1) (by have := hq2; omega)) ?_
   rintro e Y1 ⟨rfl, htu, hup⟩
   have HF2 : Hid (FnV w N b bf ga gu gw f a n c U (F.upd1 u0 o1 o2) (List.replicate f.temps.toNat 0) Y1 ∧ Bx Y1 Bp [.pointer (some ⟨b, 0, none⟩)] ∧ Bx Y1 bs [.pointer (some ⟨bf, 0, none⟩)] ∧ Bx Y1 b7 [.int .i64 z.1, .int .i64 z.2] ∧ Y1.heap.size = W'.heap.size ∧ Abv N W' Y1) := by
    have hn := HNE.out
    refine ⟨(HF1.out.1.bel (Below.refl _ _).drew (Nat.le_refl _) HO.out HE.out).add hup htu HO.out HE.out, HF1.out.2.1.drew.upd hup (by omega), HF1.out.2.2.1.drew.upd hup (by omega), HF1.out.2.2.2.drew.upd hup (by omega), hup.size, ?_⟩
    exact (Abv.drew _).trans (Abv.upd hup (by omega))
   have HU7_2 : Hid (∀ t, F.Set7 (F.upd1 u0 o1 o2 t)) := F.upd1_s7 HU7_1.out _ _
   clear htu hup
   refine hK.out _ _ ?hs1 (fun hHeld => ?_)
   case hs1 =>
    have h1 := HF2.out.1.bx.c 1 _ rfl
    have h2 := HF2.out.2.2.2.1
    have h3 := h2.c 0 _ rfl
    have h4 := h2.c 1 _ rfl
    rw [HZ1.out] at h3
    rw [HZ2.out] at h4
    rw [HT.out] at h1
    exact ⟨HF2.out.2.2.1.c 0 _ rfl, h1, h3, h4⟩
   clear hK K
   try simp only [Act.put, zA, zB, zC]
   refine wpAnyH_done (by kernel_rfl) ?_ _
   clear hHeld HSS1
   have HSS2 : Hid (Y1.drew.cell? ⟨bs, 0, none⟩ = some (.pointer (some ⟨bf, 0, none⟩)) ∧ Y1.drew.cell? ⟨bf, 1, none⟩ = some (.slice (some ⟨gu, 0, none⟩) T T) ∧ Y1.drew.cell? ⟨b7, 0, none⟩ = some (.int .i64 o1) ∧ Y1.drew.cell? ⟨b7, 1, none⟩ = some (.int .i64 o2)) := by
    have h1 := HF2.out.1.bx.c 1 _ rfl
    have h2 := HF2.out.2.2.2.1
    have h3 := h2.c 0 _ rfl
    have h4 := h2.c 1 _ rfl
    rw [HZ1.out] at h3
    rw [HZ2.out] at h4
    rw [HT.out] at h1
    exact ⟨HF2.out.2.2.1.c 0 _ rfl, h1, h3, h4⟩
   gi_wp2
   refine region_round (S := (fun w' : World => w'.cell? ⟨bs, 0, none⟩ = some (.pointer (some ⟨bf, 0, none⟩)) ∧ w'.cell? ⟨bf, 1, none⟩ = some (.slice (some ⟨gu, 0, none⟩) T T) ∧ w'.cell? ⟨b7, 0, none⟩ = some (.int .i64 o1) ∧ w'.cell? ⟨b7, 1, none⟩ = some (.int .i64 o2))) (by kernel_rfl) (by kernel_rfl) (by rintro ⟨_, _, h⟩; exact h) HSS2.out (fun hHeld => ?_)
   refine tjr 0 ?_
   simp only [Act.put, zA, zB, zC]
   refine tjr 1 ?_
   simp only [Act.put, zA, zB, zC]
   refine tjr 2 ?_
   simp only [Act.put, zA, zB, zC]
   refine tjr 3 ?_
   simp only [Act.put, zA, zB, zC]
   refine tjr 4 ?_
   simp only [Act.put, zA, zB, zC]
   refine tjr 5 ?_
   simp only [Act.put, zA, zB, zC]
   refine tjr 6 ?_
   simp only [Act.put, zA, zB, zC]
   refine tjr 7 ?_
   simp only [Act.put, zA, zB, zC]
   refine tjr 8 ?_
   simp only [Act.put, zA, zB, zC]
   refine wpAnyH_ready (rs := [9]) (by kernel_rfl) (by simp) ?_
   refine AllReadyH.cons (tA rfl) (fun K hK => ?_) AllReadyH.nil
   clear hHeld
   go_simp
   refine Calls.mono (add_at (HF2.out.1.bel (Below.refl _ _).drew (Nat.le_refl _) HO.out HE.out).tu (HU7_2.out) (t := o2) (o := o1) (by rw [HT.out]; exact hq2) (by have := hq1; omega)) ?_
   rintro e Y2 ⟨rfl, htu, hup⟩
   have HF3 : Hid (FnV w N b bf ga gu gw f a n c U (F.upd1 (F.upd1 u0 o1 o2) o2 o1) (List.replicate f.temps.toNat 0) Y2 ∧ Bx Y2 Bp [.pointer (some ⟨b, 0, none⟩)] ∧ Bx Y2 bs [.pointer (some ⟨bf, 0, none⟩)] ∧ Bx Y2 b7 [.int .i64 z.1, .int .i64 z.2] ∧ Y2.heap.size = Y1.heap.size ∧ Abv N Y1 Y2) := by
    have hn := HNE.out
    refine ⟨(HF2.out.1.bel (Below.refl _ _).drew (Nat.le_refl _) HO.out HE.out).add hup htu HO.out HE.out, HF2.out.2.1.drew.upd hup (by omega), HF2.out.2.2.1.drew.upd hup (by omega), HF2.out.2.2.2.1.drew.upd hup (by omega), hup.size, ?_⟩
    exact (Abv.drew _).trans (Abv.upd hup (by omega))
   have HU7_3 : Hid (∀ t, F.Set7 (F.upd1 (F.upd1 u0 o1 o2) o2 o1 t)) := F.upd1_s7 HU7_2.out _ _
   clear htu hup
   refine hK.out _ _ ?hs2 (fun hHeld => ?_)
   case hs2 =>
    have h1 := HF3.out.1.bx.c 1 _ rfl
    have h2 := HF3.out.2.2.2.1
    have h3 := h2.c 0 _ rfl
    have h4 := h2.c 1 _ rfl
    rw [HZ1.out] at h3
    rw [HZ2.out] at h4
    rw [HT.out] at h1
    exact ⟨HF3.out.2.2.1.c 0 _ rfl, h1, h3, h4⟩
   clear hK K
   try simp only [Act.put, zA, zB, zC]
   refine wpAnyH_done (by kernel_rfl) ?_ _
   clear hHeld HSS2
   gi_wp2
   have hne := HNE.out
   have hs1 := HF2.out.2.2.2.2.1
   have hs2 := HF3.out.2.2.2.2.1
   refine ⟨(HF2.out.2.2.2.2.2.mono (by omega)).trans (HF3.out.2.2.2.2.2.mono (by omega)), by omega, ?_, HF3.out.2.1, HF3.out.2.2.1⟩
   rw [HUN.out]
   exact HF3.out.1
  case done2 =>
   rintro D2 W' hD2 ⟨h1, h2, h3, h4⟩ hK
   have HK : Hid (W'.heap[D2]? = some (.deferred (some []))) := hK
   rw [List.take_length] at h2
   have H2 : Hid (FnV w N b bf ga gu gw f a n c U (F.unS pp) (List.replicate f.temps.toNat 0) W') := h2
   have c4 := h4.c 0 _ rfl
   clear h1 h2 h3 h4 hK
   gi_wp2
   have hs := HS2.out
   refine ⟨by simp, .inl ⟨_, _, rfl, run_takeDeferred HK.out, ?_⟩⟩
   refine ⟨.pointer (some ⟨bf, 0, none⟩), ?_, N, b, bf, ga, gu, gw, U, rfl, ?_, HLU.out⟩
   ·simp [results, Tryd.results30, go_sem]
   ·rw [HPP.out]
    exact H2.out.bel (below_put _ _ (by omega)) (Nat.le_refl N) HO.out HE.out
end Go.Proofs.YtljgpngbkmembaaDoor
