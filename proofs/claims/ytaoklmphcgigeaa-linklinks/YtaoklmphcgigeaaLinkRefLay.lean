/- What the document's Lay comes to. -/
import Derived.Test.YtaoklmphcgigeaaLinkObjRow
import Derived.Deep.RegionLaw
import Derived.Deep.RegionHeld3
namespace Go.Proofs.Ytaoklmphcgigeaa
open Go.RowKit Go.Lib
set_option linter.unusedVariables false
set_option linter.unusedSimpArgs false

theorem step_append_more {ops : Array Oper} {o : Oper} {ac : Act} {w : World} {K : Act → World → Prop} {Q : Exit → Act → World → Prop} {E : Prop} (hgd : o.guard = none) (s x : Operand) (t : TypeId)
    (ho : o.op = .call { callee := .builtin .append, args := #[s, x], argTypes := #[t, t] }) (B : Nat) (e : TypeId) (i0 : TypeInfo) (z : Value) (size bytes : Nat) (ht : Try.prog.underlying t = some (.slice e)) (hi : Try.prog.info? e = some i0) (hz : i0.zero = some z) (hsize : i0.size = size) (hby : i0.bytes = bytes) (hzs : z.cells.size = size) (hsz : 0 < size)
    {v : Value} {n : Nat} {xs : List Value} (hs : ac.eval s = v) (hown : w.ownsRow B e size v n xs) (hB : B ≤ w.heap.size)
    {a : Option Addr} {l c : Nat} {cs : List Value} (hx : ac.eval x = .slice a l c) (hnil : a = none → l = 0 ∧ c = 0) (hlen : cs.length = l * size) (hcells : ∀ ad, a = some ad → ∀ j u, cs[j]? = some u → w.cell? (ad.add j) = some u) (h1 : ∀ u ∈ cs, u.oneCell' = true) (hb : (n + l) * bytes ≤ 140737488355328) (hm : n + l ≤ 140737488355328)
    (hk : ∀ v' w', w'.ownsRow B e size v' (n + l) (xs ++ cs) → w.grownBy w' v.ownBlock → (∀ g, v'.ownBlock = some g → v.ownBlock = some g ∨ w.heap.size ≤ g) → K (ac.put o.dst v') w') : if Region.wanted o (yielded ops ac.tmps) = true then Oper.wp Try.prog o ac w K Q else E := by
  have hw : Region.wanted o (yielded ops ac.tmps) = true := by simp [Region.wanted, hgd]
  rw [if_pos hw]
  obtain ⟨v', w', hr, h2, h3, h4⟩ := run_append_more w B t e i0 z size bytes ht hi hz hsize hby hzs hsz hown hB hnil hlen hcells h1 hb hm o.type
  unfold Oper.wp execOp
  simp only [ho, resolve, invoke, builtin, Sem.run_bind, Sem.run_pure, Result.andThen_ok, List.map_toArray, List.map_cons, List.map_nil, hs, hx, hr]
  exact hk v' w' h2 h3 h4
/-- All code, one behind the other. -/
def cat (os : List ObjD) : ByteArray := os.foldl (fun c o => c ++ o.code) { data := #[] }
theorem cat_take {os : List ObjD} {k : Nat} {d : ObjD} (hk : os[k]? = some d) : cat (os.take (k + 1)) = cat (os.take k) ++ d.code := by
  obtain ⟨hlt, e⟩ := List.getElem?_eq_some_iff.1 hk
  unfold cat
  rw [List.take_succ_eq_append_getElem hlt, List.foldl_append, e]
  rfl
theorem cat_size : ∀ (os : List ObjD) (c : ByteArray) (z : L.Sz), c.size = z.b → (os.foldl (fun c o => c ++ o.code) c).size = (os.foldl L.grow z).b
  | [], c, z, h => h
  | o :: os, c, z, h => by
    simp only [List.foldl_cons]
    exact cat_size os _ _ (by rw [ByteArray.size_append, h]; rfl)
theorem cat_len (os : List ObjD) : (cat os).size = (L.sizes os).b := cat_size os _ L.zero rfl
theorem IS.code {x y : World} {code : ByteArray} {v1 v2 : Value} {ds : List Int} {ss : List Sym} {more : List (Nat × List Value)} (h : IS x y code v1 v2 ds ss more) (c : ByteArray) : IS x (y.setCell ⟨x.heap.size + 1, 0, none⟩ (.string c)) c v1 v2 ds ss more := by
  have h2 := BS.put h 0 (x.heap.size + 1) _ rfl 0 (by simp) (.string c)
  unfold IS
  simpa using h2

set_option maxRecDepth 100000 in
set_option maxHeartbeats 8000000 in
theorem rlay_any {w : World} {a : Option Addr} {l c : Nat} {os : List ObjD} (h : ObjsV w a l c os) (hl : l ≤ 16) (hmay : ∀ o ∈ os, o.may = true) :
    Calls Try.prog 26 #[.slice a l c] w fun e w' => ∃ v1 v2, e = .returned (.agg #[.string (cat os), v1, v2]) ∧ ImgR w w' v1 v2 (datas os) (L.syms os) := by
  obtain ⟨i1, hi1, hz10, hz11, hz12⟩ := info_partsL infoI
  obtain ⟨i2, hi2, hz20, hz21, hz22⟩ := info_partsL infoS
  have HV : Hid _ := h
  have HM : Hid _ := hmay
  have hcnt := h.count
  clear h hmay
  obtain ⟨X2, hX2⟩ : ∃ X, (w.alloc (.cells #[.string { data := #[] }, .slice none 0 0, .slice none 0 0] 29)).alloc (.cells #[.string { data := #[] }, .slice none 0 0, .slice none 0 0] 29) = X := ⟨_, rfl⟩
  have HI0 : Hid (IS w X2 { data := #[] } (.slice none 0 0) (.slice none 0 0) [] [] []) := by subst hX2; exact IS.start w _
  go_enter Try.func26, Try.ntmps26
  go_wp2_with fail
  clear hX2
  go_loopg [4] l (fun r iv wq => ∃ (k : Nat) (v1 v2 : Value), iv = .int .i64 k ∧ k ≤ l ∧ l - k ≤ r ∧ Hid (IS w wq (cat (os.take k)) v1 v2 (datas (os.take k)) (L.syms (os.take k)) []))
  case atStart => exact ⟨0, _, _, rfl, Nat.zero_le _, by omega, HI0.out⟩
  case round =>
    obtain ⟨k, v1, v2, rfl, hk, hr, HI⟩ := hrel
    obtain ⟨d1, g1, d2, g2, rfl, rfl⟩ := HI.out.sl
    by_cases hlt : k < l
    · obtain ⟨d, hdk⟩ : ∃ d, os[k]? = some d := ⟨os[k]'(by omega), by simp⟩
      have hg : os.getD k noObj = d := by simp [List.getD, hdk]
      rcases HV.out.cells with h0 | ⟨ob, off, hA, hc⟩
      · omega
      obtain ⟨s, hC, hO⟩ := hc k hlt
      rw [hg] at hC hO
      have hmd : d.may = true := HM.out d (List.mem_of_getElem? hdk)
      have HDT : Hid _ := datas_take hdk
      have HST : Hid _ := syms_take hdk
      have HCT : Hid _ := cat_take hdk
      have hsz := sizes_le (os.take k) L.zero (fun o ho => HM.out o (List.mem_of_mem_take ho))
      have hszz : (L.sizes (os.take k)).b ≤ 1048576 ∧ (L.sizes (os.take k)).d ≤ 65536 ∧ (L.sizes (os.take k)).s ≤ 16000 := by
        have hl' : (os.take k).length ≤ 16 := by rw [List.length_take]; omega
        have z1 : L.zero.b = 0 := rfl
        have z2 : L.zero.d = 0 := rfl
        have z3 : L.zero.s = 0 := rfl
        unfold L.sizes
        omega
      have hdl : (datas (os.take k)).length = (L.sizes (os.take k)).d := by
        have h1 := datas_len (os.take k) L.zero
        have z2 : L.zero.d = 0 := rfl
        have e1 : ((os.take k).foldl L.grow L.zero) = L.sizes (os.take k) := rfl
        rw [e1] at h1
        omega
      have hsl : (L.syms (os.take k)).length ≤ 16000 := by rw [syms_len]; exact hszz.2.2
      have hcl : (cat (os.take k)).size = (L.sizes (os.take k)).b := cat_len _
      have HMM : Hid _ := may_sizes hmd
      have h1c := hO.ints.count
      have h2c := hO.syms.count
      have hcz := (may_sizes hmd).1
      have hl1 : s.l1 ≤ 4096 := by have := (may_sizes hmd).2.1; omega
      have hl2 : s.l2 ≤ 1000 := by have := (may_sizes hmd).2.2.1; omega
      obtain ⟨z, hz⟩ : ∃ z, L.sizes (os.take k) = z := ⟨_, rfl⟩
      obtain ⟨D, hD⟩ : ∃ D, datas (os.take k) = D := ⟨_, rfl⟩
      obtain ⟨S, hS⟩ : ∃ S, L.syms (os.take k) = S := ⟨_, rfl⟩
      obtain ⟨CC, hCC⟩ : ∃ CC, cat (os.take k) = CC := ⟨_, rfl⟩
      rw [hz] at hszz hdl hcl HST
      rw [hD] at hdl HI HDT
      rw [hS] at hsl HI HST
      rw [hCC] at hcl HI HCT
      obtain ⟨a1, l1, c1, a2, l2, c2, a3, l3, c3⟩ := s
      simp only at hl1 hl2 h1c h2c
      subst hA
      have HOC : Hid (∀ y : World, Below w.heap.size w y → y.cell? ⟨ob, off + k * 4, none⟩ = some (.string d.code) ∧ y.cell? ⟨ob, off + k * 4 + 1, none⟩ = some (.slice a1 l1 c1) ∧ y.cell? ⟨ob, off + k * 4 + 2, none⟩ = some (.slice a2 l2 c2)) := fun y hb => ⟨cell_thru hb hC.k0, cell_thru hb hC.k1, cell_thru hb hC.k2⟩
      have HO : Hid _ := hO
      have hin : 0 ≤ (k : Int) := by omega
      have hii : (k : Int) < l := by omega
      have HDL : Hid _ := hdl
      have HCL : Hid _ := hcl
      have hDb : D.length ≤ 65536 := by omega
      have hCb : CC.size ≤ 1048576 := by omega
      clear hc hg hdk hmd hC hO hz hD hS hCC hsz hdl hcl
      generalize wr = U at *
      go_wp2_with fail
      go_loopg [5] l2 (fun r jv wq => ∃ (j : Nat) (v2' : Value), jv = .int .i64 j ∧ j ≤ l2 ∧ l2 - j ≤ r ∧ Hid (IS w wq CC (.slice d1 D.length g1) v2' D (S ++ (d.syms.take j).map (L.moved z)) []))
      case atStart => exact ⟨0, _, rfl, Nat.zero_le _, by omega, (by simpa using HI.out : IS w U CC (.slice d1 D.length g1) (.slice d2 S.length g2) D (S ++ (d.syms.take 0).map (L.moved z)) [])⟩
      case round =>
        obtain ⟨j, v2', rfl, hj, hr2, HJ⟩ := hrel
        obtain ⟨e0, f0, e2, g2', hv1', rfl⟩ := HJ.out.sl
        have lowr : Below w.heap.size w wr := BS.low HJ.out
        have o2 := (HOC.out wr lowr).2.2
        by_cases hjl : j < l2
        · rcases HO.out.syms.cells with h0 | ⟨sb, so, hA2, hc2⟩
          · simp only at h0
            omega
          simp only at hA2 hc2
          obtain ⟨n0, n1, n2⟩ := hc2 j hjl
          have n0 := cell_thru lowr n0
          have n1 := cell_thru lowr n1
          have n2 := cell_thru lowr n2
          have hmem : d.syms.getD j noSym ∈ d.syms := by simp [List.getD, show j < d.syms.length by omega]
          have hpos := HMM.out.2.2.2.2 _ hmem
          have HTK : Hid _ := @take_moved d.syms z j (by omega)
          obtain ⟨y, hy⟩ : ∃ y, d.syms.getD j noSym = y := ⟨_, rfl⟩
          rw [hy] at n0 n1 n2 hpos HTK
          obtain ⟨ny, ky, py⟩ := y
          simp only at n0 n1 n2 hpos
          obtain ⟨SS, hSS⟩ : ∃ SS, S ++ (d.syms.take j).map (L.moved z) = SS := ⟨_, rfl⟩
          have hssl : SS.length ≤ 17000 := by
            rw [← hSS, List.length_append, List.length_map, List.length_take]
            omega
          rw [hSS] at HJ
          have HTS : Hid (S ++ (d.syms.take (j + 1)).map (L.moved z) = SS ++ [L.moved z ⟨ny, ky, py⟩]) := by
            show _ = _
            rw [HTK.out, ← List.append_assoc, hSS]
          subst hA2
          have hjj : (j : Int) < l2 := by omega
          have hjn : 0 ≤ (j : Int) := by omega
          clear hc2 hy hmem hv1' hSS HTK
          by_cases hk2 : ky = 2
          · subst hk2
            have HMV : Hid (L.moved z ⟨ny, 2, py⟩ = ⟨ny, 2, py + (D.length : Int)⟩) := by show _ = _; unfold L.moved; rw [if_pos rfl, HDL.out]
            obtain ⟨Y4, hY4⟩ : ∃ Y, wr.alloc (.cells #[.string ny, .int .i64 2, .int .i64 (py + (D.length : Int))] 36) = Y := ⟨_, rfl⟩
            have bY4 : Below wr.heap.size wr Y4 := by subst hY4; exact bl_one _ _
            have s0 : Y4.cell? ⟨wr.heap.size, 0, none⟩ = some (.string ny) := by subst hY4; exact cell_last rfl rfl
            have s1 : Y4.cell? ⟨wr.heap.size, 1, none⟩ = some (.int .i64 2) := by subst hY4; exact cell_last rfl rfl
            have s2 : Y4.cell? ⟨wr.heap.size, 2, none⟩ = some (.int .i64 (py + (D.length : Int))) := by subst hY4; exact cell_last rfl rfl
            obtain ⟨Y5, hY5⟩ : ∃ Y, Y4.alloc (.cells #[.string ny, .int .i64 2, .int .i64 (py + (D.length : Int))] 36) = Y := ⟨_, rfl⟩
            have bY5 : Below Y4.heap.size Y4 Y5 := by subst hY5; exact bl_one _ _
            have HE5 : Hid (IS w Y5 CC (.slice d1 D.length g1) (.slice e2 SS.length g2') D SS []) := by
              have h1 := HJ.out.below bY4
              exact h1.below bY5
            have c2' := (HJ.out.below bY4).cell.1.2.2
            have c0a : ∀ o : Obj, (wr.alloc o).cell? ⟨w.heap.size + 1, 0, none⟩ = some (.string CC) := fun o => (HJ.out.below (bl_one wr o)).cell.1.1
            have c1a : ∀ o : Obj, (wr.alloc o).cell? ⟨w.heap.size + 1, 1, none⟩ = some (.slice d1 D.length g1) := fun o => (HJ.out.below (bl_one wr o)).cell.1.2.1
            have HNC : Hid (∀ ad, some (⟨Y4.heap.size, 0, none⟩ : Addr) = some ad → ∀ j u, (symC ⟨ny, 2, py + (D.length : Int)⟩)[j]? = some u → Y5.cell? (ad.add j) = some u) := fun ad e j u hu => by
              cases e
              rw [Addr.add_lit, Nat.zero_add]
              subst hY5
              exact cell_last rfl (by simpa [symC] using hu)
            have HOW : Hid (Y5.ownsRow w.heap.size 36 3 (.slice e2 SS.length g2') SS.length (SS.flatMap symC)) := BS.own HE5.out 0 _ rfl
            have hwY := (BS.low HE5.out).size
            go_wp2_with (first | (at_builtin; refine wpList_append_more rfl _ _ 27 rfl w.heap.size 36 i2 _ 3 32 Try.underlying27 hi2 hz20 hz21 hz22 rfl (by decide) (v := .slice e2 SS.length g2') rfl HOW.out hwY (a := some ⟨Y4.heap.size, 0, none⟩) (l := 1) (c := 1) (cs := symC ⟨ny, 2, py + (D.length : Int)⟩) rfl (by intro e; cases e) rfl HNC.out (by intro u hu; simp [symC] at hu; rcases hu with rfl | rfl | rfl <;> rfl) (by omega) (by omega) ?_) | go_in)
            intro v3 x3 ho3 hg3 hat3
            obtain ⟨e3, f3, rfl⟩ := own_slice ho3
            have nb2 : (Value.slice e2 SS.length g2').ownBlock ≠ some (w.heap.size + 1) := BS.far HE5.out 0 0 _ _ rfl rfl
            have m6 : x3.cell? ⟨w.heap.size + 1, 2, none⟩ = some (.slice e2 SS.length g2') := hg3.cell HE5.out.cell.1.2.2 (fun e => nb2 e.symm)
            have z6 : x3.frozen? ⟨w.heap.size + 1, 2, none⟩ = false := (hg3.frozen_far ⟨w.heap.size + 1, 2, none⟩ HE5.out.cell.2.2 (fun e => nb2 e.symm)).trans (HE5.out.cell.2.1 2)
            have HJ2 : Hid (IS w (x3.setCell ⟨w.heap.size + 1, 2, none⟩ (.slice e3 (SS.length + 1) f3)) CC (.slice d1 D.length g1) (.slice e3 (SS.length + 1) f3) D (S ++ (d.syms.take (j + 1)).map (L.moved z)) []) := by
              show IS _ _ _ _ _ _ _ _
              rw [HTS.out, HMV.out]
              exact HE5.out.pushS rfl ho3 hg3 hat3
            clear HE5 HNC HOW ho3 hg3 hat3 HTS HMV HJ hY4 hY5 s0 s1 s2 c0a c1a c2'
            go_wp2_with fail
            go_roundg (l2 - (j + 1))
            case measure => omega
            case rel => exact ⟨j + 1, _, by go_num, by omega, Nat.le_refl _, HJ2.out⟩
          · have hk2b : (ky == 2) = false := by simpa using hk2
            have HMV : Hid (L.moved z ⟨ny, ky, py⟩ = ⟨ny, ky, py + (CC.size : Int)⟩) := by show _ = _; unfold L.moved; rw [if_neg hk2, HCL.out]
            obtain ⟨Y4, hY4⟩ : ∃ Y, wr.alloc (.cells #[.string ny, .int .i64 ky, .int .i64 (py + (CC.size : Int))] 36) = Y := ⟨_, rfl⟩
            have bY4 : Below wr.heap.size wr Y4 := by subst hY4; exact bl_one _ _
            have s0 : Y4.cell? ⟨wr.heap.size, 0, none⟩ = some (.string ny) := by subst hY4; exact cell_last rfl rfl
            have s1 : Y4.cell? ⟨wr.heap.size, 1, none⟩ = some (.int .i64 ky) := by subst hY4; exact cell_last rfl rfl
            have s2 : Y4.cell? ⟨wr.heap.size, 2, none⟩ = some (.int .i64 (py + (CC.size : Int))) := by subst hY4; exact cell_last rfl rfl
            obtain ⟨Y5, hY5⟩ : ∃ Y, Y4.alloc (.cells #[.string ny, .int .i64 ky, .int .i64 (py + (CC.size : Int))] 36) = Y := ⟨_, rfl⟩
            have bY5 : Below Y4.heap.size Y4 Y5 := by subst hY5; exact bl_one _ _
            have HE5 : Hid (IS w Y5 CC (.slice d1 D.length g1) (.slice e2 SS.length g2') D SS []) := by
              have h1 := HJ.out.below bY4
              exact h1.below bY5
            have c2' := (HJ.out.below bY4).cell.1.2.2
            have c0a : ∀ o : Obj, (wr.alloc o).cell? ⟨w.heap.size + 1, 0, none⟩ = some (.string CC) := fun o => (HJ.out.below (bl_one wr o)).cell.1.1
            have c1a : ∀ o : Obj, (wr.alloc o).cell? ⟨w.heap.size + 1, 1, none⟩ = some (.slice d1 D.length g1) := fun o => (HJ.out.below (bl_one wr o)).cell.1.2.1
            have HNC : Hid (∀ ad, some (⟨Y4.heap.size, 0, none⟩ : Addr) = some ad → ∀ j u, (symC ⟨ny, ky, py + (CC.size : Int)⟩)[j]? = some u → Y5.cell? (ad.add j) = some u) := fun ad e j u hu => by
              cases e
              rw [Addr.add_lit, Nat.zero_add]
              subst hY5
              exact cell_last rfl (by simpa [symC] using hu)
            have HOW : Hid (Y5.ownsRow w.heap.size 36 3 (.slice e2 SS.length g2') SS.length (SS.flatMap symC)) := BS.own HE5.out 0 _ rfl
            have hwY := (BS.low HE5.out).size
            go_wp2_with (first | (at_builtin; refine wpList_append_more rfl _ _ 27 rfl w.heap.size 36 i2 _ 3 32 Try.underlying27 hi2 hz20 hz21 hz22 rfl (by decide) (v := .slice e2 SS.length g2') rfl HOW.out hwY (a := some ⟨Y4.heap.size, 0, none⟩) (l := 1) (c := 1) (cs := symC ⟨ny, ky, py + (CC.size : Int)⟩) rfl (by intro e; cases e) rfl HNC.out (by intro u hu; simp [symC] at hu; rcases hu with rfl | rfl | rfl <;> rfl) (by omega) (by omega) ?_) | go_in)
            intro v3 x3 ho3 hg3 hat3
            obtain ⟨e3, f3, rfl⟩ := own_slice ho3
            have nb2 : (Value.slice e2 SS.length g2').ownBlock ≠ some (w.heap.size + 1) := BS.far HE5.out 0 0 _ _ rfl rfl
            have m6 : x3.cell? ⟨w.heap.size + 1, 2, none⟩ = some (.slice e2 SS.length g2') := hg3.cell HE5.out.cell.1.2.2 (fun e => nb2 e.symm)
            have z6 : x3.frozen? ⟨w.heap.size + 1, 2, none⟩ = false := (hg3.frozen_far ⟨w.heap.size + 1, 2, none⟩ HE5.out.cell.2.2 (fun e => nb2 e.symm)).trans (HE5.out.cell.2.1 2)
            have HJ2 : Hid (IS w (x3.setCell ⟨w.heap.size + 1, 2, none⟩ (.slice e3 (SS.length + 1) f3)) CC (.slice d1 D.length g1) (.slice e3 (SS.length + 1) f3) D (S ++ (d.syms.take (j + 1)).map (L.moved z)) []) := by
              show IS _ _ _ _ _ _ _ _
              rw [HTS.out, HMV.out]
              exact HE5.out.pushS rfl ho3 hg3 hat3
            clear HE5 HNC HOW ho3 hg3 hat3 HTS HMV HJ hY4 hY5 s0 s1 s2 c0a c1a c2'
            go_wp2_with fail
            go_roundg (l2 - (j + 1))
            case measure => omega
            case rel => exact ⟨j + 1, _, by go_num, by omega, Nat.le_refl _, HJ2.out⟩
        · obtain rfl : j = l2 := by omega
          have hjj : ¬ (j : Int) < j := by omega
          have HF : Hid (IS w wr CC (.slice d1 D.length g1) (.slice e2 (S ++ (d.syms.take j).map (L.moved z)).length g2') D (L.syms (os.take (k + 1))) []) := by
            have := HJ.out
            show IS _ _ _ _ _ _ _ _
            rw [HST.out]
            rw [List.take_of_length_le (by omega)] at this ⊢
            exact this
          obtain ⟨S2, hS2⟩ : ∃ S2, L.syms (os.take (k + 1)) = S2 := ⟨_, rfl⟩
          rw [hS2] at HF
          obtain ⟨ms, hms⟩ : ∃ ms, (S ++ (d.syms.take j).map (L.moved z)).length = ms := ⟨_, rfl⟩
          rw [hms] at HF
          have o0 := (HOC.out wr lowr).1
          have i0 := HF.out.cell.1.1
          have fz0 := HF.out.cell.2.1 0
          obtain ⟨X7, hX7⟩ : ∃ X, wr.drew.setCell ⟨w.heap.size + 1, 0, none⟩ (.string (CC ++ d.code)) = X := ⟨_, rfl⟩
          have HF7 : Hid (IS w X7 (cat (os.take (k + 1))) (.slice d1 D.length g1) (.slice e2 ms g2') D S2 []) := by
            subst hX7
            show IS _ _ _ _ _ _ _ _
            rw [HCT.out]
            exact (HF.out.below (Below.refl _ _).drew).code _
          clear HJ HST HCT
          go_wp2_with fail
          have HSR : Hid _ := (HO.out.ints.below (BS.low (HF7.out.below (Below.refl _ _).drew))).src
          have HNI : Hid _ := HO.out.ints.nilOf
          have low7 : Below w.heap.size w X7 := BS.low HF7.out
          have p1 := (HOC.out X7 low7).2.1
          have q1 := HF7.out.cell.1.2.1
          have HOW : Hid (X7.drew.ownsRow w.heap.size 2 1 (.slice d1 D.length g1) D.length (D.flatMap intC)) := BS.own (HF7.out.below (Below.refl _ _).drew) 1 _ rfl
          have hw7 := (BS.low (HF7.out.below (Below.refl _ _).drew)).size
          go_region
          all_goals
            go_wp2_with fail
            go_region_law ((refine step_append_more (by rfl) _ _ 26 (by rfl) w.heap.size 2 i1 _ 1 8 Try.underlying26 hi1 hz10 hz11 hz12 (by rfl) (by decide) (v := .slice d1 D.length g1) (by rfl) HOW.out hw7 (a := a1) (l := l1) (c := c1) (cs := d.data.flatMap intC) (by rfl) HNI.out HSR.out.1 HSR.out.2.1 HSR.out.2.2 (by omega) (by omega) ?_; intro v8 x8 ho8 hg8 hat8; obtain ⟨e8, f8, rfl⟩ := own_slice ho8; have nb8 : (Value.slice d1 D.length g1).ownBlock ≠ some (w.heap.size + 1) := BS.far HF7.out 0 1 _ _ rfl rfl; have m8 : x8.cell? ⟨w.heap.size + 1, 1, none⟩ = some (.slice d1 D.length g1) := hg8.cell (HF7.out.below (Below.refl _ _).drew).cell.1.2.1 (fun e => nb8 e.symm); have z8 : x8.frozen? ⟨w.heap.size + 1, 1, none⟩ = false := (hg8.frozen_far ⟨w.heap.size + 1, 1, none⟩ (HF7.out.below (Below.refl _ _).drew).cell.2.2 (fun e => nb8 e.symm)).trans ((HF7.out.below (Below.refl _ _).drew).cell.2.1 1)))
          all_goals
            have HF9 : Hid (IS w (x8.setCell ⟨w.heap.size + 1, 1, none⟩ (.slice e8 (D.length + l1) f8)) (cat (os.take (k + 1))) (.slice e8 (D.length + l1) f8) (.slice e2 ms g2') (datas (os.take (k + 1))) (L.syms (os.take (k + 1))) []) := by
              show IS _ _ _ _ _ _ _ _
              rw [HDT.out, hS2]
              exact (HF7.out.below (Below.refl _ _).drew).pushD (by rw [h1c]) ho8 hg8 hat8
            clear HF7 HF HOW HSR HNI ho8 hg8 hat8 HDT
            go_wp2_with fail
            go_roundg (l - (k + 1))
            case measure => omega
            case rel => exact ⟨k + 1, _, _, by go_num, by omega, Nat.le_refl _, HF9.out⟩
    · obtain rfl : k = l := by omega
      have hii : ¬ (k : Int) < k := by omega
      obtain ⟨nd, hnd⟩ : ∃ nd, (datas (os.take k)).length = nd := ⟨_, rfl⟩
      obtain ⟨ns, hns⟩ : ∃ ns, (L.syms (os.take k)).length = ns := ⟨_, rfl⟩
      rw [hnd, hns] at HI
      have HF : Hid (IS w wr (cat os) (.slice d1 nd g1) (.slice d2 ns g2) (datas os) (L.syms os) []) := by
        have := HI.out
        rw [List.take_of_length_le (by omega)] at this
        exact this
      clear HI
      have u0 := HF.out.cell.1.1
      have u1 := HF.out.cell.1.2.1
      have u2 := HF.out.cell.1.2.2
      have t0 := HF.out.cellR.1.1
      have t1 := HF.out.cellR.1.2.1
      have t2 := HF.out.cellR.1.2.2
      have f0 := HF.out.cellR.2 0
      have f1 := HF.out.cellR.2 1
      have f2 := HF.out.cellR.2 2
      go_wp2
      refine bodyPost_ret (v := .agg #[.string (cat os), .slice d1 nd g1, .slice d2 ns g2]) (by simp [results, Try.results26, go_sem, u0, u1, u2, t0, t1, t2]) rfl ?_
      have o1 := BS.own HF.out 1 _ rfl
      have o2 := BS.own HF.out 0 _ rfl
      have far : ∀ {y : World} {T : TypeId} {m q : Nat} {u : Value} {cs : List Value} (j : Nat) (r : Value), u.ownBlock ≠ some w.heap.size → y.ownsRow w.heap.size T m u q cs → (y.setCell ⟨w.heap.size, j, none⟩ r).ownsRow w.heap.size T m u q cs := fun j r hu ho => ho.kept (gb_set _ ⟨w.heap.size, j, none⟩ r) (.inr hu)
      have n1 := BS.far HF.out 1 1 _ _ rfl rfl
      have n2 := BS.far HF.out 1 0 _ _ rfl rfl
      exact ⟨_, _, rfl, (((BS.low HF.out).setCell (Nat.le_refl _) _).setCell (Nat.le_refl _) _).setCell (Nat.le_refl _) _, far _ _ n1 (far _ _ n1 (far _ _ n1 o1)), far _ _ n2 (far _ _ n2 (far _ _ n2 o2)), fun b hb => BS.dis HF.out 1 0 _ _ rfl rfl (by decide) b hb⟩
end Go.Proofs.Ytaoklmphcgigeaa
