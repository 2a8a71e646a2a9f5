/- An item's words, and its line. -/
import Derived.Test.YtbkjiipelmfbjaaGreatDoorAsChk
import Derived.Deep.AppendLies
import Derived.Laws.OwnMore
namespace Go.Proofs.YtbkjiipelmfbjaaGreatDoor
open Go.RowKit
set_option linter.unusedVariables false
set_option linter.unusedSimpArgs false

/-- Words as cells. -/
def sC (ws : List X.By) : List Value := ws.map fun x => Value.string (X.str x)
theorem infoS : (Tryz.prog.info? 9).map (fun i => (i.zero, i.size, i.bytes)) = some (some (.string { data := #[] }), 1, 16) := by kernel_rfl
def row1 (f : UInt8 → X.By) (m r : X.By) : List X.By := m :: r.map f
theorem row1_snoc {f : UInt8 → X.By} {m : X.By} {r : ByteArray} {k : Nat} (hk : k < r.size) : sC ((row1 f m r.data.toList).take (k + 1 + 1)) = sC ((row1 f m r.data.toList).take (k + 1)) ++ [.string (X.str (f r[k]))] := by
  unfold sC row1
  rw [List.take_succ_cons, List.take_succ_cons, List.map_cons, List.map_cons, List.cons_append, ← List.map_take, ← List.map_take]
  congr 1
  rw [List.take_add_one, get_list r k hk]
  simp
theorem own_thru {w w1 : World} {B : Nat} {ty : TypeId} {k : Nat} {u : Value} {n : Nat} {cs : List Value} (hu : w.ownsRow B ty k u n cs) (hb : Below w.heap.size w w1) : w1.ownsRow B ty k u n cs := by
  have g : w.grownBy w1 none := ⟨hb.os, hb.tape, hb.output, hb.size, fun k hk _ => hb.block k hk⟩
  cases e : u.ownBlock with
  | none => exact hu.kept g (.inl e)
  | some b => exact hu.kept g (.inr (by rw [e]; simp))
theorem own_baseB {w : World} {B B' : Nat} {v : Value} {e : TypeId} {size n : Nat} {xs : List Value} (o : w.ownsRow B e size v n xs) (h : B' ≤ B) : w.ownsRow B' e size v n xs := by
  refine ⟨o.1, ?_⟩
  rcases o.2 with h1 | ⟨g, cap, cur, h1, h2, h3⟩
  · exact .inl h1
  · exact .inr ⟨g, cap, cur, h1, Nat.le_trans h h2, h3⟩
theorem own_slice {w : World} {B : Nat} {ty : TypeId} {k : Nat} {u : Value} {n : Nat} {cs : List Value} (hu : w.ownsRow B ty k u n cs) : ∃ a c, u = .slice a n c := by
  rcases hu.2 with ⟨e1, e2⟩ | ⟨g, cap, cur, e1, -⟩
  · exact ⟨_, _, by rw [e1, e2]⟩
  · exact ⟨_, _, e1⟩
theorem below_grownB {B C : Nat} {w x y : World} {v : Value} {e : TypeId} {k n : Nat} {cs : List Value} (hb : Below C w x) (ho : x.ownsRow B e k v n cs) (hg : x.grownBy y v.ownBlock) (hw : B ≤ x.heap.size) (hc : C ≤ B) : Below C w y :=
  ⟨hg.os.trans hb.os, hg.tape.trans hb.tape, hg.output.trans hb.output, Nat.le_trans hb.size hg.size, fun i hi => (hg.block i (by omega) (fun e => by have := (ho.lt i e.symm).1; omega)).trans (hb.block i hi)⟩
theorem shape_len {op : Int} (h : 0 ≤ op ∧ op < 34) : (X.row op.toNat).2.length ≤ 3 := by
  have h1 : ∀ o : Fin 34, (X.row o.val).2.length ≤ 3 := by decide
  exact h1 ⟨op.toNat, by omega⟩

set_option maxHeartbeats 4000000 in
theorem operand_any (kd : Int) (nm : ByteArray) (op a b n : Int) (aw : Option Addr) (lw cw : Nat) (ws : List Int) (ha : X.isReg a = true) (hb : X.isReg b = true) (hf : X.fits n) (c : UInt8) (w : World) (ht : Tab w) :
    Calls Tryz.prog 64 #[.agg #[.int .i64 kd, .string nm, .int .i64 op, .int .i64 a, .int .i64 b, .int .i64 n, .slice aw lw cw], .int .u8 c.toNat] w fun e w' => e = .returned (.string (X.str (X.operand (⟨kd, nm.data.toList, op, a, b, n, ws⟩ : X.It) c))) ∧ Below w.heap.size w w' := by
  have h2 := fun w h => digits_any n hf w h
  obtain ⟨a0, a1⟩ := X.isReg_iff.1 ha
  obtain ⟨b0, b1⟩ := X.isReg_iff.1 hb
  obtain ⟨a, rfl⟩ : ∃ k : Nat, a = k := ⟨a.toNat, by omega⟩
  obtain ⟨b, rfl⟩ : ∃ k : Nat, b = k := ⟨b.toNat, by omega⟩
  have hra := fun w => registerName_any a (by omega) w
  have hrb := fun w => registerName_any b (by omega) w
  have HT : Hid _ := ht
  clear ht ha hb a0 a1 b0 b1 hf
  have e65 : c.toNat = 65 ↔ c = 65 := ⟨fun e => UInt8.toNat_inj.1 (by rw [e]; rfl), fun e => by rw [e]; rfl⟩
  have e66 : c.toNat = 66 ↔ c = 66 := ⟨fun e => UInt8.toNat_inj.1 (by rw [e]; rfl), fun e => by rw [e]; rfl⟩
  have e78 : c.toNat = 78 ↔ c = 78 := ⟨fun e => UInt8.toNat_inj.1 (by rw [e]; rfl), fun e => by rw [e]; rfl⟩
  by_cases h65 : c.toNat = 65
  · have HR : Hid (X.operand (⟨kd, nm.data.toList, op, a, b, n, ws⟩ : X.It) c = 114 :: Go.Lib.itoa a) := by show _ = _; unfold X.operand; rw [if_pos (e65.1 h65)]
    rw [h65]
    clear h65 e65 e66 e78
    go_enter Tryz.func64, Tryz.ntmps64
    go_wp2_with (go_at_call 75; refine (hra _).mono ?_; rintro e y ⟨rfl, rfl⟩)
    go_ret
    exact ⟨by rw [HR.out]; rfl, bl1 _ _⟩
  by_cases h66 : c.toNat = 66
  · have HR : Hid (X.operand (⟨kd, nm.data.toList, op, a, b, n, ws⟩ : X.It) c = 114 :: Go.Lib.itoa b) := by show _ = _; unfold X.operand; rw [if_neg (fun e => h65 (e65.2 e)), if_pos (e66.1 h66)]
    rw [h66]
    clear h65 h66 e65 e66 e78
    go_enter Tryz.func64, Tryz.ntmps64
    go_wp2_with (go_at_call 75; refine (hrb _).mono ?_; rintro e y ⟨rfl, rfl⟩)
    go_ret
    exact ⟨by rw [HR.out]; rfl, bl1 _ _⟩
  by_cases h78 : c.toNat = 78
  · have HR : Hid (X.operand (⟨kd, nm.data.toList, op, a, b, n, ws⟩ : X.It) c = Go.Lib.itoa n) := by show _ = _; unfold X.operand; rw [if_neg (fun e => h65 (e65.2 e)), if_neg (fun e => h66 (e66.2 e)), if_pos (e78.1 h78)]
    rw [h78]
    clear h65 h66 h78 e65 e66 e78
    go_enter Tryz.func64, Tryz.ntmps64
    go_wp2_with fail
    refine (h2 _ (HT.out.alloc _)).mono ?_
    rintro e y ⟨rfl, hb⟩
    have HB : Hid _ := hb
    clear hb
    go_wp2_with fail
    go_ret
    exact ⟨by rw [HR.out]; rfl, (bl1 _ _).trans (HB.out.mono (bl1 _ _).size)⟩
  have HR : Hid (X.operand (⟨kd, nm.data.toList, op, a, b, n, ws⟩ : X.It) c = nm.data.toList) := by show _ = _; unfold X.operand; rw [if_neg (fun e => h65 (e65.2 e)), if_neg (fun e => h66 (e66.2 e)), if_neg (fun e => h78 (e78.2 e))]
  have k1 : ((c.toNat : Int) == 65) = false := by simp; omega
  have k2 : ((c.toNat : Int) == 66) = false := by simp; omega
  have k3 : ((c.toNat : Int) == 78) = false := by simp; omega
  clear h65 h66 h78 e65 e66 e78
  go_enter Tryz.func64, Tryz.ntmps64
  go_wp2_with fail
  go_ret
  exact ⟨by rw [HR.out, str_eq]; rfl, bl1 _ _⟩

/-- Words in a row of their own. -/
def SaidOut (w : World) (ws : List X.By) (e : Ending) (w' : World) : Prop := ∃ g c, e = .returned (.slice (some ⟨g, 0, none⟩) ws.length c) ∧ w'.ownsRow w.heap.size 9 1 (.slice (some ⟨g, 0, none⟩) ws.length c) ws.length (sC ws) ∧ Below w.heap.size w w'

set_option maxRecDepth 100000 in
set_option maxHeartbeats 8000000 in
theorem saidIns_any (kd : Int) (nm : ByteArray) (op a b n : Int) (aw : Option Addr) (lw cw : Nat) (ws : List Int) (hop : 0 ≤ op ∧ op < 34) (ha : X.isReg a = true) (hb : X.isReg b = true) (hf : X.fits n) (w : World) (ht : Tab w) :
    Calls Tryz.prog 47 #[.agg #[.int .i64 kd, .string nm, .int .i64 op, .int .i64 a, .int .i64 b, .int .i64 n, .slice aw lw cw]] w (SaidOut w (X.saidIns (⟨kd, nm.data.toList, op, a, b, n, ws⟩ : X.It))) := by
  have HOP : Hid (∀ c w, Tab w → _) := fun c w h => operand_any kd nm op a b n aw lw cw ws ha hb hf c w h
  have h3 := shape_len hop
  obtain ⟨k0, rfl⟩ : ∃ k : Nat, op = k := ⟨op.toNat, by omega⟩
  have hk0 : k0 < 34 := by omega
  obtain ⟨c1, c2⟩ := ht.rw k0 hk0
  have hz := ht.hz
  have z0 : 0 < w.heap.size := by omega
  have d1 := fun o => (Below.cell (p := ⟨0, k0 * 2, none⟩) (bl1 w o) z0).trans c1
  have d2 := fun o => (Below.cell (p := ⟨0, k0 * 2 + 1, none⟩) (bl1 w o) z0).trans c2
  have HR : Hid (X.saidIns (⟨kd, nm.data.toList, k0, a, b, n, ws⟩ : X.It) = row1 (X.operand (⟨kd, nm.data.toList, k0, a, b, n, ws⟩ : X.It)) (X.str (X.row k0).1).data.toList (X.str (X.row k0).2).data.toList) := rfl
  have HT : Hid _ := ht
  have hrl : (X.str (X.row k0).2).size ≤ 3 := by rw [str_size]; simpa using h3
  clear ht hz ha hb hf h3 c1 c2
  generalize X.str (X.row k0).1 = m at *
  generalize X.str (X.row k0).2 = r at *
  obtain ⟨is, his, hs0, hs1, hs2⟩ := info_parts infoS
  have HS : Hid (∀ y, Below ((w.alloc (.cells #[.int .i64 kd, .string nm, .int .i64 (k0 : Int), .int .i64 a, .int .i64 b, .int .i64 n, .slice aw lw cw] 32)).alloc (.cells #[.string m, .string r] 84)).heap.size ((w.alloc (.cells #[.int .i64 kd, .string nm, .int .i64 (k0 : Int), .int .i64 a, .int .i64 b, .int .i64 n, .slice aw lw cw] 32)).alloc (.cells #[.string m, .string r] 84)) y → (fun y : World => y.cell? ⟨w.heap.size, 0, none⟩ = some (.int .i64 kd) ∧ y.cell? ⟨w.heap.size, 1, none⟩ = some (.string nm) ∧ y.cell? ⟨w.heap.size, 2, none⟩ = some (.int .i64 (k0 : Int)) ∧ y.cell? ⟨w.heap.size, 3, none⟩ = some (.int .i64 a) ∧ y.cell? ⟨w.heap.size, 4, none⟩ = some (.int .i64 b) ∧ y.cell? ⟨w.heap.size, 5, none⟩ = some (.int .i64 n) ∧ y.cell? ⟨w.heap.size, 6, none⟩ = some (.slice aw lw cw) ∧ y.cell? ⟨w.heap.size + 1, 1, none⟩ = some (.string r)) y) := fun y hy => by
    have g : ∀ j u, (#[.int .i64 kd, .string nm, .int .i64 k0, .int .i64 a, .int .i64 b, .int .i64 n, .slice aw lw cw] : Array Value)[j]? = some u → y.cell? ⟨w.heap.size, j, none⟩ = some u := fun j u hu => cell_thru hy (cell_thru (bl1 _ _) (row_cell hu))
    refine ⟨g 0 _ rfl, g 1 _ rfl, g 2 _ rfl, g 3 _ rfl, g 4 _ rfl, g 5 _ rfl, g 6 _ rfl, ?_⟩
    have := cell_thru hy (row_cell (w := (w.alloc (.cells #[.int .i64 kd, .string nm, .int .i64 (k0 : Int), .int .i64 a, .int .i64 b, .int .i64 n, .slice aw lw cw] 32))) (a := #[.string m, .string r]) (t := 84) (k := 1) rfl)
    simpa using this
  have HW : Hid (∀ y, Below ((w.alloc (.cells #[.int .i64 kd, .string nm, .int .i64 (k0 : Int), .int .i64 a, .int .i64 b, .int .i64 n, .slice aw lw cw] 32)).alloc (.cells #[.string m, .string r] 84)).heap.size ((w.alloc (.cells #[.int .i64 kd, .string nm, .int .i64 (k0 : Int), .int .i64 a, .int .i64 b, .int .i64 n, .slice aw lw cw] 32)).alloc (.cells #[.string m, .string r] 84)) y → Below w.heap.size w y) := fun y hy => (bl2 _ _ _).trans (hy.mono (bl2 _ _ _).size)
  go_enter Tryz.func47, Tryz.ntmps47
  go_wp2_with fail
  go_loopg [4, 17] r.size (fun rr lv iv wq => ∃ (k : Nat), iv = .int .i64 k ∧ k ≤ r.size ∧ r.size - k ≤ rr ∧ Hid (wq.ownsRow (w.heap.size + 2) 9 1 lv (k + 1) (sC ((row1 (X.operand (⟨kd, nm.data.toList, k0, a, b, n, ws⟩ : X.It)) m.data.toList r.data.toList).take (k + 1)))) ∧ Hid (Below ((w.alloc (.cells #[.int .i64 kd, .string nm, .int .i64 (k0 : Int), .int .i64 a, .int .i64 b, .int .i64 n, .slice aw lw cw] 32)).alloc (.cells #[.string m, .string r] 84)).heap.size ((w.alloc (.cells #[.int .i64 kd, .string nm, .int .i64 (k0 : Int), .int .i64 a, .int .i64 b, .int .i64 n, .slice aw lw cw] 32)).alloc (.cells #[.string m, .string r] 84)) wq))
  case atStart =>
    refine ⟨0, rfl, Nat.zero_le _, by omega, ?_, bl1 _ _⟩
    have := World.ownsRow_lit (base := w.heap.size + 2) (e := 9) (size := 1) ((w.alloc (.cells #[.int .i64 kd, .string nm, .int .i64 (k0 : Int), .int .i64 a, .int .i64 b, .int .i64 n, .slice aw lw cw] 32)).alloc (.cells #[.string m, .string r] 84)) #[.string m] 1 (by simp) (by decide) rfl
    have e : sC ((row1 (X.operand (⟨kd, nm.data.toList, k0, a, b, n, ws⟩ : X.It)) m.data.toList r.data.toList).take (0 + 1)) = [.string m] := by simp [sC, row1, str_eq]
    show World.ownsRow _ _ _ _ _ _ _
    rw [e]
    simpa using this
  case round =>
    obtain ⟨k, rfl, hk, hr, HO, HB⟩ := hrel
    by_cases hkr : k < r.size
    · have hii : (k : Int) < r.size := by omega
      have hin : 0 ≤ (k : Int) := by omega
      go_wp2_with fail
      refine wp_region_held_drew (S := (fun y : World => y.cell? ⟨w.heap.size, 0, none⟩ = some (.int .i64 kd) ∧ y.cell? ⟨w.heap.size, 1, none⟩ = some (.string nm) ∧ y.cell? ⟨w.heap.size, 2, none⟩ = some (.int .i64 (k0 : Int)) ∧ y.cell? ⟨w.heap.size, 3, none⟩ = some (.int .i64 a) ∧ y.cell? ⟨w.heap.size, 4, none⟩ = some (.int .i64 b) ∧ y.cell? ⟨w.heap.size, 5, none⟩ = some (.int .i64 n) ∧ y.cell? ⟨w.heap.size, 6, none⟩ = some (.slice aw lw cw) ∧ y.cell? ⟨w.heap.size + 1, 1, none⟩ = some (.string r))) (by kernel_rfl) (HS.out _ HB.out.drew) (fun hHeld => ?_)
      refine tk (i := 0) (v := ?_) (tA rfl) (by kernel_rfl) (fun _ _ _ h => h) (Or.inl ⟨by rfl, ?_⟩) (by assumption) ?_
      rotate_left
      · (intro w hSw; (try dsimp only at hSw); go_simp <;> with_reducible rfl)
      simp only [Act.put, List.setIfInBounds_toArray, List.set_cons_zero, List.set_cons_succ]
      refine tk (i := 1) (v := ?_) (tA rfl) (by kernel_rfl) (fun _ _ _ h => h) (Or.inl ⟨by rfl, ?_⟩) (by assumption) ?_
      rotate_left
      · (intro w hSw; (try dsimp only at hSw); go_simp <;> with_reducible rfl)
      simp only [Act.put, List.setIfInBounds_toArray, List.set_cons_zero, List.set_cons_succ]
      refine tk (i := 2) (v := ?_) (tA rfl) (by kernel_rfl) (fun _ _ _ h => h) (Or.inl ⟨by rfl, ?_⟩) (by assumption) ?_
      rotate_left
      · (intro w hSw; (try dsimp only at hSw); go_simp <;> with_reducible rfl)
      simp only [Act.put, List.setIfInBounds_toArray, List.set_cons_zero, List.set_cons_succ]
      refine tk (i := 3) (v := ?_) (tA rfl) (by kernel_rfl) (fun _ _ _ h => h) (Or.inl ⟨by rfl, ?_⟩) (by assumption) ?_
      rotate_left
      · (intro w hSw; (try dsimp only at hSw); go_simp <;> with_reducible rfl)
      simp only [Act.put, List.setIfInBounds_toArray, List.set_cons_zero, List.set_cons_succ]
      refine tk (i := 4) (v := ?_) (tA rfl) (by kernel_rfl) (fun _ _ _ h => h) (Or.inl ⟨by rfl, ?_⟩) (by assumption) ?_
      rotate_left
      · (intro w hSw; (try dsimp only at hSw); go_simp <;> with_reducible rfl)
      simp only [Act.put, List.setIfInBounds_toArray, List.set_cons_zero, List.set_cons_succ]
      refine tk (i := 5) (v := ?_) (tA rfl) (by kernel_rfl) (fun _ _ _ h => h) (Or.inl ⟨by rfl, ?_⟩) (by assumption) ?_
      rotate_left
      · (intro w hSw; (try dsimp only at hSw); go_simp <;> with_reducible rfl)
      simp only [Act.put, List.setIfInBounds_toArray, List.set_cons_zero, List.set_cons_succ]
      refine wpAnyH_ready (rs := [6]) (by kernel_rfl) (by simp) ?_
      refine AllReadyH.cons (tA rfl) (fun K hK => ?_) AllReadyH.nil
      go_simp
      refine (HOP.out r[k] _ ((HT.out.below (HW.out _ HB.out)).below (Below.refl _ _).drew)).mono ?_
      rintro e y1 ⟨rfl, hb1⟩
      have HB1 : Hid (Below wr.heap.size wr y1) := (Below.refl _ _).drew.trans hb1
      clear hb1
      refine hK.out _ _ (HS.out _ (HB.out.trans (HB1.out.mono HB.out.size))) (fun hHeld => ?_)
      clear hK K
      try simp only [Act.put, List.setIfInBounds_toArray, List.set_cons_zero, List.set_cons_succ]
      refine wpAnyH_ready (rs := [7]) (by kernel_rfl) (by simp) ?_
      refine AllReadyH.cons (tA rfl) (fun K hK => ?_) AllReadyH.nil
      go_simp
      have HB2 : Hid (Below wr.heap.size wr (y1.alloc (.cells #[.string (X.str (X.operand (⟨kd, nm.data.toList, (k0 : Int), a, b, n, ws⟩ : X.It) r[k]))] 9))) := HB1.out.alloc HB1.out.size _
      refine hK.out _ _ (HS.out _ (HB.out.trans (HB2.out.mono HB.out.size))) (fun hHeld => ?_)
      clear hK K
      try simp only [Act.put, List.setIfInBounds_toArray, List.set_cons_zero, List.set_cons_succ]
      have HO2 : Hid ((y1.alloc (.cells #[.string (X.str (X.operand (⟨kd, nm.data.toList, (k0 : Int), a, b, n, ws⟩ : X.It) r[k]))] 9)).ownsRow (w.heap.size + 2) 9 1 u4 (k + 1) (sC ((row1 (X.operand (⟨kd, nm.data.toList, (k0 : Int), a, b, n, ws⟩ : X.It)) m.data.toList r.data.toList).take (k + 1)))) := own_thru HO.out HB2.out
      have HNC : Hid (∀ j u, ([.string (X.str (X.operand (⟨kd, nm.data.toList, (k0 : Int), a, b, n, ws⟩ : X.It) r[k]))] : List Value)[j]? = some u → (y1.alloc (.cells #[.string (X.str (X.operand (⟨kd, nm.data.toList, (k0 : Int), a, b, n, ws⟩ : X.It) r[k]))] 9)).cell? ((⟨y1.heap.size, 0, none⟩ : Addr).add j) = some u) := fun j u hu => by rw [Addr.add_lit, Nat.zero_add]; exact row_cell (by simpa using hu)
      refine wpAnyH_ready (rs := [8]) (by kernel_rfl) (by simp) ?_
      refine AllReadyH.cons (tA rfl) (fun K hK => ?_) AllReadyH.nil
      refine step_append_lies _ (by rfl) _ _ 39 (by rfl) (w.heap.size + 2) 9 is _ 1 16 Tryz.underlying39 his hs0 hs1 hs2 (by rfl) (by decide) u4 (k + 1) _ (by rfl) HO2.out ⟨y1.heap.size, 0, none⟩ 1 1 [.string (X.str (X.operand (⟨kd, nm.data.toList, (k0 : Int), a, b, n, ws⟩ : X.It) r[k]))] (by rfl) (by rfl) HNC.out (by intro u hu; simp at hu; subst hu; rfl) (by decide) (by unfold maxLen; omega) (by omega) (by have := HB.out.size; have := HB1.out.size; simp at *; omega) (y1.heap.size + 1) (by simp) ?_
      intro x1 cp Y6 ho6 hg6 hat6 hlt6
      have HB6 : Hid (Below ((w.alloc (.cells #[.int .i64 kd, .string nm, .int .i64 (k0 : Int), .int .i64 a, .int .i64 b, .int .i64 n, .slice aw lw cw] 32)).alloc (.cells #[.string m, .string r] 84)).heap.size ((w.alloc (.cells #[.int .i64 kd, .string nm, .int .i64 (k0 : Int), .int .i64 a, .int .i64 b, .int .i64 n, .slice aw lw cw] 32)).alloc (.cells #[.string m, .string r] 84)) Y6) := below_grownB (HB.out.trans (HB2.out.mono HB.out.size)) HO2.out hg6 (by have := HB.out.size; have := HB1.out.size; simp at *; omega) (by simp)
      refine hK.out _ _ (HS.out _ HB6.out) (fun hHeld => ?_)
      clear hK K
      try simp only [Act.put, List.setIfInBounds_toArray, List.set_cons_zero, List.set_cons_succ]
      refine tk (i := 9) (v := ?_) (tA rfl) (by kernel_rfl) (fun _ _ _ h => h) (Or.inl ⟨by rfl, ?_⟩) (by assumption) ?_
      rotate_left
      · (intro w hSw; (try dsimp only at hSw); go_simp <;> with_reducible rfl)
      simp only [Act.put, List.setIfInBounds_toArray, List.set_cons_zero, List.set_cons_succ]
      refine wpAnyH_done (by kernel_rfl) ?_ _
      clear hHeld
      have HO6 : Hid (Y6.ownsRow (w.heap.size + 2) 9 1 (.slice (some ⟨x1, 0, none⟩) (k + 1 + 1) cp) (k + 1 + 1) (sC ((row1 (X.operand (⟨kd, nm.data.toList, (k0 : Int), a, b, n, ws⟩ : X.It)) m.data.toList r.data.toList).take (k + 1 + 1)))) := by
        show World.ownsRow _ _ _ _ _ _ _
        rw [row1_snoc hkr]
        exact ho6
      clear ho6 hg6 hat6 hlt6
      go_wp2_with fail
      go_roundg (r.size - (k + 1))
      case measure => omega
      case rel => exact ⟨k + 1, by go_num, by omega, Nat.le_refl _, HO6.out, HB6.out⟩
    · obtain rfl : k = r.size := by omega
      have hii : ¬ (r.size : Int) < r.size := by omega
      obtain ⟨au, cu, rfl⟩ := own_slice HO.out
      go_wp2_with fail
      go_ret
      rw [HR.out]
      have hfull : (row1 (X.operand (⟨kd, nm.data.toList, k0, a, b, n, ws⟩ : X.It)) m.data.toList r.data.toList).take (r.size + 1) = row1 (X.operand (⟨kd, nm.data.toList, k0, a, b, n, ws⟩ : X.It)) m.data.toList r.data.toList := List.take_of_length_le (by simp [row1])
      have hlen : (row1 (X.operand (⟨kd, nm.data.toList, k0, a, b, n, ws⟩ : X.It)) m.data.toList r.data.toList).length = r.size + 1 := by simp [row1]
      have ho := HO.out
      rw [hfull] at ho
      rcases ho.2 with ⟨e1, e2⟩ | ⟨g, cap, cur, e1, -⟩
      · omega
      · cases e1
        refine ⟨_, _, ?_, by rw [hlen]; exact own_baseB ho (Nat.le_add_right _ 2), HW.out _ HB.out⟩
        rw [hlen]
        rfl

end Go.Proofs.YtbkjiipelmfbjaaGreatDoor
