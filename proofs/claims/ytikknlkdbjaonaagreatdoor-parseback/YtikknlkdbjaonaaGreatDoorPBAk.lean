/- Declarations: as mathematics, and as they lie. -/
import Derived.Test.YtikknlkdbjaonaaGreatDoorPBAj
namespace Go.Proofs.YtikknlkdbjaonaaGreatDoor.Y
open Go.RowKit Go.Maps
set_option linter.unusedVariables false
set_option linter.unusedSimpArgs false
abbrev By := X.By
abbrev Tok := X.Tok
abbrev DR := Option (Decl × Nat × List Exp × List Stmt)
def kThread : By := [116, 104, 114, 101, 97, 100]
def kExtern : By := [101, 120, 116, 101, 114, 110]
def kInt : By := [105, 110, 116]
def kQueue : By := [113, 117, 101, 117, 101]
def kTicket : By := [116, 105, 99, 107, 101, 116]
def kLock : By := [108, 111, 99, 107]
def kBy : By := [98, 121]
def kRank : By := [114, 97, 110, 107]
def pl (ts : List Tok) : Nat → Nat → List By → Option (List By × Nat)
  | 0, _, _ => none
  | f + 1, i, l => if (tk ts i).text = [44] then if (tk ts (i + 1)).kind = 2 then pl ts f (i + 2) (l ++ [(tk ts (i + 1)).text]) else none else some (l, i)
def prm (ts : List Tok) (i : Nat) : Option (List By × Nat) := if (tk ts i).text = [41] then some ([], i) else if (tk ts i).kind = 2 then pl ts (ts.length + 1) (i + 1) [(tk ts i).text] else none
def fnc3 (ts : List Tok) (f : Nat) (x : Decl) (i : Nat) (E : List Exp) (S : List Stmt) : DR :=
  if (tk ts i).text = kRank then if (tk ts (i + 1)).kind = 1 then if (tk ts (i + 1)).n ≤ 1000000 then
    if x.ext = true then (if (tk ts (i + 2)).text = [59] then some ({ x with rank := (tk ts (i + 1)).n }, i + 3, E, S) else none)
    else (blk ts f 0 (i + 2) E S).bind fun b => some ({ x with rank := (tk ts (i + 1)).n, body := b.1 }, b.2.1, b.2.2.1, b.2.2.2)
  else none else none else none
def fnc2 (ts : List Tok) (f : Nat) (x : Decl) (i : Nat) (E : List Exp) (S : List Stmt) : DR :=
  if (tk ts i).text = [41] then if (tk ts (i + 1)).text = kWith then (if (tk ts (i + 2)).kind = 2 then fnc3 ts f { x with by' := (tk ts (i + 2)).text } (i + 3) E S else none) else fnc3 ts f x (i + 1) E S else none
def fnc (ts : List Tok) (f : Nat) (x : Decl) (i : Nat) (E : List Exp) (S : List Stmt) : DR :=
  if x.ext = true then (if (tk ts i).kind = 1 then if (tk ts i).n ≤ 1000000 then fnc2 ts f { x with count := (tk ts i).n } (i + 1) E S else none else none)
  else (prm ts i).bind fun q => fnc2 ts f { x with params := q.1, count := q.1.length } q.2 E S
def nmb2 (ts : List Tok) (x : Decl) (i : Nat) (E : List Exp) (S : List Stmt) : DR :=
  if (tk ts i).text = kBy then if (tk ts (i + 1)).kind = 2 then if (tk ts (i + 2)).text = [59] then some ({ x with by' := (tk ts (i + 1)).text }, i + 3, E, S) else none else none else none
def nmb (ts : List Tok) (f : Nat) (x : Decl) (i : Nat) (E : List Exp) (S : List Stmt) : DR :=
  if (tk ts i).text = [40] then fnc ts f { x with kind := 5 } (i + 1) E S
  else if (tk ts i).text = [91] then (if (tk ts (i + 1)).kind = 1 then if (tk ts (i + 1)).n ≤ 1000000 then if (tk ts (i + 1)).n = 0 then none else if (tk ts (i + 2)).text = [93] then nmb2 ts { x with kind := 4, n := (tk ts (i + 1)).n } (i + 3) E S else none else none else none)
  else nmb2 ts { x with kind := 4 } i E S
def obj (ts : List Tok) (x : Bool) (i : Nat) : Option (Int × Nat) :=
  if (tk ts i).text = kQueue then some (3, i + 1) else if (tk ts i).text = kTicket then (if x = true then some (1, i + 1) else some (2, i + 1)) else if (tk ts i).text = kLock then some (1, i + 1) else none
def dcl2 (ts : List Tok) (f : Nat) (x : Bool) (i : Nat) (E : List Exp) (S : List Stmt) : DR :=
  if (tk ts i).text = kInt then if (tk ts (i + 1)).kind = 2 then nmb ts f ⟨0, (tk ts (i + 1)).text, x, 0, [], [], 0, 0, []⟩ (i + 2) E S else none
  else (obj ts x i).bind fun o => if (tk ts o.2).kind = 2 then
      if o.1 = 3 then (if (tk ts (o.2 + 1)).kind = 1 then if (tk ts (o.2 + 1)).n ≤ 1000000 then if (tk ts (o.2 + 2)).text = [59] then some (⟨o.1, (tk ts o.2).text, x, (tk ts (o.2 + 1)).n, [], [], 0, 0, []⟩, o.2 + 3, E, S) else none else none else none)
      else if (tk ts (o.2 + 1)).text = [59] then some (⟨o.1, (tk ts o.2).text, x, 0, [], [], 0, 0, []⟩, o.2 + 2, E, S) else none
    else none
def dcl (ts : List Tok) (f i : Nat) (E : List Exp) (S : List Stmt) : DR :=
  if (tk ts i).text = kThread then if (tk ts (i + 1)).kind = 2 then (blk ts f 0 (i + 2) E S).bind fun b => some (⟨6, (tk ts (i + 1)).text, false, 0, [], [], 0, 0, b.1⟩, b.2.1, b.2.2.1, b.2.2.2) else none
  else if (tk ts i).text = kExtern then dcl2 ts f true (i + 1) E S else dcl2 ts f false i E S
def dl (ts : List Tok) (F : Nat) : Nat → Nat → List Decl → List Exp → List Stmt → Option Mod
  | 0, _, _, _, _ => none
  | f + 1, i, D, E, S => if (tk ts i).kind = 0 then some ⟨D, S, E⟩ else (dcl ts F i E S).bind fun q => dl ts F f q.2.1 (D ++ [q.1]) q.2.2.1 q.2.2.2
/-- What the tokens of a source are. -/
def modOf (ts : List Tok) : Option Mod := dl ts (3 * ts.length + 4) (ts.length + 1) 0 [] [] []
/-- A declaration, and where its lists lie. -/
structure Dx where
  d : Decl
  vp : Value
  vb : Value
abbrev sZ (s : By) : Value := .string (X.str s)
def dcC (p : Dx) : List Value := [.int .i64 p.d.kind, .string (X.str p.d.name), .bool p.d.ext, .int .i64 p.d.n, .string (X.str p.d.by'), p.vp, .int .i64 p.d.count, .int .i64 p.d.rank, p.vb]
def dcV (p : Dx) : Value := .agg #[.int .i64 p.d.kind, .string (X.str p.d.name), .bool p.d.ext, .int .i64 p.d.n, .string (X.str p.d.by'), p.vp, .int .i64 p.d.count, .int .i64 p.d.rank, p.vb]
structure DxR (B : Nat) (w : World) (p : Dx) : Prop where
  rp : w.ownsRow B 9 1 p.vp p.d.params.length (p.d.params.map sZ)
  rb : w.ownsRow B 3 1 p.vb p.d.body.length (p.d.body.map iZ)
theorem DxR.kp {Ts : List TypeId} {B : Nat} {w y : World} {p : Dx} (h : DxR B w p) (hk : Kp Ts B w y) (hT : 3 ∉ Ts) (hS : 9 ∉ Ts) : DxR B y p := ⟨row_kp h.rp hk hS, row_kp h.rb hk hT⟩
theorem DxR.bel {B : Nat} {w y : World} {p : Dx} (h : DxR B w p) (hb : Below w.heap.size w y) : DxR B y p := ⟨row_thru' h.rp hb, row_thru' h.rb hb⟩
/-- A box of a declaration. -/
structure DB (y : World) (n b : Nat) (cs : List Value) : Prop where
  blk : y.heap[b]? = some (.cells cs.toArray 54)
  ge : n ≤ b
theorem DB.cel {y : World} {n b : Nat} {cs : List Value} (h : DB y n b cs) (j : Nat) (u : Value) (hu : cs[j]? = some u) : y.cell? ⟨b, j, none⟩ = some u := cell_blk h.blk j (by simpa using hu)
theorem DB.fro {y : World} {n b : Nat} {cs : List Value} (h : DB y n b cs) (o : Nat) : y.frozen? ⟨b, o, none⟩ = false := blk_fro h.blk
theorem DB.kp {y z : World} {n b B : Nat} {cs : List Value} (h : DB y n b cs) (hk : Kp T3 B y z) : DB z n b cs := ⟨hk.keep _ _ _ _ h.blk (by decide), h.ge⟩
theorem DB.bel {y z : World} {n b : Nat} {cs : List Value} (h : DB y n b cs) (hb : Below y.heap.size y z) : DB z n b cs := ⟨blk_thru hb h.blk, h.ge⟩
theorem DB.put {y : World} {n b : Nat} {cs : List Value} (h : DB y n b cs) (k : Nat) (u : Value) : DB (y.setCell ⟨b, k, none⟩ u) n b (cs.set k u) := by
  refine ⟨?_, h.ge⟩
  have := blk_set (i := k) h.blk u
  rw [this, List.setIfInBounds_toArray]
theorem DB.far {y : World} {n b b2 k : Nat} {cs : List Value} (h : DB y n b cs) (hne : b2 ≠ b) (u : Value) : DB (y.setCell ⟨b2, k, none⟩ u) n b cs := ⟨blk_far h.blk hne, h.ge⟩
theorem DB.new {y : World} {n : Nat} {cs : Array Value} (hn : n ≤ y.heap.size) : DB (y.alloc (.cells cs 54)) n y.heap.size cs.toList := ⟨heap_new _ _, hn⟩
section
variable {B : Nat} {ts : List X.Tok} {w0 : World} {vs0 : Value} {X0 : List Sx} {bp : Nat} {a : Option Addr} {c i : Nat} {vd vs ve : Value} {d : Nat} {N : List Sx} {E : List Exp} {y : World}
theorem ST.dbox {n b k : Nat} {cs : List Value} (h : ST B ts w0 vs0 X0 bp a c i vd vs ve d N E y) (hs : DB y n b cs) (hn : w0.heap.size ≤ n) (u : Value) : ST B ts w0 vs0 X0 bp a c i vd vs ve d N E (y.setCell ⟨b, k, none⟩ u) := by
  have hbp : b ≠ bp := blk_ne hs.blk h.pb.blk (by decide)
  have hbB : B ≤ b := Nat.le_trans h.le0 (Nat.le_trans hn hs.ge)
  have hbw : ∀ b' o, w0.heap[b']? = some o → b ≠ b' := fun b' o hb' => by have := blk_lt hb'; have := hs.ge; omega
  refine ⟨⟨h.pb.ge, blk_far h.pb.blk hbp, row_far h.pb.tok (row_ne h.pb.tok hs.blk (by decide))⟩, row_far h.re (row_ne h.re hs.blk (by decide)), row_far h.rs (row_ne h.rs hs.blk (by decide)), fun p hp => ?_, ⟨⟨h.ks.kp.low.setCell (p := ⟨b, k, none⟩) hbB u, fun b' c' T' f' hb' hT' => ?_⟩, fun b' c' f' hb' hv' => ?_, h.ks.fr⟩, h.fr, h.le0⟩
  · have hr := h.rr p hp
    exact ⟨row_far hr.ra (row_ne hr.ra hs.blk (by decide)), row_far hr.rb (row_ne hr.rb hs.blk (by decide)), row_far hr.rl (row_ne hr.rl hs.blk (by decide))⟩
  · exact blk_far (h.ks.kp.keep b' c' T' f' hb' hT') (hbw b' _ hb')
  · exact blk_far (h.ks.st b' c' f' hb' hv') (hbw b' _ hb')
end
theorem DxR.far {B b k : Nat} {y : World} {p : Dx} {n : Nat} {cs : List Value} {u : Value} (hr : DxR B y p) (hb : DB y n b cs) : DxR B (y.setCell ⟨b, k, none⟩ u) p :=
  ⟨row_far hr.rp (row_ne hr.rp hb.blk (by decide)), row_far hr.rb (row_ne hr.rb hb.blk (by decide))⟩
/-- What reading a declaration comes to. -/
def DOut (B : Nat) (ts : List X.Tok) (w : World) (bp : Nat) (a : Option Addr) (c : Nat) (vd vs : Value) (XS : List Sx) (r : DR) (e : Ending) (w' : World) : Prop :=
  Kp T3 B w w' ∧ match r with
    | none => Fails e
    | some (x, j, E', S') => ∃ vs' ve' N p, ST B ts w vs XS bp a c j vd vs' ve' 0 N E' w' ∧ (XS ++ N).map (·.s) = S' ∧ p.d = x ∧ e = .returned (dcV p) ∧ DxR B w' p
abbrev set9 (y : World) (b : Nat) (p : Dx) : World := ((((((((y.setCell ⟨b, 0, none⟩ (.int .i64 p.d.kind)).setCell ⟨b, 1, none⟩ (.string (X.str p.d.name))).setCell ⟨b, 2, none⟩ (.bool p.d.ext)).setCell ⟨b, 3, none⟩ (.int .i64 p.d.n)).setCell ⟨b, 4, none⟩ (.string (X.str p.d.by'))).setCell ⟨b, 5, none⟩ p.vp).setCell ⟨b, 6, none⟩ (.int .i64 p.d.count)).setCell ⟨b, 7, none⟩ (.int .i64 p.d.rank)).setCell ⟨b, 8, none⟩ p.vb
theorem fin9 {B : Nat} {ts : List X.Tok} {w0 : World} {vs0 : Value} {X0 : List Sx} {bp : Nat} {a : Option Addr} {c i : Nat} {vd vs ve : Value} {N : List Sx} {E : List Exp} {y : World} {n b : Nat} {cs : List Value} (h : ST B ts w0 vs0 X0 bp a c i vd vs ve 0 N E y) (hs : DB y n b cs) (hn : w0.heap.size ≤ n) (p : Dx) (hr : DxR B y p) {S' : List Stmt} (hS : (X0 ++ N).map (·.s) = S') : DOut B ts w0 bp a c vd vs0 X0 (some (p.d, i, E, S')) (.returned (dcV p)) (set9 y b p) := by
  have a0 := h.dbox (k := 0) hs hn (.int .i64 p.d.kind); have s0 := hs.put 0 (.int .i64 p.d.kind); have r0 := hr.far (k := 0) (u := .int .i64 p.d.kind) hs
  have a1 := a0.dbox (k := 1) s0 hn (.string (X.str p.d.name)); have s1 := s0.put 1 (.string (X.str p.d.name)); have r1 := r0.far (k := 1) (u := .string (X.str p.d.name)) s0
  have a2 := a1.dbox (k := 2) s1 hn (.bool p.d.ext); have s2 := s1.put 2 (.bool p.d.ext); have r2 := r1.far (k := 2) (u := .bool p.d.ext) s1
  have a3 := a2.dbox (k := 3) s2 hn (.int .i64 p.d.n); have s3 := s2.put 3 (.int .i64 p.d.n); have r3 := r2.far (k := 3) (u := .int .i64 p.d.n) s2
  have a4 := a3.dbox (k := 4) s3 hn (.string (X.str p.d.by')); have s4 := s3.put 4 (.string (X.str p.d.by')); have r4 := r3.far (k := 4) (u := .string (X.str p.d.by')) s3
  have a5 := a4.dbox (k := 5) s4 hn p.vp; have s5 := s4.put 5 p.vp; have r5 := r4.far (k := 5) (u := p.vp) s4
  have a6 := a5.dbox (k := 6) s5 hn (.int .i64 p.d.count); have s6 := s5.put 6 (.int .i64 p.d.count); have r6 := r5.far (k := 6) (u := .int .i64 p.d.count) s5
  have a7 := a6.dbox (k := 7) s6 hn (.int .i64 p.d.rank); have s7 := s6.put 7 (.int .i64 p.d.rank); have r7 := r6.far (k := 7) (u := .int .i64 p.d.rank) s6
  have a8 := a7.dbox (k := 8) s7 hn p.vb; have r8 := r7.far (k := 8) (u := p.vb) s7
  exact ⟨a8.ks.kp, vs, ve, N, p, a8, hS, rfl, rfl, r8⟩
theorem infoD : (Tryz.prog.info? 54).map (fun i => (i.zero, i.size, i.bytes)) = some (some (.agg #[.int .i64 0, .string { data := #[] }, .bool false, .int .i64 0, .string { data := #[] }, .slice none 0 0, .int .i64 0, .int .i64 0, .slice none 0 0]), 9, 120) := by kernel_rfl
theorem infoT' : (Tryz.prog.info? 9).map (fun i => (i.zero, i.size, i.bytes)) = some (some (.string { data := #[] }), 1, 16) := by kernel_rfl
theorem dxform {B : Nat} {w : World} {s : Decl} {vp vb : Value} (h : DxR B w ⟨s, vp, vb⟩) : ∃ aa ca ab cb, vp = .slice aa s.params.length ca ∧ vb = .slice ab s.body.length cb := by
  obtain ⟨aa, ca, e1⟩ := row_form h.rp
  obtain ⟨ab, cb, e2⟩ := row_form h.rb
  exact ⟨aa, ca, ab, cb, e1, e2⟩
end Go.Proofs.YtikknlkdbjaonaaGreatDoor.Y
