/- Package whole's load. -/
import Derived.Test.YtnbfddjaonlmaaaGreatDoorP34
namespace Go.Proofs.YtnbfddjaonlmaaaGreatDoor
open Go.RowKit Go.Maps
set_option linter.unusedVariables false
set_option maxRecDepth 100000
attribute [local go_sem] Oper.semAt_some

/-- boundaries of a block -/
structure BkOk (g : OG) (b i0 i1 : Nat) : Prop where
  lt : b + 1 < g.ixs.length
  e0 : g.ixs.getD b 0 = i0
  e1 : g.ixs.getD (b + 1) 0 = i1
  le : i0 ≤ i1
  in_ : i1 ≤ (runesOf g.s).length
  near : bd g.s i1 ≤ bd g.s i0 + 4099
theorem BkOk.of {g : OG} (hg : g.Ok) {b : Nat} (hb : b + 1 < g.ixs.length) : BkOk g b (g.ixs.getD b 0) (g.ixs.getD (b + 1) 0) :=
  ⟨hb, rfl, rfl, (hg.bg.step b hb).1, hg.bg.in_ _, (hg.bg.step b hb).2⟩
theorem BkOk.row {g : OG} {b i0 i1 : Nat} (h : BkOk g b i0 i1) (hg : g.Ok) {j : Nat} (h0 : i0 ≤ j) (h1 : j ≤ i1) : bd g.s i0 ≤ bd g.s j ∧ bd g.s j - bd g.s i0 < g.nr := by
  have a := bd_mono g.s h0
  have b := bd_mono g.s h1
  have c := h.near
  have d := bd_le g.s j
  have e := hg.nr_eq
  omega
theorem row_fits {g : OG} {r n : Nat} {ws : List Nat} (hl : ws.length = n * g.L) (h : r < n) : r * g.L + g.L ≤ ws.length := by
  rw [hl]
  have := Nat.mul_le_mul_right g.L (show r + 1 ≤ n by omega)
  rw [Nat.add_mul] at this
  omega
theorem rows_apart {r r' L : Nat} (h : r ≠ r') : r' * L + L ≤ r * L ∨ r * L + L ≤ r' * L := by
  rcases Nat.lt_or_gt_of_ne h with h1 | h1
  · have := Nat.mul_le_mul_right L (show r + 1 ≤ r' by omega)
    rw [Nat.add_mul] at this
    omega
  · have := Nat.mul_le_mul_right L (show r' + 1 ≤ r by omega)
    rw [Nat.add_mul] at this
    omega
/-- the places of a block's runes, from its beginning -/
def plcOf (s : ByteArray) (i0 d : Nat) : Nat := bd s (i0 + d) - bd s i0
def plL (s : ByteArray) (i0 n : Nat) : List Value := (List.range n).map fun d => Value.int .i64 (plcOf s i0 d : Int)

/-- between two rounds of load's first loop; ip: where the iterator stands -/
structure PlR (w3 wr : World) (s P : ByteArray) (i0 i1 : Nat) (v : Value) (d ip : Nat) : Prop where
  le : i0 + d ≤ i1
  row : wr.ownsRow (w3.heap.size + 1) 3 1 v d (plL s i0 d)
  iter : wr.heap[w3.heap.size]? = some (.stringIter P ip)
  kept : Kept Nil w3 wr
  size : w3.heap.size + 1 ≤ wr.heap.size
theorem PlR.moved {w3 wr : World} {s P : ByteArray} {i0 i1 : Nat} {v : Value} {d ip : Nat} (h : PlR w3 wr s P i0 i1 v d ip) (ip' : Nat) : PlR w3 (wr.iterAt w3.heap.size P ip') s P i0 i1 v d ip' := by
  have k : Kept (fun i => i = w3.heap.size) wr (wr.iterAt w3.heap.size P ip') := (Kept.refl (fun i => i = w3.heap.size) wr).iterAt (k := w3.heap.size) (Or.inl rfl) P _
  exact ⟨h.le, ownsRow_kept h.row k (fun b hb hx => by have := (ownsRow_block h.row hb).1; omega), Lib.iterAt_heap wr _ P _ _ h.iter, h.kept.trans' k (fun i hi he => by omega), by rw [Lib.iterAt_size]; exact h.size⟩
theorem plL_succ (s : ByteArray) (i0 d : Nat) : plL s i0 (d + 1) = plL s i0 d ++ [.int .i64 (plcOf s i0 d : Int)] := by unfold plL; rw [List.range_succ]; simp
theorem PlR.pushed {w3 wr W w7 : World} {s P : ByteArray} {i0 i1 : Nat} {v v' : Value} {d ip : Nat} (h : PlR w3 wr s P i0 i1 v d ip) (hlt : i0 + d < i1) (k0 : Kept Nil wr W)
    (hown : w7.ownsRow (w3.heap.size + 1) 3 1 v' (d + 1) (plL s i0 d ++ [.int .i64 (plcOf s i0 d : Int)])) (hg : W.grownBy w7 v.ownBlock) : PlR w3 w7 s P i0 i1 v' (d + 1) ip := by
  have k7 : Kept (fun j => v.ownBlock = some j) wr w7 := (k0.mono (fun i hx => hx.elim)).grown hg (fun j hj => Or.inl hj)
  refine ⟨hlt, by rw [plL_succ]; exact hown, (k7.block _ (by have := h.size; omega) (fun e => by have := (ownsRow_block h.row e).1; omega)).trans h.iter, h.kept.trans' k7 (fun j hj he => by have := (ownsRow_block h.row he).1; omega), Nat.le_trans h.size k7.size⟩
/-- a rune of a part between two boundaries -/
theorem part_next {s : ByteArray} {i0 i1 d : Nat} (h : i0 + d < i1) (hi : i1 ≤ (runesOf s).length) : plcOf s i0 d < (s.extract (bd s i0) (bd s i1)).size ∧ plcOf s i0 d + (Utf8.decode (s.extract (bd s i0) (bd s i1)) (plcOf s i0 d)).2 = plcOf s i0 (d + 1) := by
  have hk : i0 + d < (runesOf s).length := by omega
  have m1 := bd_mono s (show i0 ≤ i0 + d by omega)
  have hlt := bd_strict (s := s) h hk
  have hnx := bd_next hk
  have hle := bd_mono s (show i0 + d + 1 ≤ i1 by omega)
  have hsz : (s.extract (bd s i0) (bd s i1)).size = bd s i1 - bd s i0 := extract_size s _ _ (bd_le s i1)
  have hdc : Utf8.decode (s.extract (bd s i0) (bd s i1)) (bd s (i0 + d) - bd s i0) = Utf8.decode s (bd s (i0 + d)) := by
    have := decode_cut s (bd s i0) (bd s i1) (bd s (i0 + d) - bd s i0) (bd_le s i1) (by omega) (by rw [show bd s i0 + (bd s (i0 + d) - bd s i0) = bd s (i0 + d) by omega]; omega)
    rw [show bd s i0 + (bd s (i0 + d) - bd s i0) = bd s (i0 + d) by omega] at this
    exact this
  unfold plcOf
  rw [hdc, hsz, show i0 + (d + 1) = i0 + d + 1 by omega]
  omega
theorem part_end {s : ByteArray} {i0 i1 d : Nat} (h : i0 + d = i1) : ¬ plcOf s i0 d < (s.extract (bd s i0) (bd s i1)).size := by
  have hsz : (s.extract (bd s i0) (bd s i1)).size = bd s i1 - bd s i0 := extract_size s _ _ (bd_le s i1)
  unfold plcOf
  rw [hsz, h]
  omega
/-- what load's second region reads -/
def LdS (ob bx bgb n cb b f0 f1 : Nat) (W : World) : Prop := W.cell? ⟨bx, 0, none⟩ = some (.pointer (some ⟨ob, 0, none⟩)) ∧ W.cell? ⟨ob, 8, none⟩ = some (.slice (some ⟨bgb, 0, none⟩) n cb) ∧ W.cell? ⟨bgb, b, none⟩ = some (.int .i64 (f0 : Int)) ∧ W.cell? ⟨bgb, b + 1, none⟩ = some (.int .i64 (f1 : Int))
/-- what its third region reads -/
def LdS3 (ob bx b4 rh nr cr WB L r fh n cf FB b f0 : Nat) (W : World) : Prop := (W.cell? ⟨bx, 0, none⟩ = some (.pointer (some ⟨ob, 0, none⟩)) ∧ W.cell? ⟨ob, 11, none⟩ = some (.slice (some ⟨rh, 0, none⟩) nr cr) ∧ W.cell? ⟨ob, 9, none⟩ = some (.slice (some ⟨fh, 0, none⟩) n cf)) ∧ W.cell? ⟨rh, r, none⟩ = some (.slice (some ⟨WB, r * L, none⟩) L L) ∧ W.cell? ⟨fh, b + 1, none⟩ = some (.slice (some ⟨FB, (b + 1) * L, none⟩) L L) ∧ W.cell? ⟨b4, 0, none⟩ = some (.int .i64 (f0 : Int))
def LdS5 (ob bx b4 f0 : Nat) (s : ByteArray) (W : World) : Prop := W.cell? ⟨bx, 0, none⟩ = some (.pointer (some ⟨ob, 0, none⟩)) ∧ W.cell? ⟨ob, 3, none⟩ = some (.string s) ∧ W.cell? ⟨b4, 0, none⟩ = some (.int .i64 (f0 : Int))
theorem Kept.putObj {S : Nat → Prop} {a w : World} (h : Kept S a w) {l : Nat} (hl : a.heap.size ≤ l) (o : Obj) : Kept S a (w.putObj l o) :=
  ⟨h.os, h.tape, h.output, by have := h.size; simpa using this, fun k hk hs => (World.putObj_heap_other (by omega)).trans (h.block k hk hs)⟩
/-- the row behind, whichever it is -/
theorem next_row {g : OG} (hg : g.Ok) {b i0 i1 d x bh px : Nat} (hb : BkOk g b i0 i1) (hd : i0 + d = i1) (hx : x < d) (hpx : plcOf g.s i0 x = px) (hpn : px < g.nr) (hbh : bh < g.nr) {W : World} {wq : List Nat} (hl : wq.length = g.nr * g.L) (hw : W64 wq) {H : Prop} (hH : H → bh = plcOf g.s i0 (x + 1) ∧ RowsOk g wq b (i0 + (x + 1))) :
    NextAt W g.WB (px * g.L) g.WB (bh * g.L) g.L wq (fun nx => H → ∀ u : Nat, u < g.ms.length → bitAt nx 0 u = (decide (i0 + x < (runesOf g.s).length) && off g.ms (txOf g.s) u (i0 + x + 1))) := by
  intro W' cur hk hcl hcw hbk
  have hfp := row_fits (g := g) hl hpn
  have hfb := row_fits (g := g) hl hbh
  have hsl : (splice wq (px * g.L) cur).length = wq.length := length_splice _ _ _ (by omega)
  have hin := hb.in_
  have hlt : i0 + x < (runesOf g.s).length := by omega
  have hst := bd_step hlt
  have m1 := bd_mono g.s (show i0 ≤ i0 + x by omega)
  have hne : H → bh ≠ px := fun h e => by
    have := (hH h).1
    unfold plcOf at this hpx
    rw [show i0 + (x + 1) = i0 + x + 1 by omega] at this
    omega
  by_cases e : bh = px
  · refine ⟨cur, hcw, fun k hkL => ?_, fun h => absurd e (hne h)⟩
    have := hbk.cell (bh * g.L + k)
    rw [u64_cell (by omega), splice_getD _ _ _ (by omega), if_pos (by subst e; omega)] at this
    rw [this]
    subst e
    rw [Nat.add_sub_cancel_left]
  · have hap := rows_apart (L := g.L) (fun h => e h.symm : px ≠ bh)
    refine ⟨seg wq (bh * g.L) g.L, hw.seg _ _, fun k hkL => ?_, fun h u hu => ?_⟩
    · have := hbk.cell (bh * g.L + k)
      rw [u64_cell (by omega), splice_getD _ _ _ (by omega), if_neg (by omega)] at this
      rw [this, seg_getD hkL]
    · have hu2 : u / 64 < g.L := by have := hg.L_eq; omega
      obtain ⟨h1, h2⟩ := hH h
      have h3 := h2 (i0 + (x + 1)) (Nat.le_refl _) (by rw [hb.e1]; omega) u hu
      have e3 : bd g.s (i0 + (x + 1)) - g.from b = bh := by unfold OG.from; rw [hb.e0, h1]; rfl
      rw [e3] at h3
      rw [bitAt_seg hu2, h3]
      simp [hlt, Nat.add_assoc]
/-- the rows when one more is reckoned -/
theorem rows_more {g : OG} (hg : g.Ok) {b i0 i1 d k px : Nat} (hb : BkOk g b i0 i1) (hd : i0 + d = i1) (hk : k < d) (hpx : plcOf g.s i0 k = px) (hpn : px < g.nr) {wq cur : List Nat} (hl : wq.length = g.nr * g.L) (hcl : cur.length = g.L) (hr : RowsOk g wq b (i0 + (k + 1))) (hc : ∀ u : Nat, u < g.ms.length → bitAt cur 0 u = off g.ms (txOf g.s) u (i0 + k)) : RowsOk g (splice wq (px * g.L) cur) b (i0 + k) := by
  intro j hj1 hj2 u hu
  have hfp := row_fits (g := g) hl hpn
  have hu2 : u / 64 < g.L := by have := hg.L_eq; omega
  rw [hb.e1] at hj2
  have hin := hb.in_
  by_cases e : j = i0 + k
  · subst e
    have e3 : bd g.s (i0 + k) - g.from b = px := by unfold OG.from; rw [hb.e0]; exact hpx
    rw [e3, bitAt_splice (by omega) (by omega)]
    exact hc u hu
  · have hne : px ≠ bd g.s j - g.from b := by
      unfold OG.from
      rw [hb.e0, ← hpx]
      have := bd_strict (s := g.s) (show i0 + k < j by omega) (by omega)
      have := bd_mono g.s (show i0 ≤ i0 + k by omega)
      unfold plcOf
      omega
    have hap := rows_apart (L := g.L) hne
    rw [bitAt_other (L := g.L) (by omega) (by omega) hu2]
    exact hr j (by omega) (by rw [hb.e1]; exact hj2) u hu
/-- a round's frame -/
def LdAx {N : Nat} (bx B8 : Nat) (p : Nat → Nat) (x : Under N) (a' : Act) : Prop := ∃ z0 z1 z3 z5 z6 z7 z9 z11 z12 z13 z14 z15 z16 z17 z18 z19 z20 z21 z22 z23 z24 z25 z26 z27 z28 z29 z30 z31 z32 z33 z34 z35 z36 z37 z38 z39 z40 z41 z42 z43 z44 z45 z46 z47 z48 z49 z50 z51 z52 z53 z54 z55 z56 z57 z58 z59 z60 z61 z62 z63 z64 z65 z66 z67 z68 z69 z70 z71 z72 z73 z74 z75 z76 z77 z78 z79 z80 z81 z82 z83 z84 z85 z86 z87 z88 z89 z90 : Value, a' = { tmps := #[z0, z1, .pointer (some ⟨bx, 0, none⟩), z3, .pointer (some ⟨bx + 1, 0, none⟩), z5, z6, z7, .pointer (some ⟨B8, 0, none⟩), z9, .int .i64 (p x.1 : Int), z11, z12, z13, z14, z15, z16, z17, z18, z19, z20, z21, z22, z23, z24, z25, z26, z27, z28, z29, z30, z31, z32, z33, z34, z35, z36, z37, z38, z39, z40, z41, z42, z43, z44, z45, z46, z47, z48, z49, z50, z51, z52, z53, z54, z55, z56, z57, z58, z59, z60, z61, z62, z63, z64, z65, z66, z67, z68, z69, z70, z71, z72, z73, z74, z75, z76, z77, z78, z79, z80, z81, z82, z83, z84, z85, z86, z87, z88, z89, z90], defers := [] }
/-- between two rounds of its second loop -/
def LdI (g : OG) (w3 : World) (B8 b i0 d : Nat) (pre : List (Under d)) (W : World) : Prop :=
  Kept (fun i => i = g.WB) w3 W ∧ ∃ (bh : Nat) (wq : List Nat), Blk W B8 #[.int .i64 (bh : Int)] 3 ∧ bh < g.nr ∧ Blk W g.WB (u64L wq).toArray 132 ∧ (wq.length = g.nr * g.L ∧ W64 wq) ∧ (∀ k, k ≤ d → pre.map (·.1) = dnL k d → bh = plcOf g.s i0 k ∧ RowsOk g wq b (i0 + k))
theorem LdI.own (g : OG) (w3 : World) (B8 b i0 d B : Nat) (hB : w3.heap.size ≤ B) : OwnFrom B (LdI g w3 B8 b i0 d) := fun s W W' row h hg hr => by
  obtain ⟨k, bh, wq, h1, h2, h3, h4⟩ := h
  exact ⟨k.grown hg (fun j e => Or.inr (by have := (hr j e).1; omega)), bh, wq, blk_own B8 _ _ () W W' row h1 hg (fun r e => (hr r e).2), h2, blk_own g.WB _ _ () W W' row h3 hg (fun r e => (hr r e).2), h4⟩
/-- what a round reads -/
def LdS12 (ob bx rh nr cr WB L px bh B8 f0 : Nat) (W : World) : Prop := (W.cell? ⟨bx, 0, none⟩ = some (.pointer (some ⟨ob, 0, none⟩)) ∧ W.cell? ⟨ob, 11, none⟩ = some (.slice (some ⟨rh, 0, none⟩) nr cr)) ∧ W.cell? ⟨rh, px, none⟩ = some (.slice (some ⟨WB, px * L, none⟩) L L) ∧ W.cell? ⟨rh, bh, none⟩ = some (.slice (some ⟨WB, bh * L, none⟩) L L) ∧ W.cell? ⟨B8, 0, none⟩ = some (.int .i64 (bh : Int)) ∧ W.cell? ⟨bx + 1, 0, none⟩ = some (.int .i64 (f0 : Int))
set_option maxHeartbeats 8000000 in
theorem load_in (n : Nat) (hn : 3 ≤ n) {w : World} {g : OG} {blk : Nat} {wf wr : List Nat} (hg : g.Ok) (hO : OtAt w g blk wf wr) {b i0 i1 : Nat} (hb : BkOk g b i0 i1) (hF : RowOk g wf (b + 1) i1) :
    CallsIn Fence.wide n Tryz.prog 59 #[.pointer (some ⟨g.ob, 0, none⟩), .int .i64 (b : Int)] w fun e w' => e = .returned (.tuple #[]) ∧ ∃ wr', OtAt w' g b wf wr' ∧ RowsOk g wr' b i0 ∧ Kept (fun i => i = g.ob ∨ i = g.WB) w w' := by
  have h1 : 1 ≤ n := by omega
  have hbn := hb.lt
  have hfew := hg.bg.few
  have hsz := hg.size
  have HG := hid hg
  have HO := hid hO
  have HB := hid hb
  have HF := hid hF
  have hoblt := hO.rk.out.lt
  have hWBlt := hO.bw.lt
  have hbd0 := bd_le g.s i0
  have hbd1 := bd_le g.s i1
  have f10 : w.frozen? ⟨g.ob, 10, none⟩ = false := hO.rk.out.frozen 10
  have c10 : w.cell? ⟨g.ob, 10, none⟩ = some (.int .i64 (blk : Int)) := hO.rk.out.cell 10
  clear hg hO hb hF
  refine callsIn_of_wp_marks Tryz.func59 rfl trivial ?_ rfl
  simp only [Tryz.ntmps59, List.size_toArray, List.length_cons, List.length_nil, Nat.reduceAdd, Nat.reduceSub, Array.replicate_succ, Array.replicate_zero, List.push_toArray, List.append_toArray, List.nil_append, List.cons_append]
  refine wpIn_wide.2 ?_
  go_wp2_with fail
  have hs0 : (w.setCell ⟨g.ob, 10, none⟩ (.int .i64 (b : Int))).heap.size = w.heap.size := by simp [World.setCell]
  have K1 : Hid (Kept (fun i => i = g.ob) w ((w.setCell ⟨g.ob, 10, none⟩ (.int .i64 (b : Int))).alloc (.cells #[.pointer (some ⟨g.ob, 0, none⟩)] 101))) := ((Kept.refl (fun i => i = g.ob) w).setCell (p := ⟨g.ob, 10, none⟩) (Or.inl rfl) _).alloc _
  have O1 : Hid (OtAt ((w.setCell ⟨g.ob, 10, none⟩ (.int .i64 (b : Int))).alloc (.cells #[.pointer (some ⟨g.ob, 0, none⟩)] 101)) g b wf wr) := (HO.out.setBlk HG.out b).kept ((Kept.refl Nil _).alloc _)
  have B1 : Hid (Blk ((w.setCell ⟨g.ob, 10, none⟩ (.int .i64 (b : Int))).alloc (.cells #[.pointer (some ⟨g.ob, 0, none⟩)] 101)) w.heap.size #[.pointer (some ⟨g.ob, 0, none⟩)] 101) := by
    have := Blk.new (w.setCell ⟨g.ob, 10, none⟩ (.int .i64 (b : Int))) #[.pointer (some ⟨g.ob, 0, none⟩)] 101
    rw [hs0] at this
    exact this
  have hs1 : ((w.setCell ⟨g.ob, 10, none⟩ (.int .i64 (b : Int))).alloc (.cells #[.pointer (some ⟨g.ob, 0, none⟩)] 101)).heap.size = w.heap.size + 1 := by rw [size_alloc1, hs0]
  generalize ((w.setCell ⟨g.ob, 10, none⟩ (.int .i64 (b : Int))).alloc (.cells #[.pointer (some ⟨g.ob, 0, none⟩)] 101)) = w1 at *
  clear hs0
  clear f10 c10 HO
  have e0 := HB.out.e0
  have e1 := HB.out.e1
  have PS : Hid (∀ W, Kept Nil w1 W → LdS g.ob w.heap.size g.bgb g.ixs.length g.cb b (bd g.s i0) (bd g.s i1) W) := fun W k => by
    have O2 := O1.out.kept k
    refine ⟨(B1.out.kept k (fun h => h)).cell 0, O2.rk.out.cell 8, ?_, ?_⟩
    · rw [← e0]; exact O2.bg b (by omega)
    · rw [← e1]; exact O2.bg (b + 1) (by omega)
  clear e0 e1
  have hS0 := PS.out w1.drew (Kept.refl Nil w1).drew
  refine wp_just (wp_region_any (by kernel_rfl) (wpAny_of_held (S := LdS g.ob w.heap.size g.bgb g.ixs.length g.cb b (bd g.s i0) (bd g.s i1)) _ _ _ _ ?_))
  refine takeH 0 15 (.pointer (some ⟨g.ob, 0, none⟩)) rfl rfl (by kernel_rfl) (by kernel_rfl) (by kernel_rfl) (fun _ _ _ h => h) (Or.inl ⟨by rfl, fun W hSW => by obtain ⟨s0, s1, s2, s3⟩ := hSW; go_simp⟩) hS0 ?_
  refine takeH 1 16 (.pointer (some ⟨g.ob, 0, none⟩)) rfl rfl (by kernel_rfl) (by kernel_rfl) (by kernel_rfl) (fun _ _ _ h => h) (Or.inl ⟨by rfl, fun W hSW => by obtain ⟨s0, s1, s2, s3⟩ := hSW; go_simp⟩) hS0 ?_
  refine takeH 2 17 (.pointer (some ⟨g.ob, 8, none⟩)) rfl rfl (by kernel_rfl) (by kernel_rfl) (by kernel_rfl) (fun _ _ _ h => h) (Or.inl ⟨by rfl, fun W hSW => by obtain ⟨s0, s1, s2, s3⟩ := hSW; go_simp⟩) hS0 ?_
  refine takeH 3 18 (.slice (some ⟨g.bgb, 0, none⟩) g.ixs.length g.cb) rfl rfl (by kernel_rfl) (by kernel_rfl) (by kernel_rfl) (fun _ _ _ h => h) (Or.inl ⟨by rfl, fun W hSW => by obtain ⟨s0, s1, s2, s3⟩ := hSW; go_simp⟩) hS0 ?_
  refine takeH 4 19 (.int .i64 (b : Int)) rfl rfl (by kernel_rfl) (by kernel_rfl) (by kernel_rfl) (fun _ _ _ h => h) (Or.inl ⟨by rfl, fun W hSW => by obtain ⟨s0, s1, s2, s3⟩ := hSW; go_simp⟩) hS0 ?_
  refine takeH 5 20 (.pointer (some ⟨g.bgb, b, none⟩)) rfl rfl (by kernel_rfl) (by kernel_rfl) (by kernel_rfl) (fun _ _ _ h => h) (Or.inl ⟨by rfl, fun W hSW => by obtain ⟨s0, s1, s2, s3⟩ := hSW; go_simp; intro hx; exact absurd hx (by omega)⟩) hS0 ?_
  refine takeH 6 21 (.int .i64 (bd g.s i0 : Int)) rfl rfl (by kernel_rfl) (by kernel_rfl) (by kernel_rfl) (fun _ _ _ h => h) (Or.inl ⟨by rfl, fun W hSW => by obtain ⟨s0, s1, s2, s3⟩ := hSW; go_simp⟩) hS0 ?_
  refine takeH 7 22 (.pointer (some ⟨g.ob, 0, none⟩)) rfl rfl (by kernel_rfl) (by kernel_rfl) (by kernel_rfl) (fun _ _ _ h => h) (Or.inl ⟨by rfl, fun W hSW => by obtain ⟨s0, s1, s2, s3⟩ := hSW; go_simp⟩) hS0 ?_
  refine takeH 8 23 (.pointer (some ⟨g.ob, 0, none⟩)) rfl rfl (by kernel_rfl) (by kernel_rfl) (by kernel_rfl) (fun _ _ _ h => h) (Or.inl ⟨by rfl, fun W hSW => by obtain ⟨s0, s1, s2, s3⟩ := hSW; go_simp⟩) hS0 ?_
  refine takeH 9 24 (.pointer (some ⟨g.ob, 8, none⟩)) rfl rfl (by kernel_rfl) (by kernel_rfl) (by kernel_rfl) (fun _ _ _ h => h) (Or.inl ⟨by rfl, fun W hSW => by obtain ⟨s0, s1, s2, s3⟩ := hSW; go_simp⟩) hS0 ?_
  refine takeH 10 25 (.slice (some ⟨g.bgb, 0, none⟩) g.ixs.length g.cb) rfl rfl (by kernel_rfl) (by kernel_rfl) (by kernel_rfl) (fun _ _ _ h => h) (Or.inl ⟨by rfl, fun W hSW => by obtain ⟨s0, s1, s2, s3⟩ := hSW; go_simp⟩) hS0 ?_
  refine takeH 11 26 (.int .i64 (b : Int)) rfl rfl (by kernel_rfl) (by kernel_rfl) (by kernel_rfl) (fun _ _ _ h => h) (Or.inl ⟨by rfl, fun W hSW => by obtain ⟨s0, s1, s2, s3⟩ := hSW; go_simp⟩) hS0 ?_
  refine takeH 12 27 (.int .i64 ((b : Int) + 1)) rfl rfl (by kernel_rfl) (by kernel_rfl) (by kernel_rfl) (fun _ _ _ h => h) (Or.inl ⟨by rfl, fun W hSW => by obtain ⟨s0, s1, s2, s3⟩ := hSW; go_simp; rw [IntKind.wrap_i64]; omega⟩) hS0 ?_
  refine takeH 13 28 (.pointer (some ⟨g.bgb, b + 1, none⟩)) rfl rfl (by kernel_rfl) (by kernel_rfl) (by kernel_rfl) (fun _ _ _ h => h) (Or.inl ⟨by rfl, fun W hSW => by obtain ⟨s0, s1, s2, s3⟩ := hSW; go_simp; intro hx; exact absurd (hx (by omega)) (by omega)⟩) hS0 ?_
  refine takeH 14 29 (.int .i64 (bd g.s i1 : Int)) rfl rfl (by kernel_rfl) (by kernel_rfl) (by kernel_rfl) (fun _ _ _ h => h) (Or.inl ⟨by rfl, fun W hSW => by obtain ⟨s0, s1, s2, s3⟩ := hSW; go_simp⟩) hS0 ?_
  simp only [Act.put, List.setIfInBounds_toArray, List.set_cons_zero, List.set_cons_succ]
  refine wpAnyH_ready (rs := [15]) (by kernel_rfl) (by simp) (AllReadyH.cons rfl (fun K hK => ?_) AllReadyH.nil)
  go_simp
  have kA : Kept Nil w1 (w1.alloc (.cells #[.int .i64 0] 3)).drew := ((Kept.refl Nil w1).alloc _).drew
  refine hK.out _ _ (PS.out _ kA) (fun _ => ?_)
  clear hK K
  have kB : Kept Nil w1 (w1.alloc (.cells #[.int .i64 (bd g.s i0 : Int)] 3)).drew := ((Kept.refl Nil w1).alloc _).drew
  have B4 : Hid (Blk (w1.alloc (.cells #[.int .i64 (bd g.s i0 : Int)] 3)).drew (w.heap.size + 1) #[.int .i64 (bd g.s i0 : Int)] 3) := by have := Blk.new w1 #[.int .i64 (bd g.s i0 : Int)] 3; rw [hs1] at this; exact this
  have hs2 : (w1.alloc (.cells #[.int .i64 (bd g.s i0 : Int)] 3)).drew.heap.size = w.heap.size + 1 + 1 := by simp [World.drew, hs1]
  have O2 := hid (O1.out.kept kB)
  have B2 := hid (B1.out.kept kB (fun h => h))
  have K2 := hid (K1.out.trans (kB.mono (fun _ h => h.elim)))
  have KB := hid kB
  clear kA kB
  refine wpAnyH_ready (rs := [16]) (by kernel_rfl) (by simp) (AllReadyH.cons rfl (fun K hK => ?_) AllReadyH.nil)
  go_simp
  refine hK.out _ _ (PS.out _ KB.out) (fun _ => ?_)
  clear hK K
  refine wpAnyH_ready (rs := [17]) (by kernel_rfl) (by simp) (AllReadyH.cons rfl (fun K hK => ?_) AllReadyH.nil)
  go_simp
  refine hK.out _ _ (PS.out _ KB.out) (fun _ => ?_)
  clear hK K
  refine wpAnyH_done (by kernel_rfl) ?_ _
  refine justN_n ?_
  generalize (w1.alloc (.cells #[.int .i64 (bd g.s i0 : Int)] 3)).drew = w2 at *
  clear PS hS0 KB O1 B1 K1 hs1
  go_wp2_with fail
  obtain ⟨r, HRR⟩ : ∃ r, Hid (bd g.s i1 = bd g.s i0 + r) := ⟨bd g.s i1 - bd g.s i0, by show _ = _; have := bd_mono g.s HB.out.le; omega⟩
  have hrn : r < g.nr := by have := HB.out.row HG.out HB.out.le (Nat.le_refl _); have := HRR.out; omega
  have PS3 : Hid (∀ W, Kept Nil w2 W → LdS3 g.ob w.heap.size (w.heap.size + 1) g.rh g.nr g.cr g.WB g.L r g.fh g.ixs.length g.cf g.FB b (bd g.s i0) W) := fun W k => by
    have O3 := O2.out.kept k
    exact ⟨⟨(B2.out.kept k (fun h => h)).cell 0, O3.rk.out.cell 11, O3.rk.out.cell 9⟩, O3.rh r hrn, O3.fh (b + 1) hbn, (B4.out.kept k (fun h => h)).cell 0⟩
  have hS0 := PS3.out w2.drew (Kept.refl Nil w2).drew
  refine wp_just (wp_region_last (S := LdS3 g.ob w.heap.size (w.heap.size + 1) g.rh g.nr g.cr g.WB g.L r g.fh g.ixs.length g.cf g.FB b (bd g.s i0)) 17 (by kernel_rfl) rfl rfl rfl (by kernel_rfl) (by kernel_rfl) ?_)
  refine takeH 0 30 (.pointer (some ⟨g.ob, 0, none⟩)) rfl rfl (by kernel_rfl) (by kernel_rfl) (by kernel_rfl) (fun _ _ _ h => h) (Or.inl ⟨by rfl, fun W hSW => by obtain ⟨⟨s0, s1, s2⟩, s3, s4, s5⟩ := hSW; go_simp⟩) hS0 ?_
  refine takeH 1 31 (.pointer (some ⟨g.ob, 0, none⟩)) rfl rfl (by kernel_rfl) (by kernel_rfl) (by kernel_rfl) (fun _ _ _ h => h) (Or.inl ⟨by rfl, fun W hSW => by obtain ⟨⟨s0, s1, s2⟩, s3, s4, s5⟩ := hSW; go_simp⟩) hS0 ?_
  refine takeH 2 32 (.pointer (some ⟨g.ob, 11, none⟩)) rfl rfl (by kernel_rfl) (by kernel_rfl) (by kernel_rfl) (fun _ _ _ h => h) (Or.inl ⟨by rfl, fun W hSW => by obtain ⟨⟨s0, s1, s2⟩, s3, s4, s5⟩ := hSW; go_simp⟩) hS0 ?_
  refine takeH 3 33 (.slice (some ⟨g.rh, 0, none⟩) g.nr g.cr) rfl rfl (by kernel_rfl) (by kernel_rfl) (by kernel_rfl) (fun _ _ _ h => h) (Or.inl ⟨by rfl, fun W hSW => by obtain ⟨⟨s0, s1, s2⟩, s3, s4, s5⟩ := hSW; go_simp⟩) hS0 ?_
  refine takeH 4 34 (.int .i64 (bd g.s i1 : Int)) rfl rfl (by kernel_rfl) (by kernel_rfl) (by kernel_rfl) (fun _ _ _ h => h) (Or.inl ⟨by rfl, fun W hSW => by obtain ⟨⟨s0, s1, s2⟩, s3, s4, s5⟩ := hSW; go_simp⟩) hS0 ?_
  refine takeH 5 35 (.int .i64 (bd g.s i0 : Int)) rfl rfl (by kernel_rfl) (by kernel_rfl) (by kernel_rfl) (fun _ _ _ h => h) (Or.inl ⟨by rfl, fun W hSW => by obtain ⟨⟨s0, s1, s2⟩, s3, s4, s5⟩ := hSW; go_simp⟩) hS0 ?_
  refine takeH 6 36 (.int .i64 (r : Int)) rfl rfl (by kernel_rfl) (by kernel_rfl) (by kernel_rfl) (fun _ _ _ h => h) (Or.inl ⟨by rfl, fun W hSW => by obtain ⟨⟨s0, s1, s2⟩, s3, s4, s5⟩ := hSW; go_simp; rw [IntKind.wrap_i64]; have := HRR.out; omega⟩) hS0 ?_
  refine takeH 7 37 (.pointer (some ⟨g.rh, r, none⟩)) rfl rfl (by kernel_rfl) (by kernel_rfl) (by kernel_rfl) (fun _ _ _ h => h) (Or.inl ⟨by rfl, fun W hSW => by obtain ⟨⟨s0, s1, s2⟩, s3, s4, s5⟩ := hSW; go_simp⟩) hS0 ?_
  refine takeH 8 38 (.slice (some ⟨g.WB, r * g.L, none⟩) g.L g.L) rfl rfl (by kernel_rfl) (by kernel_rfl) (by kernel_rfl) (fun _ _ _ h => h) (Or.inl ⟨by rfl, fun W hSW => by obtain ⟨⟨s0, s1, s2⟩, s3, s4, s5⟩ := hSW; go_simp⟩) hS0 ?_
  refine takeH 9 39 (.pointer (some ⟨g.ob, 0, none⟩)) rfl rfl (by kernel_rfl) (by kernel_rfl) (by kernel_rfl) (fun _ _ _ h => h) (Or.inl ⟨by rfl, fun W hSW => by obtain ⟨⟨s0, s1, s2⟩, s3, s4, s5⟩ := hSW; go_simp⟩) hS0 ?_
  refine takeH 10 40 (.pointer (some ⟨g.ob, 0, none⟩)) rfl rfl (by kernel_rfl) (by kernel_rfl) (by kernel_rfl) (fun _ _ _ h => h) (Or.inl ⟨by rfl, fun W hSW => by obtain ⟨⟨s0, s1, s2⟩, s3, s4, s5⟩ := hSW; go_simp⟩) hS0 ?_
  refine takeH 11 41 (.pointer (some ⟨g.ob, 9, none⟩)) rfl rfl (by kernel_rfl) (by kernel_rfl) (by kernel_rfl) (fun _ _ _ h => h) (Or.inl ⟨by rfl, fun W hSW => by obtain ⟨⟨s0, s1, s2⟩, s3, s4, s5⟩ := hSW; go_simp⟩) hS0 ?_
  refine takeH 12 42 (.slice (some ⟨g.fh, 0, none⟩) g.ixs.length g.cf) rfl rfl (by kernel_rfl) (by kernel_rfl) (by kernel_rfl) (fun _ _ _ h => h) (Or.inl ⟨by rfl, fun W hSW => by obtain ⟨⟨s0, s1, s2⟩, s3, s4, s5⟩ := hSW; go_simp⟩) hS0 ?_
  refine takeH 13 43 (.int .i64 (b : Int)) rfl rfl (by kernel_rfl) (by kernel_rfl) (by kernel_rfl) (fun _ _ _ h => h) (Or.inl ⟨by rfl, fun W hSW => by obtain ⟨⟨s0, s1, s2⟩, s3, s4, s5⟩ := hSW; go_simp⟩) hS0 ?_
  refine takeH 14 44 (.int .i64 ((b : Int) + 1)) rfl rfl (by kernel_rfl) (by kernel_rfl) (by kernel_rfl) (fun _ _ _ h => h) (Or.inl ⟨by rfl, fun W hSW => by obtain ⟨⟨s0, s1, s2⟩, s3, s4, s5⟩ := hSW; go_simp; rw [IntKind.wrap_i64]; omega⟩) hS0 ?_
  refine takeH 15 45 (.pointer (some ⟨g.fh, b + 1, none⟩)) rfl rfl (by kernel_rfl) (by kernel_rfl) (by kernel_rfl) (fun _ _ _ h => h) (Or.inl ⟨by rfl, fun W hSW => by obtain ⟨⟨s0, s1, s2⟩, s3, s4, s5⟩ := hSW; go_simp; intro hx; exact absurd (hx (by omega)) (by omega)⟩) hS0 ?_
  refine takeH 16 46 (.slice (some ⟨g.FB, (b + 1) * g.L, none⟩) g.L g.L) rfl rfl (by kernel_rfl) (by kernel_rfl) (by kernel_rfl) (fun _ _ _ h => h) (Or.inl ⟨by rfl, fun W hSW => by obtain ⟨⟨s0, s1, s2⟩, s3, s4, s5⟩ := hSW; go_simp⟩) hS0 ?_
  simp only [Act.put, List.setIfInBounds_toArray, List.set_cons_zero, List.set_cons_succ]
  refine wpAnyH_done (by kernel_rfl) ?_ _
  unfold thenLast
  refine wp_copy_words (.tmp 38) (.tmp 46) 121 121 rfl 132 Tryz.underlying121 (by kernel_rfl) g.WB (r * g.L) g.L g.L g.L g.FB ((b + 1) * g.L) rfl rfl wr 132 O2.out.bw (seg wf ((b + 1) * g.L) g.L) ?l1 ?l2 ?l3 ?_
  case l1 => exact seg_length (row_fits O2.out.fl.1 hbn)
  case l2 =>
    intro k hk
    have hf := row_fits (g := g) O2.out.fl.1 hbn
    have := O2.out.bf.cell ((b + 1) * g.L + k)
    rw [u64_cell (by omega)] at this
    rw [seg_getD hk]
    exact this
  case l3 => exact row_fits O2.out.wl.1 hrn
  intro w3 hb3 hk3
  have k23 : Kept (fun i => i = g.WB) w2 w3 := (Kept.refl (fun i => i = g.WB) w2).drew.trans hk3
  have hfr := row_fits (g := g) O2.out.wl.1 hrn
  have hff := row_fits (g := g) O2.out.fl.1 hbn
  have hsl : (seg wf ((b + 1) * g.L) g.L).length = g.L := seg_length hff
  have O3 : Hid (OtAt w3 g b wf (splice wr (r * g.L) (seg wf ((b + 1) * g.L) g.L))) := O2.out.rowW HG.out k23 hb3 ⟨by rw [length_splice _ _ _ (by rw [hsl]; exact hfr)]; exact O2.out.wl.1, O2.out.wl.2.splice (O2.out.fl.2.seg _ _) _⟩
  have R3 : Hid (RowOk g (splice wr (r * g.L) (seg wf ((b + 1) * g.L) g.L)) r i1) := fun u hu => by
    have hu2 : u / 64 < g.L := by have := HG.out.L_eq; omega
    rw [bitAt_splice (by rw [hsl]; exact hfr) (by rw [hsl]; exact hu2), bitAt_seg hu2]
    exact HF.out u hu
  have B3 := hid (B2.out.kept k23 (by omega))
  have B43 := hid (B4.out.kept k23 (by omega))
  have K3 : Hid (Kept (fun i => i = g.ob ∨ i = g.WB) w w3) := (K2.out.mono (fun i h => Or.inl h)).trans (k23.mono (fun i h => Or.inr h))
  have hs3 : w.heap.size + 1 + 1 ≤ w3.heap.size := by have := k23.size; omega
  generalize splice wr (r * g.L) (seg wf ((b + 1) * g.L) g.L) = wr1 at *
  clear hb3 hk3 k23 O2 B2 B4 K2 PS3 hS0 HF hfr hff hsl hs2
  refine justN_n ?_
  simp only [List.getElem_toArray, List.getElem_cons_succ, List.getElem_cons_zero, Act.put, List.setIfInBounds_toArray, List.set_cons_zero, List.set_cons_succ]
  go_wp2_with fail
  have PS5 : Hid (∀ W, Kept Nil w3 W → LdS5 g.ob w.heap.size (w.heap.size + 1) (bd g.s i0) g.s W) := fun W k => ⟨(B3.out.kept k (fun h => h)).cell 0, (O3.out.kept k).rk.out.cell 3, (B43.out.kept k (fun h => h)).cell 0⟩
  have hS0 := PS5.out w3.drew (Kept.refl Nil w3).drew
  have hle01 := bd_mono g.s HB.out.le
  refine wp_just (wp_region_last (S := LdS5 g.ob w.heap.size (w.heap.size + 1) (bd g.s i0) g.s) 8 (by kernel_rfl) rfl rfl rfl (by kernel_rfl) (by kernel_rfl) ?_)
  refine takeH 0 48 (.pointer (some ⟨g.ob, 0, none⟩)) rfl rfl (by kernel_rfl) (by kernel_rfl) (by kernel_rfl) (fun _ _ _ h => h) (Or.inl ⟨by rfl, fun W hSW => by obtain ⟨s0, s1, s2⟩ := hSW; go_simp⟩) hS0 ?_
  refine takeH 1 49 (.pointer (some ⟨g.ob, 0, none⟩)) rfl rfl (by kernel_rfl) (by kernel_rfl) (by kernel_rfl) (fun _ _ _ h => h) (Or.inl ⟨by rfl, fun W hSW => by obtain ⟨s0, s1, s2⟩ := hSW; go_simp⟩) hS0 ?_
  refine takeH 2 50 (.pointer (some ⟨g.ob, 3, none⟩)) rfl rfl (by kernel_rfl) (by kernel_rfl) (by kernel_rfl) (fun _ _ _ h => h) (Or.inl ⟨by rfl, fun W hSW => by obtain ⟨s0, s1, s2⟩ := hSW; go_simp⟩) hS0 ?_
  refine takeH 3 51 (.pointer (some ⟨g.ob, 3, none⟩)) rfl rfl (by kernel_rfl) (by kernel_rfl) (by kernel_rfl) (fun _ _ _ h => h) (Or.inl ⟨by rfl, fun W hSW => by obtain ⟨s0, s1, s2⟩ := hSW; go_simp⟩) hS0 ?_
  refine takeH 4 52 (.string g.s) rfl rfl (by kernel_rfl) (by kernel_rfl) (by kernel_rfl) (fun _ _ _ h => h) (Or.inl ⟨by rfl, fun W hSW => by obtain ⟨s0, s1, s2⟩ := hSW; go_simp⟩) hS0 ?_
  refine takeH 5 53 (.int .i64 (bd g.s i0 : Int)) rfl rfl (by kernel_rfl) (by kernel_rfl) (by kernel_rfl) (fun _ _ _ h => h) (Or.inl ⟨by rfl, fun W hSW => by obtain ⟨s0, s1, s2⟩ := hSW; go_simp⟩) hS0 ?_
  refine takeH 6 54 (.int .i64 (bd g.s i1 : Int)) rfl rfl (by kernel_rfl) (by kernel_rfl) (by kernel_rfl) (fun _ _ _ h => h) (Or.inl ⟨by rfl, fun W hSW => by obtain ⟨s0, s1, s2⟩ := hSW; go_simp⟩) hS0 ?_
  refine takeH 7 55 (.string (g.s.extract (bd g.s i0) (bd g.s i1))) rfl rfl (by kernel_rfl) (by kernel_rfl) (by kernel_rfl) (fun _ _ _ h => h) (Or.inl ⟨by rfl, fun W hSW => by obtain ⟨s0, s1, s2⟩ := hSW; go_simp⟩) hS0 ?_
  simp only [Act.put, List.setIfInBounds_toArray, List.set_cons_zero, List.set_cons_succ]
  refine wpAnyH_done (by kernel_rfl) ?_ _
  unfold thenLast
  simp only [List.getElem_toArray, List.getElem_cons_succ, List.getElem_cons_zero]
  go_simp
  refine justN_n ?_
  obtain ⟨ii, hi0, hz0, hz1, hz2⟩ := info_parts Tryz.infoInt0
  have START : Hid (PlR w3 (w3.drew.iter (g.s.extract (bd g.s i0) (bd g.s i1)) 0) g.s (g.s.extract (bd g.s i0) (bd g.s i1)) i0 i1 (.slice none 0 0) 0 (plcOf g.s i0 0)) := by
    refine ⟨HB.out.le, World.ownsRow_nil _ _ _ _, ?_, (Kept.refl Nil w3).drew.alloc _, by simp [World.iter]⟩
    have := World.iter_heap w3.drew (g.s.extract (bd g.s i0) (bd g.s i1)) 0
    have e : plcOf g.s i0 0 = 0 := by unfold plcOf; simp
    rw [e]
    exact this
  have PN := hid fun d (h : i0 + d < i1) => part_next (s := g.s) h HB.out.in_
  have PE := hid fun d (h : i0 + d = i1) => part_end (s := g.s) h
  generalize hP : g.s.extract (bd g.s i0) (bd g.s i1) = PP at *
  clear hP PS5 hS0
  generalize hw4 : w3.drew.iter PP 0 = w4 at *
  clear hw4
  go_wp2_with fail
  have hi1 := HB.out.in_
  have hrl := runes_le g.s
  go_loopg [6] (i1 - i0) (fun kk v wq => ∃ d : Nat, Hid (PlR w3 wq g.s PP i0 i1 v d (plcOf g.s i0 d)) ∧ kk = i1 - i0 - d)
  case atStart => exact ⟨0, START, rfl⟩
  case round =>
    obtain ⟨d, HPL, hkk⟩ := hrel
    clear START
    have hd := HPL.out.le
    by_cases hlt : i0 + d < i1
    · obtain ⟨pn1, pn2⟩ := PN.out d hlt
      have hn := fun ty => Lib.run_next_any_at (P := Tryz.prog) wr w3.heap.size PP (plcOf g.s i0 d) ty HPL.out.iter pn1
      rw [pn2] at hn
      have HP1 := hid (HPL.out.moved (plcOf g.s i0 (d + 1)))
      obtain ⟨w5, hw5⟩ : ∃ w5, w5 = wr.iterAt w3.heap.size PP (plcOf g.s i0 (d + 1)) := ⟨_, rfl⟩
      rw [← hw5] at hn HP1
      clear hw5 HPL pn1 pn2
      generalize ((Utf8.decode PP (plcOf g.s i0 d)).1 : Int) = cc at hn
      obtain ⟨ao, c, rfl⟩ := ownsRow_slice HP1.out.row
      have PU := hid fun (W w7 : World) (v' : Value) => HP1.out.pushed (W := W) (w7 := w7) (v' := v') hlt
      have HROW := hid HP1.out.row
      have HSZ := hid HP1.out.size
      go_wp2_with (at_builtin; refine wpList_append_own_at _ rfl _ _ 22 rfl (w3.heap.size + 1) 3 ii _ 1 8 Tryz.underlying22 hi0 hz0 hz1 hz2 rfl (by decide) _ _ _ rfl (HROW.out.alloc _) ⟨w5.heap.size, 0, none⟩ 1 1 [.int .i64 (plcOf g.s i0 d : Int)] rfl rfl ?c1 ?c2 ?c3 ?c4 ?c5 ?_)
      case c1 => exact natL_new _ _
      case c2 => exact int_one _
      case c3 => unfold maxLen; omega
      case c4 => omega
      case c5 => have := HSZ.out; simp; omega
      intro v' w7 hown' hgrow hnil hloc
      obtain ⟨ao', c', rfl⟩ := ownsRow_slice hown'
      have FIN := hid (PU.out _ _ _ ((Kept.refl Nil w5).alloc _) hown' hgrow)
      clear hown' hgrow hnil hloc
      go_wp2_with fail
      go_roundg (i1 - i0 - (d + 1))
      case measure => omega
      case rel => exact ⟨d + 1, FIN, rfl⟩
    · have hde : i0 + d = i1 := by omega
      have hn := fun ty => Lib.run_next_end_at (P := Tryz.prog) wr w3.heap.size PP (plcOf g.s i0 d) ty HPL.out.iter (PE.out d hde)
      obtain ⟨ao, c, rfl⟩ := ownsRow_slice HPL.out.row
      have hsub : (bd g.s i1 : Int) - (bd g.s i0 : Int) = (r : Int) := by have := HRR.out; omega
      have c4 : wr.cell? ⟨w.heap.size + 1, 0, none⟩ = some (.int .i64 (bd g.s i0 : Int)) := (B43.out.kept HPL.out.kept (fun h => h)).cell 0
      have HDE := hid hde
      clear hde hkk hd hlt
      go_wp2_with fail
      refine (backward_rd _ ao d c).mono ?_
      rintro e w6 ⟨rfl, hw6⟩
      obtain ⟨pb, hpb1, hpb2, ha, hcells⟩ : ∃ pb, w3.heap.size ≤ pb ∧ pb < wr.heap.size ∧ (0 < d → ao = some ⟨pb, 0, none⟩) ∧ ∀ e, e < d → wr.cell? ⟨pb, e, none⟩ = some (.int .i64 (plcOf g.s i0 e : Int)) := by
        by_cases h0 : 0 < d
        · obtain ⟨gb, c', hv, l1, l2, l3, l4, l5⟩ := row_get HPL.out.row h0
          have hv' : ao = some ⟨gb, 0, none⟩ := by injection hv
          refine ⟨gb, by omega, l2, fun _ => hv', fun e he => ?_⟩
          rw [l4 e he]
          unfold plL
          simp [he]
        · exact ⟨w3.heap.size, Nat.le_refl _, HPL.out.size, fun h => absurd h h0, fun e he => by omega⟩
      have hszr := HPL.out.size
      have k36 : Kept Nil w3 w6 := by rw [hw6]; exact (HPL.out.kept.alloc _).alloc _
      have hsz6 : w6.heap.size = wr.heap.size + 1 + 1 := by rw [hw6]; simp
      have bB8 : Blk w6 wr.heap.size #[.int .i64 (r : Int)] 3 := by rw [hw6]; exact (Blk.new wr _ _).alloc _
      have cBs : w6.cell? ⟨wr.heap.size + 1, 0, none⟩ = some (.slice ao d c) := by
        rw [hw6]
        have := (Blk.new (wr.alloc (.cells #[.int .i64 (r : Int)] 3)) #[.slice ao d c] 22).cell 0
        rw [size_alloc1] at this
        exact this
      have hc6 : ∀ e, e < d → w6.cell? ⟨pb, e, none⟩ = some (.int .i64 (plcOf g.s i0 e : Int)) := fun e he => by
        have k : Kept Nil wr w6 := by rw [hw6]; exact ((Kept.refl Nil wr).alloc _).alloc _
        exact (k.cell (p := ⟨pb, e, none⟩) hpb2 (fun h => h)).trans (hcells e he)
      have hszr1 : (wr.alloc (.cells #[.int .i64 (r : Int)] 3)).heap.size = wr.heap.size + 1 := size_alloc1 _ _
      rw [hszr1]
      have hdn : d ≤ 10000000 := by have := HDE.out; omega
      have BI : Hid (LdI g w3 wr.heap.size b i0 d [] w6) := by
        have O6 := O3.out.kept k36
        refine ⟨k36.mono (fun _ h => h.elim), r, wr1, bB8, hrn, O6.bw, O6.wl, fun k hk he => ?_⟩
        have hkd : k = d := by have := congrArg List.length he; rw [dnL_length] at this; simp at this; omega
        subst hkd
        have hde := HDE.out
        refine ⟨by have := HRR.out; unfold plcOf; rw [hde]; omega, fun j hj1 hj2 u hu => ?_⟩
        rw [HB.out.e1] at hj2
        have hj : j = i1 := by omega
        subst hj
        have e2 : bd g.s j - g.from b = r := by unfold OG.from; rw [HB.out.e0]; have := HRR.out; omega
        rw [e2]
        exact R3.out u hu
      have K6 : Hid (Kept (fun i => i = g.ob ∨ i = g.WB) w w3) := K3
      have hWB3 : g.WB < w3.heap.size := by omega
      clear hw6 hcells hszr1 bB8 hn HPL c4 hsub
      go_wp2_with fail
      refine (wpIn_wide (n := n)).1 ?_
      refine wpIn_rangeFunc_ownH rfl h1 (gf := 94) (lb := #[.pointer (some ⟨wr.heap.size + 1, 0, none⟩)]) rfl trivial (enters_of Tryz.func94 (by kernel_rfl) rfl)
        (backward_stops (n - 1) (by omega) (wr.heap.size + 1) pb d c (plcOf g.s i0) ao ha (by omega) w6 (by omega) (by omega) cBs hc6) Kp2.trans (Kp2.putObj (by omega) (by omega)) (Below.refl _ _) (fun _ => rfl)
        (LdI g w3 wr.heap.size b i0 d)
        (fun _ _ _ => False)
        (LdI.own g w3 wr.heap.size b i0 d _ (by omega))
        (fun _ _ _ _ _ hs _ _ => hs)
        BI.out
        (fun x a' W => LdAx w.heap.size wr.heap.size (plcOf g.s i0) x a')
        (fun x a' _ X Y row hs hg hr => hs)
        ?assign ?body ?done ?stop
      case assign =>
        rintro l pre x W K hI hK
        simp only [backE]
        gi_wp2
        exact hK _ _ ((KeepsOthers.refl _).from _) (Kp2.refl _ _ _) hI ⟨_, _, _, _, _, _, _, _, _, _, _, _, _, _, _, _, _, _, _, _, _, _, _, _, _, _, _, _, _, _, _, _, _, _, _, _, _, _, _, _, _, _, _, _, _, _, _, _, _, _, _, _, _, _, _, _, _, _, _, _, _, _, _, _, _, _, _, _, _, _, _, _, _, _, _, _, _, _, _, _, _, _, _, _, _, _, _, rfl⟩
      case body =>
        rintro l pre x a' W hl ⟨rr, hr⟩ ⟨kW, bh, wq, hb8, hbh, hbw, hwl, hpre⟩ ⟨z0, z1, z3, z5, z6, z7, z9, z11, z12, z13, z14, z15, z16, z17, z18, z19, z20, z21, z22, z23, z24, z25, z26, z27, z28, z29, z30, z31, z32, z33, z34, z35, z36, z37, z38, z39, z40, z41, z42, z43, z44, z45, z46, z47, z48, z49, z50, z51, z52, z53, z54, z55, z56, z57, z58, z59, z60, z61, z62, z63, z64, z65, z66, z67, z68, z69, z70, z71, z72, z73, z74, z75, z76, z77, z78, z79, z80, z81, z82, z83, z84, z85, z86, z87, z88, z89, z90, rfl⟩ hlt
        have OW := hid (O3.out.rowW HG.out kW hbw hwl)
        have hx := x.2
        have hrow := HB.out.row HG.out (j := i0 + x.1) (by omega) (by have := HDE.out; omega)
        have hpx : plcOf g.s i0 x.1 = bd g.s (i0 + x.1) - bd g.s i0 := rfl
        have HPX : Hid (bd g.s (i0 + x.1) = bd g.s i0 + plcOf g.s i0 x.1) := by show _ = _; omega
        have hpn : plcOf g.s i0 x.1 < g.nr := by omega
        clear hrow hpx
        generalize hgp : plcOf g.s i0 x.1 = px at *
        have HGP := hid hgp
        clear hgp
        have B3W := hid (B3.out.kept kW (by omega))
        have B4W := hid (B43.out.kept kW (by omega))
        have HB8 := hid hb8
        have PS12 : Hid (∀ W', Kept Nil W W' → LdS12 g.ob w.heap.size g.rh g.nr g.cr g.WB g.L px bh wr.heap.size (bd g.s i0) W') := fun W' k => by
          have O7 := OW.out.kept k
          exact ⟨⟨(B3W.out.kept k (fun h => h)).cell 0, O7.rk.out.cell 11⟩, O7.rh px hpn, O7.rh bh hbh, (HB8.out.kept k (fun h => h)).cell 0, (B4W.out.kept k (fun h => h)).cell 0⟩
        have hS0 := PS12.out W.drew (Kept.refl Nil W).drew
        gi_wp2
        refine wpIn_just (wpIn_region_lastL (S := LdS12 g.ob w.heap.size g.rh g.nr g.cr g.WB g.L px bh wr.heap.size (bd g.s i0)) 18 (by kernel_rfl) (justN_out _) (by kernel_rfl) rfl rfl rfl (by kernel_rfl) (by kernel_rfl) ?_)
        refine takeH 0 71 (.pointer (some ⟨g.ob, 0, none⟩)) rfl rfl (by kernel_rfl) (by kernel_rfl) (by kernel_rfl) (fun _ _ _ h => h) (Or.inl ⟨by rfl, fun W hSW => by obtain ⟨⟨s0, s1⟩, s2, s3, s4, s5⟩ := hSW; go_simp⟩) hS0 ?_
        refine takeH 1 72 (.pointer (some ⟨g.ob, 0, none⟩)) rfl rfl (by kernel_rfl) (by kernel_rfl) (by kernel_rfl) (fun _ _ _ h => h) (Or.inl ⟨by rfl, fun W hSW => by obtain ⟨⟨s0, s1⟩, s2, s3, s4, s5⟩ := hSW; go_simp⟩) hS0 ?_
        refine takeH 2 73 (.pointer (some ⟨g.ob, 0, none⟩)) rfl rfl (by kernel_rfl) (by kernel_rfl) (by kernel_rfl) (fun _ _ _ h => h) (Or.inl ⟨by rfl, fun W hSW => by obtain ⟨⟨s0, s1⟩, s2, s3, s4, s5⟩ := hSW; go_simp⟩) hS0 ?_
        refine takeH 3 74 (.pointer (some ⟨g.ob, 11, none⟩)) rfl rfl (by kernel_rfl) (by kernel_rfl) (by kernel_rfl) (fun _ _ _ h => h) (Or.inl ⟨by rfl, fun W hSW => by obtain ⟨⟨s0, s1⟩, s2, s3, s4, s5⟩ := hSW; go_simp⟩) hS0 ?_
        refine takeH 4 75 (.slice (some ⟨g.rh, 0, none⟩) g.nr g.cr) rfl rfl (by kernel_rfl) (by kernel_rfl) (by kernel_rfl) (fun _ _ _ h => h) (Or.inl ⟨by rfl, fun W hSW => by obtain ⟨⟨s0, s1⟩, s2, s3, s4, s5⟩ := hSW; go_simp⟩) hS0 ?_
        refine takeH 5 76 (.int .i64 (px : Int)) rfl rfl (by kernel_rfl) (by kernel_rfl) (by kernel_rfl) (fun _ _ _ h => h) (Or.inl ⟨by rfl, fun W hSW => by obtain ⟨⟨s0, s1⟩, s2, s3, s4, s5⟩ := hSW; go_simp⟩) hS0 ?_
        refine takeH 6 77 (.pointer (some ⟨g.rh, px, none⟩)) rfl rfl (by kernel_rfl) (by kernel_rfl) (by kernel_rfl) (fun _ _ _ h => h) (Or.inl ⟨by rfl, fun W hSW => by obtain ⟨⟨s0, s1⟩, s2, s3, s4, s5⟩ := hSW; go_simp⟩) hS0 ?_
        refine takeH 7 78 (.slice (some ⟨g.WB, px * g.L, none⟩) g.L g.L) rfl rfl (by kernel_rfl) (by kernel_rfl) (by kernel_rfl) (fun _ _ _ h => h) (Or.inl ⟨by rfl, fun W hSW => by obtain ⟨⟨s0, s1⟩, s2, s3, s4, s5⟩ := hSW; go_simp⟩) hS0 ?_
        refine takeH 8 79 (.pointer (some ⟨g.ob, 0, none⟩)) rfl rfl (by kernel_rfl) (by kernel_rfl) (by kernel_rfl) (fun _ _ _ h => h) (Or.inl ⟨by rfl, fun W hSW => by obtain ⟨⟨s0, s1⟩, s2, s3, s4, s5⟩ := hSW; go_simp⟩) hS0 ?_
        refine takeH 9 80 (.pointer (some ⟨g.ob, 0, none⟩)) rfl rfl (by kernel_rfl) (by kernel_rfl) (by kernel_rfl) (fun _ _ _ h => h) (Or.inl ⟨by rfl, fun W hSW => by obtain ⟨⟨s0, s1⟩, s2, s3, s4, s5⟩ := hSW; go_simp⟩) hS0 ?_
        refine takeH 10 81 (.pointer (some ⟨g.ob, 11, none⟩)) rfl rfl (by kernel_rfl) (by kernel_rfl) (by kernel_rfl) (fun _ _ _ h => h) (Or.inl ⟨by rfl, fun W hSW => by obtain ⟨⟨s0, s1⟩, s2, s3, s4, s5⟩ := hSW; go_simp⟩) hS0 ?_
        refine takeH 11 82 (.slice (some ⟨g.rh, 0, none⟩) g.nr g.cr) rfl rfl (by kernel_rfl) (by kernel_rfl) (by kernel_rfl) (fun _ _ _ h => h) (Or.inl ⟨by rfl, fun W hSW => by obtain ⟨⟨s0, s1⟩, s2, s3, s4, s5⟩ := hSW; go_simp⟩) hS0 ?_
        refine takeH 12 83 (.int .i64 (bh : Int)) rfl rfl (by kernel_rfl) (by kernel_rfl) (by kernel_rfl) (fun _ _ _ h => h) (Or.inl ⟨by rfl, fun W hSW => by obtain ⟨⟨s0, s1⟩, s2, s3, s4, s5⟩ := hSW; go_simp⟩) hS0 ?_
        refine takeH 13 84 (.pointer (some ⟨g.rh, bh, none⟩)) rfl rfl (by kernel_rfl) (by kernel_rfl) (by kernel_rfl) (fun _ _ _ h => h) (Or.inl ⟨by rfl, fun W hSW => by obtain ⟨⟨s0, s1⟩, s2, s3, s4, s5⟩ := hSW; go_simp⟩) hS0 ?_
        refine takeH 14 85 (.slice (some ⟨g.WB, bh * g.L, none⟩) g.L g.L) rfl rfl (by kernel_rfl) (by kernel_rfl) (by kernel_rfl) (fun _ _ _ h => h) (Or.inl ⟨by rfl, fun W hSW => by obtain ⟨⟨s0, s1⟩, s2, s3, s4, s5⟩ := hSW; go_simp⟩) hS0 ?_
        refine takeH 15 86 (.int .i64 (bd g.s i0 : Int)) rfl rfl (by kernel_rfl) (by kernel_rfl) (by kernel_rfl) (fun _ _ _ h => h) (Or.inl ⟨by rfl, fun W hSW => by obtain ⟨⟨s0, s1⟩, s2, s3, s4, s5⟩ := hSW; go_simp⟩) hS0 ?_
        refine takeH 16 87 (.int .i64 (px : Int)) rfl rfl (by kernel_rfl) (by kernel_rfl) (by kernel_rfl) (fun _ _ _ h => h) (Or.inl ⟨by rfl, fun W hSW => by obtain ⟨⟨s0, s1⟩, s2, s3, s4, s5⟩ := hSW; go_simp⟩) hS0 ?_
        refine takeH 17 88 (.int .i64 (bd g.s (i0 + x.1) : Int)) rfl rfl (by kernel_rfl) (by kernel_rfl) (by kernel_rfl) (fun _ _ _ h => h) (Or.inl ⟨by rfl, fun W hSW => by obtain ⟨⟨s0, s1⟩, s2, s3, s4, s5⟩ := hSW; go_simp; rw [IntKind.wrap_i64]; have := HPX.out; have := bd_le g.s (i0 + x.1); omega⟩) hS0 ?_
        simp only [Act.put, List.setIfInBounds_toArray, List.set_cons_zero, List.set_cons_succ]
        refine wpAnyH_done (by kernel_rfl) ?_ _
        unfold thenLast
        simp only [List.getElem_toArray, List.getElem_cons_succ, List.getElem_cons_zero]
        go_simp
        have hre := reckon_rd (c1 := g.L) (c2 := g.L) (i := i0 + x.1) (H := pre.map (·.1) = dnL (x.1 + 1) d) (OW.out.rk.kept ((Kept.refl Nil W).drew) (fun h => h) (fun h => h) (fun _ _ _ h => h) (fun h => h) (fun h => h)) HG.out.good HG.out.q HG.out.few (by omega) (by have := HDE.out; omega) HG.out.L_eq
          (show Blk W.drew g.WB (u64L wq).toArray 132 from hbw) (row_fits hwl.1 hpn) HG.out.apW (next_row HG.out HB.out HDE.out hx HGP.out hpn hbh hwl.1 hwl.2 (fun h => hpre (x.1 + 1) hx h))
        refine hre.mono ?_
        rintro e w7 ⟨rfl, hk7, cur, hcl, hcw, hb7, hbits⟩
        dsimp only
        refine justN_n ?_
        have k7 : Kept (fun i => i = g.WB) W w7 := (Kept.refl (fun i => i = g.WB) W).drew.trans hk7
        have hWs := kW.size
        have b87 : Blk w7 wr.heap.size #[.int .i64 (bh : Int)] 3 := hb8.kept k7 (by omega)
        have c87 : w7.cell? ⟨wr.heap.size, 0, none⟩ = some (.int .i64 (bh : Int)) := b87.cell 0
        have f87 : w7.frozen? ⟨wr.heap.size, 0, none⟩ = false := b87.frozen 0
        have hW8 : wr.heap.size < W.heap.size := hb8.lt
        have kS : Kept (fun i => i = g.WB ∨ i = wr.heap.size) W (w7.setCell ⟨wr.heap.size, 0, none⟩ (.int .i64 (px : Int))) := Kept.setCell (S := fun i => i = g.WB ∨ i = wr.heap.size) (k7.mono (fun i h => Or.inl h)) (p := ⟨wr.heap.size, 0, none⟩) (Or.inl (Or.inr rfl)) _
        have FIN : Hid (KeepsFrom w6.heap.size W (w7.setCell ⟨wr.heap.size, 0, none⟩ (.int .i64 (px : Int))) ∧ Kp2 (wr.heap.size + 1) pb W (w7.setCell ⟨wr.heap.size, 0, none⟩ (.int .i64 (px : Int))) ∧ LdI g w3 wr.heap.size b i0 d (pre ++ [x]) (w7.setCell ⟨wr.heap.size, 0, none⟩ (.int .i64 (px : Int)))) := by
          have hs7 := k7.size
          refine ⟨⟨by have := kS.size; exact this, fun k o hB hk ho => (kS.block k ((Array.getElem?_eq_some_iff.1 hk).1) (by omega)).trans hk⟩, ⟨kS.block _ (by have := (Array.getElem?_eq_some_iff.1 hr).1; omega) (by omega), kS.block _ (by omega) (by omega)⟩, (kW.trans k7).setCell (p := ⟨wr.heap.size, 0, none⟩) (Or.inr (by show w3.heap.size ≤ wr.heap.size; omega)) _, px, splice wq (px * g.L) cur, ?_, hpn, ?_, ⟨by rw [length_splice _ _ _ (by rw [hcl]; exact row_fits hwl.1 hpn)]; exact hwl.1, hwl.2.splice hcw _⟩, fun k hk he => ?_⟩
          · have := b87.setCell 0 (.int .i64 (px : Int))
            simpa using this
          · exact hb7.kept ((Kept.refl (fun i => i = wr.heap.size) w7).setCell (p := ⟨wr.heap.size, 0, none⟩) (Or.inl rfl) _) (by omega)
          · rw [List.map_append] at he
            obtain ⟨hk1, hxk, hp1⟩ := dnL_snoc hk he
            have hxk : x.1 = k := hxk
            rw [hxk] at hbits HGP
            obtain ⟨h2, h3⟩ := hpre (k + 1) hk1 hp1
            exact ⟨HGP.out.symm, rows_more HG.out HB.out HDE.out hk1 HGP.out hpn hwl.1 hcl h3 (hbits hp1)⟩
        clear hbits hb7 hcw hcl k7 kS b87 hk7
        gi_wp2
        exact FIN.out
      case done =>
        rintro D ys W hD hys ⟨kW, bh, wq, hb8, hbh, hbw, hwl, hpre⟩ hK
        gi_wp2
        refine ⟨by simp, .inl ⟨_, _, rfl, run_takeDeferred hK, ?_⟩⟩
        have hsW := kW.size
        have kP : Kept (fun i => i = g.WB) w3 (W.putObj D (.deferred none)) := kW.putObj (by omega) _
        have hbP : Blk (W.putObj D (.deferred none)) g.WB (u64L wq).toArray 132 := (World.putObj_heap_other (by omega)).trans hbw
        refine ⟨_, results_none rfl _ _ _, rfl, wq, O3.out.rowW HG.out kP hbP hwl, ?_, K3.out.trans (kP.mono (fun i h => Or.inr h))⟩
        have := (hpre 0 (Nat.zero_le _) hys).2
        simpa using this
      case stop =>
        rintro D c pre W _ _ h _
        exact h.elim
theorem load_rd {w : World} {g : OG} {blk : Nat} {wf wr : List Nat} (hg : g.Ok) (hO : OtAt w g blk wf wr) {b : Nat} (hb : b + 1 < g.ixs.length) (hF : RowOk g wf (b + 1) (g.ixs.getD (b + 1) 0)) :
    Calls Tryz.prog 59 #[.pointer (some ⟨g.ob, 0, none⟩), .int .i64 (b : Int)] w fun e w' => e = .returned (.tuple #[]) ∧ ∃ wr', OtAt w' g b wf wr' ∧ RowsOk g wr' b (g.ixs.getD b 0) ∧ Kept (fun i => i = g.ob ∨ i = g.WB) w w' :=
  callsIn_wide.1 (load_in 6 (by omega) hg hO (BkOk.of hg hb) hF)
end Go.Proofs.YtnbfddjaonlmaaaGreatDoor
