/- Spans in memory; Go's slices. The document's tree of a pattern, as plain functions: what stands in each node. The document's tries, as plain functions: what must come is a list (a stack) of pieces; the first try of it. -/
import Derived.Test.YtfollffpibmgcaaGreatDoorP01
import Derived.RangeFuncNested
import Derived.RangeFuncBox
import Derived.RangeFuncLeaves
import Derived.Shelf.Abstract
import Derived.OwnWalkIn
import Derived.TacticsInMore
import Derived.LoopNIn
import Derived.LoopIn
import Derived.Maps.AppendAt
import Derived.Shelf.SlSortCmp.WholeK
import Derived.Test.YtfollffpibmgcaaGreatDoorP02
set_option linter.unusedVariables false
set_option maxRecDepth 100000
namespace Go.Proofs.YtfollffpibmgcaaGreatDoor
open Go.RowKit Go.Shelf
attribute [local go_sem] Oper.semAt_some
def span32 (x : Int × Int) : Value := .agg #[.int .i32 x.1, .int .i32 x.2]
def flat32 : List (Int × Int) → List Value
 | [] => []
 | p :: l => .int .i32 p.1 :: .int .i32 p.2 :: flat32 l
theorem flat32_length (l : List (Int × Int)) : (flat32 l).length = l.length * 2 := by
 induction l with
 | nil => rfl
 | cons p l ih => simp [flat32, ih]; omega
theorem flat32_append (l m : List (Int × Int)) : flat32 (l ++ m) = flat32 l ++ flat32 m := by
 induction l with
 | nil => rfl
 | cons p l ih => simp [flat32, ih]
theorem flat32_get : ∀ (l : List (Int × Int)) (i : Nat) (h : i < l.length), (flat32 l)[i * 2]? = some (.int .i32 (l[i]).1) ∧ (flat32 l)[i * 2 + 1]? = some (.int .i32 (l[i]).2)
 | [], i, h => by simp at h
 | p :: l, 0, _ => by simp [flat32]
 | p :: l, i + 1, h => by
  have := flat32_get l i (by simpa using h)
  simp only [flat32, List.getElem_cons_succ]
  rw [show (i + 1) * 2 = i * 2 + 1 + 1 by omega, show i * 2 + 1 + 1 + 1 = (i * 2 + 1) + 1 + 1 by omega]
  simpa using this
theorem flat32_one (l : List (Int × Int)) : ∀ u ∈ flat32 l, u.oneCell' = true := by
 induction l with
 | nil => intro u h; simp [flat32] at h
 | cons p l ih =>
  intro u h
  simp only [flat32, List.mem_cons] at h
  rcases h with rfl | rfl | h
  ·rfl
  ·rfl
  ·exact ih u h
theorem new32 (w : World) (cs : Array Value) (t : TypeId) (j : Nat) (u : Value) (h : cs.toList[j]? = some u) : (w.alloc (.cells cs t)).cell? (Addr.add ⟨w.heap.size, 0, none⟩ j) = some u := by
 have e : Addr.add ⟨w.heap.size, 0, none⟩ j = ⟨w.heap.size, j, none⟩ := by
  unfold Addr.add
  split
  ·rename_i hz; simp
  ·simp
 rw [e, (Blk.new w cs t).cell j]
 simpa using h
theorem Tryz.infoSpan32 : (Tryz.prog.info? 201).map (fun i => (i.zero, i.size, i.bytes)) = some (some (.agg #[.int .i32 0, .int .i32 0]), 2, 8) := by kernel_rfl
def Cells32 (w : World) (b : Nat) (l : List (Int × Int)) : Prop := ∀ i, (h : i < l.length) → w.cell? ⟨b, i * 2, none⟩ = some (.int .i32 (l[i]).1) ∧ w.cell? ⟨b, i * 2 + 1, none⟩ = some (.int .i32 (l[i]).2)
theorem Cells32.kept {w w' : World} {b : Nat} {l : List (Int × Int)} {S : Nat → Prop} (h : Cells32 w b l) (k : Kept S w w') (hb : b < w.heap.size) (hs : ¬ S b) : Cells32 w' b l := fun i hi =>
 ⟨(k.cell (p := ⟨b, i * 2, none⟩) hb hs).trans (h i hi).1, (k.cell (p := ⟨b, i * 2 + 1, none⟩) hb hs).trans (h i hi).2⟩
theorem Below.kept {B : Nat} {w w' : World} (h : Below B w w') (hB : B = w.heap.size) : Kept Nil w w' := ⟨h.os, h.tape, h.output, h.size, fun k hk _ => h.block k (by omega)⟩
theorem blk_own {β : Type} (B : Nat) (cs : Array Value) (t : TypeId) : Own (fun (_ : β) W => Blk W B cs t) := by
 intro s X Y row h hg hr
 refine (hg.block B h.lt (fun e => ?_)).trans h
 obtain ⟨o, ho, hc⟩ := hr B e.symm
 rw [show X.heap[B]? = _ from h] at ho; cases ho; cases hc
set_option maxHeartbeats 2000000 in
theorem values1_in (F : Fence) (n : Nat) (h7 : F.fn 182) (hro : F.round = none) (hn : 1 ≤ n) (l Bs n₀ b cap : Nat) (zs : List (Int × Int)) (hreach : zs.length ≤ 100000) (hb : b < n₀) (J Jx : List (Int × Int) → World → Prop)
  (hY : ∀ pre x W, J pre W → pre.length < zs.length → YieldAt F (n - 1) Tryz.prog l #[span32 x] W fun e W' =>
   (e = .returned (.bool true) ∧ J (pre ++ [x]) W' ∧ Below n₀ W W') ∨ (e = .returned (.bool false) ∧ Jx (pre ++ [x]) W'))
  (W : World) (hn₀ : n₀ ≤ W.heap.size) (hBs : W.cell? ⟨Bs, 0, none⟩ = some (.slice (some ⟨b, 0, none⟩) zs.length cap)) (hc : Cells32 W b zs) (hJ : AbidesFrom W.heap.size J) (h0 : J [] W) :
  CallsIn F n Tryz.prog 182 #[.func (.yield l) #[] #[], .pointer (some ⟨Bs, 0, none⟩)] W fun e W' => (∃ v, e = .returned v) ∧
   ((∃ ys, ys = zs ∧ J ys W') ∨ (∃ pre, pre <+: zs ∧ Jx pre W')) := by
 refine callsIn_of_wp Tryz.func182 rfl h7 ?_ hro
 simp only [Tryz.ntmps182, List.size_toArray, List.length_cons, List.length_nil, Nat.reduceAdd, Nat.reduceSub, Array.replicate_succ, Array.replicate_zero, List.push_toArray, List.append_toArray, List.nil_append, List.cons_append]
 gi_wp2
 gi_loopw [7] (fun i wr => ∃ k : Nat, k ≤ zs.length ∧ i = .int .i64 k ∧ J (zs.take k) wr ∧ Below n₀ W wr)
  (fun i _ => zs.length - (intOf i).toNat)
 case atStart => exact ⟨0, Nat.zero_le _, rfl, by simpa using h0, Below.refl _ _⟩
 case round =>
  obtain ⟨k, hk, rfl, hJs, hnx⟩ := hrel
  by_cases hlt : k < zs.length
  ·have q0 : wr.cell? ⟨b, k * 2, none⟩ = some (.int .i32 (zs[k]).1) := (hnx.cell (p := ⟨b, k * 2, none⟩) hb).trans (hc k hlt).1
   have q1 : wr.cell? ⟨b, k * 2 + 1, none⟩ = some (.int .i32 (zs[k]).2) := (hnx.cell (p := ⟨b, k * 2 + 1, none⟩) hb).trans (hc k hlt).2
   have hsz := hnx.size
   have hJa : J (zs.take k) (wr.alloc (.cells #[.int .i32 (zs[k]).1, .int .i32 (zs[k]).2] 201)) := hJ _ wr _ none hJs (World.grownBy_alloc wr _ none) (fun r e => by cases e)
   obtain ⟨fn, tmps, assign, body, hy, hR⟩ := hY _ (zs[k]) _ hJa (by simp; omega)
   have htk : zs.take k ++ [zs[k]] = zs.take (k + 1) := by rw [List.take_add_one, List.getElem?_eq_getElem hlt]; rfl
   rw [htk] at hR
   simp only [span32] at hy
   have c0 := (Blk.new wr #[.int .i32 (zs[k]).1, .int .i32 (zs[k]).2] 201).cell 0
   have c1 := (Blk.new wr #[.int .i32 (zs[k]).1, .int .i32 (zs[k]).2] 201).cell 1
   gi_wp2
   refine hR.mono ?_
   rintro e W3 (⟨rfl, hJ3, hk3⟩ | ⟨rfl, hJx3⟩)
   ·gi_wp2
    go_roundw
    case rel => exact ⟨k + 1, by omega, by simp, hJ3, (hnx.alloc (by omega) _).trans hk3⟩
    case measure => simp [intOf]; omega
   ·gi_wp2
    refine bodyPost_ret (results_none rfl _ _ _) rfl ?_
    exact ⟨⟨_, rfl⟩, .inr ⟨_, List.take_prefix _ _, hJx3⟩⟩
  ·obtain rfl : k = zs.length := by omega
   gi_wp2
   go_end0
   exact ⟨⟨_, rfl⟩, .inl ⟨_, rfl, by simpa using hJs⟩⟩
theorem values_stops (F : Fence) (n : Nat) (h7 : F.fn 182) (hro : F.round = none) (hn : 1 ≤ n) (Bs n₀ b cap : Nat) (zs : List (Int × Int)) (hreach : zs.length ≤ 100000) (w : World) (hBs : Bs < w.heap.size) (hn₀ : n₀ ≤ w.heap.size) (hb : b < n₀)
  (hc : w.cell? ⟨Bs, 0, none⟩ = some (.slice (some ⟨b, 0, none⟩) zs.length cap)) (hI : Cells32 w b zs) :
  SeqStopsK F n Tryz.prog 182 #[.pointer (some ⟨Bs, 0, none⟩)] (fun x : Int × Int => #[span32 x]) (Below n₀) (fun ys => ys = zs) (fun pre => pre <+: zs) zs.length w := fun l J Jx W hW hJ _ hY h0 =>
 values1_in F n h7 hro hn l Bs n₀ b cap zs hreach hb J Jx hY W (Nat.le_trans hn₀ hW.size) ((hW.cell (p := ⟨Bs, 0, none⟩) hBs).trans hc)
  (fun i hi => ⟨(hW.cell (p := ⟨b, i * 2, none⟩) (by show b < _; omega)).trans (hI i hi).1, (hW.cell (p := ⟨b, i * 2 + 1, none⟩) (by show b < _; omega)).trans (hI i hi).2⟩) hJ h0
set_option maxHeartbeats 2000000 in
theorem appendSeq_in (F : Fence) (n : Nat) (h3 : F.fn 204) (h5 : F.fn 182) (hro : F.round = none) (hn : 3 ≤ n) (Bs b cap : Nat) (zs : List (Int × Int)) (hlen : zs.length ≤ 100000) (w : World) (hBs : Bs < w.heap.size) (hb : b < w.heap.size)
  (hcs : w.cell? ⟨Bs, 0, none⟩ = some (.slice (some ⟨b, 0, none⟩) zs.length cap)) (hI : Cells32 w b zs) :
  CallsIn F n Tryz.prog 204 #[.slice none 0 0, .func (.func 182) #[] #[.pointer (some ⟨Bs, 0, none⟩)]] w fun e W' => ∃ v, e = .returned v ∧ W'.ownsRow w.heap.size 201 2 v zs.length (flat32 zs) ∧ Below w.heap.size w W' := by
 have h1 : 1 ≤ n := by omega
 obtain ⟨i0, hi, hz0, hz1, hz2⟩ := info_parts Tryz.infoSpan32
 refine callsIn_of_wp_marks Tryz.func204 rfl h3 ?_ hro
 simp only [Tryz.ntmps204, List.size_toArray, List.length_cons, List.length_nil, Nat.reduceAdd, Nat.reduceSub, Array.replicate_succ, Array.replicate_zero, List.push_toArray, List.append_toArray, List.nil_append, List.cons_append]
 gi_wp2
 have bO := Boxed.new w 52 (.slice none 0 0)
 have hB0 : Below w.heap.size w (w.alloc (.cells #[.slice none 0 0] 52)) := (Below.refl _ w).alloc (Nat.le_refl _) _
 have hcs' : (w.alloc (.cells #[.slice none 0 0] 52)).cell? ⟨Bs, 0, none⟩ = some (.slice (some ⟨b, 0, none⟩) zs.length cap) := (hB0.cell (p := ⟨Bs, 0, none⟩) hBs).trans hcs
 have hI' : Cells32 (w.alloc (.cells #[.slice none 0 0] 52)) b zs := hI.kept ((Kept.refl Nil w).alloc _) hb (fun hx => hx)
 refine wpIn_rangeFunc_ownH hro h1 (gf := 182) (lb := #[.pointer (some ⟨Bs, 0, none⟩)]) rfl h5 (enters_of Tryz.func182 (by kernel_rfl) rfl)
  (values_stops F (n - 1) h5 hro (by omega) Bs w.heap.size b cap zs hlen _ (by simp; omega) (by simp) hb hcs' hI') belowK_t (belowK_b (by simp)) (Below.refl _ _) (fun _ => rfl)
  (fun pre W => (∃ v, Boxed W w.heap.size 52 v ∧ W.ownsRow w.heap.size 201 2 v pre.length (flat32 pre) ∧ True) ∧ Below w.heap.size w W)
  (fun _ _ _ => False)
  (OwnFrom.and (Own.from (holdsRow_own w.heap.size w.heap.size 52 201 2 (fun pre => pre.length) (fun pre => flat32 pre) (fun pre v => True)) _) (ownFrom_below (Nat.le_refl _) (by simp)))
  (fun _ _ _ _ _ hs _ _ => hs)
  ⟨⟨_, bO, World.ownsRow_nil _ _ _ _, trivial⟩, hB0⟩
  (fun x a' W => ∃ Bx, w.heap.size < Bx ∧ Blk W Bx #[.int .i32 x.1, .int .i32 x.2] 201 ∧ a' = { tmps := #[.slice none 0 0, .func (.func 182) #[] #[.pointer (some ⟨Bs, 0, none⟩)], .pointer (some ⟨w.heap.size, 0, none⟩), undef, .slice none 0 0, .pointer (some ⟨Bx, 0, none⟩), .func (.func 182) #[] #[.pointer (some ⟨Bs, 0, none⟩)], span32 x, undef, undef, undef, undef, undef], defers := [] })
  (fun x a' _ X Y row hs hg hr => by obtain ⟨Bx, h1, h2, h3⟩ := hs; exact ⟨Bx, h1, blk_own Bx #[.int .i32 x.1, .int .i32 x.2] 201 () X Y row h2 hg (fun r e => (hr r e).2), h3⟩)
  ?assign ?body ?done ?stop
 case assign =>
  rintro l pre x W K ⟨⟨v, hv, hrow, _⟩, hB⟩ hK
  simp only [span32] at hK ⊢
  gi_wp2
  exact hK _ _ ((KeepsOthers.alloc _ _).from _) ((Below.refl _ W).alloc hB.size _) ⟨⟨v, hv.alloc _, hrow.alloc _, trivial⟩, hB.alloc hB.size _⟩ ⟨W.heap.size, hv.lt, Blk.new W _ _, rfl⟩
 case body =>
  rintro l pre x a' W hl ⟨r, hr⟩ ⟨⟨v, hv, hrow, _⟩, hB⟩ ⟨Bx, hBx, bX, rfl⟩ hlt
  have hc := hv.cell
  have x0 : W.cell? ⟨Bx, 0, none⟩ = some (.int .i32 x.1) := bX.cell 0
  have x1 : W.cell? ⟨Bx, 1, none⟩ = some (.int .i32 x.2) := bX.cell 1
  simp only [span32]
  gi_wp2_with (gi_at_builtin; refine wpListIn_append_own _ rfl _ _ 52 rfl w.heap.size 201 i0 (.agg #[.int .i32 0, .int .i32 0]) 2 8 Tryz.underlying52 hi hz0 hz1 hz2 rfl (by decide) _ _ _ rfl (hrow.alloc _) ⟨W.heap.size, 0, none⟩ 1 1 [.int .i32 x.1, .int .i32 x.2] rfl rfl (fun j u h => new32 _ _ _ j u h) (by simp [Value.oneCell']) (by unfold maxLen; omega) (by omega) (by have := hB.size; simp; omega) ?_; intro v' w1 hown' hgrow _; obtain ⟨g', cap', rfl⟩ := ownsRow_succ hown'; obtain ⟨hv1, hv2, hr2, hk2, hb2⟩ := hv.appended (by decide) hrow hB.size (Nat.le_refl _) hown' hgrow; have hc1 := hv1.cell; have hf1 := hv1.frozen)
  exact ⟨hk2.from _, hb2, ⟨⟨_, hv2, by rw [flat32_append]; simpa [flat32] using hr2, trivial⟩, hB.trans hb2⟩⟩
 case done =>
  rintro D ys W hD rfl ⟨⟨v, hv, hrow, hnil⟩, hB⟩ hK
  have hc := hv.cell
  gi_wp2
  refine ⟨by simp, .inl ⟨_, _, rfl, run_takeDeferred hK, ?_⟩⟩
  exact ⟨_, results_tmp rfl _ _ _, v, rfl, ownsRow_putObj hrow _ hK rfl, hB.trans (belowK_b (w := w) (Nat.le_refl _) W D _ _ (by simp at hD; omega) hK rfl rfl)⟩
 case stop =>
  rintro D c pre W _ _ h _
  exact h.elim
end Go.Proofs.YtfollffpibmgcaaGreatDoor
namespace Go.Proofs.YtfollffpibmgcaaGreatDoor
open Go.RowKit Go.Shelf Go.Lib Go.Sort
def Tryz.sortSp_ren : Go.Shelf.Ren := ⟨fun | 6 => 181 | 15 => 120 | 14 => 205 | 28 => 157 | 29 => 158 | 20 => 209 | 21 => 210 | 22 => 211 | 23 => 212 | 24 => 213 | 25 => 214 | 26 => 215 | 27 => 216 | 46 => 220 | 47 => 185 | 48 => 186 | 49 => 221 | 50 => 222 | 57 => 223 | n => n, fun | 22 => 52 | 24 => 201 | 25 => 232 | 3 => 3 | 39 => 183 | 0 => 0 | 53 => 242 | 55 => 244 | 4 => 4 | 46 => 235 | 45 => 234 | 50 => 84 | 5 => 5 | 9 => 9 | 66 => 265 | 70 => 269 | 76 => 285 | 77 => 222 | n => n, fun | n => n⟩
theorem Tryz.sortSp : Go.Proofs.SlLaysF0.n6 Tryz.prog Tryz.sortSp_ren := {
 mixed := by kernel_rfl
 f6 := ⟨Tryz.f181.name, by decide, Tryz.func181.trans (congrArg some (by kernel_rfl))⟩
 f14 := ⟨Tryz.f205.name, by decide, Tryz.func205.trans (congrArg some (by kernel_rfl))⟩
 f15 := Tryz.func120.trans (congrArg some (by kernel_rfl))
 f20 := ⟨Tryz.f209.name, by decide, Tryz.func209.trans (congrArg some (by kernel_rfl))⟩
 f21 := ⟨Tryz.f210.name, by decide, Tryz.func210.trans (congrArg some (by kernel_rfl))⟩
 f22 := ⟨Tryz.f211.name, by decide, Tryz.func211.trans (congrArg some (by kernel_rfl))⟩
 f23 := ⟨Tryz.f212.name, by decide, Tryz.func212.trans (congrArg some (by kernel_rfl))⟩
 f24 := ⟨Tryz.f213.name, by decide, Tryz.func213.trans (congrArg some (by kernel_rfl))⟩
 f25 := ⟨Tryz.f214.name, by decide, Tryz.func214.trans (congrArg some (by kernel_rfl))⟩
 f26 := ⟨Tryz.f215.name, by decide, Tryz.func215.trans (congrArg some (by kernel_rfl))⟩
 f27 := ⟨Tryz.f216.name, by decide, Tryz.func216.trans (congrArg some (by kernel_rfl))⟩
 f28 := Tryz.func157.trans (congrArg some (by kernel_rfl))
 f29 := Tryz.func158.trans (congrArg some (by kernel_rfl))
 f46 := ⟨Tryz.f220.name, by decide, Tryz.func220.trans (congrArg some (by kernel_rfl))⟩
 f47 := Tryz.func185.trans (congrArg some (by kernel_rfl))
 f48 := Tryz.func186.trans (congrArg some (by kernel_rfl))
 f49 := ⟨Tryz.f221.name, by decide, Tryz.func221.trans (congrArg some (by kernel_rfl))⟩
 f50 := ⟨Tryz.f222.name, by decide, Tryz.func222.trans (congrArg some (by kernel_rfl))⟩
 f57 := ⟨Tryz.f223.name, by decide, Tryz.func223.trans (congrArg some (by kernel_rfl))⟩
 t0 := Tryz.underlying0
 a0 := Tryz.isAgg0
 z0 := Tryz.sizeOf0
 v0 := Tryz.zeroValue0
 t3 := Tryz.underlying3
 a3 := Tryz.isAgg3
 z3 := Tryz.sizeOf3
 v3 := Tryz.zeroValue3
 t4 := Tryz.underlying4
 a4 := Tryz.isAgg4
 z4 := Tryz.sizeOf4
 v4 := Tryz.zeroValue4
 t5 := Tryz.underlying5
 a5 := Tryz.isAgg5
 z5 := Tryz.sizeOf5
 v5 := Tryz.zeroValue5
 t9 := Tryz.underlying9
 a9 := Tryz.isAgg9
 z9 := Tryz.sizeOf9
 v9 := Tryz.zeroValue9
 t22 := Tryz.underlying52
 a22 := Tryz.isAgg52
 z22 := Tryz.sizeOf52
 v22 := Tryz.zeroValue52
 t25 := Tryz.underlying232
 a25 := Tryz.isAgg232
 z25 := Tryz.sizeOf232
 v25 := Tryz.zeroValue232
 t39 := Tryz.underlying183
 a39 := Tryz.isAgg183
 z39 := Tryz.sizeOf183
 v39 := Tryz.zeroValue183
 t45 := Tryz.underlying234
 a45 := Tryz.isAgg234
 z45 := Tryz.sizeOf234
 v45 := Tryz.zeroValue234
 t46 := Tryz.underlying235
 a46 := Tryz.isAgg235
 z46 := Tryz.sizeOf235
 v46 := Tryz.zeroValue235
 t50 := Tryz.underlying84
 a50 := Tryz.isAgg84
 z50 := Tryz.sizeOf84
 v50 := Tryz.zeroValue84
 t53 := Tryz.underlying242
 a53 := Tryz.isAgg242
 z53 := Tryz.sizeOf242
 v53 := Tryz.zeroValue242
 t55 := Tryz.underlying244
 a55 := Tryz.isAgg244
 z55 := Tryz.sizeOf244
 v55 := Tryz.zeroValue244
 t66 := Tryz.underlying265
 a66 := Tryz.isAgg265
 z66 := Tryz.sizeOf265
 v66 := Tryz.zeroValue265
 t70 := Tryz.underlying269
 a70 := Tryz.isAgg269
 z70 := Tryz.sizeOf269
 v70 := Tryz.zeroValue269
 t76 := Tryz.underlying285
 a76 := Tryz.isAgg285
 z76 := Tryz.sizeOf285
 v76 := Tryz.zeroValue285
 t77 := Tryz.underlying222
 a77 := Tryz.isAgg222
 z77 := Tryz.sizeOf222
 v77 := Tryz.zeroValue222 }
def enc32 (x : Int × Int) : List Value := [.int .i32 x.1, .int .i32 x.2]
theorem isNaN_any (x : Int) (W : World) : Calls Tryz.prog 183 #[.int .i32 x] W fun e w' => e = .returned (.bool false) ∧ w' = W := by
 have hb : (x != x) = false := by simp
 go_enter Tryz.func183, Tryz.ntmps183
 go_wp2
 go_ret
 exact ⟨by simp, rfl⟩
theorem compare_any (x y : Int) (W : World) : Calls Tryz.prog 147 #[.int .i32 x, .int .i32 y] W fun e w' => e = .returned (.int .i64 (Lib.compareInt x y)) ∧ w' = W := by
 go_enter Tryz.func147, Tryz.ntmps147
 go_wp2_with (go_at_call 183; refine (isNaN_any _ _).mono ?_; rintro e w' ⟨rfl, rfl⟩)
 all_goals go_ret
 all_goals refine ⟨?_, rfl⟩
 all_goals simp [Lib.compareInt]
 all_goals omega
set_option maxHeartbeats 1000000 in
theorem closure_any (x y : Int × Int) (W : World) : Calls Tryz.prog 146 #[.agg #[.int .i32 x.1, .int .i32 x.2], .agg #[.int .i32 y.1, .int .i32 y.2]] W fun e w' => e = .returned (.int .i64 (Lib.compareInt x.1 y.1)) ∧ ∃ q os', w' = grow (W.drewN q) os' := by
 have hcon := fun W' => compare_any x.1 y.1 W'
 generalize Lib.compareInt x.1 y.1 = r at hcon ⊢
 go_enter Tryz.func146, Tryz.ntmps146
 go_wp2_with (go_at_call 147; refine (hcon _).mono ?_; rintro e w' ⟨rfl, rfl⟩)
 go_ret
 exact ⟨rfl, 0, _, by rw [alloc_eq_grow, alloc_eq_grow, grow_grow]; rfl⟩
theorem cmpLays_any (blk off size : Nat) (w : World) : CmpLays Tryz.prog 146 #[] enc32 2 (fun x y => Lib.compareInt x.1 y.1) blk off size w :=
 fun _ _ _ _ x y => closure_any x y _
theorem lt32 (x y : Int × Int) : ltOf (fun x y : Int × Int => Lib.compareInt x.1 y.1) x y = decide (x.1 < y.1) := by
 unfold ltOf Lib.compareInt
 by_cases h1 : x.1 < y.1
 ·simp [h1]
 ·by_cases h2 : y.1 < x.1 <;> simp [h1, h2]
theorem swo32 : SWO (ltOf fun x y : Int × Int => Lib.compareInt x.1 y.1) where
 irrefl x := by rw [lt32]; simp
 trans x y z h1 h2 := by rw [lt32] at *; simp at *; omega
 ntrans x y z h1 h2 := by rw [lt32] at *; simp at *; omega
theorem flatK32_get (d : Array (Int × Int)) (j : Nat) (h : j < d.size * 2) : (flat32 d.toList)[j]? = some (flatK enc32 2 d)[j]! := by
 rw [get_flatK _ _ _ _ h]
 have hj : j / 2 < d.toList.length := by simp; omega
 have hg := flat32_get d.toList (j / 2) hj
 have e1 : d[j / 2]! = d.toList[j / 2] := by simp at hj; simp [hj]
 rw [e1]
 rcases Nat.mod_two_eq_zero_or_one j with h0 | h0
 ·rw [h0, show (flat32 d.toList)[j]? = (flat32 d.toList)[j / 2 * 2]? by congr 1; omega, hg.1]; simp [enc32]
 ·rw [h0, show (flat32 d.toList)[j]? = (flat32 d.toList)[j / 2 * 2 + 1]? by congr 1; omega, hg.2]; simp [enc32]
theorem holds_of_own {w : World} {base g cap : Nat} {d : Array (Int × Int)} (h : w.ownsRow base 201 2 (.slice (some ⟨g, 0, none⟩) d.size cap) d.size (flat32 d.toList)) : HoldsK enc32 2 w g 0 d ∧ g < w.heap.size ∧ base ≤ g := by
 rcases h.2 with ⟨he, _⟩ | ⟨g', cap', cur, he, a1, a2, a3, a4, a5, a6⟩
 ·cases he
 ·cases he
  refine ⟨fun j hj => ?_, (Array.getElem?_eq_some_iff.1 a2).1, a1⟩
  rw [size_flatK] at hj
  have hf := flatK32_get d j hj
  rw [← a6, List.getElem?_take_of_lt hj] at hf
  constructor
  ·simp only [World.cell?, a2, Nat.zero_add]
   simpa using hf
  ·simp [World.frozen?, a2]
theorem cells_of_holds {w : World} {g : Nat} {d : Array (Int × Int)} (h : HoldsK enc32 2 w g 0 d) : Cells32 w g d.toList := by
 intro i hi
 have hi' : i < d.size := by simpa using hi
 have e := flat32_get d.toList i hi
 have c0 := h (i * 2) (by rw [size_flatK]; omega)
 have c1 := h (i * 2 + 1) (by rw [size_flatK]; omega)
 have f0 := flatK32_get d (i * 2) (by omega)
 have f1 := flatK32_get d (i * 2 + 1) (by omega)
 rw [e.1] at f0
 rw [e.2] at f1
 have f0' := Option.some.inj f0
 have f1' := Option.some.inj f1
 have c0' := c0.1
 have c1' := c1.1
 rw [Nat.zero_add] at c0' c1'
 exact ⟨c0'.trans (by rw [f0']; rfl), c1'.trans (by rw [f1']; rfl)⟩
theorem sortWorldK_kept (w : World) (blk off m : Nat) (dk : Array (Int × Int)) (os : Array Obj) : Kept (fun i => i = blk) w (sortWorldK enc32 2 w blk off m dk os) := by
 refine ⟨rfl, rfl, rfl, size_sortWorldK_c enc32 2 w blk off m dk os, fun k hk hs => ?_⟩
 show ((putRowK enc32 2 (Sort.ahead w m) blk off dk).heap ++ os)[k]? = w.heap[k]?
 have hsz : (putRowK enc32 2 (Sort.ahead w m) blk off dk).heap.size = w.heap.size := by rw [size_putRowK]; rfl
 rw [Array.getElem?_append_left (by omega)]
 show (w.heap.modify blk _)[k]? = _
 rw [Array.getElem?_modify, if_neg (fun e => hs e.symm)]
theorem perm_of_in {d d' : Array (Int × Int)} (h : PermIn 0 d.size d d') : d'.toList.Perm d.toList := by
 have h1 := h.2.2
 have h0 := h.1
 rw [show d'.extract 0 d.size = d' by rw [← h0]; simp, show d.extract 0 d.size = d by simp] at h1
 exact h1
theorem pairwise_of_in {d : Array (Int × Int)} {n : Nat} (hn : n = d.size) (h : SortedIn (ltOf fun x y : Int × Int => Lib.compareInt x.1 y.1) 0 n d) : d.toList.Pairwise (fun a b => a.1 ≤ b.1) := by
 rw [List.pairwise_iff_getElem]
 intro i j hi hj hij
 have hi' : i < d.size := by simpa using hi
 have hj' : j < d.size := by simpa using hj
 have := h i j (Nat.zero_le _) hij (by omega)
 rw [lt32] at this
 simp [hi', hj'] at this
 simpa using this
theorem collect_any (Bs b cap : Nat) (zs : List (Int × Int)) (hlen : zs.length ≤ 100000) (w : World) (hBs : Bs < w.heap.size) (hb : b < w.heap.size)
  (hcs : w.cell? ⟨Bs, 0, none⟩ = some (.slice (some ⟨b, 0, none⟩) zs.length cap)) (hI : Cells32 w b zs) :
  Calls Tryz.prog 180 #[.func (.func 182) #[] #[.pointer (some ⟨Bs, 0, none⟩)]] w fun e W' => ∃ v, e = .returned v ∧ W'.ownsRow w.heap.size 201 2 v zs.length (flat32 zs) ∧ Kept Nil w W' := by
 have hcon : Calls Tryz.prog 204 #[.slice none 0 0, .func (.func 182) #[] #[.pointer (some ⟨Bs, 0, none⟩)]] w fun e W' => ∃ v, e = .returned v ∧ W'.ownsRow w.heap.size 201 2 v zs.length (flat32 zs) ∧ Below w.heap.size w W' :=
  callsIn_wide.1 (appendSeq_in Fence.wide 6 trivial trivial rfl (by omega) Bs b cap zs hlen w hBs hb hcs hI)
 go_enter Tryz.func180, Tryz.ntmps180
 go_wp2_with fail
 refine hcon.mono ?_
 rintro e w1 ⟨v, rfl, hv, hB⟩
 go_wp2_with fail
 go_ret
 exact ⟨v, rfl, hv, Below.kept hB rfl⟩
set_option maxHeartbeats 1000000 in
theorem sortedFunc_any (Bs b cap : Nat) (zs : List (Int × Int)) (hlen : zs.length ≤ 100000) (hne : zs ≠ []) (w : World) (hBs : Bs < w.heap.size) (hb : b < w.heap.size)
  (hcs : w.cell? ⟨Bs, 0, none⟩ = some (.slice (some ⟨b, 0, none⟩) zs.length cap)) (hI : Cells32 w b zs) :
  Calls Tryz.prog 144 #[.func (.func 182) #[] #[.pointer (some ⟨Bs, 0, none⟩)], .func (.func 146) #[] #[]] w fun e w' => ∃ l gb gcap, e = .returned (.slice (some ⟨gb, 0, none⟩) l.length gcap) ∧ l.Perm zs ∧ l.Pairwise (fun a b => a.1 ≤ b.1) ∧ Cells32 w' gb l ∧ w.heap.size ≤ gb ∧ gb < w'.heap.size ∧ Kept Nil w w' := by
 obtain ⟨z0, zr, rfl⟩ : ∃ z0 zr, zs = z0 :: zr := List.exists_cons_of_ne_nil hne
 go_enter Tryz.func144, Tryz.ntmps144
 go_wp2_with fail
 refine (collect_any Bs b cap (z0 :: zr) hlen w hBs hb hcs hI).mono ?_
 rintro e w1 ⟨v, rfl, hv, hk1⟩
 obtain ⟨g, gcap, rfl⟩ := ownsRow_succ hv
 have ho := holds_of_own (d := (z0 :: zr).toArray) (by simpa using hv)
 have eg : ∀ args w, (callFunc 146 args).run Tryz.prog w = .ok (.enter 146 args) w := enters_of Tryz.func146 (by kernel_rfl) rfl
 have hcon := AnyQ.slices_SortFunc Tryz.sortSp 2 Tryz.isAgg201 Tryz.sizeOf201 enc32 (fun _ => rfl) (fun x v hv => by simp [enc32] at hv; rcases hv with rfl | rfl <;> rfl) (fun x y => Lib.compareInt x.1 y.1) swo32 146 #[] g 0 gcap (z0 :: zr).toArray w1 eg (cmpLays_any g 0 _ w1) ho.1 ho.2.1 (by simp at hlen ⊢; omega)
 change Calls Tryz.prog 181 _ _ _ at hcon
 simp only [List.size_toArray, List.length_cons] at hcon
 clear hv
 go_wp2_with fail
 refine hcon.mono ?_
 rintro e w2 ⟨rfl, d', n, os, hp, hs, rfl⟩
 go_wp2_with fail
 go_ret
 have hp' := perm_of_in (d := (z0 :: zr).toArray) (by simpa using hp)
 have hsz : d'.size = zr.length + 1 := by have := hp'.length_eq; simpa using this
 have kk := sortWorldK_kept w1 g 0 n d' os
 have hH := holdsK_sortWorldK_c enc32 2 w1 g 0 (z0 :: zr).toArray d' n os ho.1 ho.2.1 (by simp [hsz])
 refine ⟨d'.toList, g, gcap, by simp [hsz], by simpa using hp', pairwise_of_in hsz.symm hs, cells_of_holds hH, ho.2.2, Nat.lt_of_lt_of_le ho.2.1 kk.size, hk1.trans' kk (fun i hi he => ?_)⟩
 have := ho.2.2
 omega
end Go.Proofs.YtfollffpibmgcaaGreatDoor
namespace Go.Proofs.YtfollffpibmgcaaGreatDoor
def sSeq : ByteArray := ⟨#[115, 101, 113]⟩
def sAlt : ByteArray := ⟨#[97, 108, 116]⟩
def sTimes : ByteArray := ⟨#[116, 105, 109, 101, 115]⟩
def sRune : ByteArray := ⟨#[114, 117, 110, 101]⟩
def sCaret : ByteArray := ⟨#[94]⟩
def sDollar : ByteArray := ⟨#[36]⟩
def sSmallB : ByteArray := ⟨#[98]⟩
def sBigB : ByteArray := ⟨#[66]⟩
def sGroup : ByteArray := ⟨#[103, 114, 111, 117, 112]⟩
def sBare : ByteArray := ⟨#[98, 97, 114, 101]⟩
inductive RT where
 | node (op : ByteArray) (sp : List (Int × Int)) (nt fd : Bool) (kids : List RT) (grp least most : Int) (lz : Bool) : RT
def rLeaf (op : ByteArray) (sp : List (Int × Int)) (nt fd : Bool) : RT := .node op sp nt fd [] 0 0 0 false
def letterSpans (r : Int) : List (Int × Int) :=
 if r = 100 ∨ r = 68 then [(48, 57)] else if r = 119 ∨ r = 87 then [(97, 122), (65, 90), (48, 57), (95, 95)] else [(9, 10), (13, 13), (32, 32)]
def rItem (g : RG) (st : RS) : List (Int × Int) :=
 if inSet lBack (seeOf g st) = true ∧ inSet lSets (seeOf g { st with next := st.next + 1 }) = true then letterSpans (seeOf g { st with next := st.next + 1 })
 else [((pOne' g st).2, if inSet lDash (seeOf g (pOne' g st).1) then (pOne' g { (pOne' g st).1 with next := (pOne' g st).1.next + 1 }).2 else (pOne' g st).2)]
def rItems (g : RG) : Nat → RS → List (Int × Int) → List (Int × Int)
 | 0, _, acc => acc
 | m + 1, st, acc => if seeOf g st = -1 ∨ inSet lSquare (seeOf g st) = true then acc else rItems g m (pItem g st) (acc ++ rItem g st)
def rClass (g : RG) (fold : Int) (st : RS) : RT :=
 rLeaf sRune (rItems g (g.rs.length + 2) (takeOf g lCaret st) []) (inSet lCaret (seeOf g st)) (decide (0 < fold))
def rEscape (fold q : Int) : RT :=
 if q = 100 ∨ q = 119 ∨ q = 115 then rLeaf sRune (letterSpans q) false false
 else if q = 68 ∨ q = 87 ∨ q = 83 then rLeaf sRune (letterSpans q) true false
 else if q = 98 then rLeaf sSmallB [] false false
 else if q = 66 then rLeaf sBigB [] false false
 else rLeaf sRune [(escRune q, escRune q)] false (decide (0 < fold))
def rSingle (q : Int) : RT := if q = 46 then rLeaf sRune [(10, 10)] true false else if q = 94 then rLeaf sCaret [] false false else rLeaf sDollar [] false false
def rBracket (g : RG) (ralt : Int → RS → RT) (fold : Int) (st : RS) : RT :=
 if inSet lQuery (seeOf g st) = false then .node sGroup [] false false [ralt fold (pHead g st)] (st.groups + 1) 0 0 false
 else if inSet lLess (seeOf g { st with next := st.next + 1 }) then .node sGroup [] false false [ralt fold (pHead g st)] (st.groups + 1) 0 0 false
 else if inSet lI (seeOf g { st with next := st.next + 1 }) then .node sBare [] false false [ralt (fold + 1) (pHead g st)] 0 0 0 false
 else .node sBare [] false false [ralt fold (pHead g st)] 0 0 0 false
def rAtom (g : RG) (ralt : Int → RS → RT) (fold : Int) (st : RS) : RT :=
 if inSet lOpenRound (seeOf g st) then rBracket g ralt fold { st with next := st.next + 1 }
 else if inSet lOpenSquare (seeOf g st) then rClass g fold { st with next := st.next + 1 }
 else if inSet lBack (seeOf g st) then rEscape fold (seeOf g { st with next := st.next + 1 })
 else if inSet lSingles (seeOf g st) then rSingle (seeOf g st)
 else rLeaf sRune [(seeOf g st, seeOf g st)] false (decide (0 < fold))
def rTimes (a : RT) (least most : Int) (lz : Bool) : RT := .node sTimes [] false false [a] 0 least most lz
def rRepeated (g : RG) (a : RT) (st : RS) : RT :=
 if inSet lStar (seeOf g st) then rTimes a 0 (-1) (inSet lQuery (seeOf g { st with next := st.next + 1 }))
 else if inSet lPlus (seeOf g st) then rTimes a 1 (-1) (inSet lQuery (seeOf g { st with next := st.next + 1 }))
 else if inSet lQuery (seeOf g st) then rTimes a 0 1 (inSet lQuery (seeOf g { st with next := st.next + 1 }))
 else if inSet lOpenBrace (seeOf g st) then
  rTimes a (pBounds g { st with next := st.next + 1 }).2.1 (pBounds g { st with next := st.next + 1 }).2.2 (inSet lQuery (seeOf g (pBounds g { st with next := st.next + 1 }).1))
 else a
def rSeqs (g : RG) (alt : RS → RS × PT) (ralt : Int → RS → RT) (fold : Int) : Nat → RS → List RT → List RT
 | 0, _, acc => acc
 | m + 1, st, acc =>
  if seeOf g st = -1 ∨ inSet lBarRound (seeOf g st) = true then acc
  else rSeqs g alt ralt fold m (pRepeated g (pAtom g alt st).2 (pAtom g alt st).1).1 (acc ++ [rRepeated g (rAtom g ralt fold st) (pAtom g alt st).1])
def rSeq (g : RG) (alt : RS → RS × PT) (ralt : Int → RS → RT) (fold : Int) (st : RS) : RT := .node sSeq [] false false (rSeqs g alt ralt fold (g.rs.length + 1) st []) 0 0 0 false
def rAlts (g : RG) (alt : RS → RS × PT) (ralt : Int → RS → RT) (fold : Int) : Nat → RS → List RT → List RT
 | 0, _, acc => acc
 | m + 1, st, acc =>
  if inSet lBar (seeOf g st) then rAlts g alt ralt fold m (pSeq g alt { st with next := st.next + 1 }).1 (acc ++ [rSeq g alt ralt fold { st with next := st.next + 1 }]) else acc
def rAlt (g : RG) : Nat → Int → RS → RT
 | 0, _, _ => rLeaf sRune [] false false
 | k + 1, fold, st => .node sAlt [] false false (rAlts g (pAlt g k) (rAlt g k) fold (g.rs.length + 1) (pSeq g (pAlt g k) st).1 [rSeq g (pAlt g k) (rAlt g k) fold st]) 0 0 0 false
theorem rSeqs_end (g : RG) (alt : RS → RS × PT) (ralt : Int → RS → RT) (fold : Int) (m : Nat) (st : RS) (acc : List RT) (h : seeOf g st = -1 ∨ inSet lBarRound (seeOf g st) = true) : rSeqs g alt ralt fold m st acc = acc := by
 cases m with
 | zero => rfl
 | succ m => unfold rSeqs; rw [if_pos h]
theorem rAlts_end (g : RG) (alt : RS → RS × PT) (ralt : Int → RS → RT) (fold : Int) (m : Nat) (st : RS) (acc : List RT) (h : inSet lBar (seeOf g st) = false) : rAlts g alt ralt fold m st acc = acc := by
 cases m with
 | zero => rfl
 | succ m => unfold rAlts; rw [if_neg (by rw [h]; simp)]
def rWhole (g : RG) (st : RS) : RT := rAlt g (g.rs.length + 1) 0 st
end Go.Proofs.YtfollffpibmgcaaGreatDoor
