/- Spans in memory; Go's slices. The document's tree of a pattern, as plain functions: what stands in each node. The document's tries, as plain functions: what must come is a list (a stack) of pieces; the first try of it. -/
import Derived.Test.YtnbfddjaonlmaaaGreatDoorP01
import Derived.RangeFuncNested
import Derived.RangeFuncBox
import Derived.RangeFuncLeaves
import Derived.Shelf.Abstract
import Derived.OwnWalkIn
import Derived.TacticsInMore
import Derived.LoopNIn
import Derived.LoopIn
import Derived.Maps.AppendAt
import Derived.Shelf.SlSortCmp.WholeK
import Derived.Test.YtnbfddjaonlmaaaGreatDoorP02
set_option linter.unusedVariables false
set_option maxRecDepth 100000
namespace Go.Proofs.YtnbfddjaonlmaaaGreatDoor
open Go.RowKit Go.Shelf
attribute [local go_sem] Oper.semAt_some

def span32 (x : Int × Int) : Value := .agg #[.int .i32 x.1, .int .i32 x.2]
def flat32 : List (Int × Int) → List Value
  | [] => []
  | p :: l => .int .i32 p.1 :: .int .i32 p.2 :: flat32 l
theorem flat32_length (l : List (Int × Int)) : (flat32 l).length = l.length * 2 := by
  induction l with
  | nil => rfl
  | cons p l ih => simp [flat32, ih]; omega
theorem flat32_append (l m : List (Int × Int)) : flat32 (l ++ m) = flat32 l ++ flat32 m := by
  induction l with
  | nil => rfl
  | cons p l ih => simp [flat32, ih]
theorem flat32_get : ∀ (l : List (Int × Int)) (i : Nat) (h : i < l.length), (flat32 l)[i * 2]? = some (.int .i32 (l[i]).1) ∧ (flat32 l)[i * 2 + 1]? = some (.int .i32 (l[i]).2)
  | [], i, h => by simp at h
  | p :: l, 0, _ => by simp [flat32]
  | p :: l, i + 1, h => by
    have := flat32_get l i (by simpa using h)
    simp only [flat32, List.getElem_cons_succ]
    rw [show (i + 1) * 2 = i * 2 + 1 + 1 by omega, show i * 2 + 1 + 1 + 1 = (i * 2 + 1) + 1 + 1 by omega]
    simpa using this
theorem flat32_one (l : List (Int × Int)) : ∀ u ∈ flat32 l, u.oneCell' = true := by
  induction l with
  | nil => intro u h; simp [flat32] at h
  | cons p l ih =>
    intro u h
    simp only [flat32, List.mem_cons] at h
    rcases h with rfl | rfl | h
    · rfl
    · rfl
    · exact ih u h
theorem new32 (w : World) (cs : Array Value) (t : TypeId) (j : Nat) (u : Value) (h : cs.toList[j]? = some u) : (w.alloc (.cells cs t)).cell? (Addr.add ⟨w.heap.size, 0, none⟩ j) = some u := by
  have e : Addr.add ⟨w.heap.size, 0, none⟩ j = ⟨w.heap.size, j, none⟩ := by
    unfold Addr.add
    split
    · rename_i hz; simp
    · simp
  rw [e, (Blk.new w cs t).cell j]
  simpa using h

theorem Tryz.infoSpan32 : (Tryz.prog.info? 149).map (fun i => (i.zero, i.size, i.bytes)) = some (some (.agg #[.int .i32 0, .int .i32 0]), 2, 8) := by kernel_rfl

/-- the spans that a slice holds -/
def Cells32 (w : World) (b : Nat) (l : List (Int × Int)) : Prop := ∀ i, (h : i < l.length) → w.cell? ⟨b, i * 2, none⟩ = some (.int .i32 (l[i]).1) ∧ w.cell? ⟨b, i * 2 + 1, none⟩ = some (.int .i32 (l[i]).2)
theorem Cells32.kept {w w' : World} {b : Nat} {l : List (Int × Int)} {S : Nat → Prop} (h : Cells32 w b l) (k : Kept S w w') (hb : b < w.heap.size) (hs : ¬ S b) : Cells32 w' b l := fun i hi =>
  ⟨(k.cell (p := ⟨b, i * 2, none⟩) hb hs).trans (h i hi).1, (k.cell (p := ⟨b, i * 2 + 1, none⟩) hb hs).trans (h i hi).2⟩

theorem Below.kept {B : Nat} {w w' : World} (h : Below B w w') (hB : B = w.heap.size) : Kept Nil w w' := ⟨h.os, h.tape, h.output, h.size, fun k hk _ => h.block k (by omega)⟩

theorem blk_own {β : Type} (B : Nat) (cs : Array Value) (t : TypeId) : Own (fun (_ : β) W => Blk W B cs t) := by
  intro s X Y row h hg hr
  refine (hg.block B h.lt (fun e => ?_)).trans h
  obtain ⟨o, ho, hc⟩ := hr B e.symm
  rw [show X.heap[B]? = _ from h] at ho; cases ho; cases hc

set_option maxHeartbeats 2000000 in
/-- slices.Values's closure -/
theorem values1_in (F : Fence) (n : Nat) (h7 : F.fn 126) (hro : F.round = none) (hn : 1 ≤ n) (l Bs n₀ b cap : Nat) (zs : List (Int × Int)) (hreach : zs.length ≤ 100000) (hb : b < n₀) (J Jx : List (Int × Int) → World → Prop)
    (hY : ∀ pre x W, J pre W → pre.length < zs.length → YieldAt F (n - 1) Tryz.prog l #[span32 x] W fun e W' =>
      (e = .returned (.bool true) ∧ J (pre ++ [x]) W' ∧ Below n₀ W W') ∨ (e = .returned (.bool false) ∧ Jx (pre ++ [x]) W'))
    (W : World) (hn₀ : n₀ ≤ W.heap.size) (hBs : W.cell? ⟨Bs, 0, none⟩ = some (.slice (some ⟨b, 0, none⟩) zs.length cap)) (hc : Cells32 W b zs) (hJ : AbidesFrom W.heap.size J) (h0 : J [] W) :
    CallsIn F n Tryz.prog 126 #[.func (.yield l) #[] #[], .pointer (some ⟨Bs, 0, none⟩)] W fun e W' => (∃ v, e = .returned v) ∧
      ((∃ ys, ys = zs ∧ J ys W') ∨ (∃ pre, pre <+: zs ∧ Jx pre W')) := by
  refine callsIn_of_wp Tryz.func126 rfl h7 ?_ hro
  simp only [Tryz.ntmps126, List.size_toArray, List.length_cons, List.length_nil, Nat.reduceAdd, Nat.reduceSub, Array.replicate_succ, Array.replicate_zero, List.push_toArray, List.append_toArray, List.nil_append, List.cons_append]
  gi_wp2
  gi_loopw [7] (fun i wr => ∃ k : Nat, k ≤ zs.length ∧ i = .int .i64 k ∧ J (zs.take k) wr ∧ Below n₀ W wr)
    (fun i _ => zs.length - (intOf i).toNat)
  case atStart => exact ⟨0, Nat.zero_le _, rfl, by simpa using h0, Below.refl _ _⟩
  case round =>
    obtain ⟨k, hk, rfl, hJs, hnx⟩ := hrel
    by_cases hlt : k < zs.length
    · have q0 : wr.cell? ⟨b, k * 2, none⟩ = some (.int .i32 (zs[k]).1) := (hnx.cell (p := ⟨b, k * 2, none⟩) hb).trans (hc k hlt).1
      have q1 : wr.cell? ⟨b, k * 2 + 1, none⟩ = some (.int .i32 (zs[k]).2) := (hnx.cell (p := ⟨b, k * 2 + 1, none⟩) hb).trans (hc k hlt).2
      have hsz := hnx.size
      have hJa : J (zs.take k) (wr.alloc (.cells #[.int .i32 (zs[k]).1, .int .i32 (zs[k]).2] 149)) := hJ _ wr _ none hJs (World.grownBy_alloc wr _ none) (fun r e => by cases e)
      obtain ⟨fn, tmps, assign, body, hy, hR⟩ := hY _ (zs[k]) _ hJa (by simp; omega)
      have htk : zs.take k ++ [zs[k]] = zs.take (k + 1) := by rw [List.take_add_one, List.getElem?_eq_getElem hlt]; rfl
      rw [htk] at hR
      simp only [span32] at hy
      have c0 := (Blk.new wr #[.int .i32 (zs[k]).1, .int .i32 (zs[k]).2] 149).cell 0
      have c1 := (Blk.new wr #[.int .i32 (zs[k]).1, .int .i32 (zs[k]).2] 149).cell 1
      gi_wp2
      refine hR.mono ?_
      rintro e W3 (⟨rfl, hJ3, hk3⟩ | ⟨rfl, hJx3⟩)
      · gi_wp2
        go_roundw
        case rel => exact ⟨k + 1, by omega, by simp, hJ3, (hnx.alloc (by omega) _).trans hk3⟩
        case measure => simp [intOf]; omega
      · gi_wp2
        refine bodyPost_ret (results_none rfl _ _ _) rfl ?_
        exact ⟨⟨_, rfl⟩, .inr ⟨_, List.take_prefix _ _, hJx3⟩⟩
    · obtain rfl : k = zs.length := by omega
      gi_wp2
      go_end0
      exact ⟨⟨_, rfl⟩, .inl ⟨_, rfl, by simpa using hJs⟩⟩

theorem values_stops (F : Fence) (n : Nat) (h7 : F.fn 126) (hro : F.round = none) (hn : 1 ≤ n) (Bs n₀ b cap : Nat) (zs : List (Int × Int)) (hreach : zs.length ≤ 100000) (w : World) (hBs : Bs < w.heap.size) (hn₀ : n₀ ≤ w.heap.size) (hb : b < n₀)
    (hc : w.cell? ⟨Bs, 0, none⟩ = some (.slice (some ⟨b, 0, none⟩) zs.length cap)) (hI : Cells32 w b zs) :
    SeqStopsK F n Tryz.prog 126 #[.pointer (some ⟨Bs, 0, none⟩)] (fun x : Int × Int => #[span32 x]) (Below n₀) (fun ys => ys = zs) (fun pre => pre <+: zs) zs.length w := fun l J Jx W hW hJ _ hY h0 =>
  values1_in F n h7 hro hn l Bs n₀ b cap zs hreach hb J Jx hY W (Nat.le_trans hn₀ hW.size) ((hW.cell (p := ⟨Bs, 0, none⟩) hBs).trans hc)
    (fun i hi => ⟨(hW.cell (p := ⟨b, i * 2, none⟩) (by show b < _; omega)).trans (hI i hi).1, (hW.cell (p := ⟨b, i * 2 + 1, none⟩) (by show b < _; omega)).trans (hI i hi).2⟩) hJ h0

set_option maxHeartbeats 2000000 in
theorem appendSeq_in (F : Fence) (n : Nat) (h3 : F.fn 131) (h5 : F.fn 126) (hro : F.round = none) (hn : 3 ≤ n) (Bs b cap : Nat) (zs : List (Int × Int)) (hlen : zs.length ≤ 100000) (w : World) (hBs : Bs < w.heap.size) (hb : b < w.heap.size)
    (hcs : w.cell? ⟨Bs, 0, none⟩ = some (.slice (some ⟨b, 0, none⟩) zs.length cap)) (hI : Cells32 w b zs) :
    CallsIn F n Tryz.prog 131 #[.slice none 0 0, .func (.func 126) #[] #[.pointer (some ⟨Bs, 0, none⟩)]] w fun e W' => ∃ v, e = .returned v ∧ W'.ownsRow w.heap.size 149 2 v zs.length (flat32 zs) ∧ Below w.heap.size w W' := by
  have h1 : 1 ≤ n := by omega
  obtain ⟨i0, hi, hz0, hz1, hz2⟩ := info_parts Tryz.infoSpan32
  refine callsIn_of_wp_marks Tryz.func131 rfl h3 ?_ hro
  simp only [Tryz.ntmps131, List.size_toArray, List.length_cons, List.length_nil, Nat.reduceAdd, Nat.reduceSub, Array.replicate_succ, Array.replicate_zero, List.push_toArray, List.append_toArray, List.nil_append, List.cons_append]
  gi_wp2
  have bO := Boxed.new w 52 (.slice none 0 0)
  have hB0 : Below w.heap.size w (w.alloc (.cells #[.slice none 0 0] 52)) := (Below.refl _ w).alloc (Nat.le_refl _) _
  have hcs' : (w.alloc (.cells #[.slice none 0 0] 52)).cell? ⟨Bs, 0, none⟩ = some (.slice (some ⟨b, 0, none⟩) zs.length cap) := (hB0.cell (p := ⟨Bs, 0, none⟩) hBs).trans hcs
  have hI' : Cells32 (w.alloc (.cells #[.slice none 0 0] 52)) b zs := hI.kept ((Kept.refl Nil w).alloc _) hb (fun hx => hx)
  refine wpIn_rangeFunc_ownH hro h1 (gf := 126) (lb := #[.pointer (some ⟨Bs, 0, none⟩)]) rfl h5 (enters_of Tryz.func126 (by kernel_rfl) rfl)
    (values_stops F (n - 1) h5 hro (by omega) Bs w.heap.size b cap zs hlen _ (by simp; omega) (by simp) hb hcs' hI') belowK_t (belowK_b (by simp)) (Below.refl _ _) (fun _ => rfl)
    (fun pre W => (∃ v, Boxed W w.heap.size 52 v ∧ W.ownsRow w.heap.size 149 2 v pre.length (flat32 pre) ∧ True) ∧ Below w.heap.size w W)
    (fun _ _ _ => False)
    (OwnFrom.and (Own.from (holdsRow_own w.heap.size w.heap.size 52 149 2 (fun pre => pre.length) (fun pre => flat32 pre) (fun pre v => True)) _) (ownFrom_below (Nat.le_refl _) (by simp)))
    (fun _ _ _ _ _ hs _ _ => hs)
    ⟨⟨_, bO, World.ownsRow_nil _ _ _ _, trivial⟩, hB0⟩
    (fun x a' W => ∃ Bx, w.heap.size < Bx ∧ Blk W Bx #[.int .i32 x.1, .int .i32 x.2] 149 ∧ a' = { tmps := #[.slice none 0 0, .func (.func 126) #[] #[.pointer (some ⟨Bs, 0, none⟩)], .pointer (some ⟨w.heap.size, 0, none⟩), undef, .slice none 0 0, .pointer (some ⟨Bx, 0, none⟩), .func (.func 126) #[] #[.pointer (some ⟨Bs, 0, none⟩)], span32 x, undef, undef, undef, undef, undef], defers := [] })
    (fun x a' _ X Y row hs hg hr => by obtain ⟨Bx, h1, h2, h3⟩ := hs; exact ⟨Bx, h1, blk_own Bx #[.int .i32 x.1, .int .i32 x.2] 149 () X Y row h2 hg (fun r e => (hr r e).2), h3⟩)
    ?assign ?body ?done ?stop
  case assign =>
    rintro l pre x W K ⟨⟨v, hv, hrow, _⟩, hB⟩ hK
    simp only [span32] at hK ⊢
    gi_wp2
    exact hK _ _ ((KeepsOthers.alloc _ _).from _) ((Below.refl _ W).alloc hB.size _) ⟨⟨v, hv.alloc _, hrow.alloc _, trivial⟩, hB.alloc hB.size _⟩ ⟨W.heap.size, hv.lt, Blk.new W _ _, rfl⟩
  case body =>
    rintro l pre x a' W hl ⟨r, hr⟩ ⟨⟨v, hv, hrow, _⟩, hB⟩ ⟨Bx, hBx, bX, rfl⟩ hlt
    have hc := hv.cell
    have x0 : W.cell? ⟨Bx, 0, none⟩ = some (.int .i32 x.1) := bX.cell 0
    have x1 : W.cell? ⟨Bx, 1, none⟩ = some (.int .i32 x.2) := bX.cell 1
    simp only [span32]
    gi_wp2_with (gi_at_builtin; refine wpListIn_append_own _ rfl _ _ 52 rfl w.heap.size 149 i0 (.agg #[.int .i32 0, .int .i32 0]) 2 8 Tryz.underlying52 hi hz0 hz1 hz2 rfl (by decide) _ _ _ rfl (hrow.alloc _) ⟨W.heap.size, 0, none⟩ 1 1 [.int .i32 x.1, .int .i32 x.2] rfl rfl (fun j u h => new32 _ _ _ j u h) (by simp [Value.oneCell']) (by unfold maxLen; omega) (by omega) (by have := hB.size; simp; omega) ?_; intro v' w1 hown' hgrow _; obtain ⟨g', cap', rfl⟩ := ownsRow_succ hown'; obtain ⟨hv1, hv2, hr2, hk2, hb2⟩ := hv.appended (by decide) hrow hB.size (Nat.le_refl _) hown' hgrow; have hc1 := hv1.cell; have hf1 := hv1.frozen)
    exact ⟨hk2.from _, hb2, ⟨⟨_, hv2, by rw [flat32_append]; simpa [flat32] using hr2, trivial⟩, hB.trans hb2⟩⟩
  case done =>
    rintro D ys W hD rfl ⟨⟨v, hv, hrow, hnil⟩, hB⟩ hK
    have hc := hv.cell
    gi_wp2
    refine ⟨by simp, .inl ⟨_, _, rfl, run_takeDeferred hK, ?_⟩⟩
    exact ⟨_, results_tmp rfl _ _ _, v, rfl, ownsRow_putObj hrow _ hK rfl, hB.trans (belowK_b (w := w) (Nat.le_refl _) W D _ _ (by simp at hD; omega) hK rfl rfl)⟩
  case stop =>
    rintro D c pre W _ _ h _
    exact h.elim
end Go.Proofs.YtnbfddjaonlmaaaGreatDoor

namespace Go.Proofs.YtnbfddjaonlmaaaGreatDoor
open Go.RowKit Go.Shelf Go.Lib Go.Sort

def Tryz.sortSp_ren : Go.Shelf.Ren := ⟨fun | 6 => 125 | 15 => 133 | 14 => 132 | 28 => 142 | 29 => 143 | 20 => 134 | 21 => 135 | 22 => 136 | 23 => 137 | 24 => 138 | 25 => 139 | 26 => 140 | 27 => 141 | 46 => 144 | 47 => 145 | 48 => 146 | 49 => 147 | 50 => 148 | 57 => 149 | n => n, fun | 22 => 52 | 24 => 149 | 25 => 182 | 3 => 3 | 39 => 140 | 0 => 0 | 53 => 158 | 55 => 132 | 4 => 4 | 46 => 201 | 45 => 200 | 50 => 76 | 5 => 5 | 9 => 9 | 66 => 208 | 70 => 212 | 76 => 214 | 77 => 145 | n => n, fun | n => n⟩
theorem Tryz.sortSp : Go.Proofs.SlLaysF0.n6 Tryz.prog Tryz.sortSp_ren := {
  mixed := by kernel_rfl
  f6 := ⟨Tryz.f125.name, by decide, Tryz.func125.trans (congrArg some (by kernel_rfl))⟩
  f14 := ⟨Tryz.f132.name, by decide, Tryz.func132.trans (congrArg some (by kernel_rfl))⟩
  f15 := Tryz.func133.trans (congrArg some (by kernel_rfl))
  f20 := ⟨Tryz.f134.name, by decide, Tryz.func134.trans (congrArg some (by kernel_rfl))⟩
  f21 := ⟨Tryz.f135.name, by decide, Tryz.func135.trans (congrArg some (by kernel_rfl))⟩
  f22 := ⟨Tryz.f136.name, by decide, Tryz.func136.trans (congrArg some (by kernel_rfl))⟩
  f23 := ⟨Tryz.f137.name, by decide, Tryz.func137.trans (congrArg some (by kernel_rfl))⟩
  f24 := ⟨Tryz.f138.name, by decide, Tryz.func138.trans (congrArg some (by kernel_rfl))⟩
  f25 := ⟨Tryz.f139.name, by decide, Tryz.func139.trans (congrArg some (by kernel_rfl))⟩
  f26 := ⟨Tryz.f140.name, by decide, Tryz.func140.trans (congrArg some (by kernel_rfl))⟩
  f27 := ⟨Tryz.f141.name, by decide, Tryz.func141.trans (congrArg some (by kernel_rfl))⟩
  f28 := Tryz.func142.trans (congrArg some (by kernel_rfl))
  f29 := Tryz.func143.trans (congrArg some (by kernel_rfl))
  f46 := ⟨Tryz.f144.name, by decide, Tryz.func144.trans (congrArg some (by kernel_rfl))⟩
  f47 := Tryz.func145.trans (congrArg some (by kernel_rfl))
  f48 := Tryz.func146.trans (congrArg some (by kernel_rfl))
  f49 := ⟨Tryz.f147.name, by decide, Tryz.func147.trans (congrArg some (by kernel_rfl))⟩
  f50 := ⟨Tryz.f148.name, by decide, Tryz.func148.trans (congrArg some (by kernel_rfl))⟩
  f57 := ⟨Tryz.f149.name, by decide, Tryz.func149.trans (congrArg some (by kernel_rfl))⟩
  t0 := Tryz.underlying0
  a0 := Tryz.isAgg0
  z0 := Tryz.sizeOf0
  v0 := Tryz.zeroValue0
  t3 := Tryz.underlying3
  a3 := Tryz.isAgg3
  z3 := Tryz.sizeOf3
  v3 := Tryz.zeroValue3
  t4 := Tryz.underlying4
  a4 := Tryz.isAgg4
  z4 := Tryz.sizeOf4
  v4 := Tryz.zeroValue4
  t5 := Tryz.underlying5
  a5 := Tryz.isAgg5
  z5 := Tryz.sizeOf5
  v5 := Tryz.zeroValue5
  t9 := Tryz.underlying9
  a9 := Tryz.isAgg9
  z9 := Tryz.sizeOf9
  v9 := Tryz.zeroValue9
  t22 := Tryz.underlying52
  a22 := Tryz.isAgg52
  z22 := Tryz.sizeOf52
  v22 := Tryz.zeroValue52
  t25 := Tryz.underlying182
  a25 := Tryz.isAgg182
  z25 := Tryz.sizeOf182
  v25 := Tryz.zeroValue182
  t39 := Tryz.underlying140
  a39 := Tryz.isAgg140
  z39 := Tryz.sizeOf140
  v39 := Tryz.zeroValue140
  t45 := Tryz.underlying200
  a45 := Tryz.isAgg200
  z45 := Tryz.sizeOf200
  v45 := Tryz.zeroValue200
  t46 := Tryz.underlying201
  a46 := Tryz.isAgg201
  z46 := Tryz.sizeOf201
  v46 := Tryz.zeroValue201
  t50 := Tryz.underlying76
  a50 := Tryz.isAgg76
  z50 := Tryz.sizeOf76
  v50 := Tryz.zeroValue76
  t53 := Tryz.underlying158
  a53 := Tryz.isAgg158
  z53 := Tryz.sizeOf158
  v53 := Tryz.zeroValue158
  t55 := Tryz.underlying132
  a55 := Tryz.isAgg132
  z55 := Tryz.sizeOf132
  v55 := Tryz.zeroValue132
  t66 := Tryz.underlying208
  a66 := Tryz.isAgg208
  z66 := Tryz.sizeOf208
  v66 := Tryz.zeroValue208
  t70 := Tryz.underlying212
  a70 := Tryz.isAgg212
  z70 := Tryz.sizeOf212
  v70 := Tryz.zeroValue212
  t76 := Tryz.underlying214
  a76 := Tryz.isAgg214
  z76 := Tryz.sizeOf214
  v76 := Tryz.zeroValue214
  t77 := Tryz.underlying145
  a77 := Tryz.isAgg145
  z77 := Tryz.sizeOf145
  v77 := Tryz.zeroValue145 }

def enc32 (x : Int × Int) : List Value := [.int .i32 x.1, .int .i32 x.2]

theorem isNaN_any (x : Int) (W : World) : Calls Tryz.prog 127 #[.int .i32 x] W fun e w' => e = .returned (.bool false) ∧ w' = W := by
  have hb : (x != x) = false := by simp
  go_enter Tryz.func127, Tryz.ntmps127
  go_wp2
  go_ret
  exact ⟨by simp, rfl⟩

theorem compare_any (x y : Int) (W : World) : Calls Tryz.prog 121 #[.int .i32 x, .int .i32 y] W fun e w' => e = .returned (.int .i64 (Lib.compareInt x y)) ∧ w' = W := by
  go_enter Tryz.func121, Tryz.ntmps121
  go_wp2_with (go_at_call 127; refine (isNaN_any _ _).mono ?_; rintro e w' ⟨rfl, rfl⟩)
  all_goals go_ret
  all_goals refine ⟨?_, rfl⟩
  all_goals simp [Lib.compareInt]
  all_goals omega

set_option maxHeartbeats 1000000 in
theorem closure_any (x y : Int × Int) (W : World) : Calls Tryz.prog 120 #[.agg #[.int .i32 x.1, .int .i32 x.2], .agg #[.int .i32 y.1, .int .i32 y.2]] W fun e w' => e = .returned (.int .i64 (Lib.compareInt x.1 y.1)) ∧ ∃ q os', w' = grow (W.drewN q) os' := by
  have hcon := fun W' => compare_any x.1 y.1 W'
  generalize Lib.compareInt x.1 y.1 = r at hcon ⊢
  go_enter Tryz.func120, Tryz.ntmps120
  go_wp2_with (go_at_call 121; refine (hcon _).mono ?_; rintro e w' ⟨rfl, rfl⟩)
  go_ret
  exact ⟨rfl, 0, _, by rw [alloc_eq_grow, alloc_eq_grow, grow_grow]; rfl⟩

theorem cmpLays_any (blk off size : Nat) (w : World) : CmpLays Tryz.prog 120 #[] enc32 2 (fun x y => Lib.compareInt x.1 y.1) blk off size w :=
  fun _ _ _ _ x y => closure_any x y _

theorem lt32 (x y : Int × Int) : ltOf (fun x y : Int × Int => Lib.compareInt x.1 y.1) x y = decide (x.1 < y.1) := by
  unfold ltOf Lib.compareInt
  by_cases h1 : x.1 < y.1
  · simp [h1]
  · by_cases h2 : y.1 < x.1 <;> simp [h1, h2]
theorem swo32 : SWO (ltOf fun x y : Int × Int => Lib.compareInt x.1 y.1) where
  irrefl x := by rw [lt32]; simp
  trans x y z h1 h2 := by rw [lt32] at *; simp at *; omega
  ntrans x y z h1 h2 := by rw [lt32] at *; simp at *; omega

theorem flatK32_get (d : Array (Int × Int)) (j : Nat) (h : j < d.size * 2) : (flat32 d.toList)[j]? = some (flatK enc32 2 d)[j]! := by
  rw [get_flatK _ _ _ _ h]
  have hj : j / 2 < d.toList.length := by simp; omega
  have hg := flat32_get d.toList (j / 2) hj
  have e1 : d[j / 2]! = d.toList[j / 2] := by simp at hj; simp [hj]
  rw [e1]
  rcases Nat.mod_two_eq_zero_or_one j with h0 | h0
  · rw [h0, show (flat32 d.toList)[j]? = (flat32 d.toList)[j / 2 * 2]? by congr 1; omega, hg.1]; simp [enc32]
  · rw [h0, show (flat32 d.toList)[j]? = (flat32 d.toList)[j / 2 * 2 + 1]? by congr 1; omega, hg.2]; simp [enc32]

theorem holds_of_own {w : World} {base g cap : Nat} {d : Array (Int × Int)} (h : w.ownsRow base 149 2 (.slice (some ⟨g, 0, none⟩) d.size cap) d.size (flat32 d.toList)) : HoldsK enc32 2 w g 0 d ∧ g < w.heap.size ∧ base ≤ g := by
  rcases h.2 with ⟨he, _⟩ | ⟨g', cap', cur, he, a1, a2, a3, a4, a5, a6⟩
  · cases he
  · cases he
    refine ⟨fun j hj => ?_, (Array.getElem?_eq_some_iff.1 a2).1, a1⟩
    rw [size_flatK] at hj
    have hf := flatK32_get d j hj
    rw [← a6, List.getElem?_take_of_lt hj] at hf
    constructor
    · simp only [World.cell?, a2, Nat.zero_add]
      simpa using hf
    · simp [World.frozen?, a2]

theorem cells_of_holds {w : World} {g : Nat} {d : Array (Int × Int)} (h : HoldsK enc32 2 w g 0 d) : Cells32 w g d.toList := by
  intro i hi
  have hi' : i < d.size := by simpa using hi
  have e := flat32_get d.toList i hi
  have c0 := h (i * 2) (by rw [size_flatK]; omega)
  have c1 := h (i * 2 + 1) (by rw [size_flatK]; omega)
  have f0 := flatK32_get d (i * 2) (by omega)
  have f1 := flatK32_get d (i * 2 + 1) (by omega)
  rw [e.1] at f0
  rw [e.2] at f1
  have f0' := Option.some.inj f0
  have f1' := Option.some.inj f1
  have c0' := c0.1
  have c1' := c1.1
  rw [Nat.zero_add] at c0' c1'
  exact ⟨c0'.trans (by rw [f0']; rfl), c1'.trans (by rw [f1']; rfl)⟩

theorem sortWorldK_kept (w : World) (blk off m : Nat) (dk : Array (Int × Int)) (os : Array Obj) : Kept (fun i => i = blk) w (sortWorldK enc32 2 w blk off m dk os) := by
  refine ⟨rfl, rfl, rfl, size_sortWorldK_c enc32 2 w blk off m dk os, fun k hk hs => ?_⟩
  show ((putRowK enc32 2 (Sort.ahead w m) blk off dk).heap ++ os)[k]? = w.heap[k]?
  have hsz : (putRowK enc32 2 (Sort.ahead w m) blk off dk).heap.size = w.heap.size := by rw [size_putRowK]; rfl
  rw [Array.getElem?_append_left (by omega)]
  show (w.heap.modify blk _)[k]? = _
  rw [Array.getElem?_modify, if_neg (fun e => hs e.symm)]

theorem perm_of_in {d d' : Array (Int × Int)} (h : PermIn 0 d.size d d') : d'.toList.Perm d.toList := by
  have h1 := h.2.2
  have h0 := h.1
  rw [show d'.extract 0 d.size = d' by rw [← h0]; simp, show d.extract 0 d.size = d by simp] at h1
  exact h1
theorem pairwise_of_in {d : Array (Int × Int)} {n : Nat} (hn : n = d.size) (h : SortedIn (ltOf fun x y : Int × Int => Lib.compareInt x.1 y.1) 0 n d) : d.toList.Pairwise (fun a b => a.1 ≤ b.1) := by
  rw [List.pairwise_iff_getElem]
  intro i j hi hj hij
  have hi' : i < d.size := by simpa using hi
  have hj' : j < d.size := by simpa using hj
  have := h i j (Nat.zero_le _) hij (by omega)
  rw [lt32] at this
  simp [hi', hj'] at this
  simpa using this

theorem collect_any (Bs b cap : Nat) (zs : List (Int × Int)) (hlen : zs.length ≤ 100000) (w : World) (hBs : Bs < w.heap.size) (hb : b < w.heap.size)
    (hcs : w.cell? ⟨Bs, 0, none⟩ = some (.slice (some ⟨b, 0, none⟩) zs.length cap)) (hI : Cells32 w b zs) :
    Calls Tryz.prog 124 #[.func (.func 126) #[] #[.pointer (some ⟨Bs, 0, none⟩)]] w fun e W' => ∃ v, e = .returned v ∧ W'.ownsRow w.heap.size 149 2 v zs.length (flat32 zs) ∧ Kept Nil w W' := by
  have hcon : Calls Tryz.prog 131 #[.slice none 0 0, .func (.func 126) #[] #[.pointer (some ⟨Bs, 0, none⟩)]] w fun e W' => ∃ v, e = .returned v ∧ W'.ownsRow w.heap.size 149 2 v zs.length (flat32 zs) ∧ Below w.heap.size w W' :=
    callsIn_wide.1 (appendSeq_in Fence.wide 6 trivial trivial rfl (by omega) Bs b cap zs hlen w hBs hb hcs hI)
  go_enter Tryz.func124, Tryz.ntmps124
  go_wp2_with fail
  refine hcon.mono ?_
  rintro e w1 ⟨v, rfl, hv, hB⟩
  go_wp2_with fail
  go_ret
  exact ⟨v, rfl, hv, Below.kept hB rfl⟩

set_option maxHeartbeats 1000000 in
theorem sortedFunc_any (Bs b cap : Nat) (zs : List (Int × Int)) (hlen : zs.length ≤ 100000) (hne : zs ≠ []) (w : World) (hBs : Bs < w.heap.size) (hb : b < w.heap.size)
    (hcs : w.cell? ⟨Bs, 0, none⟩ = some (.slice (some ⟨b, 0, none⟩) zs.length cap)) (hI : Cells32 w b zs) :
    Calls Tryz.prog 118 #[.func (.func 126) #[] #[.pointer (some ⟨Bs, 0, none⟩)], .func (.func 120) #[] #[]] w fun e w' => ∃ l gb gcap, e = .returned (.slice (some ⟨gb, 0, none⟩) l.length gcap) ∧ l.Perm zs ∧ l.Pairwise (fun a b => a.1 ≤ b.1) ∧ Cells32 w' gb l ∧ w.heap.size ≤ gb ∧ gb < w'.heap.size ∧ Kept Nil w w' := by
  obtain ⟨z0, zr, rfl⟩ : ∃ z0 zr, zs = z0 :: zr := List.exists_cons_of_ne_nil hne
  go_enter Tryz.func118, Tryz.ntmps118
  go_wp2_with fail
  refine (collect_any Bs b cap (z0 :: zr) hlen w hBs hb hcs hI).mono ?_
  rintro e w1 ⟨v, rfl, hv, hk1⟩
  obtain ⟨g, gcap, rfl⟩ := ownsRow_succ hv
  have ho := holds_of_own (d := (z0 :: zr).toArray) (by simpa using hv)
  have eg : ∀ args w, (callFunc 120 args).run Tryz.prog w = .ok (.enter 120 args) w := enters_of Tryz.func120 (by kernel_rfl) rfl
  have hcon := AnyQ.slices_SortFunc Tryz.sortSp 2 Tryz.isAgg149 Tryz.sizeOf149 enc32 (fun _ => rfl) (fun x v hv => by simp [enc32] at hv; rcases hv with rfl | rfl <;> rfl) (fun x y => Lib.compareInt x.1 y.1) swo32 120 #[] g 0 gcap (z0 :: zr).toArray w1 eg (cmpLays_any g 0 _ w1) ho.1 ho.2.1 (by simp at hlen ⊢; omega)
  change Calls Tryz.prog 125 _ _ _ at hcon
  simp only [List.size_toArray, List.length_cons] at hcon
  clear hv
  go_wp2_with fail
  refine hcon.mono ?_
  rintro e w2 ⟨rfl, d', n, os, hp, hs, rfl⟩
  go_wp2_with fail
  go_ret
  have hp' := perm_of_in (d := (z0 :: zr).toArray) (by simpa using hp)
  have hsz : d'.size = zr.length + 1 := by have := hp'.length_eq; simpa using this
  have kk := sortWorldK_kept w1 g 0 n d' os
  have hH := holdsK_sortWorldK_c enc32 2 w1 g 0 (z0 :: zr).toArray d' n os ho.1 ho.2.1 (by simp [hsz])
  refine ⟨d'.toList, g, gcap, by simp [hsz], by simpa using hp', pairwise_of_in hsz.symm hs, cells_of_holds hH, ho.2.2, Nat.lt_of_lt_of_le ho.2.1 kk.size, hk1.trans' kk (fun i hi he => ?_)⟩
  have := ho.2.2
  omega
end Go.Proofs.YtnbfddjaonlmaaaGreatDoor
namespace Go.Proofs.YtnbfddjaonlmaaaGreatDoor

def letterSpans (r : Int) : List (Int × Int) :=
  if r = 100 ∨ r = 68 then [(48, 57)] else if r = 119 ∨ r = 87 then [(97, 122), (65, 90), (48, 57), (95, 95)] else [(9, 10), (13, 13), (32, 32)]

/-- a text: its runes with their places, its length in bytes -/
structure TX where
  l : List (Nat × Int)
  len : Nat
def TX.bound (x : TX) (i : Nat) : Int := ((x.l.map fun p => (p.1 : Int))[i]?).getD x.len
def TX.rune (x : TX) (i : Nat) : Int := ((x.l.map (·.2))[i]?).getD (-1)
def inSpans (sp : List (Int × Int)) (r : Int) : Bool := sp.any fun p => decide (p.1 ≤ r) && decide (r ≤ p.2)
def letterOf (r : Int) : Bool := (decide (97 ≤ r) && decide (r ≤ 122)) || (decide (65 ≤ r) && decide (r ≤ 90))
def otherOf (r : Int) : Int := if 97 ≤ r then r - 32 else r + 32
def TX.word (x : TX) (i : Int) : Bool := decide (0 ≤ i) && decide (i < x.l.length) && inSpans (letterSpans 119) (x.rune i.toNat)
/-! ## what a try hangs on -/
end Go.Proofs.YtnbfddjaonlmaaaGreatDoor
