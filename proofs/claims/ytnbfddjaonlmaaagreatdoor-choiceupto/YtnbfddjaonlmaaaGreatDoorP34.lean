/- Package whole's outlook in memory; its load: the rows of one block. Go's slices. -/
import Derived.Test.YtnbfddjaonlmaaaGreatDoorP33
set_option linter.unusedVariables false
set_option maxRecDepth 100000
namespace Go.Proofs.YtnbfddjaonlmaaaGreatDoor
open Go.RowKit Go.Maps
attribute [local go_sem] Oper.semAt_some

/-- what does not change in an outlook -/
structure OG where
  ob : Nat
  lo : Nat
  hi : Nat
  mb : Nat
  c : Nat
  vs : List Sv
  ms : List MS
  s : ByteArray
  st : Int
  G : Int
  bgb : Nat
  cb : Nat
  ixs : List Nat
  fh : Nat
  cf : Nat
  FB : Nat
  rh : Nat
  cr : Nat
  WB : Nat
  nr : Nat
  L : Nat
def OG.bv (g : OG) : Value := .slice (some ⟨g.bgb, 0, none⟩) g.ixs.length g.cb
def OG.fv (g : OG) : Value := .slice (some ⟨g.fh, 0, none⟩) g.ixs.length g.cf
def OG.rv (g : OG) : Value := .slice (some ⟨g.rh, 0, none⟩) g.nr g.cr
structure OG.Ok (g : OG) : Prop where
  good : MGood g.ms
  q : AllQ g.G g.ms
  few : g.ms.length ≤ 4001
  size : g.s.size ≤ 10000000
  L_eq : g.L = g.ms.length / 64 + 1
  bg : BgOk g.s g.ixs
  nr_eq : g.nr = min g.s.size 4100 + 1
  apF : Apt g.ob g.lo g.hi g.mb g.FB
  apW : Apt g.ob g.lo g.hi g.mb g.WB
  apO : g.ob ≠ g.mb ∧ ¬ (g.lo ≤ g.ob ∧ g.ob < g.hi) ∧ g.ob ≠ 0 ∧ g.ob ≠ 1
  ne : g.WB ≠ g.FB ∧ (g.WB ≠ g.bgb ∧ g.WB ≠ g.fh ∧ g.WB ≠ g.rh) ∧ (g.FB ≠ g.bgb ∧ g.FB ≠ g.fh ∧ g.FB ≠ g.rh) ∧ (g.ob ≠ g.bgb ∧ g.ob ≠ g.fh ∧ g.ob ≠ g.rh)
/-- the outlook in memory: blk the block whose rows are there, wf the words of firsts, wr those of rows -/
structure OtAt (w : World) (g : OG) (blk : Nat) (wf wr : List Nat) : Prop where
  rk : RkAt w g.ob g.lo g.hi g.mb g.c g.vs g.ms g.s g.st g.G g.bv g.fv (blk : Int) g.rv
  bg : ∀ k, k < g.ixs.length → w.cell? ⟨g.bgb, k, none⟩ = some (.int .i64 (bd g.s (g.ixs.getD k 0) : Int))
  fh : ∀ k, k < g.ixs.length → w.cell? ⟨g.fh, k, none⟩ = some (rowV g.FB g.L k)
  rh : ∀ k, k < g.nr → w.cell? ⟨g.rh, k, none⟩ = some (rowV g.WB g.L k)
  lt : g.bgb < w.heap.size ∧ g.fh < w.heap.size ∧ g.rh < w.heap.size
  bf : Blk w g.FB (u64L wf).toArray 132
  bw : Blk w g.WB (u64L wr).toArray 132
  fl : wf.length = g.ixs.length * g.L ∧ W64 wf
  wl : wr.length = g.nr * g.L ∧ W64 wr
theorem OtAt.kept {w w' : World} {g : OG} {blk : Nat} {wf wr : List Nat} (h : OtAt w g blk wf wr) (k : Kept Nil w w') : OtAt w' g blk wf wr where
  rk := h.rk.kept k (fun h => h) (fun h => h) (fun _ _ _ h => h) (fun h => h) (fun h => h)
  bg i hi := (k.cell (p := ⟨g.bgb, i, none⟩) h.lt.1 (fun h => h)).trans (h.bg i hi)
  fh i hi := (k.cell (p := ⟨g.fh, i, none⟩) h.lt.2.1 (fun h => h)).trans (h.fh i hi)
  rh i hi := (k.cell (p := ⟨g.rh, i, none⟩) h.lt.2.2 (fun h => h)).trans (h.rh i hi)
  lt := by have := k.size; have := h.lt; omega
  bf := h.bf.kept k (fun h => h)
  bw := h.bw.kept k (fun h => h)
  fl := h.fl
  wl := h.wl
theorem OtAt.rowW {w w' : World} {g : OG} {blk : Nat} {wf wr wr' : List Nat} (h : OtAt w g blk wf wr) (hg : g.Ok) (k : Kept (fun i => i = g.WB) w w') (hb : Blk w' g.WB (u64L wr').toArray 132) (hl : wr'.length = g.nr * g.L ∧ W64 wr') : OtAt w' g blk wf wr' where
  rk := h.rk.row k hg.apW
  bg i hi := (k.cell (p := ⟨g.bgb, i, none⟩) h.lt.1 (fun e => hg.ne.2.1.1 e.symm)).trans (h.bg i hi)
  fh i hi := (k.cell (p := ⟨g.fh, i, none⟩) h.lt.2.1 (fun e => hg.ne.2.1.2.1 e.symm)).trans (h.fh i hi)
  rh i hi := (k.cell (p := ⟨g.rh, i, none⟩) h.lt.2.2 (fun e => hg.ne.2.1.2.2 e.symm)).trans (h.rh i hi)
  lt := by have := k.size; have := h.lt; omega
  bf := h.bf.kept k (fun e => hg.ne.1 e.symm)
  bw := hb
  fl := h.fl
  wl := hl
theorem OtAt.rowF {w w' : World} {g : OG} {blk : Nat} {wf wf' wr : List Nat} (h : OtAt w g blk wf wr) (hg : g.Ok) (k : Kept (fun i => i = g.FB) w w') (hb : Blk w' g.FB (u64L wf').toArray 132) (hl : wf'.length = g.ixs.length * g.L ∧ W64 wf') : OtAt w' g blk wf' wr where
  rk := h.rk.row k hg.apF
  bg i hi := (k.cell (p := ⟨g.bgb, i, none⟩) h.lt.1 (fun e => hg.ne.2.2.1.1 e.symm)).trans (h.bg i hi)
  fh i hi := (k.cell (p := ⟨g.fh, i, none⟩) h.lt.2.1 (fun e => hg.ne.2.2.1.2.1 e.symm)).trans (h.fh i hi)
  rh i hi := (k.cell (p := ⟨g.rh, i, none⟩) h.lt.2.2 (fun e => hg.ne.2.2.1.2.2 e.symm)).trans (h.rh i hi)
  lt := by have := k.size; have := h.lt; omega
  bf := hb
  bw := h.bw.kept k (fun e => hg.ne.1 e)
  fl := hl
  wl := h.wl
/-- another block's number -/
theorem OtAt.setBlk {w : World} {g : OG} {blk : Nat} {wf wr : List Nat} (h : OtAt w g blk wf wr) (hg : g.Ok) (b : Nat) : OtAt (w.setCell ⟨g.ob, 10, none⟩ (.int .i64 (b : Int))) g b wf wr := by
  have k : Kept (fun i => i = g.ob) w (w.setCell ⟨g.ob, 10, none⟩ (.int .i64 (b : Int))) := (Kept.refl (fun i => i = g.ob) w).setCell (p := ⟨g.ob, 10, none⟩) (Or.inl rfl) _
  have hO := h.rk.out.setCell 10 (.int .i64 (b : Int))
  refine { rk := ⟨?_, h.rk.sts.kept k (fun e => hg.apO.1 e.symm), fun i a b => (h.rk.svs i a b).kept k (fun j h1 h2 e => hg.apO.2.1 (by subst e; exact ⟨h1, h2⟩)) h.rk.le, Nat.le_trans h.rk.le k.size, h.rk.tabs.kept k (fun e => hg.apO.2.2.1 e.symm) (fun e => hg.apO.2.2.2 e.symm)⟩, bg := fun i hi => ?_, fh := fun i hi => ?_, rh := fun i hi => ?_, lt := ?_, bf := ?_, bw := ?_, fl := h.fl, wl := h.wl }
  · simpa [outV] using hO
  · exact (k.cell (p := ⟨g.bgb, i, none⟩) h.lt.1 (fun e => hg.ne.2.2.2.1 e.symm)).trans (h.bg i hi)
  · exact (k.cell (p := ⟨g.fh, i, none⟩) h.lt.2.1 (fun e => hg.ne.2.2.2.2.1 e.symm)).trans (h.fh i hi)
  · exact (k.cell (p := ⟨g.rh, i, none⟩) h.lt.2.2 (fun e => hg.ne.2.2.2.2.2 e.symm)).trans (h.rh i hi)
  · have := k.size; have := h.lt; omega
  · exact h.bf.kept k hg.apF.1
  · exact h.bw.kept k hg.apW.1
/-- the row number r of the words ws tells which states come off at the i-th boundary -/
def RowOk (g : OG) (ws : List Nat) (r i : Nat) : Prop := ∀ u : Nat, u < g.ms.length → bitAt ws (r * g.L) u = off g.ms (txOf g.s) u i
def OG.from (g : OG) (b : Nat) : Nat := bd g.s (g.ixs.getD b 0)
/-- the rows of the block b are right from the i-th boundary on -/
def RowsOk (g : OG) (wr : List Nat) (b i : Nat) : Prop := ∀ j, i ≤ j → j ≤ g.ixs.getD (b + 1) 0 → RowOk g wr (bd g.s j - g.from b) j
attribute [local go_sem] Oper.semAt_some

/-- N - 1, .. down to k -/
def dnL (k N : Nat) : List Nat := ((List.range N).drop k).reverse
theorem dnL_end (N : Nat) : dnL N N = [] := by unfold dnL; simp
theorem dnL_step {k N : Nat} (h : k < N) : dnL k N = dnL (k + 1) N ++ [k] := by
  unfold dnL
  rw [List.drop_eq_getElem_cons (by simpa using h), List.reverse_cons]
  simp
theorem dnL_length (k N : Nat) : (dnL k N).length = N - k := by unfold dnL; simp
theorem dnL_snoc {l : List Nat} {x k N : Nat} (hk : k ≤ N) (h : l ++ [x] = dnL k N) : k < N ∧ x = k ∧ l = dnL (k + 1) N := by
  by_cases e : k = N
  · subst e; rw [dnL_end] at h; simp at h
  · have hlt : k < N := by omega
    rw [dnL_step hlt] at h
    have h1 := List.append_inj' h rfl
    refine ⟨hlt, ?_, h1.1⟩
    simpa using h1.2
theorem backward_rd (w : World) (a : Option Addr) (N c : Nat) : Calls Tryz.prog 75 #[.slice a N c] w fun e w' => e = .returned (.func (.func 94) #[] #[.pointer (some ⟨w.heap.size, 0, none⟩)]) ∧ w' = w.alloc (.cells #[.slice a N c] 22) := by
  go_enter Tryz.func75, Tryz.ntmps75
  go_wp2_with fail
  go_ret
  exact ⟨rfl, rfl⟩

abbrev Under (N : Nat) := { d : Nat // d < N }
def backE (p : Nat → Nat) {N : Nat} (x : Under N) : Array Value := #[.int .i64 (x.1 : Int), .int .i64 (p x.1 : Int)]
set_option maxHeartbeats 4000000 in
theorem backward1_in (n : Nat) (hn : 1 ≤ n) (l Bs pb N c : Nat) (p : Nat → Nat) (a : Option Addr) (ha : 0 < N → a = some ⟨pb, 0, none⟩) (hreach : N ≤ 10000000) (J Jx : List (Under N) → World → Prop)
    (hY : ∀ pre x W, J pre W → pre.length < N → YieldAt Fence.wide (n - 1) Tryz.prog l (backE p x) W fun e W' =>
      (e = .returned (.bool true) ∧ J (pre ++ [x]) W' ∧ Kp2 Bs pb W W') ∨ (e = .returned (.bool false) ∧ Jx (pre ++ [x]) W'))
    (W : World) (c1 : W.cell? ⟨Bs, 0, none⟩ = some (.slice a N c)) (c2 : ∀ d, d < N → W.cell? ⟨pb, d, none⟩ = some (.int .i64 (p d : Int))) (hJ : AbidesFrom W.heap.size J) (h0 : J [] W) :
    CallsIn Fence.wide n Tryz.prog 94 #[.func (.yield l) #[] #[], .pointer (some ⟨Bs, 0, none⟩)] W fun e W' => (∃ v, e = .returned v) ∧
      ((∃ ys, ys.map (·.1) = dnL 0 N ∧ J ys W') ∨ (∃ pre, True ∧ Jx pre W')) := by
  refine callsIn_of_wp Tryz.func94 rfl trivial ?_ rfl
  simp only [Tryz.ntmps94, List.size_toArray, List.length_cons, List.length_nil, Nat.reduceAdd, Nat.reduceSub, Array.replicate_succ, Array.replicate_zero, List.push_toArray, List.append_toArray, List.nil_append, List.cons_append]
  gi_wp2
  gi_loopw [3] (fun i wr => ∃ (k : Nat) (pre : List (Under N)), k ≤ N ∧ i = .int .i64 ((k : Int) - 1) ∧ Hid (pre.map (·.1) = dnL k N) ∧ Hid (J pre wr) ∧ Hid (Kp2 Bs pb W wr))
    (fun i _ => (intOf i + 1).toNat)
  case atStart => exact ⟨N, [], Nat.le_refl _, rfl, (dnL_end N).symm, h0, Kp2.refl _ _ _⟩
  case round =>
    obtain ⟨k, pre, hk, rfl, HP, HJ2, HB⟩ := hrel
    have d1 : wr.cell? ⟨Bs, 0, none⟩ = some (.slice a N c) := HB.out.cell.1.trans c1
    by_cases hlt : 0 < k
    · obtain ⟨m, rfl⟩ : ∃ m, k = m + 1 := ⟨k - 1, by omega⟩
      have hmN : m < N := by omega
      obtain rfl := ha (by omega)
      have d2 : wr.cell? ⟨pb, m, none⟩ = some (.int .i64 (p m : Int)) := (World.cell?_of_block (w := W) (a := ⟨pb, m, none⟩) HB.out.2).trans (c2 m hmN)
      have hlen : pre.length = N - (m + 1) := by have := congrArg List.length HP.out; simpa [dnL_length] using this
      obtain ⟨fn, tmps, assign, body, hy, hR⟩ := hY pre ⟨m, hmN⟩ wr HJ2.out (by omega)
      have HR := hid hR
      simp only [backE] at hy
      have em : ((m + 1 : Nat) : Int) - 1 = (m : Int) := by omega
      rw [em]
      clear hR em hlen
      gi_wp2
      refine HR.out.mono ?_
      rintro e W3 (⟨rfl, hJ3, hk3⟩ | ⟨rfl, hJx3⟩)
      · have HJ3 := hid hJ3
        have HK3 := hid hk3
        clear hJ3 hk3 hy
        gi_wp2
        go_roundw
        case rel => exact ⟨m, pre ++ [⟨m, hmN⟩], by omega, rfl, (by show _ = _; rw [List.map_append, HP.out, dnL_step hmN]; rfl), HJ3, HB.out.trans HK3.out⟩
        case measure => simp [intOf]
      · gi_wp2
        refine bodyPost_ret (results_none rfl _ _ _) rfl ?_
        exact ⟨⟨_, rfl⟩, .inr ⟨_, trivial, hJx3⟩⟩
    · have hk0 : k = 0 := by omega
      subst hk0
      gi_wp2
      go_end0
      exact ⟨⟨_, rfl⟩, .inl ⟨pre, HP.out, HJ2.out⟩⟩
theorem backward_stops (n : Nat) (hn : 1 ≤ n) (Bs pb N c : Nat) (p : Nat → Nat) (a : Option Addr) (ha : 0 < N → a = some ⟨pb, 0, none⟩) (hreach : N ≤ 10000000) (w : World) (hBs : Bs < w.heap.size) (hpb : pb < w.heap.size)
    (c1 : w.cell? ⟨Bs, 0, none⟩ = some (.slice a N c)) (c2 : ∀ d, d < N → w.cell? ⟨pb, d, none⟩ = some (.int .i64 (p d : Int))) :
    SeqStopsK Fence.wide n Tryz.prog 94 #[.pointer (some ⟨Bs, 0, none⟩)] (fun x : Under N => backE p x) (Kp2 Bs pb) (fun ys => ys.map (·.1) = dnL 0 N) (fun pre => True) N w := fun l J Jx W hW hJ _ hY h0 =>
  backward1_in n hn l Bs pb N c p a ha hreach J Jx hY W ((hW.cell (p := ⟨Bs, 0, none⟩) hBs).trans c1) (fun d hd => (hW.cell (p := ⟨pb, d, none⟩) hpb).trans (c2 d hd)) hJ h0
end Go.Proofs.YtnbfddjaonlmaaaGreatDoor
