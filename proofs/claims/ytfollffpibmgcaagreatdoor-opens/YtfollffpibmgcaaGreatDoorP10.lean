/- The builder's bracket does what the mirror says, if piece does so for the part. A region that draws its order, and whose last operation waits for all others: it is enough to walk the others, in whatever order, and then the last one. -/
import Derived.Test.YtfollffpibmgcaaGreatDoorP09
import Derived.Test.YtfollffpibmgcaaGreatDoorP01
import Derived.Deep.RegionHeld3
set_option linter.unusedVariables false
set_option maxRecDepth 100000
namespace Go.Proofs.YtfollffpibmgcaaGreatDoor
open Go.RowKit Go.Maps
def Sames (lo hi : Nat) (w0 w : World) : Prop := ∀ i, lo ≤ i → i < hi → w.heap[i]? = w0.heap[i]?
theorem Sames.refl (lo hi : Nat) (w : World) : Sames lo hi w w := fun _ _ _ => rfl
theorem Sames.alloc {lo hi : Nat} {w0 w : World} (h : Sames lo hi w0 w) (hle : hi ≤ w.heap.size) (o : Obj) : Sames lo hi w0 (w.alloc o) := fun i h1 h2 => (Below.heap_alloc w o i (by omega)).trans (h i h1 h2)
theorem Sames.went {lo hi b : Nat} {w0 w w' : World} {v v' : Value} {st : List MS} (h : Sames lo hi w0 w) (hB : BdAt w b lo hi v st) (k : Went b w w' v v') : Sames lo hi w0 w' := fun i h1 h2 => by
 have := hB.hib
 have := hB.blk.lt
 exact (k.kept.block i (by omega) (fun hx => by have := hB.own hx; omega)).trans (h i h1 h2)
theorem Sames.set {lo hi : Nat} {w0 w : World} (h : Sames lo hi w0 w) {c : Nat} (hc : hi ≤ c) (j : Nat) (u : Value) : Sames lo hi w0 (w.setCell ⟨c, j, none⟩ u) := fun i h1 h2 => (Below.heap_setCell w ⟨c, j, none⟩ u i (by show i ≠ c; omega)).trans (h i h1 h2)
theorem Sames.cell {lo hi : Nat} {w0 w : World} (h : Sames lo hi w0 w) {i j : Nat} (h1 : lo ≤ i) (h2 : i < hi) : w.cell? ⟨i, j, none⟩ = w0.cell? ⟨i, j, none⟩ := World.cell?_of_block (w := w0) (h i h1 h2)
def KidAt (w : World) (pb i : Nat) (N : Nv) : Prop := ∀ j, j < 8 → w.cell? ⟨pb, i * 8 + j, none⟩ = N.cells[j]?
theorem KidAt.sames {lo hi : Nat} {w0 w : World} {pb i : Nat} {N : Nv} (h : KidAt w0 pb i N) (hs : Sames lo hi w0 w) (h1 : lo ≤ pb) (h2 : pb < hi) : KidAt w pb i N := fun j hj => (hs.cell h1 h2).trans (h j hj)
theorem KidAt.eight {w : World} {pb i : Nat} {N : Nv} (h : KidAt w pb i N) : (w.cell? ⟨pb, i * 8, none⟩ = some (.int .i64 N.k) ∧ w.cell? ⟨pb, i * 8 + 1, none⟩ = some (.slice N.pa N.pn N.pc) ∧ w.cell? ⟨pb, i * 8 + 2, none⟩ = some (.slice N.sa N.sn N.sc) ∧ w.cell? ⟨pb, i * 8 + 3, none⟩ = some (.int .i64 N.ed)) ∧
  w.cell? ⟨pb, i * 8 + 4, none⟩ = some (.int .i64 N.gr) ∧ w.cell? ⟨pb, i * 8 + 5, none⟩ = some (.int .i64 N.lo) ∧ w.cell? ⟨pb, i * 8 + 6, none⟩ = some (.int .i64 N.hi) ∧ w.cell? ⟨pb, i * 8 + 7, none⟩ = some (.bool N.lz) :=
 ⟨⟨h 0 (by omega), h 1 (by omega), h 2 (by omega), h 3 (by omega)⟩, h 4 (by omega), h 5 (by omega), h 6 (by omega), h 7 (by omega)⟩
theorem KidAt.zero {w : World} {pb : Nat} {N : Nv} (h : KidAt w pb 0 N) : (w.cell? ⟨pb, 0, none⟩ = some (.int .i64 N.k) ∧ w.cell? ⟨pb, 1, none⟩ = some (.slice N.pa N.pn N.pc) ∧ w.cell? ⟨pb, 2, none⟩ = some (.slice N.sa N.sn N.sc) ∧ w.cell? ⟨pb, 3, none⟩ = some (.int .i64 N.ed)) ∧
  w.cell? ⟨pb, 4, none⟩ = some (.int .i64 N.gr) ∧ w.cell? ⟨pb, 5, none⟩ = some (.int .i64 N.lo) ∧ w.cell? ⟨pb, 6, none⟩ = some (.int .i64 N.hi) ∧ w.cell? ⟨pb, 7, none⟩ = some (.bool N.lz) :=
 ⟨⟨h 0 (by omega), h 1 (by omega), h 2 (by omega), h 3 (by omega)⟩, h 4 (by omega), h 5 (by omega), h 6 (by omega), h 7 (by omega)⟩
def PcOk (b lo hi : Nat) (w0 : World) (q : Nv) (C : CT) : Prop := ∀ (W : World) (v : Value) (st : List MS) (x : Ex), BdAt W b lo hi v st → XOk st.length x → Sames lo hi w0 W → st.length + 4 * C.sz.toNat ≤ 9000 →
 Calls Tryz.prog 41 #[.pointer (some ⟨b, 0, none⟩), Nv.val q, exV x] W (Bdone W b lo hi v (bPiece C st x).1 (exV (bPiece C st x).2))
theorem SvAt.mark (w : World) (lo hi : Nat) (s : Int) (n : Int) : SvAt w lo hi (Sv.nxt ⟨3, none, 0, 0, 0, s, 0, 0⟩ n) (markS s n) := ⟨rfl, rfl, rfl, rfl, rfl, by simp [markS], fun e => by simp [markS] at e⟩
theorem SvAt.stand (w : World) (lo hi : Nat) (s : Int) (n : Int) : SvAt w lo hi (Sv.nxt ⟨2, none, 0, 0, s, 0, 0, 0⟩ n) (standS s n) := ⟨rfl, rfl, rfl, rfl, rfl, by simp [standS], fun e => by simp [standS] at e⟩
set_option maxHeartbeats 1000000 in
theorem mbracket_rd {w0 w : World} {b lo hi pb : Nat} {v : Value} {st : List MS} {q N : Nv} {C : CT} (h : BdAt w b lo hi v st) (x : Ex) (hx : XOk st.length x) (hS : Sames lo hi w0 w) (hok : C.ok) (hsz : C.sz ≤ 1000) (hP : PcOk b lo hi w0 N C)
  (hpa : q.pa = some ⟨pb, 0, none⟩) (hpn : q.pn = 1) (hpb : lo ≤ pb ∧ pb < hi) (hK : KidAt w pb 0 N) (hgr : 0 ≤ q.gr ∧ q.gr ≤ 300) (hfew : st.length + 4 + 4 * C.sz.toNat ≤ 9000) :
  Calls Tryz.prog 62 #[.pointer (some ⟨b, 0, none⟩), Nv.val q, exV x] w (Bdone w b lo hi v
   (if q.gr = 0 then bPiece C st x else bLead (markS (2 * (q.gr - 1))) (bPiece C (bLead (markS (2 * (q.gr - 1) + 1)) st x).1 (bLead (markS (2 * (q.gr - 1) + 1)) st x).2).1 (bPiece C (bLead (markS (2 * (q.gr - 1) + 1)) st x).1 (bLead (markS (2 * (q.gr - 1) + 1)) st x).2).2).1
   (exV (if q.gr = 0 then bPiece C st x else bLead (markS (2 * (q.gr - 1))) (bPiece C (bLead (markS (2 * (q.gr - 1) + 1)) st x).1 (bLead (markS (2 * (q.gr - 1) + 1)) st x).2).1 (bPiece C (bLead (markS (2 * (q.gr - 1) + 1)) st x).1 (bLead (markS (2 * (q.gr - 1) + 1)) st x).2).2).2)) := by
 have hlt := h.blk.lt
 have hib := h.hib
 obtain ⟨x1, x2⟩ := x
 have hpl : pb < w.heap.size := by omega
 obtain ⟨qk, qpa, qpn, qpc, qsa, qsn, qsc, qed, qgr, qlo, qhi, qlz⟩ := q
 simp only at hpa hpn hgr
 subst hpa hpn
 have h1 := h.alloc (.cells #[.int .i64 qk, .slice (some ⟨pb, 0, none⟩) 1 qpc, .slice qsa qsn qsc, .int .i64 qed, .int .i64 qgr, .int .i64 qlo, .int .i64 qhi, .bool qlz] 56)
 have h2 := h1.alloc (.cells (exB (x1, x2)) 110)
 have h3 := h2.alloc (.cells (exB (0, 0)) 110)
 have h4 := h3.alloc (.cells N.cells 56)
 have l1 := ((Loc.new h1 (exB (x1, x2)) 110).alloc (.cells (exB (0, 0)) 110)).alloc (.cells N.cells 56)
 have l2 := (Loc.new h2 (exB (0, 0)) 110).alloc (.cells N.cells 56)
 have l3 := Loc.new h3 N.cells 56
 have W4 := ((((Went.refl b w v).alloc (.cells #[.int .i64 qk, .slice (some ⟨pb, 0, none⟩) 1 qpc, .slice qsa qsn qsc, .int .i64 qed, .int .i64 qgr, .int .i64 qlo, .int .i64 qhi, .bool qlz] 56)).alloc (.cells (exB (x1, x2)) 110)).alloc (.cells (exB (0, 0)) 110)).alloc (.cells N.cells 56)
 have S4 := (((hS.alloc (by omega) (.cells #[.int .i64 qk, .slice (some ⟨pb, 0, none⟩) 1 qpc, .slice qsa qsn qsc, .int .i64 qed, .int .i64 qgr, .int .i64 qlo, .int .i64 qhi, .bool qlz] 56)).alloc (by simp; omega) (.cells (exB (x1, x2)) 110)).alloc (by simp; omega) (.cells (exB (0, 0)) 110)).alloc (by simp; omega) (.cells N.cells 56)
 have K3 := (hK.sames ((((Sames.refl lo hi w).alloc (by omega) (.cells #[.int .i64 qk, .slice (some ⟨pb, 0, none⟩) 1 qpc, .slice qsa qsn qsc, .int .i64 qed, .int .i64 qgr, .int .i64 qlo, .int .i64 qhi, .bool qlz] 56)).alloc (by simp; omega) (.cells (exB (x1, x2)) 110)).alloc (by simp; omega) (.cells (exB (0, 0)) 110)) hpb.1 hpb.2).zero
 simp only [exB] at K3
 obtain ⟨⟨k0, k1, k2, k3⟩, k4, k5, k6, k7⟩ := K3
 simp only [size_alloc0] at l1 l2 l3
 simp only [Nv.val, Nv.cells, exV]
 by_cases g0 : qgr = 0
 ·have d1 : (qgr == 0) = true := by simp [g0]
  simp only [if_pos g0]
  have F1 := hP _ v st (x1, x2) h4 hx S4 (by omega)
  simp only [Nv.val, Nv.cells, exV, exB] at F1
  simp only [exB] at l2 W4
  have F1 := hid F1
  have PK := hid (And.intro l2 W4)
  clear h h1 h2 h3 h4 l1 l2 l3 W4 S4 hS hK g0
  go_enter Tryz.func62, Tryz.ntmps62
  go_wp2_with fail
  refine (F1.out).mono ?_
  rintro e w4 ⟨rfl, v4, h4, k4'⟩
  have l2 := PK.out.1.went k4'
  obtain ⟨c0, c1, f0, f1⟩ := l2.two
  have FIN := hid (And.intro h4 (And.intro (PK.out.2.trans k4') l2))
  clear l2 h4 k4' F1 PK
  go_wp2_with fail
  exact exits_fin FIN.out.1 FIN.out.2.1 FIN.out.2.2 (by omega) (by omega) Tryz.results62 rfl rfl
 ·have d1 : (qgr == 0) = false := by simp [g0]
  simp only [if_neg g0]
  have hbs := bPiece_bs C hok hsz
  have hb1 := BS.mark (2 * (qgr - 1) + 1)
  have F1 := lead_rd h4 ⟨3, none, 0, 0, 0, 2 * (qgr - 1) + 1, 0, 0⟩ (markS (2 * (qgr - 1) + 1)) (fun W n => SvAt.mark W lo hi _ n) (x1, x2) (by omega)
  have X1 := hb1.xok st (x1, x2) hx
  have N1 := hb1.few st (x1, x2)
  generalize hR1 : bLead (markS (2 * (qgr - 1) + 1)) st (x1, x2) = R1 at *
  obtain ⟨st1, y1, y2⟩ := R1
  simp only at X1 N1
  have X2 := hbs.xok st1 (y1, y2) X1
  have N2 := hbs.few st1 (y1, y2)
  have G2 := hbs.grow st1 (y1, y2)
  simp only [Sv.val, Sv.cells, exV, exB] at F1
  simp only [exB] at l1 l2 l3 W4
  have F1 := hid F1
  have PK := hid (And.intro (And.intro l1 (And.intro l2 l3)) (And.intro W4 (And.intro h4 S4)))
  have HP := hid hP
  clear h h1 h2 h3 h4 l1 l2 l3 W4 S4 hS hK g0 hP hbs hb1 hR1
  have r1 : -9223372036854775808 ≤ 2 * (qgr - 1) ∧ 2 * (qgr - 1) + 1 ≤ 9223372036854775807 := by omega
  go_enter Tryz.func62, Tryz.ntmps62
  go_wp2_with fail
  refine (F1.out).mono ?_
  rintro e w5 ⟨rfl, v5, h5, k5'⟩
  obtain ⟨⟨l1, l2, l3⟩, W4, h4, S4⟩ := PK.out
  have S5 := S4.went h4 k5'
  have m1 := l1.went k5'
  have m2 := l2.went k5'
  have m3 := l3.went k5'
  have W5 := W4.trans k5'
  have m1' := (m1.setCell 0 (.int .i64 y1)).setCell 1 (.int .i64 y2)
  have m2' := (m2.other (d := w.heap.size + 1) (by omega) 0 (.int .i64 y1)).other (d := w.heap.size + 1) (by omega) 1 (.int .i64 y2)
  have m3' := (m3.other (d := w.heap.size + 1) (by omega) 0 (.int .i64 y1)).other (d := w.heap.size + 1) (by omega) 1 (.int .i64 y2)
  have h5' := (h5.set m1.not (by omega) 0 (.int .i64 y1)).set m1.not (by omega) 1 (.int .i64 y2)
  have W5' := (W5.set (c := w.heap.size + 1) (by omega) 0 (.int .i64 y1)).set (c := w.heap.size + 1) (by omega) 1 (.int .i64 y2)
  have S5' := (S5.set (c := w.heap.size + 1) (by omega) 0 (.int .i64 y1)).set (c := w.heap.size + 1) (by omega) 1 (.int .i64 y2)
  obtain ⟨c0, c1, f0, f1⟩ := m1.two
  obtain ⟨e0, e1, e2, e3, e4, e5, e6, e7⟩ := m3.blk.eight
  have F2 := HP.out _ v5 st1 (y1, y2) h5' X1 S5' (by omega)
  simp only [Nv.val, Nv.cells, exV] at F2
  have F2 := hid F2
  have PK2 := hid (And.intro m2' (And.intro W5' h5'))
  clear l1 l2 l3 W4 h4 S4 k5' S5 m1 m2 m3 W5 m1' m2' m3' h5' W5' S5' h5 F1 PK HP
  go_wp2_with fail
  refine (F2.out).mono ?_
  rintro e w6 ⟨rfl, v6, h6, k6'⟩
  obtain ⟨m2, W5, h5⟩ := PK2.out
  have m6 := m2.went k6'
  have W6 := W5.trans k6'
  have F3 := lead_rd h6 ⟨3, none, 0, 0, 0, 2 * (qgr - 1), 0, 0⟩ (markS (2 * (qgr - 1))) (fun W n => SvAt.mark W lo hi _ n) (bPiece C st1 (y1, y2)).2 (by omega)
  simp only [Sv.val, Sv.cells, exV] at F3
  have F3 := hid F3
  have PK3 := hid (And.intro m6 W6)
  clear m2 W5 h5 m6 W6 h6 k6' F2 PK2
  go_wp2_with fail
  refine (F3.out).mono ?_
  rintro e w7 ⟨rfl, v7, h7, k7'⟩
  obtain ⟨m6, W6⟩ := PK3.out
  have m7 := m6.went k7'
  obtain ⟨c0, c1, f0, f1⟩ := m7.two
  have FIN := hid (And.intro h7 (And.intro (W6.trans k7') m7))
  clear m6 W6 m7 h7 k7' F3 PK3
  go_wp2_with fail
  exact exits_fin FIN.out.1 FIN.out.2.1 FIN.out.2.2 (by omega) (by omega) Tryz.results62 rfl rfl
end Go.Proofs.YtfollffpibmgcaaGreatDoor
namespace Go.Proofs.YtfollffpibmgcaaGreatDoor
open Go.RowKit
def acycB (ops : Array Oper) : Bool := (List.range ops.size).all fun i => ((ops[i]?).map (·.after.all fun e => decide (e.on < i))).getD true
def waitB (ops : Array Oper) (L : Nat) : Bool := (List.range L).all fun i => (List.range (L + 1)).any fun j => decide (i < j) && ((ops[j]?).map (·.after.any fun e => Region.binds .any e && e.on == i)).getD false
def thenLast (P : Program) (o : Oper) (Q : Exit → Act → World → Prop) : Exit → Act → World → Prop
 | .normal, a, w => o.wp P a w (fun a' w' => Q .normal a' w') Q
 | e, a, w => Q e a w
theorem acyc_spec {ops : Array Oper} (h : acycB ops = true) {i : Nat} {o : Oper} (ho : ops[i]? = some o) : ∀ e ∈ o.after, e.on < i := by
 unfold acycB at h
 rw [List.all_eq_true] at h
 have hi : i < ops.size := (Array.getElem?_eq_some_iff.1 ho).1
 have h1 := h i (List.mem_range.2 hi)
 rw [ho] at h1
 simp only [Option.map_some, Option.getD_some] at h1
 intro e he
 have := Array.all_eq_true_iff_forall_mem.1 h1 e he
 simpa using this
theorem wait_spec {ops : Array Oper} {L : Nat} (h : waitB ops L = true) {i : Nat} (hi : i < L) : ∃ j o, i < j ∧ j ≤ L ∧ ops[j]? = some o ∧ ∃ e ∈ o.after, Region.binds .any e = true ∧ e.on = i := by
 unfold waitB at h
 rw [List.all_eq_true] at h
 have h1 := h i (List.mem_range.2 hi)
 rw [List.any_eq_true] at h1
 obtain ⟨j, hj, h2⟩ := h1
 have hj' := List.mem_range.1 hj
 simp only [Bool.and_eq_true, decide_eq_true_eq] at h2
 cases ho : ops[j]? with
 | none => rw [ho] at h2; simp at h2
 | some o =>
  rw [ho] at h2
  simp only [Option.map_some, Option.getD_some] at h2
  obtain ⟨k, hk, h3⟩ := Array.any_eq_true.1 h2.2
  simp at h3
  exact ⟨j, o, h2.1, by omega, ho, o.after[k], Array.getElem_mem hk, h3.1, h3.2⟩
theorem upon_last {P : Program} {o oL : Oper} {a : Act} {K : Act → World → Prop} {Q : Exit → Act → World → Prop} (r : Result Next) (h : o.upon P a K (thenLast P oL Q) r) : o.upon P a K Q r := by
 cases r with
 | ok n w' =>
  cases n <;> simp only [Oper.upon] at h ⊢ <;> first
   | exact h
   | exact Calls.mono h (fun e w'' he => by cases e <;> exact he)
 | halt x w' => cases x <;> simp only [Oper.upon] at h ⊢ <;> exact h
theorem wpOp_last {P : Program} {ops : Array Oper} {oL : Oper} {i : Nat} {a : Act} {w : World} {K : Act → World → Prop} {Q : Exit → Act → World → Prop} (h : wpOp P ops (thenLast P oL Q) i K a w) : wpOp P ops Q i K a w := by
 unfold wpOp at *
 split
 ·rename_i ho; simp only [ho] at h; exact h
 ·rename_i o ho
  simp only [ho] at h
  split
  ·rename_i hw
   simp only [hw, if_true] at h
   rcases h with h | h
   ·exact Or.inl (upon_last _ h)
   ·exact Or.inr h
  ·rename_i hw; simp only [hw] at h; exact h
theorem wpAny_last {P : Program} {ops : Array Oper} {Q : Exit → Act → World → Prop} {L : Nat} {oL : Oper} (hL : ops[L]? = some oL) (hsz : ops.size = L + 1) (hg : oL.guard = none) (hac : acycB ops = true) (hwt : waitB ops L = true) :
  ∀ (fuel : Nat) (listed : Array Bool) (a : Act) (w : World), listed.size = L + 1 → listed.getD L true = false → (∀ i o, ops[i]? = some o → listed.getD i false = true → ∀ e ∈ o.after, Region.binds .any e = true → listed.getD e.on false = true) →
   wpAny P .any ops (thenLast P oL Q) fuel (listed.setIfInBounds L true) a w → wpAny P .any ops Q (fuel + 1) listed a w := by
 have hwant : ∀ a : Act, Region.wanted oL (yielded ops a.tmps) = true := fun a => by simp [Region.wanted, hg]
 have allOf : ∀ listed : Array Bool, (∀ i o, ops[i]? = some o → listed.getD i false = true → ∀ e ∈ o.after, Region.binds .any e = true → listed.getD e.on false = true) → L ∈ Region.ready .any ops listed → ∀ i, i < L → listed.getD i false = true := by
  intro listed hcl hr
  obtain ⟨_, o, ho, hall⟩ := mem_ready.1 hr
  rw [hL] at ho; cases ho
  have : ∀ d i, i < L → L - i ≤ d → listed.getD i false = true := by
   intro d
   induction d with
   | zero => intro i h1 h2; omega
   | succ d ih =>
    intro i h1 h2
    obtain ⟨j, o, hij, hjL, hoj, e, he, hb, hon⟩ := wait_spec hwt h1
    by_cases hj : j = L
    ·subst hj
     rw [hL] at hoj; cases hoj
     rw [← hon]
     exact hall e he hb
    ·have := hcl j o hoj (ih j (by omega) (by omega)) e he hb
     rw [hon] at this
     exact this
  intro i hi
  exact this (L - i) i hi (Nat.le_refl _)
 have some_ready : ∀ listed : Array Bool, listed.size = L + 1 → listed.getD L true = false → (Region.ready .any ops listed = [] → False) := by
  intro listed hls hLf hr
  have hnone : ∀ i, i < L → listed.getD i false = true := by
   intro i
   induction i using Nat.strongRecOn with
   | ind i ih =>
    intro hi
    apply Decidable.byContradiction
    intro hne
    have hlt : i < listed.size := by omega
    have hf : listed.getD i true = false := by
     simp only [Array.getD, hlt, dite_true] at hne ⊢
     simpa using hne
    have hio : i < ops.size := by omega
    have : i ∈ Region.ready .any ops listed := mem_ready.2 ⟨hf, ops[i], Array.getElem?_eq_getElem hio, fun e he _ => by
     have := acyc_spec hac (Array.getElem?_eq_getElem hio) e he
     exact ih e.on this (by omega)⟩
    rw [hr] at this
    cases this
  have : L ∈ Region.ready .any ops listed := mem_ready.2 ⟨hLf, oL, hL, fun e he _ => hnone _ (acyc_spec hac hL e he)⟩
  rw [hr] at this
  cases this
 have doneOf : ∀ listed : Array Bool, listed.size = L + 1 → (∀ i, i < L → listed.getD i false = true) → Region.ready .any ops (listed.setIfInBounds L true) = [] := by
  intro listed hls hall
  apply List.eq_nil_iff_forall_not_mem.2
  intro j hj
  obtain ⟨h0, o, ho, _⟩ := mem_ready.1 hj
  have hjs : j < L + 1 := by rw [← hsz]; exact (Array.getElem?_eq_some_iff.1 ho).1
  by_cases e : j = L
  ·subst e
   simp [Array.getD, hls] at h0
  ·have := getD_set_true (i := L) (hall j (by omega))
   have hlt : j < (listed.setIfInBounds L true).size := by simp; omega
   simp only [Array.getD, hlt, dite_true] at h0 this
   rw [h0] at this
   cases this
 intro fuel
 induction fuel with
 | zero =>
  intro listed a w hls hLf hcl h
  refine ⟨fun hr => (some_ready listed hls hLf hr).elim, fun i hi => ?_⟩
  by_cases e : i = L
  ·subst e
   unfold wpOp
   simp only [hL, hwant, if_true]
   exact Or.inl (Oper.wp_mono (fun a' w' hq => ⟨h.1, hq⟩) h.2)
  ·have := ready_mono hi e
   rw [h.1] at this
   cases this
 | succ fuel ih =>
  intro listed a w hls hLf hcl h
  refine ⟨fun hr => (some_ready listed hls hLf hr).elim, fun i hi => ?_⟩
  by_cases e : i = L
  ·subst e
   have hd := doneOf listed hls (allOf listed hcl hi)
   unfold wpOp
   simp only [hL, hwant, if_true]
   exact Or.inl (Oper.wp_mono (fun a' w' hq => ⟨fun _ => hq, fun k hk => by rw [hd] at hk; cases hk⟩) (h.1 hd))
  ·have h1 := wpOp_last (h.2 i (ready_mono hi e))
   refine wpOp_mono (fun a' w' h2 => ih (listed.setIfInBounds i true) a' w' (by simp [hls]) (by rw [getD_set_ne true e]; exact hLf) (fun k o hk hl e' he' hb => ?_) (by rw [Array.setIfInBounds_comm _ _ e]; exact h2)) h1
   by_cases hki : k = i
   ·subst hki
    obtain ⟨_, o', ho', hall⟩ := mem_ready.1 hi
    rw [hk] at ho'; cases ho'
    exact getD_set_true (hall e' he' hb)
   ·rw [getD_set_ne false (fun e => hki e.symm)] at hl
    exact getD_set_true (hcl k o hk hl e' he' hb)
theorem wp_region_last {P : Program} {id : Nat} {ops : Array Oper} {Q : Exit → Act → World → Prop} {a : Act} {w : World} {S : World → Prop} (L : Nat) {oL : Oper} (hm : P.follows .mixedOrders = true) (hL : ops[L]? = some oL) (hsz : ops.size = L + 1) (hg : oL.guard = none) (hac : acycB ops = true) (hwt : waitB ops L = true)
  (h : wpAnyH P .any ops (thenLast P oL Q) S L ((Array.replicate (L + 1) false).setIfInBounds L true) a w.drew) : (Code.region id ops true).wp P Q a w := by
 refine wp_region_any hm ?_
 rw [hsz]
 refine wpAny_last hL hsz hg hac hwt L _ a _ (by simp) (by simp [Array.getD]) (fun i o ho hl => ?_) (wpAny_of_held _ _ _ _ h)
 simp [Array.getD] at hl
theorem takeH {P : Program} {ops : Array Oper} {Q : Exit → Act → World → Prop} {md : Region.Mode} {S : World → Prop} (i : Nat) (d : Tmp) (v : Value) {oi : Oper} {fuel : Nat} {listed : Array Bool} {a : Act} {w : World} (hi : ops[i]? = some oi) (hd : oi.dst = some d)
  (hs : Region.noSelect ops = true) (hf : Region.free md ops listed i = true) (hr : (Region.ready md ops listed).contains i = true)
  (hQ : ∀ c a w, Q (.panic c) (a.put oi.dst v) w → Q (.panic c) a w) (hy : YieldsIf P ops S oi v a) (hS : S w)
  (h : wpAnyH P md ops Q S fuel (listed.setIfInBounds i true) (a.put (some d) v) w) : wpAnyH P md ops Q S (fuel + 1) listed a w :=
 wpAnyH_take hi hs hf hr hQ hy hS (by rw [hd]; exact h)
end Go.Proofs.YtfollffpibmgcaaGreatDoor
