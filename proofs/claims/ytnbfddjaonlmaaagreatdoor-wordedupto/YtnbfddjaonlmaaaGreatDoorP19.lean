/- The builder's small calls: forkOne, fork, either, lead do what the mirror says. The builder's lead does what the mirror says. The builder's bracket does what the mirror says, if piece does so for the part. A region that draws its order, and whose last operation waits for all others: it is enough to walk the others, in whatever order, and then the last one. -/
import Derived.Test.YtnbfddjaonlmaaaGreatDoorP18
import Derived.Test.YtnbfddjaonlmaaaGreatDoorP01
import Derived.Deep.RegionHeld3
set_option linter.unusedVariables false
set_option maxRecDepth 100000
namespace Go.Proofs.YtnbfddjaonlmaaaGreatDoor
open Go.RowKit Go.Maps
set_option maxRecDepth 100000

theorem size_alloc0 (w : World) (o : Obj) : (w.alloc o).heap.size = w.heap.size + 1 := by simp
theorem hid {p : Prop} (h : p) : Hid p := h
def exV (x : Ex) : Value := .agg #[.int .i64 x.1, .int .i64 x.2]
/-- what a call of the builder's does: st becomes st', x is handed over -/
def Bdone (w : World) (b lo hi : Nat) (v : Value) (st' : List MS) (r : Value) : Ending → World → Prop := fun e w' => e = .returned r ∧ ∃ v', BdAt w' b lo hi v' st' ∧ Went b w w' v v'
theorem SvAt.fork (w : World) (lo hi : Nat) (a b : Int) : SvAt w lo hi ⟨4, none, 0, 0, 0, 0, a, b⟩ (forkS a b) := ⟨rfl, rfl, rfl, rfl, rfl, by simp [forkS], fun e => by simp [forkS] at e⟩

def exB (x : Ex) : Array Value := #[.int .i64 x.1, .int .i64 x.2]
/-- a block that is not the builder's -/
structure Loc (w : World) (b : Nat) (v : Value) (c : Nat) (cs : Array Value) (t : TypeId) : Prop where
  blk : Blk w c cs t
  not : ¬ Own b v c
theorem Loc.went {w w' : World} {b c : Nat} {v v' : Value} {cs : Array Value} {t : TypeId} (h : Loc w b v c cs t) (k : Went b w w' v v') : Loc w' b v' c cs t := ⟨k.cells h.blk h.not, k.apart h.blk.lt h.not⟩
theorem BdAt.fresh {w : World} {b lo hi : Nat} {v : Value} {st : List MS} (h : BdAt w b lo hi v st) {c : Nat} (hc : w.heap.size ≤ c) : ¬ Own b v c := fun hx => by have := h.own hx; omega
theorem Loc.new {w : World} {b lo hi : Nat} {v : Value} {st : List MS} (h : BdAt w b lo hi v st) (cs : Array Value) (t : TypeId) : Loc (w.alloc (.cells cs t)) b v w.heap.size cs t := ⟨Blk.new w cs t, h.fresh (Nat.le_refl _)⟩
theorem Loc.alloc {w : World} {b c : Nat} {v : Value} {cs : Array Value} {t : TypeId} (h : Loc w b v c cs t) (o : Obj) : Loc (w.alloc o) b v c cs t := ⟨h.blk.alloc o, h.not⟩
theorem Loc.setCell {w : World} {b c : Nat} {v : Value} {cs : Array Value} {t : TypeId} (h : Loc w b v c cs t) (i : Nat) (u : Value) : Loc (w.setCell ⟨c, i, none⟩ u) b v c (cs.setIfInBounds i u) t := ⟨h.blk.setCell i u, h.not⟩
theorem Loc.other {w : World} {b c : Nat} {v : Value} {cs : Array Value} {t : TypeId} (h : Loc w b v c cs t) {d : Nat} (hd : c ≠ d) (i : Nat) (u : Value) : Loc (w.setCell ⟨d, i, none⟩ u) b v c cs t := ⟨h.blk.setCell_other hd u, h.not⟩
theorem BdAt.set {w : World} {b lo hi : Nat} {v : Value} {st : List MS} (h : BdAt w b lo hi v st) {c : Nat} (hc : ¬ Own b v c) (hbc : b ≤ c) (j : Nat) (u : Value) : BdAt (w.setCell ⟨c, j, none⟩ u) b lo hi v st :=
  h.kept ((Kept.refl (fun i => i = c) w).setCell (p := ⟨c, j, none⟩) (Or.inl rfl) u) (fun i hi' => by subst hi'; exact ⟨hc, Or.inr (by have := h.hib; omega)⟩)
theorem BdAt.alloc {w : World} {b lo hi : Nat} {v : Value} {st : List MS} (h : BdAt w b lo hi v st) (o : Obj) : BdAt (w.alloc o) b lo hi v st := h.new ((Kept.refl _ _).alloc o)
theorem Went.set {b : Nat} {w w1 : World} {v v1 : Value} (h : Went b w w1 v v1) {c : Nat} (hc : w.heap.size ≤ c) (j : Nat) (u : Value) : Went b w (w1.setCell ⟨c, j, none⟩ u) v v1 := ⟨h.kept.setCell (p := ⟨c, j, none⟩) (Or.inr hc) u, h.blk⟩
theorem exits_ret {f : Func} {Q : Ending → World → Prop} {a : Act} {W : World} {c i : Nat} {x : Ex} (hres : f.results = #[ResultVar.cell i 96]) (hslot : a.tmps.getD i undef = .pointer (some ⟨c, 0, none⟩)) (hd : a.defers = [])
    (hb : Blk W c (exB x) 96) (hQ : Q (.returned (exV x)) W) : bodyPost Tryz.prog f Q Exit.ret a W := by
  have r0 : W.cell? ⟨c, 0, none⟩ = some (.int .i64 x.1) := hb.cell 0
  have r1 : W.cell? ⟨c, 1, none⟩ = some (.int .i64 x.2) := hb.cell 1
  have hs2 : a.tmps[i]?.getD undef = .pointer (some ⟨c, 0, none⟩) := by simpa using hslot
  exact bodyPost_ret (v := exV x) (by simp [results, hres, go_sem, hs2, r0, r1, exV]) hd hQ

theorem forkOne_rd {w : World} {b lo hi : Nat} {v : Value} {st : List MS} (h : BdAt w b lo hi v st) (x y : Int) (hfew : st.length < 10000) :
    Calls Tryz.prog 79 #[.pointer (some ⟨b, 0, none⟩), .int .i64 x, .int .i64 y] w (Bdone w b lo hi v (bForkOne st x y).1 (.int .i64 (bForkOne st x y).2)) := by
  unfold Bdone bForkOne
  by_cases hx : x = -1
  · have hb : (x == -1) = true := by simp [hx]
    simp only [if_pos hx]
    clear hx
    go_enter Tryz.func79, Tryz.ntmps79
    go_wp2_with fail
    go_ret
    exact ⟨rfl, v, h.new (Kept.refl _ _), Went.refl _ _ _⟩
  · have hb : (x == -1) = false := by simp [hx]
    simp only [if_neg hx]
    by_cases hy : y = -1
    · have hb2 : (y == -1) = true := by simp [hy]
      simp only [if_pos hy]
      clear hy hx
      go_enter Tryz.func79, Tryz.ntmps79
      go_wp2_with fail
      go_ret
      exact ⟨rfl, v, h.new (Kept.refl _ _), Went.refl _ _ _⟩
    · have hb2 : (y == -1) = false := by simp [hy]
      simp only [if_neg hy]
      have HA0 := add_rd h (SvAt.fork w lo hi x y) hfew
      simp only [Sv.val, Sv.cells] at HA0
      have HA := hid HA0
      clear HA0
      clear hy hx h
      go_enter Tryz.func79, Tryz.ntmps79
      go_wp2_with fail
      refine (HA.out).mono ?_
      rintro e w1 ⟨rfl, v1, h1, k1⟩
      go_wp2_with fail
      go_ret
      exact ⟨rfl, v1, h1, k1⟩

/-- the way out of a function that hands over exits -/
theorem exits_fin {f : Func} {a : Act} {w w4 : World} {b lo hi c i : Nat} {v v4 : Value} {st4 : List MS} {r1 r2 z1 z2 : Int} (a1 : BdAt w4 b lo hi v4 st4) (a2 : Went b w w4 v v4) (a3 : Loc w4 b v4 c #[.int .i64 z1, .int .i64 z2] 96) (hc : w.heap.size ≤ c) (hbc : b ≤ c)
    (hres : f.results = #[ResultVar.cell i 96]) (hslot : a.tmps.getD i undef = .pointer (some ⟨c, 0, none⟩)) (hd : a.defers = []) :
    bodyPost Tryz.prog f (Bdone w b lo hi v st4 (exV (r1, r2))) Exit.ret a ((w4.setCell ⟨c, 0, none⟩ (.int .i64 r1)).setCell ⟨c, 1, none⟩ (.int .i64 r2)) := by
  refine exits_ret hres hslot hd (x := (r1, r2)) ?_ ?_
  · exact ((a3.setCell 0 (.int .i64 r1)).setCell 1 (.int .i64 r2)).blk
  · exact ⟨rfl, v4, (a1.set a3.not hbc 0 _).set a3.not hbc 1 _, (a2.set hc 0 _).set hc 1 _⟩
/-- the two numbers of exits that lie in a block -/
theorem Loc.two {w : World} {b c : Nat} {v : Value} {p q : Int} {t : TypeId} (h : Loc w b v c #[.int .i64 p, .int .i64 q] t) : w.cell? ⟨c, 0, none⟩ = some (.int .i64 p) ∧ w.cell? ⟨c, 1, none⟩ = some (.int .i64 q) ∧ w.frozen? ⟨c, 0, none⟩ = false ∧ w.frozen? ⟨c, 1, none⟩ = false := ⟨h.blk.cell 0, h.blk.cell 1, h.blk.frozen 0, h.blk.frozen 1⟩

theorem fork_rd {w : World} {b lo hi : Nat} {v : Value} {st : List MS} (h : BdAt w b lo hi v st) (x y : Ex) (hfew : st.length + 2 ≤ 10000) :
    Calls Tryz.prog 64 #[.pointer (some ⟨b, 0, none⟩), exV x, exV y] w (Bdone w b lo hi v (bFork st x y).1 (exV (bFork st x y).2)) := by
  have hlt := h.blk.lt
  have g1 := forkOne_grow st x.2 y.2
  obtain ⟨x1, x2⟩ := x
  obtain ⟨y1, y2⟩ := y
  simp only at g1
  have l1 := ((Loc.new h (exB (x1, x2)) 96).alloc (.cells (exB (y1, y2)) 96)).alloc (.cells (exB (0, 0)) 96)
  have h1 := h.alloc (.cells (exB (x1, x2)) 96)
  have l2 := (Loc.new h1 (exB (y1, y2)) 96).alloc (.cells (exB (0, 0)) 96)
  have h2 := h1.alloc (.cells (exB (y1, y2)) 96)
  have l3 := Loc.new h2 (exB (0, 0)) 96
  have h3 := h2.alloc (.cells (exB (0, 0)) 96)
  have W3 := (((Went.refl b w v).alloc (.cells (exB (x1, x2)) 96)).alloc (.cells (exB (y1, y2)) 96)).alloc (.cells (exB (0, 0)) 96)
  have F1 := hid (forkOne_rd h3 x2 y2 (by omega))
  simp only [exB, size_alloc0] at l1 l2 l3 h3 W3 F1
  clear h h1 h2
  simp only [exV]
  unfold bFork
  simp only
  by_cases c : x1 = x2 ∧ y1 = y2
  · have d1 : (x1 == x2) = true := by simp [c.1]
    have d2 : (y1 == y2) = true := by simp [c.2]
    simp only [if_pos c]
    clear c
    go_enter Tryz.func64, Tryz.ntmps64
    go_wp2_with fail
    refine (F1.out).mono ?_
    rintro e w4 ⟨rfl, v4, h4, k4⟩
    obtain ⟨m1, m2, m3⟩ := And.intro (l1.went k4) (And.intro (l2.went k4) (l3.went k4))
    have k5 := W3.trans k4
    obtain ⟨a0, a1, _, _⟩ := m1.two
    obtain ⟨b0, b1, _, _⟩ := m2.two
    obtain ⟨c0, c1, f0, f1⟩ := m3.two
    have FIN := hid (And.intro h4 (And.intro k5 m3))
    clear l1 l2 l3 h3 F1 m1 m2 m3 h4 k4 k5 W3
    go_wp2_with fail
    exact exits_fin FIN.out.1 FIN.out.2.1 FIN.out.2.2 (by omega) (by omega) Tryz.results64 rfl rfl
  · simp only [if_neg c]
    have g2 := forkOne_grow (bForkOne st x2 y2).1 x1 y1
    by_cases e1 : x1 = x2
    · have e2 : y1 ≠ y2 := fun e => c ⟨e1, e⟩
      have d1 : (x1 == x2) = true := by simp [e1]
      have d2 : (y1 == y2) = false := by simp [e2]
      clear c e1 e2
      go_enter Tryz.func64, Tryz.ntmps64
      go_wp2_with fail
      refine (F1.out).mono ?_
      rintro e w4 ⟨rfl, v4, h4, k4⟩
      obtain ⟨m1, m2, m3⟩ := And.intro (l1.went k4) (And.intro (l2.went k4) (l3.went k4))
      have k5 := W3.trans k4
      obtain ⟨a0, a1, _, _⟩ := m1.two
      obtain ⟨b0, b1, _, _⟩ := m2.two
      have F2 := hid (forkOne_rd h4 x1 y1 (by omega))
      have FIN := hid (And.intro k5 m3)
      clear l1 l2 l3 h3 F1 m1 m2 m3 h4 k4 k5 W3
      go_wp2_with fail
      refine (F2.out).mono ?_
      rintro e w6 ⟨rfl, v6, h6, k6⟩
      have m6 := FIN.out.2.went k6
      obtain ⟨c0, c1, f0, f1⟩ := m6.two
      have FIN2 := hid (And.intro h6 (And.intro (FIN.out.1.trans k6) m6))
      clear h6 k6 m6 FIN F2
      go_wp2_with fail
      exact exits_fin FIN2.out.1 FIN2.out.2.1 FIN2.out.2.2 (by omega) (by omega) Tryz.results64 rfl rfl
    · have d1 : (x1 == x2) = false := by simp [e1]
      clear c e1
      go_enter Tryz.func64, Tryz.ntmps64
      go_wp2_with fail
      refine (F1.out).mono ?_
      rintro e w4 ⟨rfl, v4, h4, k4⟩
      obtain ⟨m1, m2, m3⟩ := And.intro (l1.went k4) (And.intro (l2.went k4) (l3.went k4))
      have k5 := W3.trans k4
      obtain ⟨a0, a1, _, _⟩ := m1.two
      obtain ⟨b0, b1, _, _⟩ := m2.two
      have F2 := hid (forkOne_rd h4 x1 y1 (by omega))
      have FIN := hid (And.intro k5 m3)
      clear l1 l2 l3 h3 F1 m1 m2 m3 h4 k4 k5 W3
      go_wp2_with fail
      refine (F2.out).mono ?_
      rintro e w6 ⟨rfl, v6, h6, k6⟩
      have m6 := FIN.out.2.went k6
      obtain ⟨c0, c1, f0, f1⟩ := m6.two
      have FIN2 := hid (And.intro h6 (And.intro (FIN.out.1.trans k6) m6))
      clear h6 k6 m6 FIN F2
      go_wp2_with fail
      exact exits_fin FIN2.out.1 FIN2.out.2.1 FIN2.out.2.2 (by omega) (by omega) Tryz.results64 rfl rfl

theorem either_rd {w : World} {b lo hi : Nat} {v : Value} {st : List MS} (h : BdAt w b lo hi v st) (lz : Bool) (x y : Ex) (hfew : st.length + 2 ≤ 10000) :
    Calls Tryz.prog 80 #[.pointer (some ⟨b, 0, none⟩), .bool lz, exV x, exV y] w (Bdone w b lo hi v (bEither lz st x y).1 (exV (bEither lz st x y).2)) := by
  have hlt := h.blk.lt
  obtain ⟨x1, x2⟩ := x
  obtain ⟨y1, y2⟩ := y
  have l1 := ((Loc.new h (exB (x1, x2)) 96).alloc (.cells (exB (y1, y2)) 96)).alloc (.cells (exB (0, 0)) 96)
  have h1 := h.alloc (.cells (exB (x1, x2)) 96)
  have l2 := (Loc.new h1 (exB (y1, y2)) 96).alloc (.cells (exB (0, 0)) 96)
  have h2 := h1.alloc (.cells (exB (y1, y2)) 96)
  have l3 := Loc.new h2 (exB (0, 0)) 96
  have h3 := h2.alloc (.cells (exB (0, 0)) 96)
  have W3 := (((Went.refl b w v).alloc (.cells (exB (x1, x2)) 96)).alloc (.cells (exB (y1, y2)) 96)).alloc (.cells (exB (0, 0)) 96)
  have F1 := fork_rd h3 (x1, x2) (y1, y2) (by omega)
  have F2 := fork_rd h3 (y1, y2) (x1, x2) (by omega)
  simp only [exB, exV, size_alloc0] at l1 l2 l3 h3 W3 F1 F2
  have F1 := hid F1
  have F2 := hid F2
  clear h h1 h2
  simp only [exV]
  unfold bEither
  cases lz
  · simp only [Bool.false_eq_true, if_false]
    go_enter Tryz.func80, Tryz.ntmps80
    go_wp2_with fail
    refine (F1.out).mono ?_
    rintro e w4 ⟨rfl, v4, h4, k4⟩
    obtain ⟨c0, c1, f0, f1⟩ := (l3.went k4).two
    have FIN := hid (And.intro h4 (And.intro (W3.trans k4) (l3.went k4)))
    clear l1 l2 l3 h3 F1 F2 h4 k4 W3
    go_wp2_with fail
    exact exits_fin FIN.out.1 FIN.out.2.1 FIN.out.2.2 (by omega) (by omega) Tryz.results80 rfl rfl
  · simp only [if_true]
    go_enter Tryz.func80, Tryz.ntmps80
    go_wp2_with fail
    refine (F2.out).mono ?_
    rintro e w4 ⟨rfl, v4, h4, k4⟩
    obtain ⟨c0, c1, f0, f1⟩ := (l3.went k4).two
    have FIN := hid (And.intro h4 (And.intro (W3.trans k4) (l3.went k4)))
    clear l1 l2 l3 h3 F1 F2 h4 k4 W3
    go_wp2_with fail
    exact exits_fin FIN.out.1 FIN.out.2.1 FIN.out.2.2 (by omega) (by omega) Tryz.results80 rfl rfl

def Sv.nxt (s : Sv) (n : Int) : Sv := { s with nx := n }
theorem Loc.six {w : World} {b c : Nat} {v : Value} {s : Sv} {t : TypeId} (h : Loc w b v c s.cells t) : (w.cell? ⟨c, 0, none⟩ = some (.int .i64 s.k) ∧ w.cell? ⟨c, 1, none⟩ = some (.slice s.sa s.sn s.sc) ∧ w.cell? ⟨c, 2, none⟩ = some (.int .i64 s.ed) ∧ w.cell? ⟨c, 3, none⟩ = some (.int .i64 s.sl) ∧ w.cell? ⟨c, 4, none⟩ = some (.int .i64 s.nx) ∧ w.cell? ⟨c, 5, none⟩ = some (.int .i64 s.ot)) ∧ w.frozen? ⟨c, 4, none⟩ = false :=
  ⟨⟨h.blk.cell 0, h.blk.cell 1, h.blk.cell 2, h.blk.cell 3, h.blk.cell 4, h.blk.cell 5⟩, h.blk.frozen 4⟩
theorem lead_rd {w : World} {b lo hi : Nat} {v : Value} {st : List MS} (h : BdAt w b lo hi v st) (s : Sv) (mk : Int → MS) (HS : ∀ W n, SvAt W lo hi (s.nxt n) (mk n)) (x : Ex) (hfew : st.length + 2 ≤ 10000) :
    Calls Tryz.prog 46 #[.pointer (some ⟨b, 0, none⟩), Sv.val s, exV x] w (Bdone w b lo hi v (bLead mk st x).1 (exV (bLead mk st x).2)) := by
  have hlt := h.blk.lt
  obtain ⟨x1, x2⟩ := x
  have l1' := (((Loc.new h (s.nxt x2).cells 94).alloc (.cells (exB (x1, x2)) 96)).alloc (.cells (exB (0, 0)) 96))
  have h1 := h.alloc (.cells (s.nxt x2).cells 94)
  have l2' := (Loc.new h1 (exB (x1, x2)) 96).alloc (.cells (exB (0, 0)) 96)
  have h2 := h1.alloc (.cells (exB (x1, x2)) 96)
  have l3' := Loc.new h2 (exB (0, 0)) 96
  have h3' := h2.alloc (.cells (exB (0, 0)) 96)
  have W3' := (((Went.refl b w v).alloc (.cells (s.nxt x2).cells 94)).alloc (.cells (exB (x1, x2)) 96)).alloc (.cells (exB (0, 0)) 96)
  have F1 := add_rd h3' (HS _ x2) (by omega)
  simp only [exB, size_alloc0] at l2' l3'
  simp only [Sv.val, Sv.cells, Sv.nxt, exB] at F1
  clear h h1 h2
  have F1 := hid F1
  have L1 := hid l1'
  have PK := hid (And.intro l2' (And.intro l3' W3'))
  clear l1' l2' l3' h3' W3'
  simp only [exV, Sv.val, Sv.cells]
  unfold bLead
  simp only
  by_cases c1 : x1 = x2
  · have d1 : (x1 == x2) = true := by simp [c1]
    simp only [if_pos c1]
    clear c1
    go_enter Tryz.func46, Tryz.ntmps46
    go_wp2_with fail
    refine (F1.out).mono ?_
    rintro e w4 ⟨rfl, v4, h4, k4⟩
    obtain ⟨l2, l3, W3⟩ := PK.out
    obtain ⟨a0, a1, _, _⟩ := (l2.went k4).two
    obtain ⟨c0, c1, f0, f1⟩ := (l3.went k4).two
    have FIN := hid (And.intro h4 (And.intro (W3.trans k4) (l3.went k4)))
    clear l2 l3 h4 k4 W3 F1 PK L1
    go_wp2_with fail
    exact exits_fin FIN.out.1 FIN.out.2.1 FIN.out.2.2 (by omega) (by omega) Tryz.results46 rfl rfl
  · have d1 : (x1 == x2) = false := by simp [c1]
    simp only [if_neg c1]
    clear c1
    by_cases c2 : x1 = -1
    · have d2 : (x1 == -1) = true := by simp [c2]
      simp only [if_pos c2]
      clear c2
      go_enter Tryz.func46, Tryz.ntmps46
      go_wp2_with fail
      refine (F1.out).mono ?_
      rintro e w4 ⟨rfl, v4, h4, k4⟩
      obtain ⟨l2, l3, W3⟩ := PK.out
      obtain ⟨a0, a1, _, _⟩ := (l2.went k4).two
      obtain ⟨c0, c1, f0, f1⟩ := (l3.went k4).two
      have FIN := hid (And.intro h4 (And.intro (W3.trans k4) (l3.went k4)))
      clear l2 l3 h4 k4 W3 F1 PK L1
      go_wp2_with fail
      exact exits_fin FIN.out.1 FIN.out.2.1 FIN.out.2.2 (by omega) (by omega) Tryz.results46 rfl rfl
    · have d2 : (x1 == -1) = false := by simp [c2]
      simp only [if_neg c2]
      clear c2
      go_enter Tryz.func46, Tryz.ntmps46
      go_wp2_with fail
      refine (F1.out).mono ?_
      rintro e w4 ⟨rfl, v4, h4, k4⟩
      obtain ⟨l2, l3, W3⟩ := PK.out
      obtain ⟨a0, a1, _, _⟩ := (l2.went k4).two
      have L4 := L1.out.went k4
      obtain ⟨⟨b0, b1, b2, b3, b4, b5⟩, b6⟩ := L4.six
      simp only [Sv.nxt] at b0 b1 b2 b3 b4 b5
      have h5 := h4.set L4.not (by omega) 4 (.int .i64 x1)
      have W5 := (W3.trans k4).set (c := w.heap.size) (Nat.le_refl _) 4 (.int .i64 x1)
      have l5 := (l3.went k4).other (d := w.heap.size) (by omega) 4 (.int .i64 x1)
      have F2 := add_rd h5 (HS _ x1) (by simp; omega)
      simp only [Sv.val, Sv.cells, Sv.nxt] at F2
      have F2 := hid F2
      have PK2 := hid (And.intro W5 l5)
      clear l2 l3 h4 k4 W3 F1 PK L1 L4 h5 W5 l5
      go_wp2_with fail
      refine (F2.out).mono ?_
      rintro e w6 ⟨rfl, v6, h6, k6⟩
      obtain ⟨W5, l5⟩ := PK2.out
      have l6 := l5.went k6
      obtain ⟨c0, c1, f0, f1⟩ := l6.two
      have FIN := hid (And.intro h6 (And.intro (W5.trans k6) l6))
      clear h6 k6 W5 l5 l6 F2 PK2
      go_wp2_with fail
      exact exits_fin FIN.out.1 FIN.out.2.1 FIN.out.2.2 (by omega) (by omega) Tryz.results46 rfl rfl

/-- the pattern's blocks are as they were -/
def Sames (lo hi : Nat) (w0 w : World) : Prop := ∀ i, lo ≤ i → i < hi → w.heap[i]? = w0.heap[i]?
theorem Sames.refl (lo hi : Nat) (w : World) : Sames lo hi w w := fun _ _ _ => rfl
theorem Sames.alloc {lo hi : Nat} {w0 w : World} (h : Sames lo hi w0 w) (hle : hi ≤ w.heap.size) (o : Obj) : Sames lo hi w0 (w.alloc o) := fun i h1 h2 => (Below.heap_alloc w o i (by omega)).trans (h i h1 h2)
theorem Sames.went {lo hi b : Nat} {w0 w w' : World} {v v' : Value} {st : List MS} (h : Sames lo hi w0 w) (hB : BdAt w b lo hi v st) (k : Went b w w' v v') : Sames lo hi w0 w' := fun i h1 h2 => by
  have := hB.hib
  have := hB.blk.lt
  exact (k.kept.block i (by omega) (fun hx => by have := hB.own hx; omega)).trans (h i h1 h2)
theorem Sames.set {lo hi : Nat} {w0 w : World} (h : Sames lo hi w0 w) {c : Nat} (hc : hi ≤ c) (j : Nat) (u : Value) : Sames lo hi w0 (w.setCell ⟨c, j, none⟩ u) := fun i h1 h2 => (Below.heap_setCell w ⟨c, j, none⟩ u i (by show i ≠ c; omega)).trans (h i h1 h2)
theorem Sames.cell {lo hi : Nat} {w0 w : World} (h : Sames lo hi w0 w) {i j : Nat} (h1 : lo ≤ i) (h2 : i < hi) : w.cell? ⟨i, j, none⟩ = w0.cell? ⟨i, j, none⟩ := World.cell?_of_block (w := w0) (h i h1 h2)

/-- the i-th part that lies in block pb is N -/
def KidAt (w : World) (pb i : Nat) (N : Nv) : Prop := ∀ j, j < 8 → w.cell? ⟨pb, i * 8 + j, none⟩ = N.cells[j]?
theorem KidAt.sames {lo hi : Nat} {w0 w : World} {pb i : Nat} {N : Nv} (h : KidAt w0 pb i N) (hs : Sames lo hi w0 w) (h1 : lo ≤ pb) (h2 : pb < hi) : KidAt w pb i N := fun j hj => (hs.cell h1 h2).trans (h j hj)
theorem KidAt.eight {w : World} {pb i : Nat} {N : Nv} (h : KidAt w pb i N) : (w.cell? ⟨pb, i * 8, none⟩ = some (.int .i64 N.k) ∧ w.cell? ⟨pb, i * 8 + 1, none⟩ = some (.slice N.pa N.pn N.pc) ∧ w.cell? ⟨pb, i * 8 + 2, none⟩ = some (.slice N.sa N.sn N.sc) ∧ w.cell? ⟨pb, i * 8 + 3, none⟩ = some (.int .i64 N.ed)) ∧
    w.cell? ⟨pb, i * 8 + 4, none⟩ = some (.int .i64 N.gr) ∧ w.cell? ⟨pb, i * 8 + 5, none⟩ = some (.int .i64 N.lo) ∧ w.cell? ⟨pb, i * 8 + 6, none⟩ = some (.int .i64 N.hi) ∧ w.cell? ⟨pb, i * 8 + 7, none⟩ = some (.bool N.lz) :=
  ⟨⟨h 0 (by omega), h 1 (by omega), h 2 (by omega), h 3 (by omega)⟩, h 4 (by omega), h 5 (by omega), h 6 (by omega), h 7 (by omega)⟩
theorem KidAt.zero {w : World} {pb : Nat} {N : Nv} (h : KidAt w pb 0 N) : (w.cell? ⟨pb, 0, none⟩ = some (.int .i64 N.k) ∧ w.cell? ⟨pb, 1, none⟩ = some (.slice N.pa N.pn N.pc) ∧ w.cell? ⟨pb, 2, none⟩ = some (.slice N.sa N.sn N.sc) ∧ w.cell? ⟨pb, 3, none⟩ = some (.int .i64 N.ed)) ∧
    w.cell? ⟨pb, 4, none⟩ = some (.int .i64 N.gr) ∧ w.cell? ⟨pb, 5, none⟩ = some (.int .i64 N.lo) ∧ w.cell? ⟨pb, 6, none⟩ = some (.int .i64 N.hi) ∧ w.cell? ⟨pb, 7, none⟩ = some (.bool N.lz) :=
  ⟨⟨h 0 (by omega), h 1 (by omega), h 2 (by omega), h 3 (by omega)⟩, h 4 (by omega), h 5 (by omega), h 6 (by omega), h 7 (by omega)⟩

/-- the call piece at the value q does what the mirror says of C -/
def PcOk (b lo hi : Nat) (w0 : World) (q : Nv) (C : CT) : Prop := ∀ (W : World) (v : Value) (st : List MS) (x : Ex), BdAt W b lo hi v st → XOk st.length x → Sames lo hi w0 W → st.length + 4 * C.sz.toNat ≤ 9000 →
  Calls Tryz.prog 34 #[.pointer (some ⟨b, 0, none⟩), Nv.val q, exV x] W (Bdone W b lo hi v (bPiece C st x).1 (exV (bPiece C st x).2))

theorem SvAt.mark (w : World) (lo hi : Nat) (s : Int) (n : Int) : SvAt w lo hi (Sv.nxt ⟨3, none, 0, 0, 0, s, 0, 0⟩ n) (markS s n) := ⟨rfl, rfl, rfl, rfl, rfl, by simp [markS], fun e => by simp [markS] at e⟩
theorem SvAt.stand (w : World) (lo hi : Nat) (s : Int) (n : Int) : SvAt w lo hi (Sv.nxt ⟨2, none, 0, 0, s, 0, 0, 0⟩ n) (standS s n) := ⟨rfl, rfl, rfl, rfl, rfl, by simp [standS], fun e => by simp [standS] at e⟩

set_option maxHeartbeats 1000000 in
theorem mbracket_rd {w0 w : World} {b lo hi pb : Nat} {v : Value} {st : List MS} {q N : Nv} {C : CT} (h : BdAt w b lo hi v st) (x : Ex) (hx : XOk st.length x) (hS : Sames lo hi w0 w) (hok : C.ok) (hsz : C.sz ≤ 1000) (hP : PcOk b lo hi w0 N C)
    (hpa : q.pa = some ⟨pb, 0, none⟩) (hpn : q.pn = 1) (hpb : lo ≤ pb ∧ pb < hi) (hK : KidAt w pb 0 N) (hgr : 0 ≤ q.gr ∧ q.gr ≤ 300) (hfew : st.length + 4 + 4 * C.sz.toNat ≤ 9000) :
    Calls Tryz.prog 47 #[.pointer (some ⟨b, 0, none⟩), Nv.val q, exV x] w (Bdone w b lo hi v
      (if q.gr = 0 then bPiece C st x else bLead (markS (2 * (q.gr - 1))) (bPiece C (bLead (markS (2 * (q.gr - 1) + 1)) st x).1 (bLead (markS (2 * (q.gr - 1) + 1)) st x).2).1 (bPiece C (bLead (markS (2 * (q.gr - 1) + 1)) st x).1 (bLead (markS (2 * (q.gr - 1) + 1)) st x).2).2).1
      (exV (if q.gr = 0 then bPiece C st x else bLead (markS (2 * (q.gr - 1))) (bPiece C (bLead (markS (2 * (q.gr - 1) + 1)) st x).1 (bLead (markS (2 * (q.gr - 1) + 1)) st x).2).1 (bPiece C (bLead (markS (2 * (q.gr - 1) + 1)) st x).1 (bLead (markS (2 * (q.gr - 1) + 1)) st x).2).2).2)) := by
  have hlt := h.blk.lt
  have hib := h.hib
  obtain ⟨x1, x2⟩ := x
  have hpl : pb < w.heap.size := by omega
  obtain ⟨qk, qpa, qpn, qpc, qsa, qsn, qsc, qed, qgr, qlo, qhi, qlz⟩ := q
  simp only at hpa hpn hgr
  subst hpa hpn
  have h1 := h.alloc (.cells #[.int .i64 qk, .slice (some ⟨pb, 0, none⟩) 1 qpc, .slice qsa qsn qsc, .int .i64 qed, .int .i64 qgr, .int .i64 qlo, .int .i64 qhi, .bool qlz] 56)
  have h2 := h1.alloc (.cells (exB (x1, x2)) 96)
  have h3 := h2.alloc (.cells (exB (0, 0)) 96)
  have h4 := h3.alloc (.cells N.cells 56)
  have l1 := ((Loc.new h1 (exB (x1, x2)) 96).alloc (.cells (exB (0, 0)) 96)).alloc (.cells N.cells 56)
  have l2 := (Loc.new h2 (exB (0, 0)) 96).alloc (.cells N.cells 56)
  have l3 := Loc.new h3 N.cells 56
  have W4 := ((((Went.refl b w v).alloc (.cells #[.int .i64 qk, .slice (some ⟨pb, 0, none⟩) 1 qpc, .slice qsa qsn qsc, .int .i64 qed, .int .i64 qgr, .int .i64 qlo, .int .i64 qhi, .bool qlz] 56)).alloc (.cells (exB (x1, x2)) 96)).alloc (.cells (exB (0, 0)) 96)).alloc (.cells N.cells 56)
  have S4 := (((hS.alloc (by omega) (.cells #[.int .i64 qk, .slice (some ⟨pb, 0, none⟩) 1 qpc, .slice qsa qsn qsc, .int .i64 qed, .int .i64 qgr, .int .i64 qlo, .int .i64 qhi, .bool qlz] 56)).alloc (by simp; omega) (.cells (exB (x1, x2)) 96)).alloc (by simp; omega) (.cells (exB (0, 0)) 96)).alloc (by simp; omega) (.cells N.cells 56)
  have K3 := (hK.sames ((((Sames.refl lo hi w).alloc (by omega) (.cells #[.int .i64 qk, .slice (some ⟨pb, 0, none⟩) 1 qpc, .slice qsa qsn qsc, .int .i64 qed, .int .i64 qgr, .int .i64 qlo, .int .i64 qhi, .bool qlz] 56)).alloc (by simp; omega) (.cells (exB (x1, x2)) 96)).alloc (by simp; omega) (.cells (exB (0, 0)) 96)) hpb.1 hpb.2).zero
  simp only [exB] at K3
  obtain ⟨⟨k0, k1, k2, k3⟩, k4, k5, k6, k7⟩ := K3
  simp only [size_alloc0] at l1 l2 l3
  simp only [Nv.val, Nv.cells, exV]
  by_cases g0 : qgr = 0
  · have d1 : (qgr == 0) = true := by simp [g0]
    simp only [if_pos g0]
    have F1 := hP _ v st (x1, x2) h4 hx S4 (by omega)
    simp only [Nv.val, Nv.cells, exV, exB] at F1
    simp only [exB] at l2 W4
    have F1 := hid F1
    have PK := hid (And.intro l2 W4)
    clear h h1 h2 h3 h4 l1 l2 l3 W4 S4 hS hK g0
    go_enter Tryz.func47, Tryz.ntmps47
    go_wp2_with fail
    refine (F1.out).mono ?_
    rintro e w4 ⟨rfl, v4, h4, k4'⟩
    have l2 := PK.out.1.went k4'
    obtain ⟨c0, c1, f0, f1⟩ := l2.two
    have FIN := hid (And.intro h4 (And.intro (PK.out.2.trans k4') l2))
    clear l2 h4 k4' F1 PK
    go_wp2_with fail
    exact exits_fin FIN.out.1 FIN.out.2.1 FIN.out.2.2 (by omega) (by omega) Tryz.results47 rfl rfl
  · have d1 : (qgr == 0) = false := by simp [g0]
    simp only [if_neg g0]
    have hbs := bPiece_bs C hok hsz
    have hb1 := BS.mark (2 * (qgr - 1) + 1)
    have F1 := lead_rd h4 ⟨3, none, 0, 0, 0, 2 * (qgr - 1) + 1, 0, 0⟩ (markS (2 * (qgr - 1) + 1)) (fun W n => SvAt.mark W lo hi _ n) (x1, x2) (by omega)
    have X1 := hb1.xok st (x1, x2) hx
    have N1 := hb1.few st (x1, x2)
    generalize hR1 : bLead (markS (2 * (qgr - 1) + 1)) st (x1, x2) = R1 at *
    obtain ⟨st1, y1, y2⟩ := R1
    simp only at X1 N1
    have X2 := hbs.xok st1 (y1, y2) X1
    have N2 := hbs.few st1 (y1, y2)
    have G2 := hbs.grow st1 (y1, y2)
    simp only [Sv.val, Sv.cells, exV, exB] at F1
    simp only [exB] at l1 l2 l3 W4
    have F1 := hid F1
    have PK := hid (And.intro (And.intro l1 (And.intro l2 l3)) (And.intro W4 (And.intro h4 S4)))
    have HP := hid hP
    clear h h1 h2 h3 h4 l1 l2 l3 W4 S4 hS hK g0 hP hbs hb1 hR1
    have r1 : -9223372036854775808 ≤ 2 * (qgr - 1) ∧ 2 * (qgr - 1) + 1 ≤ 9223372036854775807 := by omega
    go_enter Tryz.func47, Tryz.ntmps47
    go_wp2_with fail
    refine (F1.out).mono ?_
    rintro e w5 ⟨rfl, v5, h5, k5'⟩
    obtain ⟨⟨l1, l2, l3⟩, W4, h4, S4⟩ := PK.out
    have S5 := S4.went h4 k5'
    have m1 := l1.went k5'
    have m2 := l2.went k5'
    have m3 := l3.went k5'
    have W5 := W4.trans k5'
    have m1' := (m1.setCell 0 (.int .i64 y1)).setCell 1 (.int .i64 y2)
    have m2' := (m2.other (d := w.heap.size + 1) (by omega) 0 (.int .i64 y1)).other (d := w.heap.size + 1) (by omega) 1 (.int .i64 y2)
    have m3' := (m3.other (d := w.heap.size + 1) (by omega) 0 (.int .i64 y1)).other (d := w.heap.size + 1) (by omega) 1 (.int .i64 y2)
    have h5' := (h5.set m1.not (by omega) 0 (.int .i64 y1)).set m1.not (by omega) 1 (.int .i64 y2)
    have W5' := (W5.set (c := w.heap.size + 1) (by omega) 0 (.int .i64 y1)).set (c := w.heap.size + 1) (by omega) 1 (.int .i64 y2)
    have S5' := (S5.set (c := w.heap.size + 1) (by omega) 0 (.int .i64 y1)).set (c := w.heap.size + 1) (by omega) 1 (.int .i64 y2)
    obtain ⟨c0, c1, f0, f1⟩ := m1.two
    obtain ⟨e0, e1, e2, e3, e4, e5, e6, e7⟩ := m3.blk.eight
    have F2 := HP.out _ v5 st1 (y1, y2) h5' X1 S5' (by omega)
    simp only [Nv.val, Nv.cells, exV] at F2
    have F2 := hid F2
    have PK2 := hid (And.intro m2' (And.intro W5' h5'))
    clear l1 l2 l3 W4 h4 S4 k5' S5 m1 m2 m3 W5 m1' m2' m3' h5' W5' S5' h5 F1 PK HP
    go_wp2_with fail
    refine (F2.out).mono ?_
    rintro e w6 ⟨rfl, v6, h6, k6'⟩
    obtain ⟨m2, W5, h5⟩ := PK2.out
    have m6 := m2.went k6'
    have W6 := W5.trans k6'
    have F3 := lead_rd h6 ⟨3, none, 0, 0, 0, 2 * (qgr - 1), 0, 0⟩ (markS (2 * (qgr - 1))) (fun W n => SvAt.mark W lo hi _ n) (bPiece C st1 (y1, y2)).2 (by omega)
    simp only [Sv.val, Sv.cells, exV] at F3
    have F3 := hid F3
    have PK3 := hid (And.intro m6 W6)
    clear m2 W5 h5 m6 W6 h6 k6' F2 PK2
    go_wp2_with fail
    refine (F3.out).mono ?_
    rintro e w7 ⟨rfl, v7, h7, k7'⟩
    obtain ⟨m6, W6⟩ := PK3.out
    have m7 := m6.went k7'
    obtain ⟨c0, c1, f0, f1⟩ := m7.two
    have FIN := hid (And.intro h7 (And.intro (W6.trans k7') m7))
    clear m6 W6 m7 h7 k7' F3 PK3
    go_wp2_with fail
    exact exits_fin FIN.out.1 FIN.out.2.1 FIN.out.2.2 (by omega) (by omega) Tryz.results47 rfl rfl
end Go.Proofs.YtnbfddjaonlmaaaGreatDoor
namespace Go.Proofs.YtnbfddjaonlmaaaGreatDoor
open Go.RowKit

/-- an operation waits only for earlier ones -/
def acycB (ops : Array Oper) : Bool := (List.range ops.size).all fun i => ((ops[i]?).map (·.after.all fun e => decide (e.on < i))).getD true
/-- for each operation ahead of L there is a later one, up to L, that waits for it -/
def waitB (ops : Array Oper) (L : Nat) : Bool := (List.range L).all fun i => (List.range (L + 1)).any fun j => decide (i < j) && ((ops[j]?).map (·.after.any fun e => Region.binds .any e && e.on == i)).getD false
/-- what is left behind all others: the last operation, then Q -/
def thenLast (P : Program) (o : Oper) (Q : Exit → Act → World → Prop) : Exit → Act → World → Prop
  | .normal, a, w => o.wp P a w (fun a' w' => Q .normal a' w') Q
  | e, a, w => Q e a w

theorem acyc_spec {ops : Array Oper} (h : acycB ops = true) {i : Nat} {o : Oper} (ho : ops[i]? = some o) : ∀ e ∈ o.after, e.on < i := by
  unfold acycB at h
  rw [List.all_eq_true] at h
  have hi : i < ops.size := (Array.getElem?_eq_some_iff.1 ho).1
  have h1 := h i (List.mem_range.2 hi)
  rw [ho] at h1
  simp only [Option.map_some, Option.getD_some] at h1
  intro e he
  have := Array.all_eq_true_iff_forall_mem.1 h1 e he
  simpa using this
theorem wait_spec {ops : Array Oper} {L : Nat} (h : waitB ops L = true) {i : Nat} (hi : i < L) : ∃ j o, i < j ∧ j ≤ L ∧ ops[j]? = some o ∧ ∃ e ∈ o.after, Region.binds .any e = true ∧ e.on = i := by
  unfold waitB at h
  rw [List.all_eq_true] at h
  have h1 := h i (List.mem_range.2 hi)
  rw [List.any_eq_true] at h1
  obtain ⟨j, hj, h2⟩ := h1
  have hj' := List.mem_range.1 hj
  simp only [Bool.and_eq_true, decide_eq_true_eq] at h2
  cases ho : ops[j]? with
  | none => rw [ho] at h2; simp at h2
  | some o =>
    rw [ho] at h2
    simp only [Option.map_some, Option.getD_some] at h2
    obtain ⟨k, hk, h3⟩ := Array.any_eq_true.1 h2.2
    simp at h3
    exact ⟨j, o, h2.1, by omega, ho, o.after[k], Array.getElem_mem hk, h3.1, h3.2⟩

theorem upon_last {P : Program} {o oL : Oper} {a : Act} {K : Act → World → Prop} {Q : Exit → Act → World → Prop} (r : Result Next) (h : o.upon P a K (thenLast P oL Q) r) : o.upon P a K Q r := by
  cases r with
  | ok n w' =>
    cases n <;> simp only [Oper.upon] at h ⊢ <;> first
      | exact h
      | exact Calls.mono h (fun e w'' he => by cases e <;> exact he)
  | halt x w' => cases x <;> simp only [Oper.upon] at h ⊢ <;> exact h
theorem wpOp_last {P : Program} {ops : Array Oper} {oL : Oper} {i : Nat} {a : Act} {w : World} {K : Act → World → Prop} {Q : Exit → Act → World → Prop} (h : wpOp P ops (thenLast P oL Q) i K a w) : wpOp P ops Q i K a w := by
  unfold wpOp at *
  split
  · rename_i ho; simp only [ho] at h; exact h
  · rename_i o ho
    simp only [ho] at h
    split
    · rename_i hw
      simp only [hw, if_true] at h
      rcases h with h | h
      · exact Or.inl (upon_last _ h)
      · exact Or.inr h
    · rename_i hw; simp only [hw] at h; exact h

theorem wpAny_last {P : Program} {ops : Array Oper} {Q : Exit → Act → World → Prop} {L : Nat} {oL : Oper} (hL : ops[L]? = some oL) (hsz : ops.size = L + 1) (hg : oL.guard = none) (hac : acycB ops = true) (hwt : waitB ops L = true) :
    ∀ (fuel : Nat) (listed : Array Bool) (a : Act) (w : World), listed.size = L + 1 → listed.getD L true = false → (∀ i o, ops[i]? = some o → listed.getD i false = true → ∀ e ∈ o.after, Region.binds .any e = true → listed.getD e.on false = true) →
      wpAny P .any ops (thenLast P oL Q) fuel (listed.setIfInBounds L true) a w → wpAny P .any ops Q (fuel + 1) listed a w := by
  have hwant : ∀ a : Act, Region.wanted oL (yielded ops a.tmps) = true := fun a => by simp [Region.wanted, hg]
  -- the last one is ready just where all others are listed
  have allOf : ∀ listed : Array Bool, (∀ i o, ops[i]? = some o → listed.getD i false = true → ∀ e ∈ o.after, Region.binds .any e = true → listed.getD e.on false = true) → L ∈ Region.ready .any ops listed → ∀ i, i < L → listed.getD i false = true := by
    intro listed hcl hr
    obtain ⟨_, o, ho, hall⟩ := mem_ready.1 hr
    rw [hL] at ho; cases ho
    have : ∀ d i, i < L → L - i ≤ d → listed.getD i false = true := by
      intro d
      induction d with
      | zero => intro i h1 h2; omega
      | succ d ih =>
        intro i h1 h2
        obtain ⟨j, o, hij, hjL, hoj, e, he, hb, hon⟩ := wait_spec hwt h1
        by_cases hj : j = L
        · subst hj
          rw [hL] at hoj; cases hoj
          rw [← hon]
          exact hall e he hb
        · have := hcl j o hoj (ih j (by omega) (by omega)) e he hb
          rw [hon] at this
          exact this
    intro i hi
    exact this (L - i) i hi (Nat.le_refl _)
  have some_ready : ∀ listed : Array Bool, listed.size = L + 1 → listed.getD L true = false → (Region.ready .any ops listed = [] → False) := by
    intro listed hls hLf hr
    have hnone : ∀ i, i < L → listed.getD i false = true := by
      intro i
      induction i using Nat.strongRecOn with
      | ind i ih =>
        intro hi
        apply Decidable.byContradiction
        intro hne
        have hlt : i < listed.size := by omega
        have hf : listed.getD i true = false := by
          simp only [Array.getD, hlt, dite_true] at hne ⊢
          simpa using hne
        have hio : i < ops.size := by omega
        have : i ∈ Region.ready .any ops listed := mem_ready.2 ⟨hf, ops[i], Array.getElem?_eq_getElem hio, fun e he _ => by
          have := acyc_spec hac (Array.getElem?_eq_getElem hio) e he
          exact ih e.on this (by omega)⟩
        rw [hr] at this
        cases this
    have : L ∈ Region.ready .any ops listed := mem_ready.2 ⟨hLf, oL, hL, fun e he _ => hnone _ (acyc_spec hac hL e he)⟩
    rw [hr] at this
    cases this
  have doneOf : ∀ listed : Array Bool, listed.size = L + 1 → (∀ i, i < L → listed.getD i false = true) → Region.ready .any ops (listed.setIfInBounds L true) = [] := by
    intro listed hls hall
    apply List.eq_nil_iff_forall_not_mem.2
    intro j hj
    obtain ⟨h0, o, ho, _⟩ := mem_ready.1 hj
    have hjs : j < L + 1 := by rw [← hsz]; exact (Array.getElem?_eq_some_iff.1 ho).1
    by_cases e : j = L
    · subst e
      simp [Array.getD, hls] at h0
    · have := getD_set_true (i := L) (hall j (by omega))
      have hlt : j < (listed.setIfInBounds L true).size := by simp; omega
      simp only [Array.getD, hlt, dite_true] at h0 this
      rw [h0] at this
      cases this
  intro fuel
  induction fuel with
  | zero =>
    intro listed a w hls hLf hcl h
    refine ⟨fun hr => (some_ready listed hls hLf hr).elim, fun i hi => ?_⟩
    by_cases e : i = L
    · subst e
      unfold wpOp
      simp only [hL, hwant, if_true]
      exact Or.inl (Oper.wp_mono (fun a' w' hq => ⟨h.1, hq⟩) h.2)
    · have := ready_mono hi e
      rw [h.1] at this
      cases this
  | succ fuel ih =>
    intro listed a w hls hLf hcl h
    refine ⟨fun hr => (some_ready listed hls hLf hr).elim, fun i hi => ?_⟩
    by_cases e : i = L
    · subst e
      have hd := doneOf listed hls (allOf listed hcl hi)
      unfold wpOp
      simp only [hL, hwant, if_true]
      exact Or.inl (Oper.wp_mono (fun a' w' hq => ⟨fun _ => hq, fun k hk => by rw [hd] at hk; cases hk⟩) (h.1 hd))
    · have h1 := wpOp_last (h.2 i (ready_mono hi e))
      refine wpOp_mono (fun a' w' h2 => ih (listed.setIfInBounds i true) a' w' (by simp [hls]) (by rw [getD_set_ne true e]; exact hLf) (fun k o hk hl e' he' hb => ?_) (by rw [Array.setIfInBounds_comm _ _ e]; exact h2)) h1
      by_cases hki : k = i
      · subst hki
        obtain ⟨_, o', ho', hall⟩ := mem_ready.1 hi
        rw [hk] at ho'; cases ho'
        exact getD_set_true (hall e' he' hb)
      · rw [getD_set_ne false (fun e => hki e.symm)] at hl
        exact getD_set_true (hcl k o hk hl e' he' hb)

/-- the beginning of such a walk -/
theorem wp_region_last {P : Program} {id : Nat} {ops : Array Oper} {Q : Exit → Act → World → Prop} {a : Act} {w : World} {S : World → Prop} (L : Nat) {oL : Oper} (hm : P.follows .mixedOrders = true) (hL : ops[L]? = some oL) (hsz : ops.size = L + 1) (hg : oL.guard = none) (hac : acycB ops = true) (hwt : waitB ops L = true)
    (h : wpAnyH P .any ops (thenLast P oL Q) S L ((Array.replicate (L + 1) false).setIfInBounds L true) a w.drew) : (Code.region id ops true).wp P Q a w := by
  refine wp_region_any hm ?_
  rw [hsz]
  refine wpAny_last hL hsz hg hac hwt L _ a _ (by simp) (by simp [Array.getD]) (fun i o ho hl => ?_) (wpAny_of_held _ _ _ _ h)
  simp [Array.getD] at hl
/-- take number i first; its slot is said apart -/
theorem takeH {P : Program} {ops : Array Oper} {Q : Exit → Act → World → Prop} {md : Region.Mode} {S : World → Prop} (i : Nat) (d : Tmp) (v : Value) {oi : Oper} {fuel : Nat} {listed : Array Bool} {a : Act} {w : World} (hi : ops[i]? = some oi) (hd : oi.dst = some d)
    (hs : Region.noSelect ops = true) (hf : Region.free md ops listed i = true) (hr : (Region.ready md ops listed).contains i = true)
    (hQ : ∀ c a w, Q (.panic c) (a.put oi.dst v) w → Q (.panic c) a w) (hy : YieldsIf P ops S oi v a) (hS : S w)
    (h : wpAnyH P md ops Q S fuel (listed.setIfInBounds i true) (a.put (some d) v) w) : wpAnyH P md ops Q S (fuel + 1) listed a w :=
  wpAnyH_take hi hs hf hr hQ hy hS (by rw [hd]; exact h)
end Go.Proofs.YtnbfddjaonlmaaaGreatDoor
