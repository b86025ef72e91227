/- The program's answer: Read, trawl. A pattern without a fault: its times are right, its pieces are in order (by the mirror of the program's reader). -/
import Derived.Test.YtnbfddjaonlmaaaGreatDoorP13
import Derived.Test.YtnbfddjaonlmaaaGreatDoorP15
set_option linter.unusedVariables false
set_option maxRecDepth 100000
namespace Go.Proofs.YtnbfddjaonlmaaaGreatDoor
open Go.RowKit Go.Maps

def st0 (s : ByteArray) : RS := { next := 0, flt := fltOf s (scanFrom s (s.size + 1) 0), groups := 0, names := [] }
def finFlt (g : RG) (s : ByteArray) : Flt := if 1000 < (pWhole g (st0 s)).2.size then (pWhole g (st0 s)).1.flt.note 7 0 else (pWhole g (st0 s)).1.flt
def pick (F : Flt) : Int × Int :=
  match F.rune with
  | some p => (2, p)
  | none => match F.form with
    | some p => (3, p)
    | none => match F.rep with
      | some p => (4, p)
      | none => match F.cls with
        | some p => (5, p)
        | none => match F.nam with
          | some p => (6, p)
          | none => match F.big with
            | some p => (7, p)
            | none => (0, 0)
theorem pick_hit {F : Flt} {j p : Int} (h2 : 2 ≤ j) (h7 : j ≤ 7) (hlt : ∀ i, 2 ≤ i → i < j → F.get i = none) (h : F.get j = some p) : pick F = (j, p) := by
  have : j = 2 ∨ j = 3 ∨ j = 4 ∨ j = 5 ∨ j = 6 ∨ j = 7 := by omega
  have g2 : F.get 2 = F.rune := rfl
  have g3 : F.get 3 = F.form := rfl
  have g4 : F.get 4 = F.rep := rfl
  have g5 : F.get 5 = F.cls := rfl
  have g6 : F.get 6 = F.nam := rfl
  have g7 : F.get 7 = F.big := rfl
  rcases this with rfl | rfl | rfl | rfl | rfl | rfl
  · rw [g2] at h; simp [pick, h]
  · rw [g3] at h; have a := hlt 2 (by omega) (by omega); rw [g2] at a; simp [pick, h, a]
  · rw [g4] at h; have a := hlt 2 (by omega) (by omega); have b := hlt 3 (by omega) (by omega); rw [g2] at a; rw [g3] at b; simp [pick, h, a, b]
  · rw [g5] at h; have a := hlt 2 (by omega) (by omega); have b := hlt 3 (by omega) (by omega); have c := hlt 4 (by omega) (by omega); rw [g2] at a; rw [g3] at b; rw [g4] at c; simp [pick, h, a, b, c]
  · rw [g6] at h; have a := hlt 2 (by omega) (by omega); have b := hlt 3 (by omega) (by omega); have c := hlt 4 (by omega) (by omega); have d := hlt 5 (by omega) (by omega); rw [g2] at a; rw [g3] at b; rw [g4] at c; rw [g5] at d; simp [pick, h, a, b, c, d]
  · rw [g7] at h; have a := hlt 2 (by omega) (by omega); have b := hlt 3 (by omega) (by omega); have c := hlt 4 (by omega) (by omega); have d := hlt 5 (by omega) (by omega); have e := hlt 6 (by omega) (by omega); rw [g2] at a; rw [g3] at b; rw [g4] at c; rw [g5] at d; rw [g6] at e; simp [pick, h, a, b, c, d, e]
theorem pick_none {F : Flt} (hlt : ∀ i, 2 ≤ i → i < 8 → F.get i = none) : pick F = (0, 0) := by
  have a := hlt 2 (by omega) (by omega); have b := hlt 3 (by omega) (by omega); have c := hlt 4 (by omega) (by omega); have d := hlt 5 (by omega) (by omega); have e := hlt 6 (by omega) (by omega); have f := hlt 7 (by omega) (by omega)
  change F.rune = none at a; change F.form = none at b; change F.rep = none at c; change F.cls = none at d; change F.nam = none at e; change F.big = none at f
  simp [pick, a, b, c, d, e, f]

theorem own_use {g : RG} {i : Nat} (h : g.own i) : g.use i := by rcases h with h | h | h <;> simp [RG.use, h]

/-- a value of type Pattern -/
def patCells (q : Nv) (x : Int) (y : Option Nat) : Array Value := #[.int .i64 q.k, .slice q.pa q.pn q.pc, .slice q.sa q.sn q.sc, .int .i64 q.ed, .int .i64 q.gr, .int .i64 q.lo, .int .i64 q.hi, .bool q.lz, .int .i64 x, .map y]
def patVal (q : Nv) (x : Int) (y : Option Nat) : Value := .agg (patCells q x y)
def putPat (w : World) (b : Nat) (q : Nv) (x : Int) (y : Option Nat) : World := ((putNv w b q).setCell ⟨b, 8, none⟩ (.int .i64 x)).setCell ⟨b, 9, none⟩ (.map y)
theorem putPat_kept (w : World) (b : Nat) (q : Nv) (x : Int) (y : Option Nat) : Kept (fun i => i = b) w (putPat w b q x y) :=
  ((putNv_kept w b q).setCell (p := ⟨b, 8, none⟩) (Or.inl rfl) _).setCell (p := ⟨b, 9, none⟩) (Or.inl rfl) _
theorem putPat_blk {w : World} {b : Nat} {p : Nv} {x0 x : Int} {y0 y : Option Nat} {t : TypeId} (h : Blk w b (patCells p x0 y0) t) (q : Nv) : Blk (putPat w b q x y) b (patCells q x y) t := by
  have h8 := (((((((((h.setCell 0 (.int .i64 q.k)).setCell 1 (.slice q.pa q.pn q.pc)).setCell 2 (.slice q.sa q.sn q.sc)).setCell 3 (.int .i64 q.ed)).setCell 4 (.int .i64 q.gr)).setCell 5 (.int .i64 q.lo)).setCell 6 (.int .i64 q.hi)).setCell 7 (.bool q.lz)).setCell 8 (.int .i64 x)).setCell 9 (.map y)
  have e : ((((((((((patCells p x0 y0).setIfInBounds 0 (.int .i64 q.k)).setIfInBounds 1 (.slice q.pa q.pn q.pc)).setIfInBounds 2 (.slice q.sa q.sn q.sc)).setIfInBounds 3 (.int .i64 q.ed)).setIfInBounds 4 (.int .i64 q.gr)).setIfInBounds 5 (.int .i64 q.lo)).setIfInBounds 6 (.int .i64 q.hi)).setIfInBounds 7 (.bool q.lz)).setIfInBounds 8 (.int .i64 x)).setIfInBounds 9 (.map y) = patCells q x y := by simp [patCells]
  rw [e] at h8
  exact h8
theorem Blk.ten {w : World} {b : Nat} {q : Nv} {x : Int} {y : Option Nat} {t : TypeId} (h : Blk w b (patCells q x y) t) :
    w.cell? ⟨b, 0, none⟩ = some (.int .i64 q.k) ∧ w.cell? ⟨b, 1, none⟩ = some (.slice q.pa q.pn q.pc) ∧ w.cell? ⟨b, 2, none⟩ = some (.slice q.sa q.sn q.sc) ∧ w.cell? ⟨b, 3, none⟩ = some (.int .i64 q.ed) ∧ w.cell? ⟨b, 4, none⟩ = some (.int .i64 q.gr) ∧ w.cell? ⟨b, 5, none⟩ = some (.int .i64 q.lo) ∧ w.cell? ⟨b, 6, none⟩ = some (.int .i64 q.hi) ∧ w.cell? ⟨b, 7, none⟩ = some (.bool q.lz) ∧ w.cell? ⟨b, 8, none⟩ = some (.int .i64 x) ∧ w.cell? ⟨b, 9, none⟩ = some (.map y) :=
  ⟨h.cell 0, h.cell 1, h.cell 2, h.cell 3, h.cell 4, h.cell 5, h.cell 6, h.cell 7, h.cell 8, h.cell 9⟩

/-- the way out of Read -/
theorem pat_ret {Q : Ending → World → Prop} {a : Act} {W : World} {b : Nat} {q : Nv} {x e p : Int} {y : Option Nat} (h2 : a.tmps.getD 2 undef = .pointer (some ⟨b, 0, none⟩)) (h3 : a.tmps.getD 3 undef = .int .i64 e) (h4 : a.tmps.getD 4 undef = .int .i64 p) (hd : a.defers = [])
    (hb : Blk W b (patCells q x y) 59) (hQ : Q (.returned (.tuple #[patVal q x y, .int .i64 e, .int .i64 p])) W) : bodyPost Tryz.prog Tryz.f20 Q Exit.ret a W := by
  obtain ⟨r0, r1, r2, r3, r4, r5, r6, r7, r8, r9⟩ := hb.ten
  have s2 : a.tmps[2]?.getD undef = .pointer (some ⟨b, 0, none⟩) := by simpa using h2
  have s3 : a.tmps[3]?.getD undef = .int .i64 e := by simpa using h3
  have s4 : a.tmps[4]?.getD undef = .int .i64 p := by simpa using h4
  exact bodyPost_ret (v := .tuple #[patVal q x y, .int .i64 e, .int .i64 p]) (by simp [results, Tryz.results20, go_sem, s2, s3, s4, r0, r1, r2, r3, r4, r5, r6, r7, r8, r9, patVal, patCells]) hd hQ

/-- of a text that is too long -/
theorem read_long (s : ByteArray) (w : World) (hs : 300 < s.size) (hm : s.size ≤ maxLen) :
    Calls Tryz.prog 20 #[.string s] w fun e w' => e = .returned (.tuple #[patVal zeroNv 0 none, .int .i64 1, .int .i64 0]) ∧ Kept Nil w w' := by
  have hb : (300 : Int) < (s.size : Int) := by omega
  go_enter Tryz.func20, Tryz.ntmps20
  go_wp2_with fail
  exact bodyPost_ret (v := .tuple #[patVal zeroNv 0 none, .int .i64 1, .int .i64 0]) (by simp [results, Tryz.results20, go_sem, patVal, patCells, zeroNv]) rfl ⟨rfl, (Kept.refl _ _).alloc _⟩

set_option maxRecDepth 100000 in
set_option maxHeartbeats 4000000 in
theorem read_short (s : ByteArray) (w : World) (hs : s.size ≤ 300) :
    Calls Tryz.prog 20 #[.string s] w fun e w' => ∃ (g : RG) (q : Nv) (x : Int) (y : Option Nat) (st : RS), g.rs = (scanFrom s (s.size + 1) 0).map (·.2) ∧ g.ps = (scanFrom s (s.size + 1) 0).map (fun p => (p.1 : Int)) ++ [(s.size : Int)] ∧
      e = .returned (.tuple #[patVal q x y, .int .i64 (pick (finFlt g s)).1, .int .i64 (pick (finFlt g s)).2]) ∧ Kept Nil w w' ∧ st = (pWhole g (st0 s)).1 ∧
      ((pick (finFlt g s)).1 = 0 → x = st.groups ∧ y = some g.bn ∧ RdAt w' g false { st with flt := finFlt g s } ∧ PTAt w' w.heap.size w'.heap.size q (pWhole g (st0 s)).2 (cWhole g (st0 s)) ∧ ∀ i, g.use i → w.heap.size ≤ i) := by
  have hb : ¬ (300 : Int) < (s.size : Int) := by omega
  go_enter Tryz.func20, Tryz.ntmps20
  go_wp2_with fail
  refine (newReader_rd s (w.alloc (.cells (patCells zeroNv 0 none) 59)) hs).mono ?_
  rintro e w1 ⟨g, rfl, hgr, hgp, hR, huse, hk1⟩
  go_wp2_with fail
  refine (whole_rd hR).mono ?_
  rintro e w2 ⟨q, rfl, h2, hp2', hk2⟩
  have hp2 : PTAt w2 w1.heap.size w2.heap.size q (pWhole g (st0 s)).2 (cWhole g (st0 s)) := hp2'
  clear hp2'
  have bq2 := Blk.new w2 q.cells 56
  have ka2 : Kept Nil w2 (w2.alloc (.cells q.cells 56)) := (Kept.refl _ _).alloc _
  have hp2a := hp2.kept ka2 (fun _ _ _ hx => hx) (Nat.le_refl _)
  have hsz : Calls Tryz.prog 29 #[Nv.val q] (w2.alloc (.cells q.cells 56)) fun e w'' => e = .returned (.int .i64 (pWhole g (st0 s)).2.size) ∧ Kept Nil (w2.alloc (.cells q.cells 56)) w'' := size_rd hp2a (by simp) _ (Kept.refl _ _)
  simp only [Nv.val, Nv.cells] at hsz ⊢
  go_wp2_with fail
  refine hsz.mono ?_
  rintro e w3 ⟨rfl, hk3⟩
  have h3 := (h2.nil ka2).nil hk3
  have bq3 := bq2.kept hk3 (fun hx => hx)
  have hp3 := hp2a.kept hk3 (fun _ _ _ hx => hx) (by simp)
  have hk24' : Kept g.own w1 w3 := hk2.trans ((ka2.trans hk3).mono (fun _ hx => hx.elim))
  have s12 := hk2.size
  clear hsz hp2 hp2a bq2 h2
  by_cases hbig : 1000 < (pWhole g (st0 s)).2.size
  · have hfin : finFlt g s = (pWhole g (st0 s)).1.flt.note 7 0 := by simp [finFlt, hbig]
    go_wp2_with fail
    refine (note_any h3 7 0 (by omega) (by omega)).mono ?_
    rintro e w4 ⟨rfl, h4', hk4⟩
    have h4 : RdAt w4 g false { (pWhole g (st0 s)).1 with flt := finFlt g s } := by rw [hfin]; exact h4'
    have hk24 := hk24'.trans hk4
    have hnq : ∀ i, w1.heap.size ≤ i → ¬ g.own i := fun i hi ho => by have := hR.own_lt ho; omega
    have bq4 := bq3.kept hk4 (hnq _ s12)
    have s23 := hk3.size
    have hp4 := hp3.kept hk4 (fun i hi _ => hnq i hi) (by simp at s23; omega)
    have s24' : w2.heap.size ≤ w4.heap.size := Nat.le_of_lt bq4.lt
    clear h4' hk4 hk24' h3 hfin bq3 hp3
    have kw4 : Kept Nil w w4 := ((((Kept.refl Nil w).alloc (.cells (patCells zeroNv 0 none) 59)).trans hk1).trans' (hk24) (fun i hi ho => by
      have := huse i (own_use ho)
      simp at this; omega))
    have hwu : ∀ i, g.use i → w.heap.size + 1 ≤ i := fun i hi => by have := huse i hi; simpa using this
    have hnw : ¬ g.own w.heap.size := fun ho => by have := hwu _ (own_use ho); omega
    have b4 : Blk w4 w.heap.size (patCells zeroNv 0 none) 59 := ((Blk.new w (patCells zeroNv 0 none) 59).kept hk1 (fun hx => hx)).kept hk24 hnw
    have s1 : w.heap.size + 1 ≤ w1.heap.size := by have := hk1.size; simpa using this
    have s24 := hk24.size
    have hq1 : w2.heap.size < w4.heap.size := bq4.lt
    clear hk1 hk2 hk3 hk24
    obtain ⟨D, hD, hF⟩ := h4.fm
    generalize hFF : finFlt g s = F at *
    simp only at hF
    go_wp2_with fail
    go_loopg [7] 6 (fun kk v wr => ∃ j : Int, v = .int .i64 j ∧ 2 ≤ j ∧ j ≤ 8 ∧ kk = (8 - j).toNat ∧ Hid (∀ i, 2 ≤ i → i < j → F.get i = none) ∧ wr = w4)
    case atStart => exact ⟨2, rfl, by omega, by omega, rfl, fun i h1 h2 => by omega, rfl⟩
    case round =>
      obtain ⟨j, rfl, hj2, hj8, rfl, HN, rfl⟩ := hrel
      have c3 : wr.cell? ⟨g.b, 3, none⟩ = some (.map (some g.bf)) := h4.blk.cell 3
      obtain ⟨e0, e1, e2, e3, e4, e5, e6, e7, e8, e9⟩ := b4.ten
      obtain ⟨f0, f1, f2, f3, f4, f5, f6, f7⟩ := b4.thaw
      have f8 : wr.frozen? ⟨w.heap.size, 8, none⟩ = false := b4.frozen 8
      have f9 : wr.frozen? ⟨w.heap.size, 9, none⟩ = false := b4.frozen 9
      simp only [zeroNv] at e0 e1 e2 e3 e4 e5 e6 e7 e8 e9
      by_cases hj : j ≤ 7
      · have hkey : keyOf Tryz.prog 27 (.int .i64 j) = some (.int .i64 j) := keyOf_int_mk Tryz.underlying27 (WalkArith.wf_i64 (by omega))
        cases hget : F.get j with
        | none =>
          have hh : has D (.int .i64 j) = false := by rw [hF.has, hget]; rfl
          go_wp2_with (at_lookup; refine wpList_lookup_own_ok_int _ rfl _ _ 78 rfl 27 3 .i64 lawErr Tryz.underlying78 Tryz.underlying3 (zeroInt _) g.bf _ D rfl hD _ _ rfl hkey ?_; intro c hat hwc)
          go_roundg (8 - (j + 1)).toNat
          case measure => omega
          case rel =>
            refine ⟨j + 1, rfl, by omega, by omega, rfl, ?_, rfl⟩
            intro i h1 h2
            by_cases hi : i = j
            · rw [hi]; exact hget
            · exact HN.out i h1 (by omega)
        | some pl =>
          have hh : has D (.int .i64 j) = true := by rw [hF.has, hget]; rfl
          have hval := hF.val j pl hget
          have hpk := pick_hit hj2 hj HN.out hget
          have HPK : Hid (pick F = (j, pl)) := hpk
          have HVAL : Hid (D.atKey (.int .i64 j) (.lit (.int .i64 0)) = .lit (.int .i64 pl)) := hval
          clear hpk hval
          go_wp2_with (at_lookup; refine wpList_lookup_own_ok_int _ rfl _ _ 78 rfl 27 3 .i64 lawErr Tryz.underlying78 Tryz.underlying3 (zeroInt _) g.bf _ D rfl hD _ _ rfl hkey ?_; intro c hat hwc)
          have kz := putPat_kept wr w.heap.size zeroNv 0 none
          have kz2 := kw4.trans' kz (fun i hi he => by omega)
          have hcp : c = pl := by
            have h1 := hat
            rw [HVAL.out] at h1
            simpa using h1.symm
          have bz := putPat_blk (x := 0) (y := none) b4 zeroNv
          simp only [putPat, putNv, zeroNv] at bz kz2
          refine pat_ret (b := w.heap.size) (q := zeroNv) (x := 0) (y := none) (e := j) (p := c) rfl rfl rfl rfl bz ?_
          refine ⟨g, zeroNv, 0, none, _, hgr, hgp, ?_, kz2, rfl, ?_⟩
          · rw [hFF, HPK.out, hcp]
          · rw [hFF, HPK.out]; intro h0; simp only at h0; omega
      · have ej : j = 8 := by omega
        have hpk := pick_none (F := F) (fun i h1 h2 => HN.out i h1 (by omega))
        have HPK : Hid (pick F = (0, 0)) := hpk
        clear hpk HN
        subst ej
        have c5 : wr.cell? ⟨g.b, 5, none⟩ = some (.int .i64 (pWhole g (st0 s)).1.groups) := h4.blk.cell 5
        have c6 : wr.cell? ⟨g.b, 6, none⟩ = some (.map (some g.bn)) := h4.blk.cell 6
        obtain ⟨d0, d1, d2, d3, d4, d5, d6, d7⟩ := bq4.eight
        go_wp2_with fail
        go_region
        all_goals go_wp2_with fail
        all_goals
          have kz := (putPat_kept wr w.heap.size q (pWhole g (st0 s)).1.groups (some g.bn)).drew
          have kz2 := kw4.trans' kz (fun i hi he => by omega)
          have bz := (putPat_blk (x := (pWhole g (st0 s)).1.groups) (y := some g.bn) b4 q).drew
          have szz := kz.size
          have fin1 := h4.kept kz (fun i hi he => by have := hwu i hi; omega)
          have fin2 : PTAt (putPat wr w.heap.size q (pWhole g (st0 s)).1.groups (some g.bn)).drew w.heap.size (putPat wr w.heap.size q (pWhole g (st0 s)).1.groups (some g.bn)).drew.heap.size q (pWhole g (st0 s)).2 (cWhole g (st0 s)) := (hp4.kept kz (fun i h1 _ he => by omega) s24').widen (by omega) (by omega)
          simp only [putPat, putNv] at bz kz2 fin1 fin2
          refine pat_ret (b := w.heap.size) (q := q) (x := (pWhole g (st0 s)).1.groups) (y := some g.bn) (e := 0) (p := 0) rfl rfl rfl rfl bz ?_
          refine ⟨g, q, (pWhole g (st0 s)).1.groups, some g.bn, _, hgr, hgp, ?_, kz2, rfl, ?_⟩
          · rw [hFF, HPK.out]
          · intro _
            refine ⟨rfl, rfl, ?_, fin2, fun i hi => by have := hwu i hi; omega⟩
            rw [hFF]
            exact fin1
  · have hfin : finFlt g s = (pWhole g (st0 s)).1.flt := by simp [finFlt, hbig]
    have h4 : RdAt w3 g false { (pWhole g (st0 s)).1 with flt := finFlt g s } := by rw [hfin]; exact h3
    obtain ⟨w4, hw4⟩ : ∃ w4, w4 = w3 := ⟨_, rfl⟩
    have hk24 := hk24'
    have bq4 := bq3
    have hp4 := hp3
    rw [← hw4] at h4 hk24 bq4 hp4 ⊢
    have s24' : w2.heap.size ≤ w4.heap.size := Nat.le_of_lt bq4.lt
    clear hk24' h3 hfin hw4 bq3 hp3
    have kw4 : Kept Nil w w4 := ((((Kept.refl Nil w).alloc (.cells (patCells zeroNv 0 none) 59)).trans hk1).trans' (hk24) (fun i hi ho => by
      have := huse i (own_use ho)
      simp at this; omega))
    have hwu : ∀ i, g.use i → w.heap.size + 1 ≤ i := fun i hi => by have := huse i hi; simpa using this
    have hnw : ¬ g.own w.heap.size := fun ho => by have := hwu _ (own_use ho); omega
    have b4 : Blk w4 w.heap.size (patCells zeroNv 0 none) 59 := ((Blk.new w (patCells zeroNv 0 none) 59).kept hk1 (fun hx => hx)).kept hk24 hnw
    have s1 : w.heap.size + 1 ≤ w1.heap.size := by have := hk1.size; simpa using this
    have s24 := hk24.size
    have hq1 : w2.heap.size < w4.heap.size := bq4.lt
    clear hk1 hk2 hk3 hk24
    obtain ⟨D, hD, hF⟩ := h4.fm
    generalize hFF : finFlt g s = F at *
    simp only at hF
    go_wp2_with fail
    go_loopg [7] 6 (fun kk v wr => ∃ j : Int, v = .int .i64 j ∧ 2 ≤ j ∧ j ≤ 8 ∧ kk = (8 - j).toNat ∧ Hid (∀ i, 2 ≤ i → i < j → F.get i = none) ∧ wr = w4)
    case atStart => exact ⟨2, rfl, by omega, by omega, rfl, fun i h1 h2 => by omega, rfl⟩
    case round =>
      obtain ⟨j, rfl, hj2, hj8, rfl, HN, rfl⟩ := hrel
      have c3 : wr.cell? ⟨g.b, 3, none⟩ = some (.map (some g.bf)) := h4.blk.cell 3
      obtain ⟨e0, e1, e2, e3, e4, e5, e6, e7, e8, e9⟩ := b4.ten
      obtain ⟨f0, f1, f2, f3, f4, f5, f6, f7⟩ := b4.thaw
      have f8 : wr.frozen? ⟨w.heap.size, 8, none⟩ = false := b4.frozen 8
      have f9 : wr.frozen? ⟨w.heap.size, 9, none⟩ = false := b4.frozen 9
      simp only [zeroNv] at e0 e1 e2 e3 e4 e5 e6 e7 e8 e9
      by_cases hj : j ≤ 7
      · have hkey : keyOf Tryz.prog 27 (.int .i64 j) = some (.int .i64 j) := keyOf_int_mk Tryz.underlying27 (WalkArith.wf_i64 (by omega))
        cases hget : F.get j with
        | none =>
          have hh : has D (.int .i64 j) = false := by rw [hF.has, hget]; rfl
          go_wp2_with (at_lookup; refine wpList_lookup_own_ok_int _ rfl _ _ 78 rfl 27 3 .i64 lawErr Tryz.underlying78 Tryz.underlying3 (zeroInt _) g.bf _ D rfl hD _ _ rfl hkey ?_; intro c hat hwc)
          go_roundg (8 - (j + 1)).toNat
          case measure => omega
          case rel =>
            refine ⟨j + 1, rfl, by omega, by omega, rfl, ?_, rfl⟩
            intro i h1 h2
            by_cases hi : i = j
            · rw [hi]; exact hget
            · exact HN.out i h1 (by omega)
        | some pl =>
          have hh : has D (.int .i64 j) = true := by rw [hF.has, hget]; rfl
          have hval := hF.val j pl hget
          have hpk := pick_hit hj2 hj HN.out hget
          have HPK : Hid (pick F = (j, pl)) := hpk
          have HVAL : Hid (D.atKey (.int .i64 j) (.lit (.int .i64 0)) = .lit (.int .i64 pl)) := hval
          clear hpk hval
          go_wp2_with (at_lookup; refine wpList_lookup_own_ok_int _ rfl _ _ 78 rfl 27 3 .i64 lawErr Tryz.underlying78 Tryz.underlying3 (zeroInt _) g.bf _ D rfl hD _ _ rfl hkey ?_; intro c hat hwc)
          have kz := putPat_kept wr w.heap.size zeroNv 0 none
          have kz2 := kw4.trans' kz (fun i hi he => by omega)
          have hcp : c = pl := by
            have h1 := hat
            rw [HVAL.out] at h1
            simpa using h1.symm
          have bz := putPat_blk (x := 0) (y := none) b4 zeroNv
          simp only [putPat, putNv, zeroNv] at bz kz2
          refine pat_ret (b := w.heap.size) (q := zeroNv) (x := 0) (y := none) (e := j) (p := c) rfl rfl rfl rfl bz ?_
          refine ⟨g, zeroNv, 0, none, _, hgr, hgp, ?_, kz2, rfl, ?_⟩
          · rw [hFF, HPK.out, hcp]
          · rw [hFF, HPK.out]; intro h0; simp only at h0; omega
      · have ej : j = 8 := by omega
        have hpk := pick_none (F := F) (fun i h1 h2 => HN.out i h1 (by omega))
        have HPK : Hid (pick F = (0, 0)) := hpk
        clear hpk HN
        subst ej
        have c5 : wr.cell? ⟨g.b, 5, none⟩ = some (.int .i64 (pWhole g (st0 s)).1.groups) := h4.blk.cell 5
        have c6 : wr.cell? ⟨g.b, 6, none⟩ = some (.map (some g.bn)) := h4.blk.cell 6
        obtain ⟨d0, d1, d2, d3, d4, d5, d6, d7⟩ := bq4.eight
        go_wp2_with fail
        go_region
        all_goals go_wp2_with fail
        all_goals
          have kz := (putPat_kept wr w.heap.size q (pWhole g (st0 s)).1.groups (some g.bn)).drew
          have kz2 := kw4.trans' kz (fun i hi he => by omega)
          have bz := (putPat_blk (x := (pWhole g (st0 s)).1.groups) (y := some g.bn) b4 q).drew
          have szz := kz.size
          have fin1 := h4.kept kz (fun i hi he => by have := hwu i hi; omega)
          have fin2 : PTAt (putPat wr w.heap.size q (pWhole g (st0 s)).1.groups (some g.bn)).drew w.heap.size (putPat wr w.heap.size q (pWhole g (st0 s)).1.groups (some g.bn)).drew.heap.size q (pWhole g (st0 s)).2 (cWhole g (st0 s)) := (hp4.kept kz (fun i h1 _ he => by omega) s24').widen (by omega) (by omega)
          simp only [putPat, putNv] at bz kz2 fin1 fin2
          refine pat_ret (b := w.heap.size) (q := q) (x := (pWhole g (st0 s)).1.groups) (y := some g.bn) (e := 0) (p := 0) rfl rfl rfl rfl bz ?_
          refine ⟨g, q, (pWhole g (st0 s)).1.groups, some g.bn, _, hgr, hgp, ?_, kz2, rfl, ?_⟩
          · rw [hFF, HPK.out]
          · intro _
            refine ⟨rfl, rfl, ?_, fin2, fun i hi => by have := hwu i hi; omega⟩
            rw [hFF]
            exact fin1
end Go.Proofs.YtnbfddjaonlmaaaGreatDoor
namespace Go.Proofs.YtnbfddjaonlmaaaGreatDoor

def LeF (a b : Flt) : Prop := (b.form = none → a.form = none) ∧ (b.rep = none → a.rep = none) ∧ (b.cls = none → a.cls = none)
def CleanF (a : Flt) : Prop := a.form = none ∧ a.rep = none ∧ a.cls = none
theorem LeF.refl (a : Flt) : LeF a a := ⟨fun h => h, fun h => h, fun h => h⟩
theorem LeF.trans {a b c : Flt} (h : LeF a b) (h' : LeF b c) : LeF a c := ⟨fun x => h.1 (h'.1 x), fun x => h.2.1 (h'.2.1 x), fun x => h.2.2 (h'.2.2 x)⟩
theorem LeF.clean {a b : Flt} (h : LeF a b) (hb : CleanF b) : CleanF a := ⟨h.1 hb.1, h.2.1 hb.2.1, h.2.2 hb.2.2⟩
theorem LeF.note (a : Flt) (e p : Int) : LeF a (a.note e p) := by
  unfold Flt.note Flt.put
  (repeat' split) <;> first | exact LeF.refl _ | (refine ⟨fun h => ?_, fun h => ?_, fun h => ?_⟩ <;> first | exact h | simp at h)
theorem note_rep {a : Flt} {p : Int} : (a.note 4 p).rep ≠ none := by
  cases h : a.rep with
  | none => simp [Flt.note, Flt.put, Flt.get, h]
  | some x => simp [Flt.note, Flt.get, h]
theorem note_cls {a : Flt} {p : Int} : (a.note 5 p).cls ≠ none := by
  cases h : a.cls with
  | none => simp [Flt.note, Flt.put, Flt.get, h]
  | some x => simp [Flt.note, Flt.get, h]
theorem note_form0 {a : Flt} {p : Int} : (a.note 3 p).form ≠ none := by
  cases h : a.form with
  | none => simp [Flt.note, Flt.put, Flt.get, h]
  | some x => simp [Flt.note, Flt.get, h]

theorem refuse_le (g : RG) (st : RS) : LeF st.flt (refuseOf g st).flt := LeF.note _ _ _
theorem need_le (g : RG) (l : List UInt8) (st : RS) : LeF st.flt (needSt g l st).flt := by
  unfold needSt
  split
  · exact LeF.refl _
  · exact refuse_le g st
theorem needOther_le (g : RG) (l : List UInt8) (st : RS) : LeF st.flt (needOtherSt g l st).flt := by
  unfold needOtherSt
  split
  · exact refuse_le g st
  · exact LeF.refl _
theorem take_le (g : RG) (l : List UInt8) (st : RS) : LeF st.flt (takeOf g l st).flt := by
  unfold takeOf
  split <;> exact LeF.refl _
theorem pDigit_le (g : RG) (st : RS) : LeF st.flt (pDigit g st).1.flt := by
  unfold pDigit
  split
  · exact LeF.refl _
  · exact refuse_le g st
theorem pNumber_le (g : RG) (st : RS) : LeF st.flt (pNumber g st).1.flt := by
  unfold pNumber
  split
  · exact (pDigit_le g st).trans (pDigit_le g _)
  · exact pDigit_le g st
theorem pHigh_le (g : RG) (st : RS) : LeF st.flt (pHigh g st).1.flt := by
  unfold pHigh
  split
  · exact LeF.refl _
  · exact pNumber_le g st
theorem pBounds_le (g : RG) (st : RS) : LeF st.flt (pBounds g st).1.flt := by
  unfold pBounds
  split
  · exact ((pNumber_le g st).trans (pHigh_le g { (pNumber g st).1 with next := (pNumber g st).1.next + 1 })).trans (need_le g _ _)
  · exact (pNumber_le g st).trans (need_le g _ _)
theorem pRepeated_le (g : RG) (a : PT) (st : RS) : LeF st.flt (pRepeated g a st).1.flt := by
  unfold pRepeated
  split
  · exact take_le g _ { st with next := st.next + 1 }
  · split
    · exact take_le g _ { st with next := st.next + 1 }
    · split
      · exact take_le g _ { st with next := st.next + 1 }
      · split
        · have h1 := pBounds_le g { st with next := st.next + 1 }
          simp only
          refine LeF.trans ?_ (take_le g _ _)
          split
          · exact h1.trans (LeF.note _ _ _)
          · exact h1
        · exact LeF.refl _
theorem pOne_le (g : RG) (e : Bool) (st : RS) : LeF st.flt (pOne g e st).1.flt := by
  unfold pOne
  cases e
  · exact needOther_le g _ st
  · exact need_le g _ st
theorem pOne'_le (g : RG) (st : RS) : LeF st.flt (pOne' g st).1.flt := (take_le g _ st).trans (pOne_le g _ _)
theorem pUpto_le (g : RG) (p : Int) (x : RS × Int) : LeF x.1.flt (pUpto g p x).flt := by
  unfold pUpto
  split
  · have h1 := pOne'_le g { x.1 with next := x.1.next + 1 }
    split
    · exact h1.trans (LeF.note _ _ _)
    · exact h1
  · exact LeF.refl _
theorem pItem_le (g : RG) (st : RS) : LeF st.flt (pItem g st).flt := by
  unfold pItem
  split
  · exact LeF.refl _
  · exact (pOne'_le g st).trans (pUpto_le g _ _)
theorem pItems_le (g : RG) : ∀ (m : Nat) (st : RS), LeF st.flt (pItems g m st).flt
  | 0, st => LeF.refl _
  | m + 1, st => by
    unfold pItems
    split
    · exact LeF.refl _
    · exact (pItem_le g st).trans (pItems_le g m _)
theorem pClass_le (g : RG) (st : RS) : LeF st.flt (pClass g st).flt := (((take_le g _ st).trans (pItem_le g _)).trans (pItems_le g _ _)).trans (need_le g _ _)
theorem pLetters_le (g : RG) (first : Nat) : ∀ (m : Nat) (st : RS), LeF st.flt (pLetters g first m st).flt
  | 0, st => LeF.refl _
  | m + 1, st => by
    unfold pLetters
    split
    · exact pLetters_le g first m { st with next := st.next + 1 }
    · exact LeF.refl _
theorem pNamed_le (g : RG) (first : Nat) (st : RS) : LeF st.flt (pNamed g first st).flt := by
  unfold pNamed
  split
  · exact LeF.note _ _ _
  · exact LeF.refl _
theorem pName_le (g : RG) (st : RS) : LeF st.flt (pName g st).flt := (((need_le g _ st).trans (pLetters_le g _ _ _)).trans (pNamed_le g _ _)).trans (need_le g _ _)
theorem pHead_le (g : RG) (st : RS) : LeF st.flt (pHead g st).flt := by
  unfold pHead
  split
  · exact LeF.refl _
  · split
    · exact pName_le g { st with next := st.next + 2, groups := st.groups + 1 }
    · exact (take_le g _ { st with next := st.next + 1 }).trans (need_le g _ _)
theorem pAtom_le (g : RG) (alt : RS → RS × PT) (halt : ∀ st, LeF st.flt (alt st).1.flt) (st : RS) : LeF st.flt (pAtom g alt st).1.flt := by
  unfold pAtom
  split
  · exact ((pHead_le g { st with next := st.next + 1 }).trans (halt _)).trans (need_le g _ _)
  · split
    · exact pClass_le g { st with next := st.next + 1 }
    · split
      · exact need_le g _ { st with next := st.next + 1 }
      · split
        · exact LeF.refl _
        · exact needOther_le g _ st
theorem pSeqs_le (g : RG) (alt : RS → RS × PT) (halt : ∀ st, LeF st.flt (alt st).1.flt) : ∀ (m : Nat) (st : RS) (acc : List PT), LeF st.flt (pSeqs g alt m st acc).1.flt
  | 0, st, acc => LeF.refl _
  | m + 1, st, acc => by
    unfold pSeqs
    split
    · exact LeF.refl _
    · exact ((pAtom_le g alt halt st).trans (pRepeated_le g _ _)).trans (pSeqs_le g alt halt m _ _)
theorem pSeq_le (g : RG) (alt : RS → RS × PT) (halt : ∀ st, LeF st.flt (alt st).1.flt) (st : RS) : LeF st.flt (pSeq g alt st).1.flt := pSeqs_le g alt halt _ _ _
theorem pAlts_le (g : RG) (alt : RS → RS × PT) (halt : ∀ st, LeF st.flt (alt st).1.flt) : ∀ (m : Nat) (st : RS) (acc : List PT), LeF st.flt (pAlts g alt m st acc).1.flt
  | 0, st, acc => LeF.refl _
  | m + 1, st, acc => by
    unfold pAlts
    split
    · exact (pSeq_le g alt halt { st with next := st.next + 1 }).trans (pAlts_le g alt halt m _ _)
    · exact LeF.refl _
theorem pAlt_le (g : RG) : ∀ (k : Nat) (st : RS), LeF st.flt (pAlt g k st).1.flt
  | 0, st => LeF.refl _
  | k + 1, st => by
    unfold pAlt
    exact (pSeq_le g _ (pAlt_le g k) st).trans (pAlts_le g _ (pAlt_le g k) _ _ _)

/-! ## pieces -/
theorem oks_append : ∀ {a b : List CT}, CT.oks a → CT.oks b → CT.oks (a ++ b)
  | [], b, _, hb => hb
  | c :: a, b, ha, hb => by
    unfold CT.oks at ha
    show CT.oks (c :: (a ++ b))
    unfold CT.oks
    exact ⟨ha.1, oks_append ha.2 hb⟩
theorem oks_one {c : CT} (h : c.ok) : CT.oks [c] := by unfold CT.oks; exact ⟨h, by unfold CT.oks; trivial⟩
theorem leaf_ok (sp : Spans) (fo nt : Bool) : (cLeaf sp fo nt).ok := by
  unfold cLeaf CT.ok CT.oks
  simp
theorem edge_ok (e : Int) : (cEdge e).ok := by
  unfold cEdge CT.ok CT.oks
  simp
theorem digit_range (g : RG) (st : RS) : 0 ≤ (pDigit g st).2 ∧ (pDigit g st).2 ≤ 9 := by
  unfold pDigit
  split
  · rename_i h
    have := inSet_digits h
    simp only
    omega
  · simp
theorem number_range (g : RG) (st : RS) : 0 ≤ (pNumber g st).2 ∧ (pNumber g st).2 ≤ 99 := by
  have h1 := digit_range g st
  unfold pNumber
  split
  · have h2 := digit_range g (pDigit g st).1
    simp only
    omega
  · omega
theorem high_range (g : RG) (st : RS) : -1 ≤ (pHigh g st).2 ∧ (pHigh g st).2 ≤ 99 := by
  have h1 := number_range g st
  unfold pHigh
  split
  · simp
  · omega
theorem bounds_range (g : RG) (st : RS) : (0 ≤ (pBounds g st).2.1 ∧ (pBounds g st).2.1 ≤ 99) ∧ (-1 ≤ (pBounds g st).2.2 ∧ (pBounds g st).2.2 ≤ 99) := by
  have h1 := number_range g st
  have h2 := high_range g { (pNumber g st).1 with next := (pNumber g st).1.next + 1 }
  unfold pBounds
  split
  · exact ⟨h1, h2⟩
  · simp only; omega
theorem times_ok {a : CT} (ha : a.ok) {lo hi : Int} (lz : Bool) (h : 0 ≤ lo ∧ lo ≤ 20 ∧ -1 ≤ hi ∧ hi ≤ 20 ∧ (hi = -1 ∨ lo ≤ hi)) : (cTimes a lo hi lz).ok := by
  unfold cTimes CT.ok
  exact ⟨by omega, by simp, by simp, fun _ => h, oks_one ha⟩
theorem repeated_ok (g : RG) {a : CT} (ha : a.ok) (p : PT) (st : RS) (hc : CleanF (pRepeated g p st).1.flt) : (cRepeated g a st).ok := by
  unfold pRepeated at hc
  unfold cRepeated
  split
  · exact times_ok ha _ (by omega)
  · rename_i h1
    rw [if_neg h1] at hc
    split
    · exact times_ok ha _ (by omega)
    · rename_i h2
      rw [if_neg h2] at hc
      split
      · exact times_ok ha _ (by omega)
      · rename_i h3
        rw [if_neg h3] at hc
        split
        · rename_i h4
          rw [if_pos h4] at hc
          have hb := bounds_range g { st with next := st.next + 1 }
          have hc2 := (take_le g _ _).clean hc
          refine times_ok ha _ ?_
          by_cases hx : (pBounds g { st with next := st.next + 1 }).2.1 > 20 ∨ (pBounds g { st with next := st.next + 1 }).2.2 > 20 ∨ ((pBounds g { st with next := st.next + 1 }).2.2 ≠ -1 ∧ (pBounds g { st with next := st.next + 1 }).2.2 < (pBounds g { st with next := st.next + 1 }).2.1)
          · rw [if_pos hx] at hc2
            exact absurd hc2.2.1 note_rep
          · omega
        · exact ha
theorem atom_ok (g : RG) (alt : RS → RS × PT) (calt : Bool → RS → CT) (hcalt : ∀ fo st, CleanF (alt st).1.flt → (calt fo st).ok) (fo : Bool) (st : RS) (hc : CleanF (pAtom g alt st).1.flt) : (cAtom g calt fo st).ok := by
  unfold pAtom at hc
  unfold cAtom
  split
  · rename_i h1
    rw [if_pos h1] at hc
    have hin := (need_le g _ _).clean (show CleanF (needSt g lRound (alt (pHead g { st with next := st.next + 1 })).1).flt from hc)
    have : ∀ (fo : Bool) (gr : Int), (CT.node 2 [] false false 0 gr 0 0 false [calt fo (pHead g { st with next := st.next + 1 })]).ok := by
      intro fo gr
      unfold CT.ok
      exact ⟨by omega, by simp, by simp, by simp, oks_one (hcalt _ _ hin)⟩
    unfold cBracket
    split
    · exact this _ _
    · split
      · exact this _ _
      · exact this _ _
  · split
    · exact leaf_ok _ _ _
    · split
      · unfold cEscape
        (repeat' split) <;> first | exact leaf_ok _ _ _ | exact edge_ok _
      · split
        · unfold cSingle
          split <;> first | exact leaf_ok _ _ _ | exact edge_ok _
        · exact leaf_ok _ _ _
theorem seqs_ok (g : RG) (alt : RS → RS × PT) (halt : ∀ st, LeF st.flt (alt st).1.flt) (calt : Bool → RS → CT) (hcalt : ∀ fo st, CleanF (alt st).1.flt → (calt fo st).ok) (fo : Bool) : ∀ (m : Nat) (st : RS) (acc : List CT) (ps : List PT), CT.oks acc → CleanF (pSeqs g alt m st ps).1.flt → CT.oks (cSeqs g alt calt fo m st acc)
  | 0, st, acc, ps, ha, hc => ha
  | m + 1, st, acc, ps, ha, hc => by
    unfold pSeqs at hc
    unfold cSeqs
    split
    · exact ha
    · rename_i h1
      rw [if_neg h1] at hc
      have c1 := (pSeqs_le g alt halt m _ _).clean hc
      have c2 := (pRepeated_le g _ _).clean c1
      exact seqs_ok g alt halt calt hcalt fo m _ _ _ (oks_append ha (oks_one (repeated_ok g (atom_ok g alt calt hcalt fo st c2) _ _ c1))) hc
theorem seq_ok (g : RG) (alt : RS → RS × PT) (halt : ∀ st, LeF st.flt (alt st).1.flt) (calt : Bool → RS → CT) (hcalt : ∀ fo st, CleanF (alt st).1.flt → (calt fo st).ok) (fo : Bool) (st : RS) (hc : CleanF (pSeq g alt st).1.flt) : (cSeq g alt calt fo st).ok := by
  have := seqs_ok g alt halt calt hcalt fo _ st [] [] (by unfold CT.oks; trivial) hc
  unfold cSeq CT.ok
  exact ⟨by omega, by simp, by simp, by simp, this⟩
theorem alts_ok (g : RG) (alt : RS → RS × PT) (halt : ∀ st, LeF st.flt (alt st).1.flt) (calt : Bool → RS → CT) (hcalt : ∀ fo st, CleanF (alt st).1.flt → (calt fo st).ok) (fo : Bool) : ∀ (m : Nat) (st : RS) (acc : List CT) (ps : List PT), CT.oks acc → acc ≠ [] → CleanF (pAlts g alt m st ps).1.flt → CT.oks (cAlts g alt calt fo m st acc) ∧ cAlts g alt calt fo m st acc ≠ []
  | 0, st, acc, ps, ha, hne, hc => ⟨ha, hne⟩
  | m + 1, st, acc, ps, ha, hne, hc => by
    unfold pAlts at hc
    unfold cAlts
    split
    · rename_i h1
      rw [if_pos h1] at hc
      have c1 := (pAlts_le g alt halt m _ _).clean hc
      exact alts_ok g alt halt calt hcalt fo m _ _ _ (oks_append ha (oks_one (seq_ok g alt halt calt hcalt fo _ c1))) (by simp) hc
    · exact ⟨ha, hne⟩
theorem calt_ok (g : RG) : ∀ (k : Nat) (fo : Bool) (st : RS), CleanF (pAlt g k st).1.flt → (cAlt g k fo st).ok
  | 0, fo, st, hc => leaf_ok _ _ _
  | k + 1, fo, st, hc => by
    unfold pAlt at hc
    have hle := pAlt_le g k
    have c1 := (pAlts_le g (pAlt g k) hle _ _ _).clean hc
    have h1 := seq_ok g (pAlt g k) hle (cAlt g k) (fun fo st => calt_ok g k fo st) fo st c1
    have h2 := alts_ok g (pAlt g k) hle (cAlt g k) (fun fo st => calt_ok g k fo st) fo _ _ _ _ (oks_one h1) (by simp) hc
    unfold cAlt CT.ok
    exact ⟨by omega, by simp, fun _ => h2.2, by simp, h2.1⟩
theorem whole_ok (g : RG) (st : RS) (hc : CleanF (pWhole g st).1.flt) : (cWhole g st).ok := by
  refine calt_ok g _ false st ?_
  unfold pWhole at hc
  split at hc
  · exact hc
  · exact (refuse_le g _).clean hc
end Go.Proofs.YtnbfddjaonlmaaaGreatDoor
