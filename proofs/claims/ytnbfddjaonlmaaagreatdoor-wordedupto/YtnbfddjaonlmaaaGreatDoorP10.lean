/- The reader of the program: repeated. -/
import Derived.Test.YtnbfddjaonlmaaaGreatDoorP09
namespace Go.Proofs.YtnbfddjaonlmaaaGreatDoor
open Go.RowKit Go.Maps
set_option linter.unusedVariables false
set_option maxRecDepth 100000

/-- the four blocks that 'repeated' lays at first -/
def repNv (b : Nat) (l h : Int) (lz : Bool) : Nv := oneNv 5 b 1 0 l h lz
def repW (w : World) (q : Nv) : World :=
  (((w.alloc (.cells q.cells 56)).alloc (.cells zeroNv.cells 56)).alloc (.cells q.cells 56)).alloc (.cells (repNv (w.heap.size + 1 + 1) 0 0 false).cells 56)
theorem repW_kept (w : World) (q : Nv) (S : Nat → Prop) : Kept S w (repW w q) := ((((Kept.refl S w).alloc _).alloc _).alloc _).alloc _
theorem repW_blk0 (w : World) (q : Nv) : Blk (repW w q) w.heap.size q.cells 56 := (((Blk.new w _ _).alloc _).alloc _).alloc _
theorem repW_blk1 (w : World) (q : Nv) : Blk (repW w q) (w.heap.size + 1) zeroNv.cells 56 := by
  have := ((Blk.new (w.alloc (.cells q.cells 56)) zeroNv.cells 56).alloc (.cells q.cells 56)).alloc (.cells (repNv (w.heap.size + 1 + 1) 0 0 false).cells 56)
  rw [size_alloc1] at this
  exact this
theorem repW_blk2 (w : World) (q : Nv) : Blk (repW w q) (w.heap.size + 1 + 1) q.cells 56 := by
  have := (Blk.new ((w.alloc (.cells q.cells 56)).alloc (.cells zeroNv.cells 56)) q.cells 56).alloc (.cells (repNv (w.heap.size + 1 + 1) 0 0 false).cells 56)
  rw [size_alloc1, size_alloc1] at this
  exact this
theorem repW_blk3 (w : World) (q : Nv) : Blk (repW w q) (w.heap.size + 1 + 1 + 1) (repNv (w.heap.size + 1 + 1) 0 0 false).cells 56 := by
  have := Blk.new (((w.alloc (.cells q.cells 56)).alloc (.cells zeroNv.cells 56)).alloc (.cells q.cells 56)) (repNv (w.heap.size + 1 + 1) 0 0 false).cells 56
  rw [size_alloc1, size_alloc1, size_alloc1] at this
  exact this
theorem repNv_set {w : World} {b b2 : Nat} {t : TypeId} (h : Blk w b (repNv b2 0 0 false).cells t) (l hh : Int) : Blk ((w.setCell ⟨b, 5, none⟩ (.int .i64 l)).setCell ⟨b, 6, none⟩ (.int .i64 hh)) b (repNv b2 l hh false).cells t := by
  have := (h.setCell 5 (.int .i64 l)).setCell 6 (.int .i64 hh)
  rw [show ((repNv b2 0 0 false).cells.setIfInBounds 5 (.int .i64 l)).setIfInBounds 6 (.int .i64 hh) = (repNv b2 l hh false).cells by simp [Nv.cells, repNv, oneNv]] at this
  exact this
/-- what 'repeated' leaves where there are times -/
theorem rep_close {w wz : World} {g : RG} {fo fo' : Bool} {st st' : RS} {q : Nv} {A : PT} {CA : CT} {lo hi : Nat} {low high : Int} {lz : Bool} (hR : RdAt w g fo st) (hz : RdAt wz g fo' st') (hp : PTAt w lo hi q A CA) (hhi : hi ≤ w.heap.size) (hlw : lo ≤ w.heap.size) (hown : ∀ i, g.own i → i < lo)
    (k1 : Kept g.own w wz) (b2 : Blk wz (w.heap.size + 1 + 1) q.cells 56) (hl : (-1 ≤ low ∧ low ≤ 99) ∧ (-1 ≤ high ∧ high ≤ 99)) :
    RdAt (putNv wz (w.heap.size + 1) (repNv (w.heap.size + 1 + 1) low high lz)) g fo' st' ∧
    PTAt (putNv wz (w.heap.size + 1) (repNv (w.heap.size + 1 + 1) low high lz)) lo (putNv wz (w.heap.size + 1) (repNv (w.heap.size + 1 + 1) low high lz)).heap.size (repNv (w.heap.size + 1 + 1) low high lz) (.node 4 [A] low high) (cTimes CA low high lz) ∧
    Kept g.own w (putNv wz (w.heap.size + 1) (repNv (w.heap.size + 1 + 1) low high lz)) := by
  have sz := putNv_size wz (w.heap.size + 1) (repNv (w.heap.size + 1 + 1) low high lz)
  have kq := putNv_kept wz (w.heap.size + 1) (repNv (w.heap.size + 1 + 1) low high lz)
  have blt := b2.lt
  have kk := k1.trans' kq (fun i hi he => by omega)
  refine ⟨hz.new hR kq (fun i hi => by omega), ?_, kk⟩
  exact PTAt.wrap (q := q) hp hhi kk (fun i hi => Or.inl (hown i hi)) (b2.kept kq (by omega)) (Nat.le_refl _) (by omega) ⟨by omega, by omega⟩ ⟨hl.1, hl.2, by omega⟩ (Or.inr ⟨rfl, rfl⟩)

/-- what 'repeated' leaves where there are none -/
theorem rep_close0 {w wz : World} {g : RG} {fo fo' : Bool} {st st' : RS} {q : Nv} {A : PT} {CA : CT} {lo hi : Nat} (hR : RdAt w g fo st) (hz : RdAt wz g fo' st') (hp : PTAt w lo hi q A CA) (hhi : hi ≤ w.heap.size) (hown : ∀ i, g.own i → i < lo)
    (k1 : Kept g.own w wz) :
    RdAt (putNv wz (w.heap.size + 1) q) g fo' st' ∧ PTAt (putNv wz (w.heap.size + 1) q) lo (putNv wz (w.heap.size + 1) q).heap.size q A CA ∧ Kept g.own w (putNv wz (w.heap.size + 1) q) := by
  have sz := putNv_size wz (w.heap.size + 1) q
  have kq := putNv_kept wz (w.heap.size + 1) q
  have s1 := k1.size
  have kk := k1.trans' kq (fun i hi he => by omega)
  exact ⟨hz.new hR kq (fun i hi => by omega), (hp.kept kk (fun i h1 _ hx => by have := hown i hx; omega) hhi).widen (Nat.le_refl _) (by omega), kk⟩

theorem pBounds_range (g : RG) (st : RS) : (0 ≤ (pBounds g st).2.1 ∧ (pBounds g st).2.1 ≤ 99) ∧ (-1 ≤ (pBounds g st).2.2 ∧ (pBounds g st).2.2 ≤ 99) := by
  have r1 := pNumber_range g st
  have r2 := pNumber_range g { (pNumber g st).1 with next := (pNumber g st).1.next + 1 }
  unfold pBounds
  split
  · unfold pHigh
    split
    · simp; omega
    · simp only at r2 ⊢; omega
  · simp only; omega

set_option maxHeartbeats 2000000 in
theorem repeated_star {w : World} {g : RG} {fo : Bool} {st : RS} {q : Nv} {A : PT} {CA : CT} {lo hi : Nat} (hR : RdAt w g fo st) (hp : PTAt w lo hi q A CA) (hhi : hi ≤ w.heap.size) (hlw : lo ≤ w.heap.size) (hown : ∀ i, g.own i → i < lo) (c1 : inSet lStar (seeOf g st) = true) :
    Calls Tryz.prog 68 #[.pointer (some ⟨g.b, 0, none⟩), Nv.val q] w fun e w' => ∃ q', e = .returned (Nv.val q') ∧ RdAt w' g fo (pRepeated g A st).1 ∧ PTAt w' lo w'.heap.size q' (pRepeated g A st).2 (cRepeated g CA st) ∧ Kept g.own w w' := by
  rw [show pRepeated g A st = (takeOf g lQuery { st with next := st.next + 1 }, .node 4 [A] 0 (-1)) from by unfold pRepeated; rw [if_pos c1], show cRepeated g CA st = cTimes CA 0 (-1) (inSet lQuery (seeOf g { st with next := st.next + 1 })) from by unfold cRepeated; rw [if_pos c1]]
  have hpr : 0 ≤ placeOf g st ∧ placeOf g st ≤ 300 := hR.prange st.next
  have hlen := hR.len
  have hnl := hR.next
  have kw := repW_kept w q g.own
  have hW := hR.nil (repW_kept w q Nil)
  have x0 := repW_blk0 w q
  have x1 := repW_blk1 w q
  have x2 := repW_blk2 w q
  have x3 := repW_blk3 w q
  have hnown : ∀ i, w.heap.size ≤ i → ¬ g.own i := fun i hi hx => by have := hR.own_lt hx; omega
  simp only [Nv.val, Nv.cells]
  go_enter Tryz.func68, Tryz.ntmps68
  go_wp2_with fail
  refine (placeL hW).mono ?_
  rintro e w1 ⟨rfl, h1, hk1⟩
  have y0 := x0.kept hk1 (hnown _ (by omega))
  have y1 := x1.kept hk1 (hnown _ (by omega))
  have y2 := x2.kept hk1 (hnown _ (by omega))
  have y3 := x3.kept hk1 (hnown _ (by omega))
  have k0 := kw.trans hk1
  clear x0 x1 x2 x3 kw hW hk1
  go_wp2_with fail
  refine (takeY h1 _ lStar (by rfl) (by decide) c1).mono ?_
  rintro e w2 ⟨rfl, h2, hk2⟩
  have hkk := hk2
  have ka := k0.trans hkk
  have z0 := y0.kept hkk (hnown _ (by omega))
  have z1 := y1.kept hkk (hnown _ (by omega))
  have z2 := y2.kept hkk (hnown _ (by omega))
  have z3 := y3.kept hkk (hnown _ (by omega))
  clear y0 y1 y2 y3
  have e5 : w2.cell? ⟨w.heap.size + 1 + 1 + 1, 5, none⟩ = some (.int .i64 0) := z3.cell 5
  have e6 : w2.cell? ⟨w.heap.size + 1 + 1 + 1, 6, none⟩ = some (.int .i64 0) := z3.cell 6
  have f5 : w2.frozen? ⟨w.heap.size + 1 + 1 + 1, 5, none⟩ = false := z3.frozen 5
  have f6 : w2.frozen? ⟨w.heap.size + 1 + 1 + 1, 6, none⟩ = false := z3.frozen 6
  go_wp2_with fail
  have zz3 := repNv_set z3 (0) ((-1))
  have ks : Kept (fun i => i = w.heap.size + 1 + 1 + 1) w2 ((w2.setCell ⟨w.heap.size + 1 + 1 + 1, 5, none⟩ (.int .i64 (0))).setCell ⟨w.heap.size + 1 + 1 + 1, 6, none⟩ (.int .i64 ((-1)))) := ((Kept.refl (fun i => i = w.heap.size + 1 + 1 + 1) w2).setCell (p := ⟨w.heap.size + 1 + 1 + 1, 5, none⟩) (Or.inl rfl) _).setCell (p := ⟨w.heap.size + 1 + 1 + 1, 6, none⟩) (Or.inl rfl) _
  have hs := h2.new hR ks (fun i hi => by omega)
  have kb := ka.trans' ks (fun i hi he => by omega)
  have zz1 := z1.kept ks (by omega)
  have zz2 := z2.kept ks (by omega)
  clear z0 z1 z2 z3 e5 e6 f5 f6
  refine (takeL hs _ lQuery (by rfl) (by decide)).mono ?_
  rintro e wy ⟨rfl, hy, hky⟩
  have t1 := zz1.kept hky (hnown _ (by omega))
  have t2 := zz2.kept hky (hnown _ (by omega))
  have t3 := zz3.kept hky (hnown _ (by omega))
  have ky := kb.trans hky
  clear zz1 zz2 zz3 kb hky ks ka
  generalize hlz : inSet lQuery (seeOf g { st with next := st.next + 1 }) = lz at *
  have HLZ : Hid (inSet lQuery (seeOf g { st with next := st.next + 1 }) = lz) := hlz
  clear hlz
  have d7 : wy.cell? ⟨w.heap.size + 1 + 1 + 1, 7, none⟩ = some (.bool false) := t3.cell 7
  have f7 : wy.frozen? ⟨w.heap.size + 1 + 1 + 1, 7, none⟩ = false := t3.frozen 7
  obtain ⟨e0, e1, e2, e3, e4, e5, e6, e7⟩ := t1.eight
  obtain ⟨g0, g1, g2, g3, g4, g5, g6, g7⟩ := t1.thaw
  obtain ⟨d0, d1, d2, d3, d4, d5, d6, _⟩ := t3.eight
  simp only [zeroNv, repNv, oneNv] at e0 e1 e2 e3 e4 e5 e6 e7 d0 d1 d2 d3 d4 d5 d6
  have hlt9 : w.heap.size + 1 < wy.heap.size := t1.lt
  have hlt8 : w.heap.size + 1 + 1 + 1 < wy.heap.size := t3.lt
  go_wp2_with fail
  have kl : Kept (fun i => i = w.heap.size + 1 + 1 + 1) wy (wy.setCell ⟨w.heap.size + 1 + 1 + 1, 7, none⟩ (.bool lz)) := (Kept.refl (fun i => i = w.heap.size + 1 + 1 + 1) wy).setCell (p := ⟨w.heap.size + 1 + 1 + 1, 7, none⟩) (Or.inl rfl) _
  have fin := rep_close (low := 0) (high := (-1)) (lz := lz) hR (hy.new hR kl (fun i hi => by omega)) hp hhi hlw hown (ky.trans' kl (fun i hi he => by omega)) (t2.kept kl (by omega)) (by omega)
  have bfin := putNv_blk (t1.kept kl (by omega)) (repNv (w.heap.size + 1 + 1) (0) ((-1)) lz)
  simp only [putNv, repNv, oneNv] at fin bfin
  refine node_ret (i := 4) (b := w.heap.size + 1) (q := repNv (w.heap.size + 1 + 1) (0) ((-1)) lz) Tryz.results68 ?_ ?_ ?_ ?_
  · rfl
  · rfl
  · exact bfin
  · rw [HLZ.out]; exact ⟨_, rfl, fin⟩

set_option maxHeartbeats 2000000 in
theorem repeated_plus {w : World} {g : RG} {fo : Bool} {st : RS} {q : Nv} {A : PT} {CA : CT} {lo hi : Nat} (hR : RdAt w g fo st) (hp : PTAt w lo hi q A CA) (hhi : hi ≤ w.heap.size) (hlw : lo ≤ w.heap.size) (hown : ∀ i, g.own i → i < lo) (c1 : inSet lStar (seeOf g st) = false) (c2 : inSet lPlus (seeOf g st) = true) :
    Calls Tryz.prog 68 #[.pointer (some ⟨g.b, 0, none⟩), Nv.val q] w fun e w' => ∃ q', e = .returned (Nv.val q') ∧ RdAt w' g fo (pRepeated g A st).1 ∧ PTAt w' lo w'.heap.size q' (pRepeated g A st).2 (cRepeated g CA st) ∧ Kept g.own w w' := by
  rw [show pRepeated g A st = (takeOf g lQuery { st with next := st.next + 1 }, .node 4 [A] 1 (-1)) from by unfold pRepeated; rw [if_neg (by rw [c1]; simp), if_pos c2], show cRepeated g CA st = cTimes CA 1 (-1) (inSet lQuery (seeOf g { st with next := st.next + 1 })) from by unfold cRepeated; rw [if_neg (by rw [c1]; simp), if_pos c2]]
  have hpr : 0 ≤ placeOf g st ∧ placeOf g st ≤ 300 := hR.prange st.next
  have hlen := hR.len
  have hnl := hR.next
  have kw := repW_kept w q g.own
  have hW := hR.nil (repW_kept w q Nil)
  have x0 := repW_blk0 w q
  have x1 := repW_blk1 w q
  have x2 := repW_blk2 w q
  have x3 := repW_blk3 w q
  have hnown : ∀ i, w.heap.size ≤ i → ¬ g.own i := fun i hi hx => by have := hR.own_lt hx; omega
  simp only [Nv.val, Nv.cells]
  go_enter Tryz.func68, Tryz.ntmps68
  go_wp2_with fail
  refine (placeL hW).mono ?_
  rintro e w1 ⟨rfl, h1, hk1⟩
  have y0 := x0.kept hk1 (hnown _ (by omega))
  have y1 := x1.kept hk1 (hnown _ (by omega))
  have y2 := x2.kept hk1 (hnown _ (by omega))
  have y3 := x3.kept hk1 (hnown _ (by omega))
  have k0 := kw.trans hk1
  clear x0 x1 x2 x3 kw hW hk1
  go_wp2_with fail
  refine (takeN h1 _ lStar (by rfl) (by decide) c1).mono ?_
  rintro e w2 ⟨rfl, h2, hk2⟩
  go_wp2_with fail
  refine (takeY h2 _ lPlus (by rfl) (by decide) c2).mono ?_
  rintro e w3 ⟨rfl, h3, hk3⟩
  have hkk := (hk2.trans hk3)
  have ka := k0.trans hkk
  have z0 := y0.kept hkk (hnown _ (by omega))
  have z1 := y1.kept hkk (hnown _ (by omega))
  have z2 := y2.kept hkk (hnown _ (by omega))
  have z3 := y3.kept hkk (hnown _ (by omega))
  clear y0 y1 y2 y3
  have e5 : w3.cell? ⟨w.heap.size + 1 + 1 + 1, 5, none⟩ = some (.int .i64 0) := z3.cell 5
  have e6 : w3.cell? ⟨w.heap.size + 1 + 1 + 1, 6, none⟩ = some (.int .i64 0) := z3.cell 6
  have f5 : w3.frozen? ⟨w.heap.size + 1 + 1 + 1, 5, none⟩ = false := z3.frozen 5
  have f6 : w3.frozen? ⟨w.heap.size + 1 + 1 + 1, 6, none⟩ = false := z3.frozen 6
  go_wp2_with fail
  have zz3 := repNv_set z3 (1) ((-1))
  have ks : Kept (fun i => i = w.heap.size + 1 + 1 + 1) w3 ((w3.setCell ⟨w.heap.size + 1 + 1 + 1, 5, none⟩ (.int .i64 (1))).setCell ⟨w.heap.size + 1 + 1 + 1, 6, none⟩ (.int .i64 ((-1)))) := ((Kept.refl (fun i => i = w.heap.size + 1 + 1 + 1) w3).setCell (p := ⟨w.heap.size + 1 + 1 + 1, 5, none⟩) (Or.inl rfl) _).setCell (p := ⟨w.heap.size + 1 + 1 + 1, 6, none⟩) (Or.inl rfl) _
  have hs := h3.new hR ks (fun i hi => by omega)
  have kb := ka.trans' ks (fun i hi he => by omega)
  have zz1 := z1.kept ks (by omega)
  have zz2 := z2.kept ks (by omega)
  clear z0 z1 z2 z3 e5 e6 f5 f6
  refine (takeL hs _ lQuery (by rfl) (by decide)).mono ?_
  rintro e wy ⟨rfl, hy, hky⟩
  have t1 := zz1.kept hky (hnown _ (by omega))
  have t2 := zz2.kept hky (hnown _ (by omega))
  have t3 := zz3.kept hky (hnown _ (by omega))
  have ky := kb.trans hky
  clear zz1 zz2 zz3 kb hky ks ka
  generalize hlz : inSet lQuery (seeOf g { st with next := st.next + 1 }) = lz at *
  have HLZ : Hid (inSet lQuery (seeOf g { st with next := st.next + 1 }) = lz) := hlz
  clear hlz
  have d7 : wy.cell? ⟨w.heap.size + 1 + 1 + 1, 7, none⟩ = some (.bool false) := t3.cell 7
  have f7 : wy.frozen? ⟨w.heap.size + 1 + 1 + 1, 7, none⟩ = false := t3.frozen 7
  obtain ⟨e0, e1, e2, e3, e4, e5, e6, e7⟩ := t1.eight
  obtain ⟨g0, g1, g2, g3, g4, g5, g6, g7⟩ := t1.thaw
  obtain ⟨d0, d1, d2, d3, d4, d5, d6, _⟩ := t3.eight
  simp only [zeroNv, repNv, oneNv] at e0 e1 e2 e3 e4 e5 e6 e7 d0 d1 d2 d3 d4 d5 d6
  have hlt9 : w.heap.size + 1 < wy.heap.size := t1.lt
  have hlt8 : w.heap.size + 1 + 1 + 1 < wy.heap.size := t3.lt
  go_wp2_with fail
  have kl : Kept (fun i => i = w.heap.size + 1 + 1 + 1) wy (wy.setCell ⟨w.heap.size + 1 + 1 + 1, 7, none⟩ (.bool lz)) := (Kept.refl (fun i => i = w.heap.size + 1 + 1 + 1) wy).setCell (p := ⟨w.heap.size + 1 + 1 + 1, 7, none⟩) (Or.inl rfl) _
  have fin := rep_close (low := 1) (high := (-1)) (lz := lz) hR (hy.new hR kl (fun i hi => by omega)) hp hhi hlw hown (ky.trans' kl (fun i hi he => by omega)) (t2.kept kl (by omega)) (by omega)
  have bfin := putNv_blk (t1.kept kl (by omega)) (repNv (w.heap.size + 1 + 1) (1) ((-1)) lz)
  simp only [putNv, repNv, oneNv] at fin bfin
  refine node_ret (i := 4) (b := w.heap.size + 1) (q := repNv (w.heap.size + 1 + 1) (1) ((-1)) lz) Tryz.results68 ?_ ?_ ?_ ?_
  · rfl
  · rfl
  · exact bfin
  · rw [HLZ.out]; exact ⟨_, rfl, fin⟩

set_option maxHeartbeats 2000000 in
theorem repeated_query {w : World} {g : RG} {fo : Bool} {st : RS} {q : Nv} {A : PT} {CA : CT} {lo hi : Nat} (hR : RdAt w g fo st) (hp : PTAt w lo hi q A CA) (hhi : hi ≤ w.heap.size) (hlw : lo ≤ w.heap.size) (hown : ∀ i, g.own i → i < lo) (c1 : inSet lStar (seeOf g st) = false) (c2 : inSet lPlus (seeOf g st) = false) (c3 : inSet lQuery (seeOf g st) = true) :
    Calls Tryz.prog 68 #[.pointer (some ⟨g.b, 0, none⟩), Nv.val q] w fun e w' => ∃ q', e = .returned (Nv.val q') ∧ RdAt w' g fo (pRepeated g A st).1 ∧ PTAt w' lo w'.heap.size q' (pRepeated g A st).2 (cRepeated g CA st) ∧ Kept g.own w w' := by
  rw [show pRepeated g A st = (takeOf g lQuery { st with next := st.next + 1 }, .node 4 [A] 0 1) from by unfold pRepeated; rw [if_neg (by rw [c1]; simp), if_neg (by rw [c2]; simp), if_pos c3], show cRepeated g CA st = cTimes CA 0 1 (inSet lQuery (seeOf g { st with next := st.next + 1 })) from by unfold cRepeated; rw [if_neg (by rw [c1]; simp), if_neg (by rw [c2]; simp), if_pos c3]]
  have hpr : 0 ≤ placeOf g st ∧ placeOf g st ≤ 300 := hR.prange st.next
  have hlen := hR.len
  have hnl := hR.next
  have kw := repW_kept w q g.own
  have hW := hR.nil (repW_kept w q Nil)
  have x0 := repW_blk0 w q
  have x1 := repW_blk1 w q
  have x2 := repW_blk2 w q
  have x3 := repW_blk3 w q
  have hnown : ∀ i, w.heap.size ≤ i → ¬ g.own i := fun i hi hx => by have := hR.own_lt hx; omega
  simp only [Nv.val, Nv.cells]
  go_enter Tryz.func68, Tryz.ntmps68
  go_wp2_with fail
  refine (placeL hW).mono ?_
  rintro e w1 ⟨rfl, h1, hk1⟩
  have y0 := x0.kept hk1 (hnown _ (by omega))
  have y1 := x1.kept hk1 (hnown _ (by omega))
  have y2 := x2.kept hk1 (hnown _ (by omega))
  have y3 := x3.kept hk1 (hnown _ (by omega))
  have k0 := kw.trans hk1
  clear x0 x1 x2 x3 kw hW hk1
  go_wp2_with fail
  refine (takeN h1 _ lStar (by rfl) (by decide) c1).mono ?_
  rintro e w2 ⟨rfl, h2, hk2⟩
  go_wp2_with fail
  refine (takeN h2 _ lPlus (by rfl) (by decide) c2).mono ?_
  rintro e w3 ⟨rfl, h3, hk3⟩
  go_wp2_with fail
  refine (takeY h3 _ lQuery (by rfl) (by decide) c3).mono ?_
  rintro e w4 ⟨rfl, h4, hk4⟩
  have hkk := ((hk2.trans hk3).trans hk4)
  have ka := k0.trans hkk
  have z0 := y0.kept hkk (hnown _ (by omega))
  have z1 := y1.kept hkk (hnown _ (by omega))
  have z2 := y2.kept hkk (hnown _ (by omega))
  have z3 := y3.kept hkk (hnown _ (by omega))
  clear y0 y1 y2 y3
  have e5 : w4.cell? ⟨w.heap.size + 1 + 1 + 1, 5, none⟩ = some (.int .i64 0) := z3.cell 5
  have e6 : w4.cell? ⟨w.heap.size + 1 + 1 + 1, 6, none⟩ = some (.int .i64 0) := z3.cell 6
  have f5 : w4.frozen? ⟨w.heap.size + 1 + 1 + 1, 5, none⟩ = false := z3.frozen 5
  have f6 : w4.frozen? ⟨w.heap.size + 1 + 1 + 1, 6, none⟩ = false := z3.frozen 6
  go_wp2_with fail
  have zz3 := repNv_set z3 (0) (1)
  have ks : Kept (fun i => i = w.heap.size + 1 + 1 + 1) w4 ((w4.setCell ⟨w.heap.size + 1 + 1 + 1, 5, none⟩ (.int .i64 (0))).setCell ⟨w.heap.size + 1 + 1 + 1, 6, none⟩ (.int .i64 (1))) := ((Kept.refl (fun i => i = w.heap.size + 1 + 1 + 1) w4).setCell (p := ⟨w.heap.size + 1 + 1 + 1, 5, none⟩) (Or.inl rfl) _).setCell (p := ⟨w.heap.size + 1 + 1 + 1, 6, none⟩) (Or.inl rfl) _
  have hs := h4.new hR ks (fun i hi => by omega)
  have kb := ka.trans' ks (fun i hi he => by omega)
  have zz1 := z1.kept ks (by omega)
  have zz2 := z2.kept ks (by omega)
  clear z0 z1 z2 z3 e5 e6 f5 f6
  refine (takeL hs _ lQuery (by rfl) (by decide)).mono ?_
  rintro e wy ⟨rfl, hy, hky⟩
  have t1 := zz1.kept hky (hnown _ (by omega))
  have t2 := zz2.kept hky (hnown _ (by omega))
  have t3 := zz3.kept hky (hnown _ (by omega))
  have ky := kb.trans hky
  clear zz1 zz2 zz3 kb hky ks ka
  generalize hlz : inSet lQuery (seeOf g { st with next := st.next + 1 }) = lz at *
  have HLZ : Hid (inSet lQuery (seeOf g { st with next := st.next + 1 }) = lz) := hlz
  clear hlz
  have d7 : wy.cell? ⟨w.heap.size + 1 + 1 + 1, 7, none⟩ = some (.bool false) := t3.cell 7
  have f7 : wy.frozen? ⟨w.heap.size + 1 + 1 + 1, 7, none⟩ = false := t3.frozen 7
  obtain ⟨e0, e1, e2, e3, e4, e5, e6, e7⟩ := t1.eight
  obtain ⟨g0, g1, g2, g3, g4, g5, g6, g7⟩ := t1.thaw
  obtain ⟨d0, d1, d2, d3, d4, d5, d6, _⟩ := t3.eight
  simp only [zeroNv, repNv, oneNv] at e0 e1 e2 e3 e4 e5 e6 e7 d0 d1 d2 d3 d4 d5 d6
  have hlt9 : w.heap.size + 1 < wy.heap.size := t1.lt
  have hlt8 : w.heap.size + 1 + 1 + 1 < wy.heap.size := t3.lt
  go_wp2_with fail
  have kl : Kept (fun i => i = w.heap.size + 1 + 1 + 1) wy (wy.setCell ⟨w.heap.size + 1 + 1 + 1, 7, none⟩ (.bool lz)) := (Kept.refl (fun i => i = w.heap.size + 1 + 1 + 1) wy).setCell (p := ⟨w.heap.size + 1 + 1 + 1, 7, none⟩) (Or.inl rfl) _
  have fin := rep_close (low := 0) (high := 1) (lz := lz) hR (hy.new hR kl (fun i hi => by omega)) hp hhi hlw hown (ky.trans' kl (fun i hi he => by omega)) (t2.kept kl (by omega)) (by omega)
  have bfin := putNv_blk (t1.kept kl (by omega)) (repNv (w.heap.size + 1 + 1) (0) (1) lz)
  simp only [putNv, repNv, oneNv] at fin bfin
  refine node_ret (i := 4) (b := w.heap.size + 1) (q := repNv (w.heap.size + 1 + 1) (0) (1) lz) Tryz.results68 ?_ ?_ ?_ ?_
  · rfl
  · rfl
  · exact bfin
  · rw [HLZ.out]; exact ⟨_, rfl, fin⟩

set_option maxHeartbeats 2000000 in
theorem repeated_braceA {w : World} {g : RG} {fo : Bool} {st : RS} {q : Nv} {A : PT} {CA : CT} {lo hi : Nat} (hR : RdAt w g fo st) (hp : PTAt w lo hi q A CA) (hhi : hi ≤ w.heap.size) (hlw : lo ≤ w.heap.size) (hown : ∀ i, g.own i → i < lo) (c1 : inSet lStar (seeOf g st) = false) (c2 : inSet lPlus (seeOf g st) = false) (c3 : inSet lQuery (seeOf g st) = false) (c4 : inSet lOpenBrace (seeOf g st) = true) (t1 : 20 < (pBounds g { st with next := st.next + 1 }).2.1) :
    Calls Tryz.prog 68 #[.pointer (some ⟨g.b, 0, none⟩), Nv.val q] w fun e w' => ∃ q', e = .returned (Nv.val q') ∧ RdAt w' g fo (pRepeated g A st).1 ∧ PTAt w' lo w'.heap.size q' (pRepeated g A st).2 (cRepeated g CA st) ∧ Kept g.own w w' := by
  have hrange := pBounds_range g { st with next := st.next + 1 }
  rw [show pRepeated g A st = (takeOf g lQuery ((pBounds g { st with next := st.next + 1 }).1.note 4 (placeOf g st)), .node 4 [A] (pBounds g { st with next := st.next + 1 }).2.1 (pBounds g { st with next := st.next + 1 }).2.2) from by unfold pRepeated; rw [if_neg (by rw [c1]; simp), if_neg (by rw [c2]; simp), if_neg (by rw [c3]; simp), if_pos c4]; simp only; rw [if_pos (by first | omega | (simp at *; omega))], show cRepeated g CA st = cTimes CA (pBounds g { st with next := st.next + 1 }).2.1 (pBounds g { st with next := st.next + 1 }).2.2 (inSet lQuery (seeOf g (pBounds g { st with next := st.next + 1 }).1)) from by unfold cRepeated; rw [if_neg (by rw [c1]; simp), if_neg (by rw [c2]; simp), if_neg (by rw [c3]; simp), if_pos c4]]
  generalize hL : (pBounds g { st with next := st.next + 1 }).2.1 = L at *
  generalize hHh : (pBounds g { st with next := st.next + 1 }).2.2 = Hh at *
  have HL : Hid ((pBounds g { st with next := st.next + 1 }).2.1 = L) := hL
  have HH : Hid ((pBounds g { st with next := st.next + 1 }).2.2 = Hh) := hHh
  clear hL hHh
  have hpr : 0 ≤ placeOf g st ∧ placeOf g st ≤ 300 := hR.prange st.next
  have hlen := hR.len
  have hnl := hR.next
  have kw := repW_kept w q g.own
  have hW := hR.nil (repW_kept w q Nil)
  have x0 := repW_blk0 w q
  have x1 := repW_blk1 w q
  have x2 := repW_blk2 w q
  have x3 := repW_blk3 w q
  have hnown : ∀ i, w.heap.size ≤ i → ¬ g.own i := fun i hi hx => by have := hR.own_lt hx; omega
  simp only [Nv.val, Nv.cells]
  go_enter Tryz.func68, Tryz.ntmps68
  go_wp2_with fail
  refine (placeL hW).mono ?_
  rintro e w1 ⟨rfl, h1, hk1⟩
  have y0 := x0.kept hk1 (hnown _ (by omega))
  have y1 := x1.kept hk1 (hnown _ (by omega))
  have y2 := x2.kept hk1 (hnown _ (by omega))
  have y3 := x3.kept hk1 (hnown _ (by omega))
  have k0 := kw.trans hk1
  clear x0 x1 x2 x3 kw hW hk1
  go_wp2_with fail
  refine (takeN h1 _ lStar (by rfl) (by decide) c1).mono ?_
  rintro e w2 ⟨rfl, h2, hk2⟩
  go_wp2_with fail
  refine (takeN h2 _ lPlus (by rfl) (by decide) c2).mono ?_
  rintro e w3 ⟨rfl, h3, hk3⟩
  go_wp2_with fail
  refine (takeN h3 _ lQuery (by rfl) (by decide) c3).mono ?_
  rintro e w4 ⟨rfl, h4, hk4⟩
  go_wp2_with fail
  refine (takeY h4 _ lOpenBrace (by rfl) (by decide) c4).mono ?_
  rintro e w5 ⟨rfl, h5, hk5⟩
  go_wp2_with fail
  refine (bounds_rd h5).mono ?_
  rintro e w6 ⟨rfl, h6, hk6⟩
  rw [HL.out, HH.out]
  have hkk := ((((hk2.trans hk3).trans hk4).trans hk5).trans hk6)
  have ka := k0.trans hkk
  have z0 := y0.kept hkk (hnown _ (by omega))
  have z1 := y1.kept hkk (hnown _ (by omega))
  have z2 := y2.kept hkk (hnown _ (by omega))
  have z3 := y3.kept hkk (hnown _ (by omega))
  clear y0 y1 y2 y3
  have e5 : w6.cell? ⟨w.heap.size + 1 + 1 + 1, 5, none⟩ = some (.int .i64 0) := z3.cell 5
  have e6 : w6.cell? ⟨w.heap.size + 1 + 1 + 1, 6, none⟩ = some (.int .i64 0) := z3.cell 6
  have f5 : w6.frozen? ⟨w.heap.size + 1 + 1 + 1, 5, none⟩ = false := z3.frozen 5
  have f6 : w6.frozen? ⟨w.heap.size + 1 + 1 + 1, 6, none⟩ = false := z3.frozen 6
  go_wp2_with fail
  have zz3 := repNv_set z3 (L) (Hh)
  have ks : Kept (fun i => i = w.heap.size + 1 + 1 + 1) w6 ((w6.setCell ⟨w.heap.size + 1 + 1 + 1, 5, none⟩ (.int .i64 (L))).setCell ⟨w.heap.size + 1 + 1 + 1, 6, none⟩ (.int .i64 (Hh))) := ((Kept.refl (fun i => i = w.heap.size + 1 + 1 + 1) w6).setCell (p := ⟨w.heap.size + 1 + 1 + 1, 5, none⟩) (Or.inl rfl) _).setCell (p := ⟨w.heap.size + 1 + 1 + 1, 6, none⟩) (Or.inl rfl) _
  have hs := h6.new hR ks (fun i hi => by omega)
  have kb := ka.trans' ks (fun i hi he => by omega)
  have zz1 := z1.kept ks (by omega)
  have zz2 := z2.kept ks (by omega)
  clear z0 z1 z2 z3 e5 e6 f5 f6
  refine (note_any hs 4 _ (by omega) hpr).mono ?_
  rintro e w7 ⟨rfl, h7, hk7⟩
  have zz1 := zz1.kept hk7 (hnown _ (by omega))
  have zz2 := zz2.kept hk7 (hnown _ (by omega))
  have zz3 := zz3.kept hk7 (hnown _ (by omega))
  have kb := kb.trans hk7
  have hs := h7
  go_wp2_with fail
  refine (takeL hs _ lQuery (by rfl) (by decide)).mono ?_
  rintro e wy ⟨rfl, hy, hky⟩
  have t1 := zz1.kept hky (hnown _ (by omega))
  have t2 := zz2.kept hky (hnown _ (by omega))
  have t3 := zz3.kept hky (hnown _ (by omega))
  have ky := kb.trans hky
  clear zz1 zz2 zz3 kb hky ks ka
  generalize hlz : inSet lQuery (seeOf g ((pBounds g { st with next := st.next + 1 }).1.note 4 (placeOf g st))) = lz at *
  have HLZ : Hid (inSet lQuery (seeOf g ((pBounds g { st with next := st.next + 1 }).1.note 4 (placeOf g st))) = lz) := hlz
  clear hlz
  have d7 : wy.cell? ⟨w.heap.size + 1 + 1 + 1, 7, none⟩ = some (.bool false) := t3.cell 7
  have f7 : wy.frozen? ⟨w.heap.size + 1 + 1 + 1, 7, none⟩ = false := t3.frozen 7
  obtain ⟨e0, e1, e2, e3, e4, e5, e6, e7⟩ := t1.eight
  obtain ⟨g0, g1, g2, g3, g4, g5, g6, g7⟩ := t1.thaw
  obtain ⟨d0, d1, d2, d3, d4, d5, d6, _⟩ := t3.eight
  simp only [zeroNv, repNv, oneNv] at e0 e1 e2 e3 e4 e5 e6 e7 d0 d1 d2 d3 d4 d5 d6
  have hlt9 : w.heap.size + 1 < wy.heap.size := t1.lt
  have hlt8 : w.heap.size + 1 + 1 + 1 < wy.heap.size := t3.lt
  go_wp2_with fail
  have kl : Kept (fun i => i = w.heap.size + 1 + 1 + 1) wy (wy.setCell ⟨w.heap.size + 1 + 1 + 1, 7, none⟩ (.bool lz)) := (Kept.refl (fun i => i = w.heap.size + 1 + 1 + 1) wy).setCell (p := ⟨w.heap.size + 1 + 1 + 1, 7, none⟩) (Or.inl rfl) _
  have fin := rep_close (low := L) (high := Hh) (lz := lz) hR (hy.new hR kl (fun i hi => by omega)) hp hhi hlw hown (ky.trans' kl (fun i hi he => by omega)) (t2.kept kl (by omega)) (by omega)
  have bfin := putNv_blk (t1.kept kl (by omega)) (repNv (w.heap.size + 1 + 1) (L) (Hh) lz)
  simp only [putNv, repNv, oneNv] at fin bfin
  refine node_ret (i := 4) (b := w.heap.size + 1) (q := repNv (w.heap.size + 1 + 1) (L) (Hh) lz) Tryz.results68 ?_ ?_ ?_ ?_
  · rfl
  · rfl
  · exact bfin
  · rw [show seeOf g (pBounds g { st with next := st.next + 1 }).1 = seeOf g ((pBounds g { st with next := st.next + 1 }).1.note 4 (placeOf g st)) from rfl, HLZ.out]; exact ⟨_, rfl, fin⟩

set_option maxHeartbeats 2000000 in
theorem repeated_braceB {w : World} {g : RG} {fo : Bool} {st : RS} {q : Nv} {A : PT} {CA : CT} {lo hi : Nat} (hR : RdAt w g fo st) (hp : PTAt w lo hi q A CA) (hhi : hi ≤ w.heap.size) (hlw : lo ≤ w.heap.size) (hown : ∀ i, g.own i → i < lo) (c1 : inSet lStar (seeOf g st) = false) (c2 : inSet lPlus (seeOf g st) = false) (c3 : inSet lQuery (seeOf g st) = false) (c4 : inSet lOpenBrace (seeOf g st) = true) (t1 : (pBounds g { st with next := st.next + 1 }).2.1 ≤ 20) (t2 : 20 < (pBounds g { st with next := st.next + 1 }).2.2) :
    Calls Tryz.prog 68 #[.pointer (some ⟨g.b, 0, none⟩), Nv.val q] w fun e w' => ∃ q', e = .returned (Nv.val q') ∧ RdAt w' g fo (pRepeated g A st).1 ∧ PTAt w' lo w'.heap.size q' (pRepeated g A st).2 (cRepeated g CA st) ∧ Kept g.own w w' := by
  have hrange := pBounds_range g { st with next := st.next + 1 }
  rw [show pRepeated g A st = (takeOf g lQuery ((pBounds g { st with next := st.next + 1 }).1.note 4 (placeOf g st)), .node 4 [A] (pBounds g { st with next := st.next + 1 }).2.1 (pBounds g { st with next := st.next + 1 }).2.2) from by unfold pRepeated; rw [if_neg (by rw [c1]; simp), if_neg (by rw [c2]; simp), if_neg (by rw [c3]; simp), if_pos c4]; simp only; rw [if_pos (by first | omega | (simp at *; omega))], show cRepeated g CA st = cTimes CA (pBounds g { st with next := st.next + 1 }).2.1 (pBounds g { st with next := st.next + 1 }).2.2 (inSet lQuery (seeOf g (pBounds g { st with next := st.next + 1 }).1)) from by unfold cRepeated; rw [if_neg (by rw [c1]; simp), if_neg (by rw [c2]; simp), if_neg (by rw [c3]; simp), if_pos c4]]
  generalize hL : (pBounds g { st with next := st.next + 1 }).2.1 = L at *
  generalize hHh : (pBounds g { st with next := st.next + 1 }).2.2 = Hh at *
  have HL : Hid ((pBounds g { st with next := st.next + 1 }).2.1 = L) := hL
  have HH : Hid ((pBounds g { st with next := st.next + 1 }).2.2 = Hh) := hHh
  clear hL hHh
  have hpr : 0 ≤ placeOf g st ∧ placeOf g st ≤ 300 := hR.prange st.next
  have hlen := hR.len
  have hnl := hR.next
  have kw := repW_kept w q g.own
  have hW := hR.nil (repW_kept w q Nil)
  have x0 := repW_blk0 w q
  have x1 := repW_blk1 w q
  have x2 := repW_blk2 w q
  have x3 := repW_blk3 w q
  have hnown : ∀ i, w.heap.size ≤ i → ¬ g.own i := fun i hi hx => by have := hR.own_lt hx; omega
  simp only [Nv.val, Nv.cells]
  go_enter Tryz.func68, Tryz.ntmps68
  go_wp2_with fail
  refine (placeL hW).mono ?_
  rintro e w1 ⟨rfl, h1, hk1⟩
  have y0 := x0.kept hk1 (hnown _ (by omega))
  have y1 := x1.kept hk1 (hnown _ (by omega))
  have y2 := x2.kept hk1 (hnown _ (by omega))
  have y3 := x3.kept hk1 (hnown _ (by omega))
  have k0 := kw.trans hk1
  clear x0 x1 x2 x3 kw hW hk1
  go_wp2_with fail
  refine (takeN h1 _ lStar (by rfl) (by decide) c1).mono ?_
  rintro e w2 ⟨rfl, h2, hk2⟩
  go_wp2_with fail
  refine (takeN h2 _ lPlus (by rfl) (by decide) c2).mono ?_
  rintro e w3 ⟨rfl, h3, hk3⟩
  go_wp2_with fail
  refine (takeN h3 _ lQuery (by rfl) (by decide) c3).mono ?_
  rintro e w4 ⟨rfl, h4, hk4⟩
  go_wp2_with fail
  refine (takeY h4 _ lOpenBrace (by rfl) (by decide) c4).mono ?_
  rintro e w5 ⟨rfl, h5, hk5⟩
  go_wp2_with fail
  refine (bounds_rd h5).mono ?_
  rintro e w6 ⟨rfl, h6, hk6⟩
  rw [HL.out, HH.out]
  have hkk := ((((hk2.trans hk3).trans hk4).trans hk5).trans hk6)
  have ka := k0.trans hkk
  have z0 := y0.kept hkk (hnown _ (by omega))
  have z1 := y1.kept hkk (hnown _ (by omega))
  have z2 := y2.kept hkk (hnown _ (by omega))
  have z3 := y3.kept hkk (hnown _ (by omega))
  clear y0 y1 y2 y3
  have e5 : w6.cell? ⟨w.heap.size + 1 + 1 + 1, 5, none⟩ = some (.int .i64 0) := z3.cell 5
  have e6 : w6.cell? ⟨w.heap.size + 1 + 1 + 1, 6, none⟩ = some (.int .i64 0) := z3.cell 6
  have f5 : w6.frozen? ⟨w.heap.size + 1 + 1 + 1, 5, none⟩ = false := z3.frozen 5
  have f6 : w6.frozen? ⟨w.heap.size + 1 + 1 + 1, 6, none⟩ = false := z3.frozen 6
  go_wp2_with fail
  have zz3 := repNv_set z3 (L) (Hh)
  have ks : Kept (fun i => i = w.heap.size + 1 + 1 + 1) w6 ((w6.setCell ⟨w.heap.size + 1 + 1 + 1, 5, none⟩ (.int .i64 (L))).setCell ⟨w.heap.size + 1 + 1 + 1, 6, none⟩ (.int .i64 (Hh))) := ((Kept.refl (fun i => i = w.heap.size + 1 + 1 + 1) w6).setCell (p := ⟨w.heap.size + 1 + 1 + 1, 5, none⟩) (Or.inl rfl) _).setCell (p := ⟨w.heap.size + 1 + 1 + 1, 6, none⟩) (Or.inl rfl) _
  have hs := h6.new hR ks (fun i hi => by omega)
  have kb := ka.trans' ks (fun i hi he => by omega)
  have zz1 := z1.kept ks (by omega)
  have zz2 := z2.kept ks (by omega)
  clear z0 z1 z2 z3 e5 e6 f5 f6
  refine (note_any hs 4 _ (by omega) hpr).mono ?_
  rintro e w7 ⟨rfl, h7, hk7⟩
  have zz1 := zz1.kept hk7 (hnown _ (by omega))
  have zz2 := zz2.kept hk7 (hnown _ (by omega))
  have zz3 := zz3.kept hk7 (hnown _ (by omega))
  have kb := kb.trans hk7
  have hs := h7
  go_wp2_with fail
  refine (takeL hs _ lQuery (by rfl) (by decide)).mono ?_
  rintro e wy ⟨rfl, hy, hky⟩
  have t1 := zz1.kept hky (hnown _ (by omega))
  have t2 := zz2.kept hky (hnown _ (by omega))
  have t3 := zz3.kept hky (hnown _ (by omega))
  have ky := kb.trans hky
  clear zz1 zz2 zz3 kb hky ks ka
  generalize hlz : inSet lQuery (seeOf g ((pBounds g { st with next := st.next + 1 }).1.note 4 (placeOf g st))) = lz at *
  have HLZ : Hid (inSet lQuery (seeOf g ((pBounds g { st with next := st.next + 1 }).1.note 4 (placeOf g st))) = lz) := hlz
  clear hlz
  have d7 : wy.cell? ⟨w.heap.size + 1 + 1 + 1, 7, none⟩ = some (.bool false) := t3.cell 7
  have f7 : wy.frozen? ⟨w.heap.size + 1 + 1 + 1, 7, none⟩ = false := t3.frozen 7
  obtain ⟨e0, e1, e2, e3, e4, e5, e6, e7⟩ := t1.eight
  obtain ⟨g0, g1, g2, g3, g4, g5, g6, g7⟩ := t1.thaw
  obtain ⟨d0, d1, d2, d3, d4, d5, d6, _⟩ := t3.eight
  simp only [zeroNv, repNv, oneNv] at e0 e1 e2 e3 e4 e5 e6 e7 d0 d1 d2 d3 d4 d5 d6
  have hlt9 : w.heap.size + 1 < wy.heap.size := t1.lt
  have hlt8 : w.heap.size + 1 + 1 + 1 < wy.heap.size := t3.lt
  go_wp2_with fail
  have kl : Kept (fun i => i = w.heap.size + 1 + 1 + 1) wy (wy.setCell ⟨w.heap.size + 1 + 1 + 1, 7, none⟩ (.bool lz)) := (Kept.refl (fun i => i = w.heap.size + 1 + 1 + 1) wy).setCell (p := ⟨w.heap.size + 1 + 1 + 1, 7, none⟩) (Or.inl rfl) _
  have fin := rep_close (low := L) (high := Hh) (lz := lz) hR (hy.new hR kl (fun i hi => by omega)) hp hhi hlw hown (ky.trans' kl (fun i hi he => by omega)) (t2.kept kl (by omega)) (by omega)
  have bfin := putNv_blk (t1.kept kl (by omega)) (repNv (w.heap.size + 1 + 1) (L) (Hh) lz)
  simp only [putNv, repNv, oneNv] at fin bfin
  refine node_ret (i := 4) (b := w.heap.size + 1) (q := repNv (w.heap.size + 1 + 1) (L) (Hh) lz) Tryz.results68 ?_ ?_ ?_ ?_
  · rfl
  · rfl
  · exact bfin
  · rw [show seeOf g (pBounds g { st with next := st.next + 1 }).1 = seeOf g ((pBounds g { st with next := st.next + 1 }).1.note 4 (placeOf g st)) from rfl, HLZ.out]; exact ⟨_, rfl, fin⟩

set_option maxHeartbeats 2000000 in
theorem repeated_braceC {w : World} {g : RG} {fo : Bool} {st : RS} {q : Nv} {A : PT} {CA : CT} {lo hi : Nat} (hR : RdAt w g fo st) (hp : PTAt w lo hi q A CA) (hhi : hi ≤ w.heap.size) (hlw : lo ≤ w.heap.size) (hown : ∀ i, g.own i → i < lo) (c1 : inSet lStar (seeOf g st) = false) (c2 : inSet lPlus (seeOf g st) = false) (c3 : inSet lQuery (seeOf g st) = false) (c4 : inSet lOpenBrace (seeOf g st) = true) (t1 : (pBounds g { st with next := st.next + 1 }).2.1 ≤ 20) (t2 : (pBounds g { st with next := st.next + 1 }).2.2 ≤ 20) (t3 : ((pBounds g { st with next := st.next + 1 }).2.2 != -1) = true) (t4 : (pBounds g { st with next := st.next + 1 }).2.2 < (pBounds g { st with next := st.next + 1 }).2.1) :
    Calls Tryz.prog 68 #[.pointer (some ⟨g.b, 0, none⟩), Nv.val q] w fun e w' => ∃ q', e = .returned (Nv.val q') ∧ RdAt w' g fo (pRepeated g A st).1 ∧ PTAt w' lo w'.heap.size q' (pRepeated g A st).2 (cRepeated g CA st) ∧ Kept g.own w w' := by
  have hrange := pBounds_range g { st with next := st.next + 1 }
  rw [show pRepeated g A st = (takeOf g lQuery ((pBounds g { st with next := st.next + 1 }).1.note 4 (placeOf g st)), .node 4 [A] (pBounds g { st with next := st.next + 1 }).2.1 (pBounds g { st with next := st.next + 1 }).2.2) from by unfold pRepeated; rw [if_neg (by rw [c1]; simp), if_neg (by rw [c2]; simp), if_neg (by rw [c3]; simp), if_pos c4]; simp only; rw [if_pos (by first | omega | (simp at *; omega))], show cRepeated g CA st = cTimes CA (pBounds g { st with next := st.next + 1 }).2.1 (pBounds g { st with next := st.next + 1 }).2.2 (inSet lQuery (seeOf g (pBounds g { st with next := st.next + 1 }).1)) from by unfold cRepeated; rw [if_neg (by rw [c1]; simp), if_neg (by rw [c2]; simp), if_neg (by rw [c3]; simp), if_pos c4]]
  generalize hL : (pBounds g { st with next := st.next + 1 }).2.1 = L at *
  generalize hHh : (pBounds g { st with next := st.next + 1 }).2.2 = Hh at *
  have HL : Hid ((pBounds g { st with next := st.next + 1 }).2.1 = L) := hL
  have HH : Hid ((pBounds g { st with next := st.next + 1 }).2.2 = Hh) := hHh
  clear hL hHh
  have hpr : 0 ≤ placeOf g st ∧ placeOf g st ≤ 300 := hR.prange st.next
  have hlen := hR.len
  have hnl := hR.next
  have kw := repW_kept w q g.own
  have hW := hR.nil (repW_kept w q Nil)
  have x0 := repW_blk0 w q
  have x1 := repW_blk1 w q
  have x2 := repW_blk2 w q
  have x3 := repW_blk3 w q
  have hnown : ∀ i, w.heap.size ≤ i → ¬ g.own i := fun i hi hx => by have := hR.own_lt hx; omega
  simp only [Nv.val, Nv.cells]
  go_enter Tryz.func68, Tryz.ntmps68
  go_wp2_with fail
  refine (placeL hW).mono ?_
  rintro e w1 ⟨rfl, h1, hk1⟩
  have y0 := x0.kept hk1 (hnown _ (by omega))
  have y1 := x1.kept hk1 (hnown _ (by omega))
  have y2 := x2.kept hk1 (hnown _ (by omega))
  have y3 := x3.kept hk1 (hnown _ (by omega))
  have k0 := kw.trans hk1
  clear x0 x1 x2 x3 kw hW hk1
  go_wp2_with fail
  refine (takeN h1 _ lStar (by rfl) (by decide) c1).mono ?_
  rintro e w2 ⟨rfl, h2, hk2⟩
  go_wp2_with fail
  refine (takeN h2 _ lPlus (by rfl) (by decide) c2).mono ?_
  rintro e w3 ⟨rfl, h3, hk3⟩
  go_wp2_with fail
  refine (takeN h3 _ lQuery (by rfl) (by decide) c3).mono ?_
  rintro e w4 ⟨rfl, h4, hk4⟩
  go_wp2_with fail
  refine (takeY h4 _ lOpenBrace (by rfl) (by decide) c4).mono ?_
  rintro e w5 ⟨rfl, h5, hk5⟩
  go_wp2_with fail
  refine (bounds_rd h5).mono ?_
  rintro e w6 ⟨rfl, h6, hk6⟩
  rw [HL.out, HH.out]
  have hkk := ((((hk2.trans hk3).trans hk4).trans hk5).trans hk6)
  have ka := k0.trans hkk
  have z0 := y0.kept hkk (hnown _ (by omega))
  have z1 := y1.kept hkk (hnown _ (by omega))
  have z2 := y2.kept hkk (hnown _ (by omega))
  have z3 := y3.kept hkk (hnown _ (by omega))
  clear y0 y1 y2 y3
  have e5 : w6.cell? ⟨w.heap.size + 1 + 1 + 1, 5, none⟩ = some (.int .i64 0) := z3.cell 5
  have e6 : w6.cell? ⟨w.heap.size + 1 + 1 + 1, 6, none⟩ = some (.int .i64 0) := z3.cell 6
  have f5 : w6.frozen? ⟨w.heap.size + 1 + 1 + 1, 5, none⟩ = false := z3.frozen 5
  have f6 : w6.frozen? ⟨w.heap.size + 1 + 1 + 1, 6, none⟩ = false := z3.frozen 6
  go_wp2_with fail
  have zz3 := repNv_set z3 (L) (Hh)
  have ks : Kept (fun i => i = w.heap.size + 1 + 1 + 1) w6 ((w6.setCell ⟨w.heap.size + 1 + 1 + 1, 5, none⟩ (.int .i64 (L))).setCell ⟨w.heap.size + 1 + 1 + 1, 6, none⟩ (.int .i64 (Hh))) := ((Kept.refl (fun i => i = w.heap.size + 1 + 1 + 1) w6).setCell (p := ⟨w.heap.size + 1 + 1 + 1, 5, none⟩) (Or.inl rfl) _).setCell (p := ⟨w.heap.size + 1 + 1 + 1, 6, none⟩) (Or.inl rfl) _
  have hs := h6.new hR ks (fun i hi => by omega)
  have kb := ka.trans' ks (fun i hi he => by omega)
  have zz1 := z1.kept ks (by omega)
  have zz2 := z2.kept ks (by omega)
  clear z0 z1 z2 z3 e5 e6 f5 f6
  refine (note_any hs 4 _ (by omega) hpr).mono ?_
  rintro e w7 ⟨rfl, h7, hk7⟩
  have zz1 := zz1.kept hk7 (hnown _ (by omega))
  have zz2 := zz2.kept hk7 (hnown _ (by omega))
  have zz3 := zz3.kept hk7 (hnown _ (by omega))
  have kb := kb.trans hk7
  have hs := h7
  go_wp2_with fail
  refine (takeL hs _ lQuery (by rfl) (by decide)).mono ?_
  rintro e wy ⟨rfl, hy, hky⟩
  have t1 := zz1.kept hky (hnown _ (by omega))
  have t2 := zz2.kept hky (hnown _ (by omega))
  have t3 := zz3.kept hky (hnown _ (by omega))
  have ky := kb.trans hky
  clear zz1 zz2 zz3 kb hky ks ka
  generalize hlz : inSet lQuery (seeOf g ((pBounds g { st with next := st.next + 1 }).1.note 4 (placeOf g st))) = lz at *
  have HLZ : Hid (inSet lQuery (seeOf g ((pBounds g { st with next := st.next + 1 }).1.note 4 (placeOf g st))) = lz) := hlz
  clear hlz
  have d7 : wy.cell? ⟨w.heap.size + 1 + 1 + 1, 7, none⟩ = some (.bool false) := t3.cell 7
  have f7 : wy.frozen? ⟨w.heap.size + 1 + 1 + 1, 7, none⟩ = false := t3.frozen 7
  obtain ⟨e0, e1, e2, e3, e4, e5, e6, e7⟩ := t1.eight
  obtain ⟨g0, g1, g2, g3, g4, g5, g6, g7⟩ := t1.thaw
  obtain ⟨d0, d1, d2, d3, d4, d5, d6, _⟩ := t3.eight
  simp only [zeroNv, repNv, oneNv] at e0 e1 e2 e3 e4 e5 e6 e7 d0 d1 d2 d3 d4 d5 d6
  have hlt9 : w.heap.size + 1 < wy.heap.size := t1.lt
  have hlt8 : w.heap.size + 1 + 1 + 1 < wy.heap.size := t3.lt
  go_wp2_with fail
  have kl : Kept (fun i => i = w.heap.size + 1 + 1 + 1) wy (wy.setCell ⟨w.heap.size + 1 + 1 + 1, 7, none⟩ (.bool lz)) := (Kept.refl (fun i => i = w.heap.size + 1 + 1 + 1) wy).setCell (p := ⟨w.heap.size + 1 + 1 + 1, 7, none⟩) (Or.inl rfl) _
  have fin := rep_close (low := L) (high := Hh) (lz := lz) hR (hy.new hR kl (fun i hi => by omega)) hp hhi hlw hown (ky.trans' kl (fun i hi he => by omega)) (t2.kept kl (by omega)) (by omega)
  have bfin := putNv_blk (t1.kept kl (by omega)) (repNv (w.heap.size + 1 + 1) (L) (Hh) lz)
  simp only [putNv, repNv, oneNv] at fin bfin
  refine node_ret (i := 4) (b := w.heap.size + 1) (q := repNv (w.heap.size + 1 + 1) (L) (Hh) lz) Tryz.results68 ?_ ?_ ?_ ?_
  · rfl
  · rfl
  · exact bfin
  · rw [show seeOf g (pBounds g { st with next := st.next + 1 }).1 = seeOf g ((pBounds g { st with next := st.next + 1 }).1.note 4 (placeOf g st)) from rfl, HLZ.out]; exact ⟨_, rfl, fin⟩

set_option maxHeartbeats 2000000 in
theorem repeated_braceD {w : World} {g : RG} {fo : Bool} {st : RS} {q : Nv} {A : PT} {CA : CT} {lo hi : Nat} (hR : RdAt w g fo st) (hp : PTAt w lo hi q A CA) (hhi : hi ≤ w.heap.size) (hlw : lo ≤ w.heap.size) (hown : ∀ i, g.own i → i < lo) (c1 : inSet lStar (seeOf g st) = false) (c2 : inSet lPlus (seeOf g st) = false) (c3 : inSet lQuery (seeOf g st) = false) (c4 : inSet lOpenBrace (seeOf g st) = true) (t1 : (pBounds g { st with next := st.next + 1 }).2.1 ≤ 20) (t2 : (pBounds g { st with next := st.next + 1 }).2.2 ≤ 20) (t3 : ((pBounds g { st with next := st.next + 1 }).2.2 != -1) = true) (t4 : (pBounds g { st with next := st.next + 1 }).2.1 ≤ (pBounds g { st with next := st.next + 1 }).2.2) :
    Calls Tryz.prog 68 #[.pointer (some ⟨g.b, 0, none⟩), Nv.val q] w fun e w' => ∃ q', e = .returned (Nv.val q') ∧ RdAt w' g fo (pRepeated g A st).1 ∧ PTAt w' lo w'.heap.size q' (pRepeated g A st).2 (cRepeated g CA st) ∧ Kept g.own w w' := by
  have hrange := pBounds_range g { st with next := st.next + 1 }
  rw [show pRepeated g A st = (takeOf g lQuery ((pBounds g { st with next := st.next + 1 }).1), .node 4 [A] (pBounds g { st with next := st.next + 1 }).2.1 (pBounds g { st with next := st.next + 1 }).2.2) from by unfold pRepeated; rw [if_neg (by rw [c1]; simp), if_neg (by rw [c2]; simp), if_neg (by rw [c3]; simp), if_pos c4]; simp only; rw [if_neg (by first | omega | (simp at *; omega))], show cRepeated g CA st = cTimes CA (pBounds g { st with next := st.next + 1 }).2.1 (pBounds g { st with next := st.next + 1 }).2.2 (inSet lQuery (seeOf g (pBounds g { st with next := st.next + 1 }).1)) from by unfold cRepeated; rw [if_neg (by rw [c1]; simp), if_neg (by rw [c2]; simp), if_neg (by rw [c3]; simp), if_pos c4]]
  generalize hL : (pBounds g { st with next := st.next + 1 }).2.1 = L at *
  generalize hHh : (pBounds g { st with next := st.next + 1 }).2.2 = Hh at *
  have HL : Hid ((pBounds g { st with next := st.next + 1 }).2.1 = L) := hL
  have HH : Hid ((pBounds g { st with next := st.next + 1 }).2.2 = Hh) := hHh
  clear hL hHh
  have hpr : 0 ≤ placeOf g st ∧ placeOf g st ≤ 300 := hR.prange st.next
  have hlen := hR.len
  have hnl := hR.next
  have kw := repW_kept w q g.own
  have hW := hR.nil (repW_kept w q Nil)
  have x0 := repW_blk0 w q
  have x1 := repW_blk1 w q
  have x2 := repW_blk2 w q
  have x3 := repW_blk3 w q
  have hnown : ∀ i, w.heap.size ≤ i → ¬ g.own i := fun i hi hx => by have := hR.own_lt hx; omega
  simp only [Nv.val, Nv.cells]
  go_enter Tryz.func68, Tryz.ntmps68
  go_wp2_with fail
  refine (placeL hW).mono ?_
  rintro e w1 ⟨rfl, h1, hk1⟩
  have y0 := x0.kept hk1 (hnown _ (by omega))
  have y1 := x1.kept hk1 (hnown _ (by omega))
  have y2 := x2.kept hk1 (hnown _ (by omega))
  have y3 := x3.kept hk1 (hnown _ (by omega))
  have k0 := kw.trans hk1
  clear x0 x1 x2 x3 kw hW hk1
  go_wp2_with fail
  refine (takeN h1 _ lStar (by rfl) (by decide) c1).mono ?_
  rintro e w2 ⟨rfl, h2, hk2⟩
  go_wp2_with fail
  refine (takeN h2 _ lPlus (by rfl) (by decide) c2).mono ?_
  rintro e w3 ⟨rfl, h3, hk3⟩
  go_wp2_with fail
  refine (takeN h3 _ lQuery (by rfl) (by decide) c3).mono ?_
  rintro e w4 ⟨rfl, h4, hk4⟩
  go_wp2_with fail
  refine (takeY h4 _ lOpenBrace (by rfl) (by decide) c4).mono ?_
  rintro e w5 ⟨rfl, h5, hk5⟩
  go_wp2_with fail
  refine (bounds_rd h5).mono ?_
  rintro e w6 ⟨rfl, h6, hk6⟩
  rw [HL.out, HH.out]
  have hkk := ((((hk2.trans hk3).trans hk4).trans hk5).trans hk6)
  have ka := k0.trans hkk
  have z0 := y0.kept hkk (hnown _ (by omega))
  have z1 := y1.kept hkk (hnown _ (by omega))
  have z2 := y2.kept hkk (hnown _ (by omega))
  have z3 := y3.kept hkk (hnown _ (by omega))
  clear y0 y1 y2 y3
  have e5 : w6.cell? ⟨w.heap.size + 1 + 1 + 1, 5, none⟩ = some (.int .i64 0) := z3.cell 5
  have e6 : w6.cell? ⟨w.heap.size + 1 + 1 + 1, 6, none⟩ = some (.int .i64 0) := z3.cell 6
  have f5 : w6.frozen? ⟨w.heap.size + 1 + 1 + 1, 5, none⟩ = false := z3.frozen 5
  have f6 : w6.frozen? ⟨w.heap.size + 1 + 1 + 1, 6, none⟩ = false := z3.frozen 6
  go_wp2_with fail
  have zz3 := repNv_set z3 (L) (Hh)
  have ks : Kept (fun i => i = w.heap.size + 1 + 1 + 1) w6 ((w6.setCell ⟨w.heap.size + 1 + 1 + 1, 5, none⟩ (.int .i64 (L))).setCell ⟨w.heap.size + 1 + 1 + 1, 6, none⟩ (.int .i64 (Hh))) := ((Kept.refl (fun i => i = w.heap.size + 1 + 1 + 1) w6).setCell (p := ⟨w.heap.size + 1 + 1 + 1, 5, none⟩) (Or.inl rfl) _).setCell (p := ⟨w.heap.size + 1 + 1 + 1, 6, none⟩) (Or.inl rfl) _
  have hs := h6.new hR ks (fun i hi => by omega)
  have kb := ka.trans' ks (fun i hi he => by omega)
  have zz1 := z1.kept ks (by omega)
  have zz2 := z2.kept ks (by omega)
  clear z0 z1 z2 z3 e5 e6 f5 f6
  refine (takeL hs _ lQuery (by rfl) (by decide)).mono ?_
  rintro e wy ⟨rfl, hy, hky⟩
  have t1 := zz1.kept hky (hnown _ (by omega))
  have t2 := zz2.kept hky (hnown _ (by omega))
  have t3 := zz3.kept hky (hnown _ (by omega))
  have ky := kb.trans hky
  clear zz1 zz2 zz3 kb hky ks ka
  generalize hlz : inSet lQuery (seeOf g (pBounds g { st with next := st.next + 1 }).1) = lz at *
  have HLZ : Hid (inSet lQuery (seeOf g (pBounds g { st with next := st.next + 1 }).1) = lz) := hlz
  clear hlz
  have d7 : wy.cell? ⟨w.heap.size + 1 + 1 + 1, 7, none⟩ = some (.bool false) := t3.cell 7
  have f7 : wy.frozen? ⟨w.heap.size + 1 + 1 + 1, 7, none⟩ = false := t3.frozen 7
  obtain ⟨e0, e1, e2, e3, e4, e5, e6, e7⟩ := t1.eight
  obtain ⟨g0, g1, g2, g3, g4, g5, g6, g7⟩ := t1.thaw
  obtain ⟨d0, d1, d2, d3, d4, d5, d6, _⟩ := t3.eight
  simp only [zeroNv, repNv, oneNv] at e0 e1 e2 e3 e4 e5 e6 e7 d0 d1 d2 d3 d4 d5 d6
  have hlt9 : w.heap.size + 1 < wy.heap.size := t1.lt
  have hlt8 : w.heap.size + 1 + 1 + 1 < wy.heap.size := t3.lt
  go_wp2_with fail
  have kl : Kept (fun i => i = w.heap.size + 1 + 1 + 1) wy (wy.setCell ⟨w.heap.size + 1 + 1 + 1, 7, none⟩ (.bool lz)) := (Kept.refl (fun i => i = w.heap.size + 1 + 1 + 1) wy).setCell (p := ⟨w.heap.size + 1 + 1 + 1, 7, none⟩) (Or.inl rfl) _
  have fin := rep_close (low := L) (high := Hh) (lz := lz) hR (hy.new hR kl (fun i hi => by omega)) hp hhi hlw hown (ky.trans' kl (fun i hi he => by omega)) (t2.kept kl (by omega)) (by omega)
  have bfin := putNv_blk (t1.kept kl (by omega)) (repNv (w.heap.size + 1 + 1) (L) (Hh) lz)
  simp only [putNv, repNv, oneNv] at fin bfin
  refine node_ret (i := 4) (b := w.heap.size + 1) (q := repNv (w.heap.size + 1 + 1) (L) (Hh) lz) Tryz.results68 ?_ ?_ ?_ ?_
  · rfl
  · rfl
  · exact bfin
  · rw [HLZ.out]; exact ⟨_, rfl, fin⟩

set_option maxHeartbeats 2000000 in
theorem repeated_braceE {w : World} {g : RG} {fo : Bool} {st : RS} {q : Nv} {A : PT} {CA : CT} {lo hi : Nat} (hR : RdAt w g fo st) (hp : PTAt w lo hi q A CA) (hhi : hi ≤ w.heap.size) (hlw : lo ≤ w.heap.size) (hown : ∀ i, g.own i → i < lo) (c1 : inSet lStar (seeOf g st) = false) (c2 : inSet lPlus (seeOf g st) = false) (c3 : inSet lQuery (seeOf g st) = false) (c4 : inSet lOpenBrace (seeOf g st) = true) (t1 : (pBounds g { st with next := st.next + 1 }).2.1 ≤ 20) (t2 : (pBounds g { st with next := st.next + 1 }).2.2 ≤ 20) (t3 : ((pBounds g { st with next := st.next + 1 }).2.2 != -1) = false) :
    Calls Tryz.prog 68 #[.pointer (some ⟨g.b, 0, none⟩), Nv.val q] w fun e w' => ∃ q', e = .returned (Nv.val q') ∧ RdAt w' g fo (pRepeated g A st).1 ∧ PTAt w' lo w'.heap.size q' (pRepeated g A st).2 (cRepeated g CA st) ∧ Kept g.own w w' := by
  have hrange := pBounds_range g { st with next := st.next + 1 }
  rw [show pRepeated g A st = (takeOf g lQuery ((pBounds g { st with next := st.next + 1 }).1), .node 4 [A] (pBounds g { st with next := st.next + 1 }).2.1 (pBounds g { st with next := st.next + 1 }).2.2) from by unfold pRepeated; rw [if_neg (by rw [c1]; simp), if_neg (by rw [c2]; simp), if_neg (by rw [c3]; simp), if_pos c4]; simp only; rw [if_neg (by first | omega | (simp at *; omega))], show cRepeated g CA st = cTimes CA (pBounds g { st with next := st.next + 1 }).2.1 (pBounds g { st with next := st.next + 1 }).2.2 (inSet lQuery (seeOf g (pBounds g { st with next := st.next + 1 }).1)) from by unfold cRepeated; rw [if_neg (by rw [c1]; simp), if_neg (by rw [c2]; simp), if_neg (by rw [c3]; simp), if_pos c4]]
  generalize hL : (pBounds g { st with next := st.next + 1 }).2.1 = L at *
  generalize hHh : (pBounds g { st with next := st.next + 1 }).2.2 = Hh at *
  have HL : Hid ((pBounds g { st with next := st.next + 1 }).2.1 = L) := hL
  have HH : Hid ((pBounds g { st with next := st.next + 1 }).2.2 = Hh) := hHh
  clear hL hHh
  have hpr : 0 ≤ placeOf g st ∧ placeOf g st ≤ 300 := hR.prange st.next
  have hlen := hR.len
  have hnl := hR.next
  have kw := repW_kept w q g.own
  have hW := hR.nil (repW_kept w q Nil)
  have x0 := repW_blk0 w q
  have x1 := repW_blk1 w q
  have x2 := repW_blk2 w q
  have x3 := repW_blk3 w q
  have hnown : ∀ i, w.heap.size ≤ i → ¬ g.own i := fun i hi hx => by have := hR.own_lt hx; omega
  simp only [Nv.val, Nv.cells]
  go_enter Tryz.func68, Tryz.ntmps68
  go_wp2_with fail
  refine (placeL hW).mono ?_
  rintro e w1 ⟨rfl, h1, hk1⟩
  have y0 := x0.kept hk1 (hnown _ (by omega))
  have y1 := x1.kept hk1 (hnown _ (by omega))
  have y2 := x2.kept hk1 (hnown _ (by omega))
  have y3 := x3.kept hk1 (hnown _ (by omega))
  have k0 := kw.trans hk1
  clear x0 x1 x2 x3 kw hW hk1
  go_wp2_with fail
  refine (takeN h1 _ lStar (by rfl) (by decide) c1).mono ?_
  rintro e w2 ⟨rfl, h2, hk2⟩
  go_wp2_with fail
  refine (takeN h2 _ lPlus (by rfl) (by decide) c2).mono ?_
  rintro e w3 ⟨rfl, h3, hk3⟩
  go_wp2_with fail
  refine (takeN h3 _ lQuery (by rfl) (by decide) c3).mono ?_
  rintro e w4 ⟨rfl, h4, hk4⟩
  go_wp2_with fail
  refine (takeY h4 _ lOpenBrace (by rfl) (by decide) c4).mono ?_
  rintro e w5 ⟨rfl, h5, hk5⟩
  go_wp2_with fail
  refine (bounds_rd h5).mono ?_
  rintro e w6 ⟨rfl, h6, hk6⟩
  rw [HL.out, HH.out]
  have hkk := ((((hk2.trans hk3).trans hk4).trans hk5).trans hk6)
  have ka := k0.trans hkk
  have z0 := y0.kept hkk (hnown _ (by omega))
  have z1 := y1.kept hkk (hnown _ (by omega))
  have z2 := y2.kept hkk (hnown _ (by omega))
  have z3 := y3.kept hkk (hnown _ (by omega))
  clear y0 y1 y2 y3
  have e5 : w6.cell? ⟨w.heap.size + 1 + 1 + 1, 5, none⟩ = some (.int .i64 0) := z3.cell 5
  have e6 : w6.cell? ⟨w.heap.size + 1 + 1 + 1, 6, none⟩ = some (.int .i64 0) := z3.cell 6
  have f5 : w6.frozen? ⟨w.heap.size + 1 + 1 + 1, 5, none⟩ = false := z3.frozen 5
  have f6 : w6.frozen? ⟨w.heap.size + 1 + 1 + 1, 6, none⟩ = false := z3.frozen 6
  go_wp2_with fail
  have zz3 := repNv_set z3 (L) (Hh)
  have ks : Kept (fun i => i = w.heap.size + 1 + 1 + 1) w6 ((w6.setCell ⟨w.heap.size + 1 + 1 + 1, 5, none⟩ (.int .i64 (L))).setCell ⟨w.heap.size + 1 + 1 + 1, 6, none⟩ (.int .i64 (Hh))) := ((Kept.refl (fun i => i = w.heap.size + 1 + 1 + 1) w6).setCell (p := ⟨w.heap.size + 1 + 1 + 1, 5, none⟩) (Or.inl rfl) _).setCell (p := ⟨w.heap.size + 1 + 1 + 1, 6, none⟩) (Or.inl rfl) _
  have hs := h6.new hR ks (fun i hi => by omega)
  have kb := ka.trans' ks (fun i hi he => by omega)
  have zz1 := z1.kept ks (by omega)
  have zz2 := z2.kept ks (by omega)
  clear z0 z1 z2 z3 e5 e6 f5 f6
  refine (takeL hs _ lQuery (by rfl) (by decide)).mono ?_
  rintro e wy ⟨rfl, hy, hky⟩
  have t1 := zz1.kept hky (hnown _ (by omega))
  have t2 := zz2.kept hky (hnown _ (by omega))
  have t3 := zz3.kept hky (hnown _ (by omega))
  have ky := kb.trans hky
  clear zz1 zz2 zz3 kb hky ks ka
  generalize hlz : inSet lQuery (seeOf g (pBounds g { st with next := st.next + 1 }).1) = lz at *
  have HLZ : Hid (inSet lQuery (seeOf g (pBounds g { st with next := st.next + 1 }).1) = lz) := hlz
  clear hlz
  have d7 : wy.cell? ⟨w.heap.size + 1 + 1 + 1, 7, none⟩ = some (.bool false) := t3.cell 7
  have f7 : wy.frozen? ⟨w.heap.size + 1 + 1 + 1, 7, none⟩ = false := t3.frozen 7
  obtain ⟨e0, e1, e2, e3, e4, e5, e6, e7⟩ := t1.eight
  obtain ⟨g0, g1, g2, g3, g4, g5, g6, g7⟩ := t1.thaw
  obtain ⟨d0, d1, d2, d3, d4, d5, d6, _⟩ := t3.eight
  simp only [zeroNv, repNv, oneNv] at e0 e1 e2 e3 e4 e5 e6 e7 d0 d1 d2 d3 d4 d5 d6
  have hlt9 : w.heap.size + 1 < wy.heap.size := t1.lt
  have hlt8 : w.heap.size + 1 + 1 + 1 < wy.heap.size := t3.lt
  go_wp2_with fail
  have kl : Kept (fun i => i = w.heap.size + 1 + 1 + 1) wy (wy.setCell ⟨w.heap.size + 1 + 1 + 1, 7, none⟩ (.bool lz)) := (Kept.refl (fun i => i = w.heap.size + 1 + 1 + 1) wy).setCell (p := ⟨w.heap.size + 1 + 1 + 1, 7, none⟩) (Or.inl rfl) _
  have fin := rep_close (low := L) (high := Hh) (lz := lz) hR (hy.new hR kl (fun i hi => by omega)) hp hhi hlw hown (ky.trans' kl (fun i hi he => by omega)) (t2.kept kl (by omega)) (by omega)
  have bfin := putNv_blk (t1.kept kl (by omega)) (repNv (w.heap.size + 1 + 1) (L) (Hh) lz)
  simp only [putNv, repNv, oneNv] at fin bfin
  refine node_ret (i := 4) (b := w.heap.size + 1) (q := repNv (w.heap.size + 1 + 1) (L) (Hh) lz) Tryz.results68 ?_ ?_ ?_ ?_
  · rfl
  · rfl
  · exact bfin
  · rw [HLZ.out]; exact ⟨_, rfl, fin⟩

set_option maxHeartbeats 2000000 in
theorem repeated_none {w : World} {g : RG} {fo : Bool} {st : RS} {q : Nv} {A : PT} {CA : CT} {lo hi : Nat} (hR : RdAt w g fo st) (hp : PTAt w lo hi q A CA) (hhi : hi ≤ w.heap.size) (hlw : lo ≤ w.heap.size) (hown : ∀ i, g.own i → i < lo) (c1 : inSet lStar (seeOf g st) = false) (c2 : inSet lPlus (seeOf g st) = false) (c3 : inSet lQuery (seeOf g st) = false) (c4 : inSet lOpenBrace (seeOf g st) = false) :
    Calls Tryz.prog 68 #[.pointer (some ⟨g.b, 0, none⟩), Nv.val q] w fun e w' => ∃ q', e = .returned (Nv.val q') ∧ RdAt w' g fo (pRepeated g A st).1 ∧ PTAt w' lo w'.heap.size q' (pRepeated g A st).2 (cRepeated g CA st) ∧ Kept g.own w w' := by
  rw [show pRepeated g A st = (st, A) from by unfold pRepeated; rw [if_neg (by rw [c1]; simp), if_neg (by rw [c2]; simp), if_neg (by rw [c3]; simp), if_neg (by rw [c4]; simp)], show cRepeated g CA st = CA from by unfold cRepeated; rw [if_neg (by rw [c1]; simp), if_neg (by rw [c2]; simp), if_neg (by rw [c3]; simp), if_neg (by rw [c4]; simp)]]
  have hpr : 0 ≤ placeOf g st ∧ placeOf g st ≤ 300 := hR.prange st.next
  have hlen := hR.len
  have hnl := hR.next
  have kw := repW_kept w q g.own
  have hW := hR.nil (repW_kept w q Nil)
  have x0 := repW_blk0 w q
  have x1 := repW_blk1 w q
  have x2 := repW_blk2 w q
  have x3 := repW_blk3 w q
  have hnown : ∀ i, w.heap.size ≤ i → ¬ g.own i := fun i hi hx => by have := hR.own_lt hx; omega
  simp only [Nv.val, Nv.cells]
  go_enter Tryz.func68, Tryz.ntmps68
  go_wp2_with fail
  refine (placeL hW).mono ?_
  rintro e w1 ⟨rfl, h1, hk1⟩
  have y0 := x0.kept hk1 (hnown _ (by omega))
  have y1 := x1.kept hk1 (hnown _ (by omega))
  have y2 := x2.kept hk1 (hnown _ (by omega))
  have y3 := x3.kept hk1 (hnown _ (by omega))
  have k0 := kw.trans hk1
  clear x0 x1 x2 x3 kw hW hk1
  go_wp2_with fail
  refine (takeN h1 _ lStar (by rfl) (by decide) c1).mono ?_
  rintro e w2 ⟨rfl, h2, hk2⟩
  go_wp2_with fail
  refine (takeN h2 _ lPlus (by rfl) (by decide) c2).mono ?_
  rintro e w3 ⟨rfl, h3, hk3⟩
  go_wp2_with fail
  refine (takeN h3 _ lQuery (by rfl) (by decide) c3).mono ?_
  rintro e w4 ⟨rfl, h4, hk4⟩
  go_wp2_with fail
  refine (takeN h4 _ lOpenBrace (by rfl) (by decide) c4).mono ?_
  rintro e w5 ⟨rfl, h5, hk5⟩
  have hkk := (((hk2.trans hk3).trans hk4).trans hk5)
  have ka := k0.trans hkk
  have z0 := y0.kept hkk (hnown _ (by omega))
  have z1 := y1.kept hkk (hnown _ (by omega))
  have z2 := y2.kept hkk (hnown _ (by omega))
  have z3 := y3.kept hkk (hnown _ (by omega))
  clear y0 y1 y2 y3
  obtain ⟨p0, p1, p2, p3, p4, p5, p6, p7⟩ := z0.eight
  obtain ⟨e0, e1, e2, e3, e4, e5, e6, e7⟩ := z1.eight
  obtain ⟨g0, g1, g2, g3, g4, g5, g6, g7⟩ := z1.thaw
  simp only [zeroNv] at e0 e1 e2 e3 e4 e5 e6 e7
  have hlt9 : w.heap.size + 1 < w5.heap.size := z1.lt
  go_wp2_with fail
  have fin := rep_close0 hR h5 hp hhi hown ka
  have bfin := putNv_blk z1 q
  simp only [putNv] at fin bfin
  refine node_ret (i := 4) (b := w.heap.size + 1) (q := q) Tryz.results68 ?_ ?_ ?_ ?_
  · rfl
  · rfl
  · exact bfin
  · exact ⟨_, rfl, fin⟩

theorem repeated_rd {w : World} {g : RG} {fo : Bool} {st : RS} {q : Nv} {A : PT} {CA : CT} {lo hi : Nat} (hR : RdAt w g fo st) (hp : PTAt w lo hi q A CA) (hhi : hi ≤ w.heap.size) (hlw : lo ≤ w.heap.size) (hown : ∀ i, g.own i → i < lo) :
    Calls Tryz.prog 68 #[.pointer (some ⟨g.b, 0, none⟩), Nv.val q] w fun e w' => ∃ q', e = .returned (Nv.val q') ∧ RdAt w' g fo (pRepeated g A st).1 ∧ PTAt w' lo w'.heap.size q' (pRepeated g A st).2 (cRepeated g CA st) ∧ Kept g.own w w' := by
  cases c1 : inSet lStar (seeOf g st)
  · cases c2 : inSet lPlus (seeOf g st)
    · cases c3 : inSet lQuery (seeOf g st)
      · cases c4 : inSet lOpenBrace (seeOf g st)
        · exact repeated_none hR hp hhi hlw hown c1 c2 c3 c4
        · by_cases t1 : 20 < (pBounds g { st with next := st.next + 1 }).2.1
          · exact repeated_braceA hR hp hhi hlw hown c1 c2 c3 c4 t1
          · by_cases t2 : 20 < (pBounds g { st with next := st.next + 1 }).2.2
            · exact repeated_braceB hR hp hhi hlw hown c1 c2 c3 c4 (by omega) t2
            · cases t3 : ((pBounds g { st with next := st.next + 1 }).2.2 != -1)
              · exact repeated_braceE hR hp hhi hlw hown c1 c2 c3 c4 (by omega) (by omega) t3
              · by_cases t4 : (pBounds g { st with next := st.next + 1 }).2.2 < (pBounds g { st with next := st.next + 1 }).2.1
                · exact repeated_braceC hR hp hhi hlw hown c1 c2 c3 c4 (by omega) (by omega) t3 t4
                · exact repeated_braceD hR hp hhi hlw hown c1 c2 c3 c4 (by omega) (by omega) t3 (by omega)
      · exact repeated_query hR hp hhi hlw hown c1 c2 c3
    · exact repeated_plus hR hp hhi hlw hown c1 c2
  · exact repeated_star hR hp hhi hlw hown c1
end Go.Proofs.YtnbfddjaonlmaaaGreatDoor
