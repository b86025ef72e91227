/- The reader of the program: repeated. -/
import Derived.Test.YtlimhofdonkljaaRd6
namespace Go.Proofs.Ytlimhofdonkljaa
open Go.RowKit Go.Maps
set_option linter.unusedVariables false

/-- the four blocks that 'repeated' lays at first -/
def repW (w : World) (q : Quad) : World :=
  (((w.alloc (.cells #[q.1, q.2.1, q.2.2.1, q.2.2.2] 53)).alloc (.cells #[.int .i64 0, .slice none 0 0, .int .i64 0, .int .i64 0] 53)).alloc (.cells #[q.1, q.2.1, q.2.2.1, q.2.2.2] 53)).alloc
    (.cells #[.int .i64 4, .slice (some ⟨w.heap.size + 1 + 1, 0, none⟩) 1 1, .int .i64 0, .int .i64 0] 53)
theorem repW_kept (w : World) (q : Quad) (S : Nat → Prop) : Kept S w (repW w q) := ((((Kept.refl S w).alloc _).alloc _).alloc _).alloc _
theorem repW_size (w : World) (q : Quad) : (repW w q).heap.size = w.heap.size + 4 := by simp [repW]
theorem repW_blk0 (w : World) (q : Quad) : Blk (repW w q) w.heap.size #[q.1, q.2.1, q.2.2.1, q.2.2.2] 53 := (((Blk.new w _ _).alloc _).alloc _).alloc _
theorem size_alloc1 (w : World) (o : Obj) : (w.alloc o).heap.size = w.heap.size + 1 := by simp
theorem repW_blk1 (w : World) (q : Quad) : Blk (repW w q) (w.heap.size + 1) #[.int .i64 0, .slice none 0 0, .int .i64 0, .int .i64 0] 53 := by
  have := ((Blk.new (w.alloc (.cells #[q.1, q.2.1, q.2.2.1, q.2.2.2] 53)) #[.int .i64 0, .slice none 0 0, .int .i64 0, .int .i64 0] 53).alloc (.cells #[q.1, q.2.1, q.2.2.1, q.2.2.2] 53)).alloc (.cells #[.int .i64 4, .slice (some ⟨w.heap.size + 1 + 1, 0, none⟩) 1 1, .int .i64 0, .int .i64 0] 53)
  rw [size_alloc1] at this
  exact this
theorem repW_blk2 (w : World) (q : Quad) : Blk (repW w q) (w.heap.size + 1 + 1) #[q.1, q.2.1, q.2.2.1, q.2.2.2] 53 := by
  have := (Blk.new ((w.alloc (.cells #[q.1, q.2.1, q.2.2.1, q.2.2.2] 53)).alloc (.cells #[.int .i64 0, .slice none 0 0, .int .i64 0, .int .i64 0] 53)) #[q.1, q.2.1, q.2.2.1, q.2.2.2] 53).alloc (.cells #[.int .i64 4, .slice (some ⟨w.heap.size + 1 + 1, 0, none⟩) 1 1, .int .i64 0, .int .i64 0] 53)
  rw [size_alloc1, size_alloc1] at this
  exact this
theorem repW_blk3 (w : World) (q : Quad) : Blk (repW w q) (w.heap.size + 1 + 1 + 1) #[.int .i64 4, .slice (some ⟨w.heap.size + 1 + 1, 0, none⟩) 1 1, .int .i64 0, .int .i64 0] 53 := by
  have := Blk.new (((w.alloc (.cells #[q.1, q.2.1, q.2.2.1, q.2.2.2] 53)).alloc (.cells #[.int .i64 0, .slice none 0 0, .int .i64 0, .int .i64 0] 53)).alloc (.cells #[q.1, q.2.1, q.2.2.1, q.2.2.2] 53)) #[.int .i64 4, .slice (some ⟨w.heap.size + 1 + 1, 0, none⟩) 1 1, .int .i64 0, .int .i64 0] 53
  rw [size_alloc1, size_alloc1, size_alloc1] at this
  exact this

/-- what 'repeated' leaves where there are times -/
theorem rep_close {w wz : World} {g : RG} {st st' : RS} {q : Quad} {A : PT} {lo hi : Nat} {low high : Int} (hR : RdAt w g st) (hz : RdAt wz g st') (hp : PTAt w lo hi q.val A) (hhi : hi ≤ w.heap.size) (hlw : lo ≤ w.heap.size) (hown : ∀ i, g.own i → i < lo)
    (k1 : Kept g.own w wz) (b2 : Blk wz (w.heap.size + 1 + 1) #[q.1, q.2.1, q.2.2.1, q.2.2.2] 53) (hl : (-1 ≤ low ∧ low ≤ 99) ∧ (-1 ≤ high ∧ high ≤ 99)) :
    RdAt (setQuad wz (w.heap.size + 1) (.int .i64 4, .slice (some ⟨w.heap.size + 1 + 1, 0, none⟩) 1 1, .int .i64 low, .int .i64 high)) g st' ∧
    PTAt (setQuad wz (w.heap.size + 1) (.int .i64 4, .slice (some ⟨w.heap.size + 1 + 1, 0, none⟩) 1 1, .int .i64 low, .int .i64 high)) lo (setQuad wz (w.heap.size + 1) (.int .i64 4, .slice (some ⟨w.heap.size + 1 + 1, 0, none⟩) 1 1, .int .i64 low, .int .i64 high)).heap.size
      (.agg #[.int .i64 4, .slice (some ⟨w.heap.size + 1 + 1, 0, none⟩) 1 1, .int .i64 low, .int .i64 high]) (.node 4 [A] low high) ∧
    Kept g.own w (setQuad wz (w.heap.size + 1) (.int .i64 4, .slice (some ⟨w.heap.size + 1 + 1, 0, none⟩) 1 1, .int .i64 low, .int .i64 high)) := by
  generalize hQ : ((.int .i64 4, .slice (some ⟨w.heap.size + 1 + 1, 0, none⟩) 1 1, .int .i64 low, .int .i64 high) : Quad) = Q
  have sz := setQuad_size wz (w.heap.size + 1) Q
  have kq := setQuad_kept wz (w.heap.size + 1) Q
  have blt := b2.lt
  have kk := k1.trans' kq (fun i hi he => by omega)
  refine ⟨hz.new hR kq (fun i hi => by omega), ?_, kk⟩
  exact PTAt.wrap (q := q) hp hhi kk (fun i hi => Or.inl (hown i hi)) (b2.kept kq (by omega)) (Nat.le_refl _) (by omega) ⟨by omega, by omega⟩ ⟨hl.1, hl.2, by omega⟩

/-- what 'repeated' leaves where there are none -/
theorem rep_close0 {w wz : World} {g : RG} {st st' : RS} {q : Quad} {A : PT} {lo hi : Nat} (hR : RdAt w g st) (hz : RdAt wz g st') (hp : PTAt w lo hi q.val A) (hhi : hi ≤ w.heap.size) (hown : ∀ i, g.own i → i < lo)
    (k1 : Kept g.own w wz) :
    RdAt (setQuad wz (w.heap.size + 1) q) g st' ∧ PTAt (setQuad wz (w.heap.size + 1) q) lo (setQuad wz (w.heap.size + 1) q).heap.size q.val A ∧ Kept g.own w (setQuad wz (w.heap.size + 1) q) := by
  have sz := setQuad_size wz (w.heap.size + 1) q
  have kq := setQuad_kept wz (w.heap.size + 1) q
  have s1 := k1.size
  have kk := k1.trans' kq (fun i hi he => by omega)
  exact ⟨hz.new hR kq (fun i hi => by omega), (hp.kept kk (fun i h1 _ hx => by have := hown i hx; omega) hhi).widen (Nat.le_refl _) (by omega), kk⟩

theorem repeated_star {w : World} {g : RG} {st : RS} {k' l hh2 : Int} {ao : Option Addr} {n cap : Nat} {A : PT} {lo hi : Nat} (hR : RdAt w g st) (hp : PTAt w lo hi (Quad.val (.int .i64 k', .slice ao n cap, .int .i64 l, .int .i64 hh2)) A) (hhi : hi ≤ w.heap.size) (hlw : lo ≤ w.heap.size) (hown : ∀ i, g.own i → i < lo) (c1 : inSet lStar (seeOf g st) = true) :
    Calls Try.prog 53 #[.pointer (some ⟨g.b, 0, none⟩), .agg #[.int .i64 k', .slice ao n cap, .int .i64 l, .int .i64 hh2]] w fun e w' => ∃ v, e = .returned v ∧ RdAt w' g (pRepeated g A st).1 ∧ PTAt w' lo w'.heap.size v (pRepeated g A st).2 ∧ Kept g.own w w' := by
  rw [show pRepeated g A st = (takeOf g lQuery { st with next := st.next + 1 }, .node 4 [A] 0 (-1)) from by simp [pRepeated, c1]]
  have hpr : 0 ≤ placeOf g st ∧ placeOf g st ≤ 300 := hR.prange st.next
  have hlen := hR.len
  have hnl := hR.next
  have kw := repW_kept w (.int .i64 k', .slice ao n cap, .int .i64 l, .int .i64 hh2) g.own
  have hW := hR.nil (repW_kept w (.int .i64 k', .slice ao n cap, .int .i64 l, .int .i64 hh2) Nil)
  have x0 := repW_blk0 w (.int .i64 k', .slice ao n cap, .int .i64 l, .int .i64 hh2)
  have x1 := repW_blk1 w (.int .i64 k', .slice ao n cap, .int .i64 l, .int .i64 hh2)
  have x2 := repW_blk2 w (.int .i64 k', .slice ao n cap, .int .i64 l, .int .i64 hh2)
  have x3 := repW_blk3 w (.int .i64 k', .slice ao n cap, .int .i64 l, .int .i64 hh2)
  have hnown : ∀ i, w.heap.size ≤ i → ¬ g.own i := fun i hi hx => by have := hR.own_lt hx; omega
  go_enter Try.func53, Try.ntmps53
  go_wp2_with fail
  refine (placeL hW).mono ?_
  rintro e w1 ⟨rfl, h1, hk1⟩
  have y0 := x0.kept hk1 (hnown _ (by omega))
  have y1 := x1.kept hk1 (hnown _ (by omega))
  have y2 := x2.kept hk1 (hnown _ (by omega))
  have y3 := x3.kept hk1 (hnown _ (by omega))
  have k0 := kw.trans hk1
  clear x0 x1 x2 x3 kw hW hk1
  go_wp2_with fail
  refine (takeY h1 _ lStar (by rfl) (by decide) c1).mono ?_
  rintro e w2 ⟨rfl, h2, hk2⟩
  have ka := k0.trans hk2
  have z0 := y0.kept hk2 (hnown _ (by omega))
  have z1 := y1.kept hk2 (hnown _ (by omega))
  have z2 := y2.kept hk2 (hnown _ (by omega))
  have z3 := y3.kept hk2 (hnown _ (by omega))
  clear y0 y1 y2 y3
  have e2 : w2.cell? ⟨w.heap.size + 1 + 1 + 1, 2, none⟩ = some (.int .i64 0) := z3.cell 2
  have e3 : w2.cell? ⟨w.heap.size + 1 + 1 + 1, 3, none⟩ = some (.int .i64 0) := z3.cell 3
  have f2 : w2.frozen? ⟨w.heap.size + 1 + 1 + 1, 2, none⟩ = false := z3.frozen 2
  have f3 : w2.frozen? ⟨w.heap.size + 1 + 1 + 1, 3, none⟩ = false := z3.frozen 3
  go_wp2_with fail
  have zz3 := (z3.setCell 2 (.int .i64 (0))).setCell 3 (.int .i64 (-1))
  have ks : Kept (fun i => i = w.heap.size + 1 + 1 + 1) w2 ((w2.setCell ⟨w.heap.size + 1 + 1 + 1, 2, none⟩ (.int .i64 (0))).setCell ⟨w.heap.size + 1 + 1 + 1, 3, none⟩ (.int .i64 (-1))) := ((Kept.refl (fun i => i = w.heap.size + 1 + 1 + 1) w2).setCell (p := ⟨w.heap.size + 1 + 1 + 1, 2, none⟩) (Or.inl rfl) _).setCell (p := ⟨w.heap.size + 1 + 1 + 1, 3, none⟩) (Or.inl rfl) _
  have hs := h2.new hR ks (fun i hi => by omega)
  have kb := ka.trans' ks (fun i hi he => by omega)
  have zz1 := z1.kept ks (by omega)
  have zz2 := z2.kept ks (by omega)
  clear z0 z1 z2 z3 e2 e3 f2 f3
  refine (takeL hs _ lQuery (by rfl) (by decide)).mono ?_
  rintro e wz ⟨rfl, hz, hkz⟩
  have t1 := zz1.kept hkz (hnown _ (by omega))
  have t2 := zz2.kept hkz (hnown _ (by omega))
  have t3 := zz3.kept hkz (hnown _ (by omega))
  have kz := kb.trans hkz
  clear zz1 zz2 zz3 kb hkz ks ka
  have e0 : wz.cell? ⟨w.heap.size + 1, 0, none⟩ = some (.int .i64 0) := t1.cell 0
  have e1 : wz.cell? ⟨w.heap.size + 1, 1, none⟩ = some (.slice none 0 0) := t1.cell 1
  have e2 : wz.cell? ⟨w.heap.size + 1, 2, none⟩ = some (.int .i64 0) := t1.cell 2
  have e3 : wz.cell? ⟨w.heap.size + 1, 3, none⟩ = some (.int .i64 0) := t1.cell 3
  have g0 : wz.frozen? ⟨w.heap.size + 1, 0, none⟩ = false := t1.frozen 0
  have g1 : wz.frozen? ⟨w.heap.size + 1, 1, none⟩ = false := t1.frozen 1
  have g2 : wz.frozen? ⟨w.heap.size + 1, 2, none⟩ = false := t1.frozen 2
  have g3 : wz.frozen? ⟨w.heap.size + 1, 3, none⟩ = false := t1.frozen 3
  have d0 : wz.cell? ⟨w.heap.size + 1 + 1 + 1, 0, none⟩ = some (.int .i64 4) := t3.cell 0
  have d1 : wz.cell? ⟨w.heap.size + 1 + 1 + 1, 1, none⟩ = some (.slice (some ⟨w.heap.size + 1 + 1, 0, none⟩) 1 1) := t3.cell 1
  have d2 : wz.cell? ⟨w.heap.size + 1 + 1 + 1, 2, none⟩ = some (.int .i64 (0)) := t3.cell 2
  have d3 : wz.cell? ⟨w.heap.size + 1 + 1 + 1, 3, none⟩ = some (.int .i64 (-1)) := t3.cell 3
  go_wp2_with fail
  have fin := rep_close (low := 0) (high := -1) hR hz hp hhi hlw hown kz t2 (by omega)
  have bfin := setQuad_blk t1 rfl (.int .i64 4, .slice (some ⟨w.heap.size + 1 + 1, 0, none⟩) 1 1, .int .i64 (0), .int .i64 (-1))
  simp only [setQuad] at fin bfin
  refine node_ret (i := 4) (b := w.heap.size + 1) (q := (.int .i64 4, .slice (some ⟨w.heap.size + 1 + 1, 0, none⟩) 1 1, .int .i64 (0), .int .i64 (-1))) Try.results53 ?_ ?_ ?_ ?_
  · rfl
  · rfl
  · exact bfin
  · exact ⟨_, rfl, fin⟩

theorem repeated_plus {w : World} {g : RG} {st : RS} {k' l hh2 : Int} {ao : Option Addr} {n cap : Nat} {A : PT} {lo hi : Nat} (hR : RdAt w g st) (hp : PTAt w lo hi (Quad.val (.int .i64 k', .slice ao n cap, .int .i64 l, .int .i64 hh2)) A) (hhi : hi ≤ w.heap.size) (hlw : lo ≤ w.heap.size) (hown : ∀ i, g.own i → i < lo) (c1 : inSet lStar (seeOf g st) = false) (c2 : inSet lPlus (seeOf g st) = true) :
    Calls Try.prog 53 #[.pointer (some ⟨g.b, 0, none⟩), .agg #[.int .i64 k', .slice ao n cap, .int .i64 l, .int .i64 hh2]] w fun e w' => ∃ v, e = .returned v ∧ RdAt w' g (pRepeated g A st).1 ∧ PTAt w' lo w'.heap.size v (pRepeated g A st).2 ∧ Kept g.own w w' := by
  rw [show pRepeated g A st = (takeOf g lQuery { st with next := st.next + 1 }, .node 4 [A] 1 (-1)) from by simp [pRepeated, c1, c2]]
  have hpr : 0 ≤ placeOf g st ∧ placeOf g st ≤ 300 := hR.prange st.next
  have hlen := hR.len
  have hnl := hR.next
  have kw := repW_kept w (.int .i64 k', .slice ao n cap, .int .i64 l, .int .i64 hh2) g.own
  have hW := hR.nil (repW_kept w (.int .i64 k', .slice ao n cap, .int .i64 l, .int .i64 hh2) Nil)
  have x0 := repW_blk0 w (.int .i64 k', .slice ao n cap, .int .i64 l, .int .i64 hh2)
  have x1 := repW_blk1 w (.int .i64 k', .slice ao n cap, .int .i64 l, .int .i64 hh2)
  have x2 := repW_blk2 w (.int .i64 k', .slice ao n cap, .int .i64 l, .int .i64 hh2)
  have x3 := repW_blk3 w (.int .i64 k', .slice ao n cap, .int .i64 l, .int .i64 hh2)
  have hnown : ∀ i, w.heap.size ≤ i → ¬ g.own i := fun i hi hx => by have := hR.own_lt hx; omega
  go_enter Try.func53, Try.ntmps53
  go_wp2_with fail
  refine (placeL hW).mono ?_
  rintro e w1 ⟨rfl, h1, hk1⟩
  have y0 := x0.kept hk1 (hnown _ (by omega))
  have y1 := x1.kept hk1 (hnown _ (by omega))
  have y2 := x2.kept hk1 (hnown _ (by omega))
  have y3 := x3.kept hk1 (hnown _ (by omega))
  have k0 := kw.trans hk1
  clear x0 x1 x2 x3 kw hW hk1
  go_wp2_with fail
  refine (takeN h1 _ lStar (by rfl) (by decide) c1).mono ?_
  rintro e w2 ⟨rfl, h2, hk2⟩
  go_wp2_with fail
  refine (takeY h2 _ lPlus (by rfl) (by decide) c2).mono ?_
  rintro e w3 ⟨rfl, h3, hk3⟩
  have ka := k0.trans (hk2.trans hk3)
  have z0 := y0.kept (hk2.trans hk3) (hnown _ (by omega))
  have z1 := y1.kept (hk2.trans hk3) (hnown _ (by omega))
  have z2 := y2.kept (hk2.trans hk3) (hnown _ (by omega))
  have z3 := y3.kept (hk2.trans hk3) (hnown _ (by omega))
  clear y0 y1 y2 y3
  have e2 : w3.cell? ⟨w.heap.size + 1 + 1 + 1, 2, none⟩ = some (.int .i64 0) := z3.cell 2
  have e3 : w3.cell? ⟨w.heap.size + 1 + 1 + 1, 3, none⟩ = some (.int .i64 0) := z3.cell 3
  have f2 : w3.frozen? ⟨w.heap.size + 1 + 1 + 1, 2, none⟩ = false := z3.frozen 2
  have f3 : w3.frozen? ⟨w.heap.size + 1 + 1 + 1, 3, none⟩ = false := z3.frozen 3
  go_wp2_with fail
  have zz3 := (z3.setCell 2 (.int .i64 (1))).setCell 3 (.int .i64 (-1))
  have ks : Kept (fun i => i = w.heap.size + 1 + 1 + 1) w3 ((w3.setCell ⟨w.heap.size + 1 + 1 + 1, 2, none⟩ (.int .i64 (1))).setCell ⟨w.heap.size + 1 + 1 + 1, 3, none⟩ (.int .i64 (-1))) := ((Kept.refl (fun i => i = w.heap.size + 1 + 1 + 1) w3).setCell (p := ⟨w.heap.size + 1 + 1 + 1, 2, none⟩) (Or.inl rfl) _).setCell (p := ⟨w.heap.size + 1 + 1 + 1, 3, none⟩) (Or.inl rfl) _
  have hs := h3.new hR ks (fun i hi => by omega)
  have kb := ka.trans' ks (fun i hi he => by omega)
  have zz1 := z1.kept ks (by omega)
  have zz2 := z2.kept ks (by omega)
  clear z0 z1 z2 z3 e2 e3 f2 f3
  refine (takeL hs _ lQuery (by rfl) (by decide)).mono ?_
  rintro e wz ⟨rfl, hz, hkz⟩
  have t1 := zz1.kept hkz (hnown _ (by omega))
  have t2 := zz2.kept hkz (hnown _ (by omega))
  have t3 := zz3.kept hkz (hnown _ (by omega))
  have kz := kb.trans hkz
  clear zz1 zz2 zz3 kb hkz ks ka
  have e0 : wz.cell? ⟨w.heap.size + 1, 0, none⟩ = some (.int .i64 0) := t1.cell 0
  have e1 : wz.cell? ⟨w.heap.size + 1, 1, none⟩ = some (.slice none 0 0) := t1.cell 1
  have e2 : wz.cell? ⟨w.heap.size + 1, 2, none⟩ = some (.int .i64 0) := t1.cell 2
  have e3 : wz.cell? ⟨w.heap.size + 1, 3, none⟩ = some (.int .i64 0) := t1.cell 3
  have g0 : wz.frozen? ⟨w.heap.size + 1, 0, none⟩ = false := t1.frozen 0
  have g1 : wz.frozen? ⟨w.heap.size + 1, 1, none⟩ = false := t1.frozen 1
  have g2 : wz.frozen? ⟨w.heap.size + 1, 2, none⟩ = false := t1.frozen 2
  have g3 : wz.frozen? ⟨w.heap.size + 1, 3, none⟩ = false := t1.frozen 3
  have d0 : wz.cell? ⟨w.heap.size + 1 + 1 + 1, 0, none⟩ = some (.int .i64 4) := t3.cell 0
  have d1 : wz.cell? ⟨w.heap.size + 1 + 1 + 1, 1, none⟩ = some (.slice (some ⟨w.heap.size + 1 + 1, 0, none⟩) 1 1) := t3.cell 1
  have d2 : wz.cell? ⟨w.heap.size + 1 + 1 + 1, 2, none⟩ = some (.int .i64 (1)) := t3.cell 2
  have d3 : wz.cell? ⟨w.heap.size + 1 + 1 + 1, 3, none⟩ = some (.int .i64 (-1)) := t3.cell 3
  go_wp2_with fail
  have fin := rep_close (low := 1) (high := -1) hR hz hp hhi hlw hown kz t2 (by omega)
  have bfin := setQuad_blk t1 rfl (.int .i64 4, .slice (some ⟨w.heap.size + 1 + 1, 0, none⟩) 1 1, .int .i64 (1), .int .i64 (-1))
  simp only [setQuad] at fin bfin
  refine node_ret (i := 4) (b := w.heap.size + 1) (q := (.int .i64 4, .slice (some ⟨w.heap.size + 1 + 1, 0, none⟩) 1 1, .int .i64 (1), .int .i64 (-1))) Try.results53 ?_ ?_ ?_ ?_
  · rfl
  · rfl
  · exact bfin
  · exact ⟨_, rfl, fin⟩

theorem repeated_query {w : World} {g : RG} {st : RS} {k' l hh2 : Int} {ao : Option Addr} {n cap : Nat} {A : PT} {lo hi : Nat} (hR : RdAt w g st) (hp : PTAt w lo hi (Quad.val (.int .i64 k', .slice ao n cap, .int .i64 l, .int .i64 hh2)) A) (hhi : hi ≤ w.heap.size) (hlw : lo ≤ w.heap.size) (hown : ∀ i, g.own i → i < lo) (c1 : inSet lStar (seeOf g st) = false) (c2 : inSet lPlus (seeOf g st) = false) (c3 : inSet lQuery (seeOf g st) = true) :
    Calls Try.prog 53 #[.pointer (some ⟨g.b, 0, none⟩), .agg #[.int .i64 k', .slice ao n cap, .int .i64 l, .int .i64 hh2]] w fun e w' => ∃ v, e = .returned v ∧ RdAt w' g (pRepeated g A st).1 ∧ PTAt w' lo w'.heap.size v (pRepeated g A st).2 ∧ Kept g.own w w' := by
  rw [show pRepeated g A st = (takeOf g lQuery { st with next := st.next + 1 }, .node 4 [A] 0 1) from by simp [pRepeated, c1, c2, c3]]
  have hpr : 0 ≤ placeOf g st ∧ placeOf g st ≤ 300 := hR.prange st.next
  have hlen := hR.len
  have hnl := hR.next
  have kw := repW_kept w (.int .i64 k', .slice ao n cap, .int .i64 l, .int .i64 hh2) g.own
  have hW := hR.nil (repW_kept w (.int .i64 k', .slice ao n cap, .int .i64 l, .int .i64 hh2) Nil)
  have x0 := repW_blk0 w (.int .i64 k', .slice ao n cap, .int .i64 l, .int .i64 hh2)
  have x1 := repW_blk1 w (.int .i64 k', .slice ao n cap, .int .i64 l, .int .i64 hh2)
  have x2 := repW_blk2 w (.int .i64 k', .slice ao n cap, .int .i64 l, .int .i64 hh2)
  have x3 := repW_blk3 w (.int .i64 k', .slice ao n cap, .int .i64 l, .int .i64 hh2)
  have hnown : ∀ i, w.heap.size ≤ i → ¬ g.own i := fun i hi hx => by have := hR.own_lt hx; omega
  go_enter Try.func53, Try.ntmps53
  go_wp2_with fail
  refine (placeL hW).mono ?_
  rintro e w1 ⟨rfl, h1, hk1⟩
  have y0 := x0.kept hk1 (hnown _ (by omega))
  have y1 := x1.kept hk1 (hnown _ (by omega))
  have y2 := x2.kept hk1 (hnown _ (by omega))
  have y3 := x3.kept hk1 (hnown _ (by omega))
  have k0 := kw.trans hk1
  clear x0 x1 x2 x3 kw hW hk1
  go_wp2_with fail
  refine (takeN h1 _ lStar (by rfl) (by decide) c1).mono ?_
  rintro e w2 ⟨rfl, h2, hk2⟩
  go_wp2_with fail
  refine (takeN h2 _ lPlus (by rfl) (by decide) c2).mono ?_
  rintro e w3 ⟨rfl, h3, hk3⟩
  go_wp2_with fail
  refine (takeY h3 _ lQuery (by rfl) (by decide) c3).mono ?_
  rintro e w4 ⟨rfl, h4, hk4⟩
  have ka := k0.trans ((hk2.trans hk3).trans hk4)
  have z0 := y0.kept ((hk2.trans hk3).trans hk4) (hnown _ (by omega))
  have z1 := y1.kept ((hk2.trans hk3).trans hk4) (hnown _ (by omega))
  have z2 := y2.kept ((hk2.trans hk3).trans hk4) (hnown _ (by omega))
  have z3 := y3.kept ((hk2.trans hk3).trans hk4) (hnown _ (by omega))
  clear y0 y1 y2 y3
  have e2 : w4.cell? ⟨w.heap.size + 1 + 1 + 1, 2, none⟩ = some (.int .i64 0) := z3.cell 2
  have e3 : w4.cell? ⟨w.heap.size + 1 + 1 + 1, 3, none⟩ = some (.int .i64 0) := z3.cell 3
  have f2 : w4.frozen? ⟨w.heap.size + 1 + 1 + 1, 2, none⟩ = false := z3.frozen 2
  have f3 : w4.frozen? ⟨w.heap.size + 1 + 1 + 1, 3, none⟩ = false := z3.frozen 3
  go_wp2_with fail
  have zz3 := (z3.setCell 2 (.int .i64 (0))).setCell 3 (.int .i64 (1))
  have ks : Kept (fun i => i = w.heap.size + 1 + 1 + 1) w4 ((w4.setCell ⟨w.heap.size + 1 + 1 + 1, 2, none⟩ (.int .i64 (0))).setCell ⟨w.heap.size + 1 + 1 + 1, 3, none⟩ (.int .i64 (1))) := ((Kept.refl (fun i => i = w.heap.size + 1 + 1 + 1) w4).setCell (p := ⟨w.heap.size + 1 + 1 + 1, 2, none⟩) (Or.inl rfl) _).setCell (p := ⟨w.heap.size + 1 + 1 + 1, 3, none⟩) (Or.inl rfl) _
  have hs := h4.new hR ks (fun i hi => by omega)
  have kb := ka.trans' ks (fun i hi he => by omega)
  have zz1 := z1.kept ks (by omega)
  have zz2 := z2.kept ks (by omega)
  clear z0 z1 z2 z3 e2 e3 f2 f3
  refine (takeL hs _ lQuery (by rfl) (by decide)).mono ?_
  rintro e wz ⟨rfl, hz, hkz⟩
  have t1 := zz1.kept hkz (hnown _ (by omega))
  have t2 := zz2.kept hkz (hnown _ (by omega))
  have t3 := zz3.kept hkz (hnown _ (by omega))
  have kz := kb.trans hkz
  clear zz1 zz2 zz3 kb hkz ks ka
  have e0 : wz.cell? ⟨w.heap.size + 1, 0, none⟩ = some (.int .i64 0) := t1.cell 0
  have e1 : wz.cell? ⟨w.heap.size + 1, 1, none⟩ = some (.slice none 0 0) := t1.cell 1
  have e2 : wz.cell? ⟨w.heap.size + 1, 2, none⟩ = some (.int .i64 0) := t1.cell 2
  have e3 : wz.cell? ⟨w.heap.size + 1, 3, none⟩ = some (.int .i64 0) := t1.cell 3
  have g0 : wz.frozen? ⟨w.heap.size + 1, 0, none⟩ = false := t1.frozen 0
  have g1 : wz.frozen? ⟨w.heap.size + 1, 1, none⟩ = false := t1.frozen 1
  have g2 : wz.frozen? ⟨w.heap.size + 1, 2, none⟩ = false := t1.frozen 2
  have g3 : wz.frozen? ⟨w.heap.size + 1, 3, none⟩ = false := t1.frozen 3
  have d0 : wz.cell? ⟨w.heap.size + 1 + 1 + 1, 0, none⟩ = some (.int .i64 4) := t3.cell 0
  have d1 : wz.cell? ⟨w.heap.size + 1 + 1 + 1, 1, none⟩ = some (.slice (some ⟨w.heap.size + 1 + 1, 0, none⟩) 1 1) := t3.cell 1
  have d2 : wz.cell? ⟨w.heap.size + 1 + 1 + 1, 2, none⟩ = some (.int .i64 (0)) := t3.cell 2
  have d3 : wz.cell? ⟨w.heap.size + 1 + 1 + 1, 3, none⟩ = some (.int .i64 (1)) := t3.cell 3
  go_wp2_with fail
  have fin := rep_close (low := 0) (high := 1) hR hz hp hhi hlw hown kz t2 (by omega)
  have bfin := setQuad_blk t1 rfl (.int .i64 4, .slice (some ⟨w.heap.size + 1 + 1, 0, none⟩) 1 1, .int .i64 (0), .int .i64 (1))
  simp only [setQuad] at fin bfin
  refine node_ret (i := 4) (b := w.heap.size + 1) (q := (.int .i64 4, .slice (some ⟨w.heap.size + 1 + 1, 0, none⟩) 1 1, .int .i64 (0), .int .i64 (1))) Try.results53 ?_ ?_ ?_ ?_
  · rfl
  · rfl
  · exact bfin
  · exact ⟨_, rfl, fin⟩

theorem repeated_none {w : World} {g : RG} {st : RS} {k' l hh2 : Int} {ao : Option Addr} {n cap : Nat} {A : PT} {lo hi : Nat} (hR : RdAt w g st) (hp : PTAt w lo hi (Quad.val (.int .i64 k', .slice ao n cap, .int .i64 l, .int .i64 hh2)) A) (hhi : hi ≤ w.heap.size) (hlw : lo ≤ w.heap.size) (hown : ∀ i, g.own i → i < lo) (c1 : inSet lStar (seeOf g st) = false) (c2 : inSet lPlus (seeOf g st) = false) (c3 : inSet lQuery (seeOf g st) = false) (c4 : inSet lOpenBrace (seeOf g st) = false) :
    Calls Try.prog 53 #[.pointer (some ⟨g.b, 0, none⟩), .agg #[.int .i64 k', .slice ao n cap, .int .i64 l, .int .i64 hh2]] w fun e w' => ∃ v, e = .returned v ∧ RdAt w' g (pRepeated g A st).1 ∧ PTAt w' lo w'.heap.size v (pRepeated g A st).2 ∧ Kept g.own w w' := by
  rw [show pRepeated g A st = (st, A) from by simp [pRepeated, c1, c2, c3, c4]]
  have hpr : 0 ≤ placeOf g st ∧ placeOf g st ≤ 300 := hR.prange st.next
  have hlen := hR.len
  have hnl := hR.next
  have kw := repW_kept w (.int .i64 k', .slice ao n cap, .int .i64 l, .int .i64 hh2) g.own
  have hW := hR.nil (repW_kept w (.int .i64 k', .slice ao n cap, .int .i64 l, .int .i64 hh2) Nil)
  have x0 := repW_blk0 w (.int .i64 k', .slice ao n cap, .int .i64 l, .int .i64 hh2)
  have x1 := repW_blk1 w (.int .i64 k', .slice ao n cap, .int .i64 l, .int .i64 hh2)
  have x2 := repW_blk2 w (.int .i64 k', .slice ao n cap, .int .i64 l, .int .i64 hh2)
  have x3 := repW_blk3 w (.int .i64 k', .slice ao n cap, .int .i64 l, .int .i64 hh2)
  have hnown : ∀ i, w.heap.size ≤ i → ¬ g.own i := fun i hi hx => by have := hR.own_lt hx; omega
  go_enter Try.func53, Try.ntmps53
  go_wp2_with fail
  refine (placeL hW).mono ?_
  rintro e w1 ⟨rfl, h1, hk1⟩
  have y0 := x0.kept hk1 (hnown _ (by omega))
  have y1 := x1.kept hk1 (hnown _ (by omega))
  have y2 := x2.kept hk1 (hnown _ (by omega))
  have y3 := x3.kept hk1 (hnown _ (by omega))
  have k0 := kw.trans hk1
  clear x0 x1 x2 x3 kw hW hk1
  go_wp2_with fail
  refine (takeN h1 _ lStar (by rfl) (by decide) c1).mono ?_
  rintro e w2 ⟨rfl, h2, hk2⟩
  go_wp2_with fail
  refine (takeN h2 _ lPlus (by rfl) (by decide) c2).mono ?_
  rintro e w3 ⟨rfl, h3, hk3⟩
  go_wp2_with fail
  refine (takeN h3 _ lQuery (by rfl) (by decide) c3).mono ?_
  rintro e w4 ⟨rfl, h4, hk4⟩
  go_wp2_with fail
  refine (takeN h4 _ lOpenBrace (by rfl) (by decide) c4).mono ?_
  rintro e w5 ⟨rfl, h5, hk5⟩
  have ka := k0.trans (((hk2.trans hk3).trans hk4).trans hk5)
  have z0 := y0.kept (((hk2.trans hk3).trans hk4).trans hk5) (hnown _ (by omega))
  have z1 := y1.kept (((hk2.trans hk3).trans hk4).trans hk5) (hnown _ (by omega))
  have z2 := y2.kept (((hk2.trans hk3).trans hk4).trans hk5) (hnown _ (by omega))
  have z3 := y3.kept (((hk2.trans hk3).trans hk4).trans hk5) (hnown _ (by omega))
  clear y0 y1 y2 y3
  have e0 : w5.cell? ⟨w.heap.size + 1, 0, none⟩ = some (.int .i64 0) := z1.cell 0
  have e1 : w5.cell? ⟨w.heap.size + 1, 1, none⟩ = some (.slice none 0 0) := z1.cell 1
  have e2 : w5.cell? ⟨w.heap.size + 1, 2, none⟩ = some (.int .i64 0) := z1.cell 2
  have e3 : w5.cell? ⟨w.heap.size + 1, 3, none⟩ = some (.int .i64 0) := z1.cell 3
  have g0 : w5.frozen? ⟨w.heap.size + 1, 0, none⟩ = false := z1.frozen 0
  have g1 : w5.frozen? ⟨w.heap.size + 1, 1, none⟩ = false := z1.frozen 1
  have g2 : w5.frozen? ⟨w.heap.size + 1, 2, none⟩ = false := z1.frozen 2
  have g3 : w5.frozen? ⟨w.heap.size + 1, 3, none⟩ = false := z1.frozen 3
  have d0 : w5.cell? ⟨w.heap.size, 0, none⟩ = some (.int .i64 k') := z0.cell 0
  have d1 : w5.cell? ⟨w.heap.size, 1, none⟩ = some (.slice ao n cap) := z0.cell 1
  have d2 : w5.cell? ⟨w.heap.size, 2, none⟩ = some (.int .i64 l) := z0.cell 2
  have d3 : w5.cell? ⟨w.heap.size, 3, none⟩ = some (.int .i64 hh2) := z0.cell 3
  go_wp2_with fail
  have fin := rep_close0 hR h5 hp hhi hown ka
  have bfin := setQuad_blk z1 rfl (.int .i64 k', .slice ao n cap, .int .i64 l, .int .i64 hh2)
  simp only [setQuad] at fin bfin
  refine node_ret (i := 4) (b := w.heap.size + 1) (q := (.int .i64 k', .slice ao n cap, .int .i64 l, .int .i64 hh2)) Try.results53 ?_ ?_ ?_ ?_
  · rfl
  · rfl
  · exact bfin
  · exact ⟨_, rfl, fin⟩

end Go.Proofs.Ytlimhofdonkljaa
