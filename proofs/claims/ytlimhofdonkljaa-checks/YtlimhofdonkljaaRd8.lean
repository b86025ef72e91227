/- The reader of the program: repeated, with numbers of times. -/
import Derived.Test.YtlimhofdonkljaaRd7
namespace Go.Proofs.Ytlimhofdonkljaa
open Go.RowKit Go.Maps
set_option linter.unusedVariables false

theorem pBounds_range (g : RG) (st : RS) : (0 ≤ (pBounds g st).2.1 ∧ (pBounds g st).2.1 ≤ 99) ∧ (-1 ≤ (pBounds g st).2.2 ∧ (pBounds g st).2.2 ≤ 99) := by
  have r1 := pNumber_range g st
  have r2 := pNumber_range g { (pNumber g st).1 with next := (pNumber g st).1.next + 1 }
  unfold pBounds
  split
  · unfold pHigh
    split
    · simp; omega
    · simp only at r2 ⊢; omega
  · simp only; omega

theorem repeated_braceA {w : World} {g : RG} {st : RS} {k' l hh2 : Int} {ao : Option Addr} {n cap : Nat} {A : PT} {lo hi : Nat} (hR : RdAt w g st) (hp : PTAt w lo hi (Quad.val (.int .i64 k', .slice ao n cap, .int .i64 l, .int .i64 hh2)) A) (hhi : hi ≤ w.heap.size) (hlw : lo ≤ w.heap.size) (hown : ∀ i, g.own i → i < lo) (c1 : inSet lStar (seeOf g st) = false) (c2 : inSet lPlus (seeOf g st) = false) (c3 : inSet lQuery (seeOf g st) = false) (c4 : inSet lOpenBrace (seeOf g st) = true) (t1 : 20 < (pBounds g { st with next := st.next + 1 }).2.1) :
    Calls Try.prog 53 #[.pointer (some ⟨g.b, 0, none⟩), .agg #[.int .i64 k', .slice ao n cap, .int .i64 l, .int .i64 hh2]] w fun e w' => ∃ v, e = .returned v ∧ RdAt w' g (pRepeated g A st).1 ∧ PTAt w' lo w'.heap.size v (pRepeated g A st).2 ∧ Kept g.own w w' := by
  have hrange := pBounds_range g { st with next := st.next + 1 }
  rw [show pRepeated g A st = (takeOf g lQuery ((pBounds g { st with next := st.next + 1 }).1.note 4 (placeOf g st)), .node 4 [A] (pBounds g { st with next := st.next + 1 }).2.1 (pBounds g { st with next := st.next + 1 }).2.2) from by unfold pRepeated; rw [if_neg (by simp [c1]), if_neg (by simp [c2]), if_neg (by simp [c3]), if_pos c4]; simp only; rw [if_pos (by omega)]]
  generalize hL : (pBounds g { st with next := st.next + 1 }).2.1 = L at *
  generalize hHh : (pBounds g { st with next := st.next + 1 }).2.2 = Hh at *
  have HL : Hid ((pBounds g { st with next := st.next + 1 }).2.1 = L) := hL
  have HH : Hid ((pBounds g { st with next := st.next + 1 }).2.2 = Hh) := hHh
  clear hL hHh
  have hpr : 0 ≤ placeOf g st ∧ placeOf g st ≤ 300 := hR.prange st.next
  have hlen := hR.len
  have hnl := hR.next
  have kw := repW_kept w (.int .i64 k', .slice ao n cap, .int .i64 l, .int .i64 hh2) g.own
  have hW := hR.nil (repW_kept w (.int .i64 k', .slice ao n cap, .int .i64 l, .int .i64 hh2) Nil)
  have x0 := repW_blk0 w (.int .i64 k', .slice ao n cap, .int .i64 l, .int .i64 hh2)
  have x1 := repW_blk1 w (.int .i64 k', .slice ao n cap, .int .i64 l, .int .i64 hh2)
  have x2 := repW_blk2 w (.int .i64 k', .slice ao n cap, .int .i64 l, .int .i64 hh2)
  have x3 := repW_blk3 w (.int .i64 k', .slice ao n cap, .int .i64 l, .int .i64 hh2)
  have hnown : ∀ i, w.heap.size ≤ i → ¬ g.own i := fun i hi hx => by have := hR.own_lt hx; omega
  go_enter Try.func53, Try.ntmps53
  go_wp2_with fail
  refine (placeL hW).mono ?_
  rintro e w1 ⟨rfl, h1, hk1⟩
  have y0 := x0.kept hk1 (hnown _ (by omega))
  have y1 := x1.kept hk1 (hnown _ (by omega))
  have y2 := x2.kept hk1 (hnown _ (by omega))
  have y3 := x3.kept hk1 (hnown _ (by omega))
  have k0 := kw.trans hk1
  clear x0 x1 x2 x3 kw hW hk1
  go_wp2_with fail
  refine (takeN h1 _ lStar (by rfl) (by decide) c1).mono ?_
  rintro e w2 ⟨rfl, h2, hk2⟩
  go_wp2_with fail
  refine (takeN h2 _ lPlus (by rfl) (by decide) c2).mono ?_
  rintro e w3 ⟨rfl, h3, hk3⟩
  go_wp2_with fail
  refine (takeN h3 _ lQuery (by rfl) (by decide) c3).mono ?_
  rintro e w4 ⟨rfl, h4, hk4⟩
  go_wp2_with fail
  refine (takeY h4 _ lOpenBrace (by rfl) (by decide) c4).mono ?_
  rintro e w5 ⟨rfl, h5, hk5⟩
  go_wp2_with fail
  refine (bounds_rd h5).mono ?_
  rintro e w6 ⟨rfl, h6, hk6⟩
  rw [HL.out, HH.out]
  have hkk := (((hk2.trans hk3).trans hk4).trans hk5).trans hk6
  have ka := k0.trans hkk
  have z0 := y0.kept hkk (hnown _ (by omega))
  have z1 := y1.kept hkk (hnown _ (by omega))
  have z2 := y2.kept hkk (hnown _ (by omega))
  have z3 := y3.kept hkk (hnown _ (by omega))
  clear y0 y1 y2 y3
  have e2 : w6.cell? ⟨w.heap.size + 1 + 1 + 1, 2, none⟩ = some (.int .i64 0) := z3.cell 2
  have e3 : w6.cell? ⟨w.heap.size + 1 + 1 + 1, 3, none⟩ = some (.int .i64 0) := z3.cell 3
  have f2 : w6.frozen? ⟨w.heap.size + 1 + 1 + 1, 2, none⟩ = false := z3.frozen 2
  have f3 : w6.frozen? ⟨w.heap.size + 1 + 1 + 1, 3, none⟩ = false := z3.frozen 3
  go_wp2_with fail
  have zz3 := (z3.setCell 2 (.int .i64 L)).setCell 3 (.int .i64 Hh)
  have ks : Kept (fun i => i = w.heap.size + 1 + 1 + 1) w6 ((w6.setCell ⟨w.heap.size + 1 + 1 + 1, 2, none⟩ (.int .i64 L)).setCell ⟨w.heap.size + 1 + 1 + 1, 3, none⟩ (.int .i64 Hh)) := ((Kept.refl (fun i => i = w.heap.size + 1 + 1 + 1) w6).setCell (p := ⟨w.heap.size + 1 + 1 + 1, 2, none⟩) (Or.inl rfl) _).setCell (p := ⟨w.heap.size + 1 + 1 + 1, 3, none⟩) (Or.inl rfl) _
  have hs := h6.new hR ks (fun i hi => by omega)
  have kb := ka.trans' ks (fun i hi he => by omega)
  have zz1 := z1.kept ks (by omega)
  have zz2 := z2.kept ks (by omega)
  clear z0 z1 z2 z3 e2 e3 f2 f3
  refine (note_any hs 4 _ (by omega) hpr).mono ?_
  rintro e w7 ⟨rfl, h7, hk7⟩
  have zz1 := zz1.kept hk7 (hnown _ (by omega))
  have zz2 := zz2.kept hk7 (hnown _ (by omega))
  have zz3 := zz3.kept hk7 (hnown _ (by omega))
  have kb := kb.trans hk7
  have hs := h7
  go_wp2_with fail
  refine (takeL hs _ lQuery (by rfl) (by decide)).mono ?_
  rintro e wz ⟨rfl, hz, hkz⟩
  have t1 := zz1.kept hkz (hnown _ (by omega))
  have t2 := zz2.kept hkz (hnown _ (by omega))
  have t3 := zz3.kept hkz (hnown _ (by omega))
  have kz := kb.trans hkz
  clear zz1 zz2 zz3 kb hkz ks ka
  have e0 : wz.cell? ⟨w.heap.size + 1, 0, none⟩ = some (.int .i64 0) := t1.cell 0
  have e1 : wz.cell? ⟨w.heap.size + 1, 1, none⟩ = some (.slice none 0 0) := t1.cell 1
  have e2 : wz.cell? ⟨w.heap.size + 1, 2, none⟩ = some (.int .i64 0) := t1.cell 2
  have e3 : wz.cell? ⟨w.heap.size + 1, 3, none⟩ = some (.int .i64 0) := t1.cell 3
  have g0 : wz.frozen? ⟨w.heap.size + 1, 0, none⟩ = false := t1.frozen 0
  have g1 : wz.frozen? ⟨w.heap.size + 1, 1, none⟩ = false := t1.frozen 1
  have g2 : wz.frozen? ⟨w.heap.size + 1, 2, none⟩ = false := t1.frozen 2
  have g3 : wz.frozen? ⟨w.heap.size + 1, 3, none⟩ = false := t1.frozen 3
  have d0 : wz.cell? ⟨w.heap.size + 1 + 1 + 1, 0, none⟩ = some (.int .i64 4) := t3.cell 0
  have d1 : wz.cell? ⟨w.heap.size + 1 + 1 + 1, 1, none⟩ = some (.slice (some ⟨w.heap.size + 1 + 1, 0, none⟩) 1 1) := t3.cell 1
  have d2 : wz.cell? ⟨w.heap.size + 1 + 1 + 1, 2, none⟩ = some (.int .i64 L) := t3.cell 2
  have d3 : wz.cell? ⟨w.heap.size + 1 + 1 + 1, 3, none⟩ = some (.int .i64 Hh) := t3.cell 3
  go_wp2_with fail
  have fin := rep_close (low := L) (high := Hh) hR hz hp hhi hlw hown kz t2 (by omega)
  have bfin := setQuad_blk t1 rfl (.int .i64 4, .slice (some ⟨w.heap.size + 1 + 1, 0, none⟩) 1 1, .int .i64 L, .int .i64 Hh)
  simp only [setQuad] at fin bfin
  refine node_ret (i := 4) (b := w.heap.size + 1) (q := (.int .i64 4, .slice (some ⟨w.heap.size + 1 + 1, 0, none⟩) 1 1, .int .i64 L, .int .i64 Hh)) Try.results53 ?_ ?_ ?_ ?_
  · rfl
  · rfl
  · exact bfin
  · exact ⟨_, rfl, fin⟩

theorem repeated_braceB {w : World} {g : RG} {st : RS} {k' l hh2 : Int} {ao : Option Addr} {n cap : Nat} {A : PT} {lo hi : Nat} (hR : RdAt w g st) (hp : PTAt w lo hi (Quad.val (.int .i64 k', .slice ao n cap, .int .i64 l, .int .i64 hh2)) A) (hhi : hi ≤ w.heap.size) (hlw : lo ≤ w.heap.size) (hown : ∀ i, g.own i → i < lo) (c1 : inSet lStar (seeOf g st) = false) (c2 : inSet lPlus (seeOf g st) = false) (c3 : inSet lQuery (seeOf g st) = false) (c4 : inSet lOpenBrace (seeOf g st) = true) (t1 : (pBounds g { st with next := st.next + 1 }).2.1 ≤ 20) (t2 : 20 < (pBounds g { st with next := st.next + 1 }).2.2) :
    Calls Try.prog 53 #[.pointer (some ⟨g.b, 0, none⟩), .agg #[.int .i64 k', .slice ao n cap, .int .i64 l, .int .i64 hh2]] w fun e w' => ∃ v, e = .returned v ∧ RdAt w' g (pRepeated g A st).1 ∧ PTAt w' lo w'.heap.size v (pRepeated g A st).2 ∧ Kept g.own w w' := by
  have hrange := pBounds_range g { st with next := st.next + 1 }
  rw [show pRepeated g A st = (takeOf g lQuery ((pBounds g { st with next := st.next + 1 }).1.note 4 (placeOf g st)), .node 4 [A] (pBounds g { st with next := st.next + 1 }).2.1 (pBounds g { st with next := st.next + 1 }).2.2) from by unfold pRepeated; rw [if_neg (by simp [c1]), if_neg (by simp [c2]), if_neg (by simp [c3]), if_pos c4]; simp only; rw [if_pos (by omega)]]
  generalize hL : (pBounds g { st with next := st.next + 1 }).2.1 = L at *
  generalize hHh : (pBounds g { st with next := st.next + 1 }).2.2 = Hh at *
  have HL : Hid ((pBounds g { st with next := st.next + 1 }).2.1 = L) := hL
  have HH : Hid ((pBounds g { st with next := st.next + 1 }).2.2 = Hh) := hHh
  clear hL hHh
  have hpr : 0 ≤ placeOf g st ∧ placeOf g st ≤ 300 := hR.prange st.next
  have hlen := hR.len
  have hnl := hR.next
  have kw := repW_kept w (.int .i64 k', .slice ao n cap, .int .i64 l, .int .i64 hh2) g.own
  have hW := hR.nil (repW_kept w (.int .i64 k', .slice ao n cap, .int .i64 l, .int .i64 hh2) Nil)
  have x0 := repW_blk0 w (.int .i64 k', .slice ao n cap, .int .i64 l, .int .i64 hh2)
  have x1 := repW_blk1 w (.int .i64 k', .slice ao n cap, .int .i64 l, .int .i64 hh2)
  have x2 := repW_blk2 w (.int .i64 k', .slice ao n cap, .int .i64 l, .int .i64 hh2)
  have x3 := repW_blk3 w (.int .i64 k', .slice ao n cap, .int .i64 l, .int .i64 hh2)
  have hnown : ∀ i, w.heap.size ≤ i → ¬ g.own i := fun i hi hx => by have := hR.own_lt hx; omega
  go_enter Try.func53, Try.ntmps53
  go_wp2_with fail
  refine (placeL hW).mono ?_
  rintro e w1 ⟨rfl, h1, hk1⟩
  have y0 := x0.kept hk1 (hnown _ (by omega))
  have y1 := x1.kept hk1 (hnown _ (by omega))
  have y2 := x2.kept hk1 (hnown _ (by omega))
  have y3 := x3.kept hk1 (hnown _ (by omega))
  have k0 := kw.trans hk1
  clear x0 x1 x2 x3 kw hW hk1
  go_wp2_with fail
  refine (takeN h1 _ lStar (by rfl) (by decide) c1).mono ?_
  rintro e w2 ⟨rfl, h2, hk2⟩
  go_wp2_with fail
  refine (takeN h2 _ lPlus (by rfl) (by decide) c2).mono ?_
  rintro e w3 ⟨rfl, h3, hk3⟩
  go_wp2_with fail
  refine (takeN h3 _ lQuery (by rfl) (by decide) c3).mono ?_
  rintro e w4 ⟨rfl, h4, hk4⟩
  go_wp2_with fail
  refine (takeY h4 _ lOpenBrace (by rfl) (by decide) c4).mono ?_
  rintro e w5 ⟨rfl, h5, hk5⟩
  go_wp2_with fail
  refine (bounds_rd h5).mono ?_
  rintro e w6 ⟨rfl, h6, hk6⟩
  rw [HL.out, HH.out]
  have hkk := (((hk2.trans hk3).trans hk4).trans hk5).trans hk6
  have ka := k0.trans hkk
  have z0 := y0.kept hkk (hnown _ (by omega))
  have z1 := y1.kept hkk (hnown _ (by omega))
  have z2 := y2.kept hkk (hnown _ (by omega))
  have z3 := y3.kept hkk (hnown _ (by omega))
  clear y0 y1 y2 y3
  have e2 : w6.cell? ⟨w.heap.size + 1 + 1 + 1, 2, none⟩ = some (.int .i64 0) := z3.cell 2
  have e3 : w6.cell? ⟨w.heap.size + 1 + 1 + 1, 3, none⟩ = some (.int .i64 0) := z3.cell 3
  have f2 : w6.frozen? ⟨w.heap.size + 1 + 1 + 1, 2, none⟩ = false := z3.frozen 2
  have f3 : w6.frozen? ⟨w.heap.size + 1 + 1 + 1, 3, none⟩ = false := z3.frozen 3
  go_wp2_with fail
  have zz3 := (z3.setCell 2 (.int .i64 L)).setCell 3 (.int .i64 Hh)
  have ks : Kept (fun i => i = w.heap.size + 1 + 1 + 1) w6 ((w6.setCell ⟨w.heap.size + 1 + 1 + 1, 2, none⟩ (.int .i64 L)).setCell ⟨w.heap.size + 1 + 1 + 1, 3, none⟩ (.int .i64 Hh)) := ((Kept.refl (fun i => i = w.heap.size + 1 + 1 + 1) w6).setCell (p := ⟨w.heap.size + 1 + 1 + 1, 2, none⟩) (Or.inl rfl) _).setCell (p := ⟨w.heap.size + 1 + 1 + 1, 3, none⟩) (Or.inl rfl) _
  have hs := h6.new hR ks (fun i hi => by omega)
  have kb := ka.trans' ks (fun i hi he => by omega)
  have zz1 := z1.kept ks (by omega)
  have zz2 := z2.kept ks (by omega)
  clear z0 z1 z2 z3 e2 e3 f2 f3
  refine (note_any hs 4 _ (by omega) hpr).mono ?_
  rintro e w7 ⟨rfl, h7, hk7⟩
  have zz1 := zz1.kept hk7 (hnown _ (by omega))
  have zz2 := zz2.kept hk7 (hnown _ (by omega))
  have zz3 := zz3.kept hk7 (hnown _ (by omega))
  have kb := kb.trans hk7
  have hs := h7
  go_wp2_with fail
  refine (takeL hs _ lQuery (by rfl) (by decide)).mono ?_
  rintro e wz ⟨rfl, hz, hkz⟩
  have t1 := zz1.kept hkz (hnown _ (by omega))
  have t2 := zz2.kept hkz (hnown _ (by omega))
  have t3 := zz3.kept hkz (hnown _ (by omega))
  have kz := kb.trans hkz
  clear zz1 zz2 zz3 kb hkz ks ka
  have e0 : wz.cell? ⟨w.heap.size + 1, 0, none⟩ = some (.int .i64 0) := t1.cell 0
  have e1 : wz.cell? ⟨w.heap.size + 1, 1, none⟩ = some (.slice none 0 0) := t1.cell 1
  have e2 : wz.cell? ⟨w.heap.size + 1, 2, none⟩ = some (.int .i64 0) := t1.cell 2
  have e3 : wz.cell? ⟨w.heap.size + 1, 3, none⟩ = some (.int .i64 0) := t1.cell 3
  have g0 : wz.frozen? ⟨w.heap.size + 1, 0, none⟩ = false := t1.frozen 0
  have g1 : wz.frozen? ⟨w.heap.size + 1, 1, none⟩ = false := t1.frozen 1
  have g2 : wz.frozen? ⟨w.heap.size + 1, 2, none⟩ = false := t1.frozen 2
  have g3 : wz.frozen? ⟨w.heap.size + 1, 3, none⟩ = false := t1.frozen 3
  have d0 : wz.cell? ⟨w.heap.size + 1 + 1 + 1, 0, none⟩ = some (.int .i64 4) := t3.cell 0
  have d1 : wz.cell? ⟨w.heap.size + 1 + 1 + 1, 1, none⟩ = some (.slice (some ⟨w.heap.size + 1 + 1, 0, none⟩) 1 1) := t3.cell 1
  have d2 : wz.cell? ⟨w.heap.size + 1 + 1 + 1, 2, none⟩ = some (.int .i64 L) := t3.cell 2
  have d3 : wz.cell? ⟨w.heap.size + 1 + 1 + 1, 3, none⟩ = some (.int .i64 Hh) := t3.cell 3
  go_wp2_with fail
  have fin := rep_close (low := L) (high := Hh) hR hz hp hhi hlw hown kz t2 (by omega)
  have bfin := setQuad_blk t1 rfl (.int .i64 4, .slice (some ⟨w.heap.size + 1 + 1, 0, none⟩) 1 1, .int .i64 L, .int .i64 Hh)
  simp only [setQuad] at fin bfin
  refine node_ret (i := 4) (b := w.heap.size + 1) (q := (.int .i64 4, .slice (some ⟨w.heap.size + 1 + 1, 0, none⟩) 1 1, .int .i64 L, .int .i64 Hh)) Try.results53 ?_ ?_ ?_ ?_
  · rfl
  · rfl
  · exact bfin
  · exact ⟨_, rfl, fin⟩

theorem repeated_braceC {w : World} {g : RG} {st : RS} {k' l hh2 : Int} {ao : Option Addr} {n cap : Nat} {A : PT} {lo hi : Nat} (hR : RdAt w g st) (hp : PTAt w lo hi (Quad.val (.int .i64 k', .slice ao n cap, .int .i64 l, .int .i64 hh2)) A) (hhi : hi ≤ w.heap.size) (hlw : lo ≤ w.heap.size) (hown : ∀ i, g.own i → i < lo) (c1 : inSet lStar (seeOf g st) = false) (c2 : inSet lPlus (seeOf g st) = false) (c3 : inSet lQuery (seeOf g st) = false) (c4 : inSet lOpenBrace (seeOf g st) = true) (t1 : (pBounds g { st with next := st.next + 1 }).2.1 ≤ 20) (t3 : (pBounds g { st with next := st.next + 1 }).2.2 = -1) :
    Calls Try.prog 53 #[.pointer (some ⟨g.b, 0, none⟩), .agg #[.int .i64 k', .slice ao n cap, .int .i64 l, .int .i64 hh2]] w fun e w' => ∃ v, e = .returned v ∧ RdAt w' g (pRepeated g A st).1 ∧ PTAt w' lo w'.heap.size v (pRepeated g A st).2 ∧ Kept g.own w w' := by
  have hrange := pBounds_range g { st with next := st.next + 1 }
  rw [show pRepeated g A st = (takeOf g lQuery (pBounds g { st with next := st.next + 1 }).1, .node 4 [A] (pBounds g { st with next := st.next + 1 }).2.1 (pBounds g { st with next := st.next + 1 }).2.2) from by unfold pRepeated; rw [if_neg (by simp [c1]), if_neg (by simp [c2]), if_neg (by simp [c3]), if_pos c4]; simp only; rw [if_neg (by omega)]]
  generalize hL : (pBounds g { st with next := st.next + 1 }).2.1 = L at *
  generalize hHh : (pBounds g { st with next := st.next + 1 }).2.2 = Hh at *
  have HL : Hid ((pBounds g { st with next := st.next + 1 }).2.1 = L) := hL
  have HH : Hid ((pBounds g { st with next := st.next + 1 }).2.2 = Hh) := hHh
  clear hL hHh
  have t2 : Hh ≤ 20 := by omega
  have T3 : (Hh != -1) = false := by simp [t3]
  clear t3
  have hpr : 0 ≤ placeOf g st ∧ placeOf g st ≤ 300 := hR.prange st.next
  have hlen := hR.len
  have hnl := hR.next
  have kw := repW_kept w (.int .i64 k', .slice ao n cap, .int .i64 l, .int .i64 hh2) g.own
  have hW := hR.nil (repW_kept w (.int .i64 k', .slice ao n cap, .int .i64 l, .int .i64 hh2) Nil)
  have x0 := repW_blk0 w (.int .i64 k', .slice ao n cap, .int .i64 l, .int .i64 hh2)
  have x1 := repW_blk1 w (.int .i64 k', .slice ao n cap, .int .i64 l, .int .i64 hh2)
  have x2 := repW_blk2 w (.int .i64 k', .slice ao n cap, .int .i64 l, .int .i64 hh2)
  have x3 := repW_blk3 w (.int .i64 k', .slice ao n cap, .int .i64 l, .int .i64 hh2)
  have hnown : ∀ i, w.heap.size ≤ i → ¬ g.own i := fun i hi hx => by have := hR.own_lt hx; omega
  go_enter Try.func53, Try.ntmps53
  go_wp2_with fail
  refine (placeL hW).mono ?_
  rintro e w1 ⟨rfl, h1, hk1⟩
  have y0 := x0.kept hk1 (hnown _ (by omega))
  have y1 := x1.kept hk1 (hnown _ (by omega))
  have y2 := x2.kept hk1 (hnown _ (by omega))
  have y3 := x3.kept hk1 (hnown _ (by omega))
  have k0 := kw.trans hk1
  clear x0 x1 x2 x3 kw hW hk1
  go_wp2_with fail
  refine (takeN h1 _ lStar (by rfl) (by decide) c1).mono ?_
  rintro e w2 ⟨rfl, h2, hk2⟩
  go_wp2_with fail
  refine (takeN h2 _ lPlus (by rfl) (by decide) c2).mono ?_
  rintro e w3 ⟨rfl, h3, hk3⟩
  go_wp2_with fail
  refine (takeN h3 _ lQuery (by rfl) (by decide) c3).mono ?_
  rintro e w4 ⟨rfl, h4, hk4⟩
  go_wp2_with fail
  refine (takeY h4 _ lOpenBrace (by rfl) (by decide) c4).mono ?_
  rintro e w5 ⟨rfl, h5, hk5⟩
  go_wp2_with fail
  refine (bounds_rd h5).mono ?_
  rintro e w6 ⟨rfl, h6, hk6⟩
  rw [HL.out, HH.out]
  have hkk := (((hk2.trans hk3).trans hk4).trans hk5).trans hk6
  have ka := k0.trans hkk
  have z0 := y0.kept hkk (hnown _ (by omega))
  have z1 := y1.kept hkk (hnown _ (by omega))
  have z2 := y2.kept hkk (hnown _ (by omega))
  have z3 := y3.kept hkk (hnown _ (by omega))
  clear y0 y1 y2 y3
  have e2 : w6.cell? ⟨w.heap.size + 1 + 1 + 1, 2, none⟩ = some (.int .i64 0) := z3.cell 2
  have e3 : w6.cell? ⟨w.heap.size + 1 + 1 + 1, 3, none⟩ = some (.int .i64 0) := z3.cell 3
  have f2 : w6.frozen? ⟨w.heap.size + 1 + 1 + 1, 2, none⟩ = false := z3.frozen 2
  have f3 : w6.frozen? ⟨w.heap.size + 1 + 1 + 1, 3, none⟩ = false := z3.frozen 3
  go_wp2_with fail
  have zz3 := (z3.setCell 2 (.int .i64 L)).setCell 3 (.int .i64 Hh)
  have ks : Kept (fun i => i = w.heap.size + 1 + 1 + 1) w6 ((w6.setCell ⟨w.heap.size + 1 + 1 + 1, 2, none⟩ (.int .i64 L)).setCell ⟨w.heap.size + 1 + 1 + 1, 3, none⟩ (.int .i64 Hh)) := ((Kept.refl (fun i => i = w.heap.size + 1 + 1 + 1) w6).setCell (p := ⟨w.heap.size + 1 + 1 + 1, 2, none⟩) (Or.inl rfl) _).setCell (p := ⟨w.heap.size + 1 + 1 + 1, 3, none⟩) (Or.inl rfl) _
  have hs := h6.new hR ks (fun i hi => by omega)
  have kb := ka.trans' ks (fun i hi he => by omega)
  have zz1 := z1.kept ks (by omega)
  have zz2 := z2.kept ks (by omega)
  clear z0 z1 z2 z3 e2 e3 f2 f3
  refine (takeL hs _ lQuery (by rfl) (by decide)).mono ?_
  rintro e wz ⟨rfl, hz, hkz⟩
  have t1 := zz1.kept hkz (hnown _ (by omega))
  have t2 := zz2.kept hkz (hnown _ (by omega))
  have t3 := zz3.kept hkz (hnown _ (by omega))
  have kz := kb.trans hkz
  clear zz1 zz2 zz3 kb hkz ks ka
  have e0 : wz.cell? ⟨w.heap.size + 1, 0, none⟩ = some (.int .i64 0) := t1.cell 0
  have e1 : wz.cell? ⟨w.heap.size + 1, 1, none⟩ = some (.slice none 0 0) := t1.cell 1
  have e2 : wz.cell? ⟨w.heap.size + 1, 2, none⟩ = some (.int .i64 0) := t1.cell 2
  have e3 : wz.cell? ⟨w.heap.size + 1, 3, none⟩ = some (.int .i64 0) := t1.cell 3
  have g0 : wz.frozen? ⟨w.heap.size + 1, 0, none⟩ = false := t1.frozen 0
  have g1 : wz.frozen? ⟨w.heap.size + 1, 1, none⟩ = false := t1.frozen 1
  have g2 : wz.frozen? ⟨w.heap.size + 1, 2, none⟩ = false := t1.frozen 2
  have g3 : wz.frozen? ⟨w.heap.size + 1, 3, none⟩ = false := t1.frozen 3
  have d0 : wz.cell? ⟨w.heap.size + 1 + 1 + 1, 0, none⟩ = some (.int .i64 4) := t3.cell 0
  have d1 : wz.cell? ⟨w.heap.size + 1 + 1 + 1, 1, none⟩ = some (.slice (some ⟨w.heap.size + 1 + 1, 0, none⟩) 1 1) := t3.cell 1
  have d2 : wz.cell? ⟨w.heap.size + 1 + 1 + 1, 2, none⟩ = some (.int .i64 L) := t3.cell 2
  have d3 : wz.cell? ⟨w.heap.size + 1 + 1 + 1, 3, none⟩ = some (.int .i64 Hh) := t3.cell 3
  go_wp2_with fail
  have fin := rep_close (low := L) (high := Hh) hR hz hp hhi hlw hown kz t2 (by omega)
  have bfin := setQuad_blk t1 rfl (.int .i64 4, .slice (some ⟨w.heap.size + 1 + 1, 0, none⟩) 1 1, .int .i64 L, .int .i64 Hh)
  simp only [setQuad] at fin bfin
  refine node_ret (i := 4) (b := w.heap.size + 1) (q := (.int .i64 4, .slice (some ⟨w.heap.size + 1 + 1, 0, none⟩) 1 1, .int .i64 L, .int .i64 Hh)) Try.results53 ?_ ?_ ?_ ?_
  · rfl
  · rfl
  · exact bfin
  · exact ⟨_, rfl, fin⟩

theorem repeated_braceD {w : World} {g : RG} {st : RS} {k' l hh2 : Int} {ao : Option Addr} {n cap : Nat} {A : PT} {lo hi : Nat} (hR : RdAt w g st) (hp : PTAt w lo hi (Quad.val (.int .i64 k', .slice ao n cap, .int .i64 l, .int .i64 hh2)) A) (hhi : hi ≤ w.heap.size) (hlw : lo ≤ w.heap.size) (hown : ∀ i, g.own i → i < lo) (c1 : inSet lStar (seeOf g st) = false) (c2 : inSet lPlus (seeOf g st) = false) (c3 : inSet lQuery (seeOf g st) = false) (c4 : inSet lOpenBrace (seeOf g st) = true) (t1 : (pBounds g { st with next := st.next + 1 }).2.1 ≤ 20) (t2 : (pBounds g { st with next := st.next + 1 }).2.2 ≤ 20) (t3 : (pBounds g { st with next := st.next + 1 }).2.2 ≠ -1) (t4 : (pBounds g { st with next := st.next + 1 }).2.2 < (pBounds g { st with next := st.next + 1 }).2.1) :
    Calls Try.prog 53 #[.pointer (some ⟨g.b, 0, none⟩), .agg #[.int .i64 k', .slice ao n cap, .int .i64 l, .int .i64 hh2]] w fun e w' => ∃ v, e = .returned v ∧ RdAt w' g (pRepeated g A st).1 ∧ PTAt w' lo w'.heap.size v (pRepeated g A st).2 ∧ Kept g.own w w' := by
  have hrange := pBounds_range g { st with next := st.next + 1 }
  rw [show pRepeated g A st = (takeOf g lQuery ((pBounds g { st with next := st.next + 1 }).1.note 4 (placeOf g st)), .node 4 [A] (pBounds g { st with next := st.next + 1 }).2.1 (pBounds g { st with next := st.next + 1 }).2.2) from by unfold pRepeated; rw [if_neg (by simp [c1]), if_neg (by simp [c2]), if_neg (by simp [c3]), if_pos c4]; simp only; rw [if_pos (by omega)]]
  generalize hL : (pBounds g { st with next := st.next + 1 }).2.1 = L at *
  generalize hHh : (pBounds g { st with next := st.next + 1 }).2.2 = Hh at *
  have HL : Hid ((pBounds g { st with next := st.next + 1 }).2.1 = L) := hL
  have HH : Hid ((pBounds g { st with next := st.next + 1 }).2.2 = Hh) := hHh
  clear hL hHh
  have T3 : (Hh != -1) = true := by simp [t3]
  clear t3
  have hpr : 0 ≤ placeOf g st ∧ placeOf g st ≤ 300 := hR.prange st.next
  have hlen := hR.len
  have hnl := hR.next
  have kw := repW_kept w (.int .i64 k', .slice ao n cap, .int .i64 l, .int .i64 hh2) g.own
  have hW := hR.nil (repW_kept w (.int .i64 k', .slice ao n cap, .int .i64 l, .int .i64 hh2) Nil)
  have x0 := repW_blk0 w (.int .i64 k', .slice ao n cap, .int .i64 l, .int .i64 hh2)
  have x1 := repW_blk1 w (.int .i64 k', .slice ao n cap, .int .i64 l, .int .i64 hh2)
  have x2 := repW_blk2 w (.int .i64 k', .slice ao n cap, .int .i64 l, .int .i64 hh2)
  have x3 := repW_blk3 w (.int .i64 k', .slice ao n cap, .int .i64 l, .int .i64 hh2)
  have hnown : ∀ i, w.heap.size ≤ i → ¬ g.own i := fun i hi hx => by have := hR.own_lt hx; omega
  go_enter Try.func53, Try.ntmps53
  go_wp2_with fail
  refine (placeL hW).mono ?_
  rintro e w1 ⟨rfl, h1, hk1⟩
  have y0 := x0.kept hk1 (hnown _ (by omega))
  have y1 := x1.kept hk1 (hnown _ (by omega))
  have y2 := x2.kept hk1 (hnown _ (by omega))
  have y3 := x3.kept hk1 (hnown _ (by omega))
  have k0 := kw.trans hk1
  clear x0 x1 x2 x3 kw hW hk1
  go_wp2_with fail
  refine (takeN h1 _ lStar (by rfl) (by decide) c1).mono ?_
  rintro e w2 ⟨rfl, h2, hk2⟩
  go_wp2_with fail
  refine (takeN h2 _ lPlus (by rfl) (by decide) c2).mono ?_
  rintro e w3 ⟨rfl, h3, hk3⟩
  go_wp2_with fail
  refine (takeN h3 _ lQuery (by rfl) (by decide) c3).mono ?_
  rintro e w4 ⟨rfl, h4, hk4⟩
  go_wp2_with fail
  refine (takeY h4 _ lOpenBrace (by rfl) (by decide) c4).mono ?_
  rintro e w5 ⟨rfl, h5, hk5⟩
  go_wp2_with fail
  refine (bounds_rd h5).mono ?_
  rintro e w6 ⟨rfl, h6, hk6⟩
  rw [HL.out, HH.out]
  have hkk := (((hk2.trans hk3).trans hk4).trans hk5).trans hk6
  have ka := k0.trans hkk
  have z0 := y0.kept hkk (hnown _ (by omega))
  have z1 := y1.kept hkk (hnown _ (by omega))
  have z2 := y2.kept hkk (hnown _ (by omega))
  have z3 := y3.kept hkk (hnown _ (by omega))
  clear y0 y1 y2 y3
  have e2 : w6.cell? ⟨w.heap.size + 1 + 1 + 1, 2, none⟩ = some (.int .i64 0) := z3.cell 2
  have e3 : w6.cell? ⟨w.heap.size + 1 + 1 + 1, 3, none⟩ = some (.int .i64 0) := z3.cell 3
  have f2 : w6.frozen? ⟨w.heap.size + 1 + 1 + 1, 2, none⟩ = false := z3.frozen 2
  have f3 : w6.frozen? ⟨w.heap.size + 1 + 1 + 1, 3, none⟩ = false := z3.frozen 3
  go_wp2_with fail
  have zz3 := (z3.setCell 2 (.int .i64 L)).setCell 3 (.int .i64 Hh)
  have ks : Kept (fun i => i = w.heap.size + 1 + 1 + 1) w6 ((w6.setCell ⟨w.heap.size + 1 + 1 + 1, 2, none⟩ (.int .i64 L)).setCell ⟨w.heap.size + 1 + 1 + 1, 3, none⟩ (.int .i64 Hh)) := ((Kept.refl (fun i => i = w.heap.size + 1 + 1 + 1) w6).setCell (p := ⟨w.heap.size + 1 + 1 + 1, 2, none⟩) (Or.inl rfl) _).setCell (p := ⟨w.heap.size + 1 + 1 + 1, 3, none⟩) (Or.inl rfl) _
  have hs := h6.new hR ks (fun i hi => by omega)
  have kb := ka.trans' ks (fun i hi he => by omega)
  have zz1 := z1.kept ks (by omega)
  have zz2 := z2.kept ks (by omega)
  clear z0 z1 z2 z3 e2 e3 f2 f3
  refine (note_any hs 4 _ (by omega) hpr).mono ?_
  rintro e w7 ⟨rfl, h7, hk7⟩
  have zz1 := zz1.kept hk7 (hnown _ (by omega))
  have zz2 := zz2.kept hk7 (hnown _ (by omega))
  have zz3 := zz3.kept hk7 (hnown _ (by omega))
  have kb := kb.trans hk7
  have hs := h7
  go_wp2_with fail
  refine (takeL hs _ lQuery (by rfl) (by decide)).mono ?_
  rintro e wz ⟨rfl, hz, hkz⟩
  have t1 := zz1.kept hkz (hnown _ (by omega))
  have t2 := zz2.kept hkz (hnown _ (by omega))
  have t3 := zz3.kept hkz (hnown _ (by omega))
  have kz := kb.trans hkz
  clear zz1 zz2 zz3 kb hkz ks ka
  have e0 : wz.cell? ⟨w.heap.size + 1, 0, none⟩ = some (.int .i64 0) := t1.cell 0
  have e1 : wz.cell? ⟨w.heap.size + 1, 1, none⟩ = some (.slice none 0 0) := t1.cell 1
  have e2 : wz.cell? ⟨w.heap.size + 1, 2, none⟩ = some (.int .i64 0) := t1.cell 2
  have e3 : wz.cell? ⟨w.heap.size + 1, 3, none⟩ = some (.int .i64 0) := t1.cell 3
  have g0 : wz.frozen? ⟨w.heap.size + 1, 0, none⟩ = false := t1.frozen 0
  have g1 : wz.frozen? ⟨w.heap.size + 1, 1, none⟩ = false := t1.frozen 1
  have g2 : wz.frozen? ⟨w.heap.size + 1, 2, none⟩ = false := t1.frozen 2
  have g3 : wz.frozen? ⟨w.heap.size + 1, 3, none⟩ = false := t1.frozen 3
  have d0 : wz.cell? ⟨w.heap.size + 1 + 1 + 1, 0, none⟩ = some (.int .i64 4) := t3.cell 0
  have d1 : wz.cell? ⟨w.heap.size + 1 + 1 + 1, 1, none⟩ = some (.slice (some ⟨w.heap.size + 1 + 1, 0, none⟩) 1 1) := t3.cell 1
  have d2 : wz.cell? ⟨w.heap.size + 1 + 1 + 1, 2, none⟩ = some (.int .i64 L) := t3.cell 2
  have d3 : wz.cell? ⟨w.heap.size + 1 + 1 + 1, 3, none⟩ = some (.int .i64 Hh) := t3.cell 3
  go_wp2_with fail
  have fin := rep_close (low := L) (high := Hh) hR hz hp hhi hlw hown kz t2 (by omega)
  have bfin := setQuad_blk t1 rfl (.int .i64 4, .slice (some ⟨w.heap.size + 1 + 1, 0, none⟩) 1 1, .int .i64 L, .int .i64 Hh)
  simp only [setQuad] at fin bfin
  refine node_ret (i := 4) (b := w.heap.size + 1) (q := (.int .i64 4, .slice (some ⟨w.heap.size + 1 + 1, 0, none⟩) 1 1, .int .i64 L, .int .i64 Hh)) Try.results53 ?_ ?_ ?_ ?_
  · rfl
  · rfl
  · exact bfin
  · exact ⟨_, rfl, fin⟩

theorem repeated_braceE {w : World} {g : RG} {st : RS} {k' l hh2 : Int} {ao : Option Addr} {n cap : Nat} {A : PT} {lo hi : Nat} (hR : RdAt w g st) (hp : PTAt w lo hi (Quad.val (.int .i64 k', .slice ao n cap, .int .i64 l, .int .i64 hh2)) A) (hhi : hi ≤ w.heap.size) (hlw : lo ≤ w.heap.size) (hown : ∀ i, g.own i → i < lo) (c1 : inSet lStar (seeOf g st) = false) (c2 : inSet lPlus (seeOf g st) = false) (c3 : inSet lQuery (seeOf g st) = false) (c4 : inSet lOpenBrace (seeOf g st) = true) (t1 : (pBounds g { st with next := st.next + 1 }).2.1 ≤ 20) (t2 : (pBounds g { st with next := st.next + 1 }).2.2 ≤ 20) (t3 : (pBounds g { st with next := st.next + 1 }).2.2 ≠ -1) (t4 : (pBounds g { st with next := st.next + 1 }).2.1 ≤ (pBounds g { st with next := st.next + 1 }).2.2) :
    Calls Try.prog 53 #[.pointer (some ⟨g.b, 0, none⟩), .agg #[.int .i64 k', .slice ao n cap, .int .i64 l, .int .i64 hh2]] w fun e w' => ∃ v, e = .returned v ∧ RdAt w' g (pRepeated g A st).1 ∧ PTAt w' lo w'.heap.size v (pRepeated g A st).2 ∧ Kept g.own w w' := by
  have hrange := pBounds_range g { st with next := st.next + 1 }
  rw [show pRepeated g A st = (takeOf g lQuery (pBounds g { st with next := st.next + 1 }).1, .node 4 [A] (pBounds g { st with next := st.next + 1 }).2.1 (pBounds g { st with next := st.next + 1 }).2.2) from by unfold pRepeated; rw [if_neg (by simp [c1]), if_neg (by simp [c2]), if_neg (by simp [c3]), if_pos c4]; simp only; rw [if_neg (by omega)]]
  generalize hL : (pBounds g { st with next := st.next + 1 }).2.1 = L at *
  generalize hHh : (pBounds g { st with next := st.next + 1 }).2.2 = Hh at *
  have HL : Hid ((pBounds g { st with next := st.next + 1 }).2.1 = L) := hL
  have HH : Hid ((pBounds g { st with next := st.next + 1 }).2.2 = Hh) := hHh
  clear hL hHh
  have T3 : (Hh != -1) = true := by simp [t3]
  clear t3
  have hpr : 0 ≤ placeOf g st ∧ placeOf g st ≤ 300 := hR.prange st.next
  have hlen := hR.len
  have hnl := hR.next
  have kw := repW_kept w (.int .i64 k', .slice ao n cap, .int .i64 l, .int .i64 hh2) g.own
  have hW := hR.nil (repW_kept w (.int .i64 k', .slice ao n cap, .int .i64 l, .int .i64 hh2) Nil)
  have x0 := repW_blk0 w (.int .i64 k', .slice ao n cap, .int .i64 l, .int .i64 hh2)
  have x1 := repW_blk1 w (.int .i64 k', .slice ao n cap, .int .i64 l, .int .i64 hh2)
  have x2 := repW_blk2 w (.int .i64 k', .slice ao n cap, .int .i64 l, .int .i64 hh2)
  have x3 := repW_blk3 w (.int .i64 k', .slice ao n cap, .int .i64 l, .int .i64 hh2)
  have hnown : ∀ i, w.heap.size ≤ i → ¬ g.own i := fun i hi hx => by have := hR.own_lt hx; omega
  go_enter Try.func53, Try.ntmps53
  go_wp2_with fail
  refine (placeL hW).mono ?_
  rintro e w1 ⟨rfl, h1, hk1⟩
  have y0 := x0.kept hk1 (hnown _ (by omega))
  have y1 := x1.kept hk1 (hnown _ (by omega))
  have y2 := x2.kept hk1 (hnown _ (by omega))
  have y3 := x3.kept hk1 (hnown _ (by omega))
  have k0 := kw.trans hk1
  clear x0 x1 x2 x3 kw hW hk1
  go_wp2_with fail
  refine (takeN h1 _ lStar (by rfl) (by decide) c1).mono ?_
  rintro e w2 ⟨rfl, h2, hk2⟩
  go_wp2_with fail
  refine (takeN h2 _ lPlus (by rfl) (by decide) c2).mono ?_
  rintro e w3 ⟨rfl, h3, hk3⟩
  go_wp2_with fail
  refine (takeN h3 _ lQuery (by rfl) (by decide) c3).mono ?_
  rintro e w4 ⟨rfl, h4, hk4⟩
  go_wp2_with fail
  refine (takeY h4 _ lOpenBrace (by rfl) (by decide) c4).mono ?_
  rintro e w5 ⟨rfl, h5, hk5⟩
  go_wp2_with fail
  refine (bounds_rd h5).mono ?_
  rintro e w6 ⟨rfl, h6, hk6⟩
  rw [HL.out, HH.out]
  have hkk := (((hk2.trans hk3).trans hk4).trans hk5).trans hk6
  have ka := k0.trans hkk
  have z0 := y0.kept hkk (hnown _ (by omega))
  have z1 := y1.kept hkk (hnown _ (by omega))
  have z2 := y2.kept hkk (hnown _ (by omega))
  have z3 := y3.kept hkk (hnown _ (by omega))
  clear y0 y1 y2 y3
  have e2 : w6.cell? ⟨w.heap.size + 1 + 1 + 1, 2, none⟩ = some (.int .i64 0) := z3.cell 2
  have e3 : w6.cell? ⟨w.heap.size + 1 + 1 + 1, 3, none⟩ = some (.int .i64 0) := z3.cell 3
  have f2 : w6.frozen? ⟨w.heap.size + 1 + 1 + 1, 2, none⟩ = false := z3.frozen 2
  have f3 : w6.frozen? ⟨w.heap.size + 1 + 1 + 1, 3, none⟩ = false := z3.frozen 3
  go_wp2_with fail
  have zz3 := (z3.setCell 2 (.int .i64 L)).setCell 3 (.int .i64 Hh)
  have ks : Kept (fun i => i = w.heap.size + 1 + 1 + 1) w6 ((w6.setCell ⟨w.heap.size + 1 + 1 + 1, 2, none⟩ (.int .i64 L)).setCell ⟨w.heap.size + 1 + 1 + 1, 3, none⟩ (.int .i64 Hh)) := ((Kept.refl (fun i => i = w.heap.size + 1 + 1 + 1) w6).setCell (p := ⟨w.heap.size + 1 + 1 + 1, 2, none⟩) (Or.inl rfl) _).setCell (p := ⟨w.heap.size + 1 + 1 + 1, 3, none⟩) (Or.inl rfl) _
  have hs := h6.new hR ks (fun i hi => by omega)
  have kb := ka.trans' ks (fun i hi he => by omega)
  have zz1 := z1.kept ks (by omega)
  have zz2 := z2.kept ks (by omega)
  clear z0 z1 z2 z3 e2 e3 f2 f3
  refine (takeL hs _ lQuery (by rfl) (by decide)).mono ?_
  rintro e wz ⟨rfl, hz, hkz⟩
  have t1 := zz1.kept hkz (hnown _ (by omega))
  have t2 := zz2.kept hkz (hnown _ (by omega))
  have t3 := zz3.kept hkz (hnown _ (by omega))
  have kz := kb.trans hkz
  clear zz1 zz2 zz3 kb hkz ks ka
  have e0 : wz.cell? ⟨w.heap.size + 1, 0, none⟩ = some (.int .i64 0) := t1.cell 0
  have e1 : wz.cell? ⟨w.heap.size + 1, 1, none⟩ = some (.slice none 0 0) := t1.cell 1
  have e2 : wz.cell? ⟨w.heap.size + 1, 2, none⟩ = some (.int .i64 0) := t1.cell 2
  have e3 : wz.cell? ⟨w.heap.size + 1, 3, none⟩ = some (.int .i64 0) := t1.cell 3
  have g0 : wz.frozen? ⟨w.heap.size + 1, 0, none⟩ = false := t1.frozen 0
  have g1 : wz.frozen? ⟨w.heap.size + 1, 1, none⟩ = false := t1.frozen 1
  have g2 : wz.frozen? ⟨w.heap.size + 1, 2, none⟩ = false := t1.frozen 2
  have g3 : wz.frozen? ⟨w.heap.size + 1, 3, none⟩ = false := t1.frozen 3
  have d0 : wz.cell? ⟨w.heap.size + 1 + 1 + 1, 0, none⟩ = some (.int .i64 4) := t3.cell 0
  have d1 : wz.cell? ⟨w.heap.size + 1 + 1 + 1, 1, none⟩ = some (.slice (some ⟨w.heap.size + 1 + 1, 0, none⟩) 1 1) := t3.cell 1
  have d2 : wz.cell? ⟨w.heap.size + 1 + 1 + 1, 2, none⟩ = some (.int .i64 L) := t3.cell 2
  have d3 : wz.cell? ⟨w.heap.size + 1 + 1 + 1, 3, none⟩ = some (.int .i64 Hh) := t3.cell 3
  go_wp2_with fail
  have fin := rep_close (low := L) (high := Hh) hR hz hp hhi hlw hown kz t2 (by omega)
  have bfin := setQuad_blk t1 rfl (.int .i64 4, .slice (some ⟨w.heap.size + 1 + 1, 0, none⟩) 1 1, .int .i64 L, .int .i64 Hh)
  simp only [setQuad] at fin bfin
  refine node_ret (i := 4) (b := w.heap.size + 1) (q := (.int .i64 4, .slice (some ⟨w.heap.size + 1 + 1, 0, none⟩) 1 1, .int .i64 L, .int .i64 Hh)) Try.results53 ?_ ?_ ?_ ?_
  · rfl
  · rfl
  · exact bfin
  · exact ⟨_, rfl, fin⟩

theorem repeated_rd {w : World} {g : RG} {st : RS} {q : Quad} {A : PT} {lo hi : Nat} (hR : RdAt w g st) (hp : PTAt w lo hi q.val A) (hhi : hi ≤ w.heap.size) (hlw : lo ≤ w.heap.size) (hown : ∀ i, g.own i → i < lo) :
    Calls Try.prog 53 #[.pointer (some ⟨g.b, 0, none⟩), q.val] w fun e w' => ∃ v, e = .returned v ∧ RdAt w' g (pRepeated g A st).1 ∧ PTAt w' lo w'.heap.size v (pRepeated g A st).2 ∧ Kept g.own w w' := by
  obtain ⟨k', ao, n, cap, l, hh2, hv⟩ := hp.quad
  rw [hv] at hp ⊢
  cases c1 : inSet lStar (seeOf g st)
  · cases c2 : inSet lPlus (seeOf g st)
    · cases c3 : inSet lQuery (seeOf g st)
      · cases c4 : inSet lOpenBrace (seeOf g st)
        · exact repeated_none hR hp hhi hlw hown c1 c2 c3 c4
        · by_cases t1 : 20 < (pBounds g { st with next := st.next + 1 }).2.1
          · exact repeated_braceA hR hp hhi hlw hown c1 c2 c3 c4 t1
          · by_cases t2 : 20 < (pBounds g { st with next := st.next + 1 }).2.2
            · exact repeated_braceB hR hp hhi hlw hown c1 c2 c3 c4 (by omega) t2
            · by_cases t3 : (pBounds g { st with next := st.next + 1 }).2.2 = -1
              · exact repeated_braceC hR hp hhi hlw hown c1 c2 c3 c4 (by omega) t3
              · by_cases t4 : (pBounds g { st with next := st.next + 1 }).2.2 < (pBounds g { st with next := st.next + 1 }).2.1
                · exact repeated_braceD hR hp hhi hlw hown c1 c2 c3 c4 (by omega) (by omega) t3 t4
                · exact repeated_braceE hR hp hhi hlw hown c1 c2 c3 c4 (by omega) (by omega) t3 (by omega)
      · exact repeated_query hR hp hhi hlw hown c1 c2 c3
    · exact repeated_plus hR hp hhi hlw hown c1 c2
  · exact repeated_star hR hp hhi hlw hown c1
end Go.Proofs.Ytlimhofdonkljaa
