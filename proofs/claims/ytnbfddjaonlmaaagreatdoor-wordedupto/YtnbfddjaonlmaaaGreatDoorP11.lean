/- The reader of the program: atom. The reader of the program: seq. The reader of the program: alt, whole. -/
import Derived.Test.YtnbfddjaonlmaaaGreatDoorP10
namespace Go.Proofs.YtnbfddjaonlmaaaGreatDoor
open Go.RowKit Go.Maps
set_option linter.unusedVariables false
set_option maxRecDepth 100000

theorem singles_in (r : Int) : inSet lSingles r = (inSet lDot r || inSet lTextEdge r) := by
  rw [Bool.eq_iff_iff]
  simp [inSet, lSingles, lDot, lTextEdge]

set_option maxHeartbeats 2000000 in
theorem atom_round {w : World} {g : RG} {fo : Bool} {st : RS} {k : Nat} (hA : AltOk g k) (hR : RdAt w g fo st) (hrem : g.rs.length - st.next ≤ k) (c1 : inSet lOpenRound (seeOf g st) = true) :
    Calls Tryz.prog 69 #[.pointer (some ⟨g.b, 0, none⟩)] w fun e w' => ∃ q, e = .returned (Nv.val q) ∧ RdAt w' g fo (pAtom g (pAlt g k) st).1 ∧ PTAt w' w.heap.size w'.heap.size q (pAtom g (pAlt g k) st).2 (cAtom g (cAlt g k) fo st) ∧ Kept g.own w w' := by
  rw [show pAtom g (pAlt g k) st = pBracket g (pAlt g k) { st with next := st.next + 1 } from by unfold pAtom; rw [if_pos c1], show cAtom g (cAlt g k) fo st = cBracket g (cAlt g k) fo { st with next := st.next + 1 } from by unfold cAtom; rw [if_pos c1]]
  have hlt := seeOf_lt c1
  have hl := hR.len
  have hnl := hR.next
  have hgr := hR.groups
  have hnown : ∀ i, w.heap.size ≤ i → ¬ g.own i := fun i hi hx => by have := hR.own_lt hx; omega
  have hsee : ∀ st : RS, -1 ≤ seeOf g st ∧ seeOf g st ≤ 1114111 := hR.see_range
  have ha := hR.nil ((Kept.refl Nil w).alloc (.cells zeroNv.cells 56))
  have b0 := Blk.new w zeroNv.cells 56
  have ka : Kept g.own w (w.alloc (.cells zeroNv.cells 56)) := (Kept.refl _ w).alloc _
  have s0 : (w.alloc (.cells zeroNv.cells 56)).heap.size = w.heap.size + 1 := size_alloc1 _ _
  go_enter Tryz.func69, Tryz.ntmps69
  go_wp2_with fail
  refine (seeL ha).mono ?_
  rintro e w1 ⟨rfl, h1, hk1⟩
  go_wp2_with fail
  refine (takeY h1 _ lOpenRound (by rfl) (by decide) c1).mono ?_
  rintro e w2 ⟨rfl, h2, hk2⟩
  go_wp2_with fail
  have kk := ((ka.trans hk1).trans hk2)
  have bp := (b0.kept hk1 (hnown _ (Nat.le_refl _))).kept hk2 (hnown _ (Nat.le_refl _))
  have hlt8 : w.heap.size < w2.heap.size := bp.lt
  refine (bracket_rd hA h2 (by simp; omega) (by simp; omega)).mono ?_
  rintro e wz ⟨q, rfl, hz, hpz, hkz⟩
  have bz := bp.kept hkz (hnown _ (Nat.le_refl _))
  have kz := kk.trans hkz
  obtain ⟨e0, e1, e2, e3, e4, e5, e6, e7⟩ := bz.eight
  obtain ⟨g0, g1, g2, g3, g4, g5, g6, g7⟩ := bz.thaw
  simp only [zeroNv] at e0 e1 e2 e3 e4 e5 e6 e7
  have hlt9 : w.heap.size < wz.heap.size := bz.lt
  simp only [Nv.val, Nv.cells]
  go_wp2_with fail
  have fin := node_close hR hz hpz (by omega) (Nat.le_refl _) kz
  have bfin := putNv_blk bz q
  simp only [putNv] at fin bfin
  refine node_ret (i := 2) (b := w.heap.size) (q := q) Tryz.results69 ?_ ?_ ?_ ?_
  · rfl
  · rfl
  · exact bfin
  · exact ⟨_, rfl, fin⟩

set_option maxHeartbeats 2000000 in
theorem atom_square {w : World} {g : RG} {fo : Bool} {st : RS} {k : Nat} (hA : AltOk g k) (hR : RdAt w g fo st) (hrem : g.rs.length - st.next ≤ k) (c1 : inSet lOpenRound (seeOf g st) = false) (c2 : inSet lOpenSquare (seeOf g st) = true) :
    Calls Tryz.prog 69 #[.pointer (some ⟨g.b, 0, none⟩)] w fun e w' => ∃ q, e = .returned (Nv.val q) ∧ RdAt w' g fo (pAtom g (pAlt g k) st).1 ∧ PTAt w' w.heap.size w'.heap.size q (pAtom g (pAlt g k) st).2 (cAtom g (cAlt g k) fo st) ∧ Kept g.own w w' := by
  rw [show pAtom g (pAlt g k) st = (pClass g { st with next := st.next + 1 }, single) from by unfold pAtom; rw [if_neg (by rw [c1]; simp), if_pos c2], show cAtom g (cAlt g k) fo st = cClass g fo { st with next := st.next + 1 } from by unfold cAtom; rw [if_neg (by rw [c1]; simp), if_pos c2]]
  have hlt := seeOf_lt c2
  have hl := hR.len
  have hnl := hR.next
  have hgr := hR.groups
  have hnown : ∀ i, w.heap.size ≤ i → ¬ g.own i := fun i hi hx => by have := hR.own_lt hx; omega
  have hsee : ∀ st : RS, -1 ≤ seeOf g st ∧ seeOf g st ≤ 1114111 := hR.see_range
  have ha := hR.nil ((Kept.refl Nil w).alloc (.cells zeroNv.cells 56))
  have b0 := Blk.new w zeroNv.cells 56
  have ka : Kept g.own w (w.alloc (.cells zeroNv.cells 56)) := (Kept.refl _ w).alloc _
  have s0 : (w.alloc (.cells zeroNv.cells 56)).heap.size = w.heap.size + 1 := size_alloc1 _ _
  go_enter Tryz.func69, Tryz.ntmps69
  go_wp2_with fail
  refine (seeL ha).mono ?_
  rintro e w1 ⟨rfl, h1, hk1⟩
  go_wp2_with fail
  refine (takeN h1 _ lOpenRound (by rfl) (by decide) c1).mono ?_
  rintro e w2 ⟨rfl, h2, hk2⟩
  go_wp2_with fail
  refine (takeY h2 _ lOpenSquare (by rfl) (by decide) c2).mono ?_
  rintro e w3 ⟨rfl, h3, hk3⟩
  go_wp2_with fail
  have kk := (((ka.trans hk1).trans hk2).trans hk3)
  have bp := ((b0.kept hk1 (hnown _ (Nat.le_refl _))).kept hk2 (hnown _ (Nat.le_refl _))).kept hk3 (hnown _ (Nat.le_refl _))
  have hlt8 : w.heap.size < w3.heap.size := bp.lt
  refine (class_rd h3).mono ?_
  rintro e wz ⟨q, rfl, hz, hpz, hkz⟩
  have bz := bp.kept hkz (hnown _ (Nat.le_refl _))
  have kz := kk.trans hkz
  obtain ⟨e0, e1, e2, e3, e4, e5, e6, e7⟩ := bz.eight
  obtain ⟨g0, g1, g2, g3, g4, g5, g6, g7⟩ := bz.thaw
  simp only [zeroNv] at e0 e1 e2 e3 e4 e5 e6 e7
  have hlt9 : w.heap.size < wz.heap.size := bz.lt
  simp only [Nv.val, Nv.cells]
  go_wp2_with fail
  have fin := node_close hR hz hpz (by omega) (Nat.le_refl _) kz
  have bfin := putNv_blk bz q
  simp only [putNv] at fin bfin
  refine node_ret (i := 2) (b := w.heap.size) (q := q) Tryz.results69 ?_ ?_ ?_ ?_
  · rfl
  · rfl
  · exact bfin
  · exact ⟨_, rfl, fin⟩

set_option maxHeartbeats 2000000 in
theorem atom_back {w : World} {g : RG} {fo : Bool} {st : RS} {k : Nat} (hA : AltOk g k) (hR : RdAt w g fo st) (hrem : g.rs.length - st.next ≤ k) (c1 : inSet lOpenRound (seeOf g st) = false) (c2 : inSet lOpenSquare (seeOf g st) = false) (c3 : inSet lBack (seeOf g st) = true) :
    Calls Tryz.prog 69 #[.pointer (some ⟨g.b, 0, none⟩)] w fun e w' => ∃ q, e = .returned (Nv.val q) ∧ RdAt w' g fo (pAtom g (pAlt g k) st).1 ∧ PTAt w' w.heap.size w'.heap.size q (pAtom g (pAlt g k) st).2 (cAtom g (cAlt g k) fo st) ∧ Kept g.own w w' := by
  rw [show pAtom g (pAlt g k) st = (needSt g lEscape { st with next := st.next + 1 }, single) from by unfold pAtom; rw [if_neg (by rw [c1]; simp), if_neg (by rw [c2]; simp), if_pos c3], show cAtom g (cAlt g k) fo st = cEscape fo (seeOf g { st with next := st.next + 1 }) from by unfold cAtom; rw [if_neg (by rw [c1]; simp), if_neg (by rw [c2]; simp), if_pos c3]]
  have hlt := seeOf_lt c3
  have hl := hR.len
  have hnl := hR.next
  have hgr := hR.groups
  have hnown : ∀ i, w.heap.size ≤ i → ¬ g.own i := fun i hi hx => by have := hR.own_lt hx; omega
  have hsee : ∀ st : RS, -1 ≤ seeOf g st ∧ seeOf g st ≤ 1114111 := hR.see_range
  have ha := hR.nil ((Kept.refl Nil w).alloc (.cells zeroNv.cells 56))
  have b0 := Blk.new w zeroNv.cells 56
  have ka : Kept g.own w (w.alloc (.cells zeroNv.cells 56)) := (Kept.refl _ w).alloc _
  have s0 : (w.alloc (.cells zeroNv.cells 56)).heap.size = w.heap.size + 1 := size_alloc1 _ _
  go_enter Tryz.func69, Tryz.ntmps69
  go_wp2_with fail
  refine (seeL ha).mono ?_
  rintro e w1 ⟨rfl, h1, hk1⟩
  go_wp2_with fail
  refine (takeN h1 _ lOpenRound (by rfl) (by decide) c1).mono ?_
  rintro e w2 ⟨rfl, h2, hk2⟩
  go_wp2_with fail
  refine (takeN h2 _ lOpenSquare (by rfl) (by decide) c2).mono ?_
  rintro e w3 ⟨rfl, h3, hk3⟩
  go_wp2_with fail
  refine (takeY h3 _ lBack (by rfl) (by decide) c3).mono ?_
  rintro e w4 ⟨rfl, h4, hk4⟩
  go_wp2_with fail
  have kk := ((((ka.trans hk1).trans hk2).trans hk3).trans hk4)
  have bp := (((b0.kept hk1 (hnown _ (Nat.le_refl _))).kept hk2 (hnown _ (Nat.le_refl _))).kept hk3 (hnown _ (Nat.le_refl _))).kept hk4 (hnown _ (Nat.le_refl _))
  have hlt8 : w.heap.size < w4.heap.size := bp.lt
  refine (escape_rd h4).mono ?_
  rintro e wz ⟨q, rfl, hz, hpz, hkz⟩
  have bz := bp.kept hkz (hnown _ (Nat.le_refl _))
  have kz := kk.trans hkz
  obtain ⟨e0, e1, e2, e3, e4, e5, e6, e7⟩ := bz.eight
  obtain ⟨g0, g1, g2, g3, g4, g5, g6, g7⟩ := bz.thaw
  simp only [zeroNv] at e0 e1 e2 e3 e4 e5 e6 e7
  have hlt9 : w.heap.size < wz.heap.size := bz.lt
  simp only [Nv.val, Nv.cells]
  go_wp2_with fail
  have fin := node_close hR hz hpz (by omega) (Nat.le_refl _) kz
  have bfin := putNv_blk bz q
  simp only [putNv] at fin bfin
  refine node_ret (i := 2) (b := w.heap.size) (q := q) Tryz.results69 ?_ ?_ ?_ ?_
  · rfl
  · rfl
  · exact bfin
  · exact ⟨_, rfl, fin⟩

set_option maxHeartbeats 2000000 in
theorem atom_dot {w : World} {g : RG} {fo : Bool} {st : RS} {k : Nat} (hA : AltOk g k) (hR : RdAt w g fo st) (hrem : g.rs.length - st.next ≤ k) (c1 : inSet lOpenRound (seeOf g st) = false) (c2 : inSet lOpenSquare (seeOf g st) = false) (c3 : inSet lBack (seeOf g st) = false) (c4 : inSet lDot (seeOf g st) = true) :
    Calls Tryz.prog 69 #[.pointer (some ⟨g.b, 0, none⟩)] w fun e w' => ∃ q, e = .returned (Nv.val q) ∧ RdAt w' g fo (pAtom g (pAlt g k) st).1 ∧ PTAt w' w.heap.size w'.heap.size q (pAtom g (pAlt g k) st).2 (cAtom g (cAlt g k) fo st) ∧ Kept g.own w w' := by
  rw [show pAtom g (pAlt g k) st = ({ st with next := st.next + 1 }, single) from by unfold pAtom; rw [if_neg (by rw [c1]; simp), if_neg (by rw [c2]; simp), if_neg (by rw [c3]; simp), if_pos (by rw [singles_in, c4]; simp)], show cAtom g (cAlt g k) fo st = cLeaf [(10, 10)] fo true from by unfold cAtom; rw [if_neg (by rw [c1]; simp), if_neg (by rw [c2]; simp), if_neg (by rw [c3]; simp), if_pos (by rw [singles_in, c4]; simp)]; unfold cSingle; rw [if_pos c4]]
  have hlt := seeOf_lt c4
  have hl := hR.len
  have hnl := hR.next
  have hgr := hR.groups
  have hnown : ∀ i, w.heap.size ≤ i → ¬ g.own i := fun i hi hx => by have := hR.own_lt hx; omega
  have hsee : ∀ st : RS, -1 ≤ seeOf g st ∧ seeOf g st ≤ 1114111 := hR.see_range
  have ha := hR.nil ((Kept.refl Nil w).alloc (.cells zeroNv.cells 56))
  have b0 := Blk.new w zeroNv.cells 56
  have ka : Kept g.own w (w.alloc (.cells zeroNv.cells 56)) := (Kept.refl _ w).alloc _
  have s0 : (w.alloc (.cells zeroNv.cells 56)).heap.size = w.heap.size + 1 := size_alloc1 _ _
  go_enter Tryz.func69, Tryz.ntmps69
  go_wp2_with fail
  refine (seeL ha).mono ?_
  rintro e w1 ⟨rfl, h1, hk1⟩
  go_wp2_with fail
  refine (takeN h1 _ lOpenRound (by rfl) (by decide) c1).mono ?_
  rintro e w2 ⟨rfl, h2, hk2⟩
  go_wp2_with fail
  refine (takeN h2 _ lOpenSquare (by rfl) (by decide) c2).mono ?_
  rintro e w3 ⟨rfl, h3, hk3⟩
  go_wp2_with fail
  refine (takeN h3 _ lBack (by rfl) (by decide) c3).mono ?_
  rintro e w4 ⟨rfl, h4, hk4⟩
  go_wp2_with fail
  refine (takeY h4 _ lDot (by rfl) (by decide) c4).mono ?_
  rintro e w5 ⟨rfl, h5, hk5⟩
  go_wp2_with fail
  have kk := (((((ka.trans hk1).trans hk2).trans hk3).trans hk4).trans hk5)
  have bp := ((((b0.kept hk1 (hnown _ (Nat.le_refl _))).kept hk2 (hnown _ (Nat.le_refl _))).kept hk3 (hnown _ (Nat.le_refl _))).kept hk4 (hnown _ (Nat.le_refl _))).kept hk5 (hnown _ (Nat.le_refl _))
  have hlt8 : w.heap.size < w5.heap.size := bp.lt
  have hcl := lit_cells w5 10 10
  have ba := bp.alloc (.cells #[.int .i32 10, .int .i32 10] 149)
  have kka := kk.alloc (.cells #[.int .i32 10, .int .i32 10] 149)
  have sa := size_alloc1 w5 (.cells #[.int .i32 10, .int .i32 10] 149)
  refine (anyOf_rd (l := [(10, 10)]) (cap := 1) (h5.nil ((Kept.refl Nil w5).alloc (.cells #[.int .i32 10, .int .i32 10] 149))) true hcl (RuneSp.one (by omega) (by omega)) (by simp) (by simp) (by omega)).mono ?_
  rintro e wz ⟨q, rfl, hz, hpz, hkz⟩
  have bz := ba.kept hkz (hnown _ (Nat.le_refl _))
  have kz := kka.trans hkz
  obtain ⟨e0, e1, e2, e3, e4, e5, e6, e7⟩ := bz.eight
  obtain ⟨g0, g1, g2, g3, g4, g5, g6, g7⟩ := bz.thaw
  simp only [zeroNv] at e0 e1 e2 e3 e4 e5 e6 e7
  have hlt9 : w.heap.size < wz.heap.size := bz.lt
  simp only [Nv.val, Nv.cells]
  go_wp2_with fail
  have fin := node_close hR hz hpz (by omega) (Nat.le_refl _) kz
  have bfin := putNv_blk bz q
  simp only [putNv] at fin bfin
  refine node_ret (i := 2) (b := w.heap.size) (q := q) Tryz.results69 ?_ ?_ ?_ ?_
  · rfl
  · rfl
  · exact bfin
  · exact ⟨_, rfl, fin⟩

set_option maxHeartbeats 2000000 in
theorem atom_edge {w : World} {g : RG} {fo : Bool} {st : RS} {k : Nat} (hA : AltOk g k) (hR : RdAt w g fo st) (hrem : g.rs.length - st.next ≤ k) (c1 : inSet lOpenRound (seeOf g st) = false) (c2 : inSet lOpenSquare (seeOf g st) = false) (c3 : inSet lBack (seeOf g st) = false) (c4 : inSet lDot (seeOf g st) = false) (c5 : inSet lTextEdge (seeOf g st) = true) :
    Calls Tryz.prog 69 #[.pointer (some ⟨g.b, 0, none⟩)] w fun e w' => ∃ q, e = .returned (Nv.val q) ∧ RdAt w' g fo (pAtom g (pAlt g k) st).1 ∧ PTAt w' w.heap.size w'.heap.size q (pAtom g (pAlt g k) st).2 (cAtom g (cAlt g k) fo st) ∧ Kept g.own w w' := by
  rw [show pAtom g (pAlt g k) st = ({ st with next := st.next + 1 }, single) from by unfold pAtom; rw [if_neg (by rw [c1]; simp), if_neg (by rw [c2]; simp), if_neg (by rw [c3]; simp), if_pos (by rw [singles_in, c5]; simp)], show cAtom g (cAlt g k) fo st = cEdge (edgeNo (seeOf g st)) from by unfold cAtom; rw [if_neg (by rw [c1]; simp), if_neg (by rw [c2]; simp), if_neg (by rw [c3]; simp), if_pos (by rw [singles_in, c5]; simp)]; unfold cSingle; rw [if_neg (by rw [c4]; simp)]]
  have hlt := seeOf_lt c5
  have hl := hR.len
  have hnl := hR.next
  have hgr := hR.groups
  have hnown : ∀ i, w.heap.size ≤ i → ¬ g.own i := fun i hi hx => by have := hR.own_lt hx; omega
  have hsee : ∀ st : RS, -1 ≤ seeOf g st ∧ seeOf g st ≤ 1114111 := hR.see_range
  have ha := hR.nil ((Kept.refl Nil w).alloc (.cells zeroNv.cells 56))
  have b0 := Blk.new w zeroNv.cells 56
  have ka : Kept g.own w (w.alloc (.cells zeroNv.cells 56)) := (Kept.refl _ w).alloc _
  have s0 : (w.alloc (.cells zeroNv.cells 56)).heap.size = w.heap.size + 1 := size_alloc1 _ _
  go_enter Tryz.func69, Tryz.ntmps69
  go_wp2_with fail
  refine (seeL ha).mono ?_
  rintro e w1 ⟨rfl, h1, hk1⟩
  go_wp2_with fail
  refine (takeN h1 _ lOpenRound (by rfl) (by decide) c1).mono ?_
  rintro e w2 ⟨rfl, h2, hk2⟩
  go_wp2_with fail
  refine (takeN h2 _ lOpenSquare (by rfl) (by decide) c2).mono ?_
  rintro e w3 ⟨rfl, h3, hk3⟩
  go_wp2_with fail
  refine (takeN h3 _ lBack (by rfl) (by decide) c3).mono ?_
  rintro e w4 ⟨rfl, h4, hk4⟩
  go_wp2_with fail
  refine (takeN h4 _ lDot (by rfl) (by decide) c4).mono ?_
  rintro e w5 ⟨rfl, h5, hk5⟩
  go_wp2_with fail
  refine (takeY h5 _ lTextEdge (by rfl) (by decide) c5).mono ?_
  rintro e w6 ⟨rfl, h6, hk6⟩
  go_wp2_with fail
  have kk := ((((((ka.trans hk1).trans hk2).trans hk3).trans hk4).trans hk5).trans hk6)
  have bp := (((((b0.kept hk1 (hnown _ (Nat.le_refl _))).kept hk2 (hnown _ (Nat.le_refl _))).kept hk3 (hnown _ (Nat.le_refl _))).kept hk4 (hnown _ (Nat.le_refl _))).kept hk5 (hnown _ (Nat.le_refl _))).kept hk6 (hnown _ (Nat.le_refl _))
  have hlt8 : w.heap.size < w6.heap.size := bp.lt
  refine (edgeOf_rd _ _).mono ?_
  rintro e wz ⟨rfl, rfl⟩
  have hpz := PTAt.edge wz (w.heap.size + 1) wz.heap.size (edgeNo (seeOf g st)) (edgeNo_range _)
  obtain ⟨e0, e1, e2, e3, e4, e5, e6, e7⟩ := bp.eight
  obtain ⟨g0, g1, g2, g3, g4, g5, g6, g7⟩ := bp.thaw
  simp only [zeroNv] at e0 e1 e2 e3 e4 e5 e6 e7
  have hlt9 : w.heap.size < wz.heap.size := bp.lt
  go_wp2_with fail
  have fin := node_close hR h6 hpz (by omega) (Nat.le_refl _) kk
  have bfin := putNv_blk bp (edgeNv (edgeNo (seeOf g st)))
  simp only [putNv, edgeNv] at fin bfin
  refine node_ret (i := 2) (b := w.heap.size) (q := (edgeNv (edgeNo (seeOf g st)))) Tryz.results69 ?_ ?_ ?_ ?_
  · rfl
  · rfl
  · exact bfin
  · exact ⟨_, rfl, fin⟩

set_option maxHeartbeats 2000000 in
theorem atom_other {w : World} {g : RG} {fo : Bool} {st : RS} {k : Nat} (hA : AltOk g k) (hR : RdAt w g fo st) (hrem : g.rs.length - st.next ≤ k) (c1 : inSet lOpenRound (seeOf g st) = false) (c2 : inSet lOpenSquare (seeOf g st) = false) (c3 : inSet lBack (seeOf g st) = false) (c4 : inSet lDot (seeOf g st) = false) (c5 : inSet lTextEdge (seeOf g st) = false) :
    Calls Tryz.prog 69 #[.pointer (some ⟨g.b, 0, none⟩)] w fun e w' => ∃ q, e = .returned (Nv.val q) ∧ RdAt w' g fo (pAtom g (pAlt g k) st).1 ∧ PTAt w' w.heap.size w'.heap.size q (pAtom g (pAlt g k) st).2 (cAtom g (cAlt g k) fo st) ∧ Kept g.own w w' := by
  rw [show pAtom g (pAlt g k) st = (needOtherSt g lNotPlain st, single) from by unfold pAtom; rw [if_neg (by rw [c1]; simp), if_neg (by rw [c2]; simp), if_neg (by rw [c3]; simp), if_neg (by rw [singles_in, c4, c5]; simp)], show cAtom g (cAlt g k) fo st = cLeaf [(seeOf g st, seeOf g st)] fo false from by unfold cAtom; rw [if_neg (by rw [c1]; simp), if_neg (by rw [c2]; simp), if_neg (by rw [c3]; simp), if_neg (by rw [singles_in, c4, c5]; simp)]]
  have hl := hR.len
  have hnl := hR.next
  have hgr := hR.groups
  have hnown : ∀ i, w.heap.size ≤ i → ¬ g.own i := fun i hi hx => by have := hR.own_lt hx; omega
  have hsee : ∀ st : RS, -1 ≤ seeOf g st ∧ seeOf g st ≤ 1114111 := hR.see_range
  have ha := hR.nil ((Kept.refl Nil w).alloc (.cells zeroNv.cells 56))
  have b0 := Blk.new w zeroNv.cells 56
  have ka : Kept g.own w (w.alloc (.cells zeroNv.cells 56)) := (Kept.refl _ w).alloc _
  have s0 : (w.alloc (.cells zeroNv.cells 56)).heap.size = w.heap.size + 1 := size_alloc1 _ _
  go_enter Tryz.func69, Tryz.ntmps69
  go_wp2_with fail
  refine (seeL ha).mono ?_
  rintro e w1 ⟨rfl, h1, hk1⟩
  go_wp2_with fail
  refine (takeN h1 _ lOpenRound (by rfl) (by decide) c1).mono ?_
  rintro e w2 ⟨rfl, h2, hk2⟩
  go_wp2_with fail
  refine (takeN h2 _ lOpenSquare (by rfl) (by decide) c2).mono ?_
  rintro e w3 ⟨rfl, h3, hk3⟩
  go_wp2_with fail
  refine (takeN h3 _ lBack (by rfl) (by decide) c3).mono ?_
  rintro e w4 ⟨rfl, h4, hk4⟩
  go_wp2_with fail
  refine (takeN h4 _ lDot (by rfl) (by decide) c4).mono ?_
  rintro e w5 ⟨rfl, h5, hk5⟩
  go_wp2_with fail
  refine (takeN h5 _ lTextEdge (by rfl) (by decide) c5).mono ?_
  rintro e w6 ⟨rfl, h6, hk6⟩
  go_wp2_with fail
  refine (needOtherL h6 _ lNotPlain (by rfl) (by decide)).mono ?_
  rintro e w7 ⟨rfl, h7, hk7⟩
  go_wp2_with fail
  have kk := (((((((ka.trans hk1).trans hk2).trans hk3).trans hk4).trans hk5).trans hk6).trans hk7)
  have bp := ((((((b0.kept hk1 (hnown _ (Nat.le_refl _))).kept hk2 (hnown _ (Nat.le_refl _))).kept hk3 (hnown _ (Nat.le_refl _))).kept hk4 (hnown _ (Nat.le_refl _))).kept hk5 (hnown _ (Nat.le_refl _))).kept hk6 (hnown _ (Nat.le_refl _))).kept hk7 (hnown _ (Nat.le_refl _))
  have hlt8 : w.heap.size < w7.heap.size := bp.lt
  have hcl := lit_cells w7 (seeOf g st) (seeOf g st)
  have ba := bp.alloc (.cells #[.int .i32 (seeOf g st), .int .i32 (seeOf g st)] 149)
  have kka := kk.alloc (.cells #[.int .i32 (seeOf g st), .int .i32 (seeOf g st)] 149)
  have sa := size_alloc1 w7 (.cells #[.int .i32 (seeOf g st), .int .i32 (seeOf g st)] 149)
  refine (anyOf_rd (l := [((seeOf g st), (seeOf g st))]) (cap := 1) (h7.nil ((Kept.refl Nil w7).alloc (.cells #[.int .i32 (seeOf g st), .int .i32 (seeOf g st)] 149))) false hcl (RuneSp.one (hsee st) (hsee st)) (by simp) (by simp) (by omega)).mono ?_
  rintro e wz ⟨q, rfl, hz, hpz, hkz⟩
  have bz := ba.kept hkz (hnown _ (Nat.le_refl _))
  have kz := kka.trans hkz
  obtain ⟨e0, e1, e2, e3, e4, e5, e6, e7⟩ := bz.eight
  obtain ⟨g0, g1, g2, g3, g4, g5, g6, g7⟩ := bz.thaw
  simp only [zeroNv] at e0 e1 e2 e3 e4 e5 e6 e7
  have hlt9 : w.heap.size < wz.heap.size := bz.lt
  simp only [Nv.val, Nv.cells]
  go_wp2_with fail
  have fin := node_close hR hz hpz (by omega) (Nat.le_refl _) kz
  have bfin := putNv_blk bz q
  simp only [putNv] at fin bfin
  refine node_ret (i := 2) (b := w.heap.size) (q := q) Tryz.results69 ?_ ?_ ?_ ?_
  · rfl
  · rfl
  · exact bfin
  · exact ⟨_, rfl, fin⟩

theorem atom_rd {w : World} {g : RG} {fo : Bool} {st : RS} {k : Nat} (hA : AltOk g k) (hR : RdAt w g fo st) (hrem : g.rs.length - st.next ≤ k) :
    Calls Tryz.prog 69 #[.pointer (some ⟨g.b, 0, none⟩)] w fun e w' => ∃ q, e = .returned (Nv.val q) ∧ RdAt w' g fo (pAtom g (pAlt g k) st).1 ∧ PTAt w' w.heap.size w'.heap.size q (pAtom g (pAlt g k) st).2 (cAtom g (cAlt g k) fo st) ∧ Kept g.own w w' := by
  cases c1 : inSet lOpenRound (seeOf g st)
  · cases c2 : inSet lOpenSquare (seeOf g st)
    · cases c3 : inSet lBack (seeOf g st)
      · cases c4 : inSet lDot (seeOf g st)
        · cases c5 : inSet lTextEdge (seeOf g st)
          · exact atom_other hA hR hrem c1 c2 c3 c4 c5
          · exact atom_edge hA hR hrem c1 c2 c3 c4 c5
        · exact atom_dot hA hR hrem c1 c2 c3 c4
      · exact atom_back hA hR hrem c1 c2 c3
    · exact atom_square hA hR hrem c1 c2
  · exact atom_round hA hR hrem c1

/-! ## how far -/
def AltFwd (g : RG) (alt : RS → RS × PT) : Prop := ∀ st, st.next ≤ g.rs.length → st.next ≤ (alt st).1.next ∧ (alt st).1.next ≤ g.rs.length
theorem pDigit_next (g : RG) (st : RS) (h : st.next ≤ g.rs.length) : st.next ≤ (pDigit g st).1.next ∧ (pDigit g st).1.next ≤ g.rs.length := by
  unfold pDigit
  split
  · rename_i hc; have := seeOf_lt hc; simp; omega
  · simp [refuseOf_next]; exact h
theorem pNumber_next (g : RG) (st : RS) (h : st.next ≤ g.rs.length) : st.next ≤ (pNumber g st).1.next ∧ (pNumber g st).1.next ≤ g.rs.length := by
  have h1 := pDigit_next g st h
  have h2 := pDigit_next g _ h1.2
  unfold pNumber
  split
  · simp only; omega
  · exact h1
theorem pBounds_next (g : RG) (st : RS) (h : st.next ≤ g.rs.length) : st.next ≤ (pBounds g st).1.next ∧ (pBounds g st).1.next ≤ g.rs.length := by
  have h1 := pNumber_next g st h
  unfold pBounds
  split
  · rename_i hc
    have hl := seeOf_lt hc
    have h2 := pNumber_next g { (pNumber g st).1 with next := (pNumber g st).1.next + 1 } (by simp; omega)
    have h3 : (pNumber g st).1.next ≤ (pHigh g { (pNumber g st).1 with next := (pNumber g st).1.next + 1 }).1.next ∧ (pHigh g { (pNumber g st).1 with next := (pNumber g st).1.next + 1 }).1.next ≤ g.rs.length := by
      unfold pHigh
      split
      · simp; omega
      · simp only at h2 ⊢; omega
    have h4 := needSt_next g lBrace _ h3.2
    simp only at h3 h4 ⊢; omega
  · have h4 := needSt_next g lBrace _ h1.2
    simp only; omega
theorem pRepeated_next (g : RG) (a : PT) (st : RS) (h : st.next ≤ g.rs.length) : st.next ≤ (pRepeated g a st).1.next ∧ (pRepeated g a st).1.next ≤ g.rs.length := by
  have key : ∀ l, inSet l (seeOf g st) = true → st.next ≤ (takeOf g lQuery { st with next := st.next + 1 }).next ∧ (takeOf g lQuery { st with next := st.next + 1 }).next ≤ g.rs.length := by
    intro l hl
    have h1 := seeOf_lt hl
    have := takeOf_next g lQuery { st with next := st.next + 1 } (by simp; omega)
    simp only at this
    omega
  unfold pRepeated
  split
  · rename_i hc; exact key _ hc
  · split
    · rename_i hc; exact key _ hc
    · split
      · rename_i hc; exact key _ hc
      · split
        · rename_i hc
          have h1 := seeOf_lt hc
          have h2 := pBounds_next g { st with next := st.next + 1 } (by simp; omega)
          simp only at h2 ⊢
          split
          · have := takeOf_next g lQuery ((pBounds g { st with next := st.next + 1 }).1.note 4 (placeOf g st)) (by rw [note_next]; exact h2.2)
            rw [note_next] at this
            omega
          · have := takeOf_next g lQuery (pBounds g { st with next := st.next + 1 }).1 h2.2
            omega
        · exact ⟨Nat.le_refl _, h⟩
theorem pAtom_next (g : RG) (alt : RS → RS × PT) (ha : AltFwd g alt) (st : RS) (h : st.next ≤ g.rs.length) : st.next ≤ (pAtom g alt st).1.next ∧ (pAtom g alt st).1.next ≤ g.rs.length ∧ (st.next < g.rs.length → st.next < (pAtom g alt st).1.next) := by
  unfold pAtom
  split
  · rename_i hc
    have h1 := seeOf_lt hc
    have h2 := pHead_next g { st with next := st.next + 1 } (by simp; omega)
    have h3 := ha (pHead g { st with next := st.next + 1 }) h2.2
    have h4 := needSt_next g lRound _ h3.2
    simp only [pBracket] at *
    omega
  · split
    · rename_i hc
      have h1 := seeOf_lt hc
      have h2 := pClass_next g { st with next := st.next + 1 } (by simp; omega)
      simp only at h2 ⊢; omega
    · split
      · rename_i hc
        have h1 := seeOf_lt hc
        have h2 := needSt_next g lEscape { st with next := st.next + 1 } (by simp; omega)
        simp only at h2 ⊢; omega
      · split
        · rename_i hc
          have h1 := seeOf_lt hc
          simp; omega
        · exact needOtherSt_next g lNotPlain st h

theorem pSeqs_end (g : RG) (alt : RS → RS × PT) (m : Nat) (st : RS) (acc : List PT) (h : seeOf g st = -1 ∨ inSet lBarRound (seeOf g st) = true) : pSeqs g alt m st acc = (st, acc) := by
  cases m with
  | zero => rfl
  | succ m => unfold pSeqs; rw [if_pos h]
theorem pSeqs_next (g : RG) (alt : RS → RS × PT) (ha : AltFwd g alt) : ∀ (m : Nat) (st : RS) (acc : List PT), st.next ≤ g.rs.length → st.next ≤ (pSeqs g alt m st acc).1.next ∧ (pSeqs g alt m st acc).1.next ≤ g.rs.length
  | 0, st, _, h => ⟨Nat.le_refl _, h⟩
  | m + 1, st, acc, h => by
    unfold pSeqs
    split
    · exact ⟨Nat.le_refl _, h⟩
    · have h1 := pAtom_next g alt ha st h
      have h2 := pRepeated_next g (pAtom g alt st).2 _ h1.2.1
      have h3 := pSeqs_next g alt ha m _ (acc ++ [(pRepeated g (pAtom g alt st).2 (pAtom g alt st).1).2]) h2.2
      omega
theorem pSeq_next (g : RG) (alt : RS → RS × PT) (ha : AltFwd g alt) (st : RS) (h : st.next ≤ g.rs.length) : st.next ≤ (pSeq g alt st).1.next ∧ (pSeq g alt st).1.next ≤ g.rs.length := pSeqs_next g alt ha _ st [] h
theorem pAlts_next (g : RG) (alt : RS → RS × PT) (ha : AltFwd g alt) : ∀ (m : Nat) (st : RS) (acc : List PT), st.next ≤ g.rs.length → st.next ≤ (pAlts g alt m st acc).1.next ∧ (pAlts g alt m st acc).1.next ≤ g.rs.length
  | 0, st, _, h => ⟨Nat.le_refl _, h⟩
  | m + 1, st, acc, h => by
    unfold pAlts
    split
    · rename_i hc
      have h1 := seeOf_lt hc
      have h2 := pSeq_next g alt ha { st with next := st.next + 1 } (by simp; omega)
      have h3 := pAlts_next g alt ha m _ (acc ++ [(pSeq g alt { st with next := st.next + 1 }).2]) h2.2
      simp only at h2 h3 ⊢
      omega
    · exact ⟨Nat.le_refl _, h⟩
theorem pAlt_fwd (g : RG) : ∀ k, AltFwd g (pAlt g k)
  | 0 => fun st h => ⟨Nat.le_refl _, h⟩
  | k + 1 => fun st h => by
    have ha := pAlt_fwd g k
    have h1 := pSeq_next g (pAlt g k) ha st h
    have h2 := pAlts_next g (pAlt g k) ha (g.rs.length + 1) _ [(pSeq g (pAlt g k) st).2] h1.2
    show st.next ≤ (pAlts g (pAlt g k) (g.rs.length + 1) (pSeq g (pAlt g k) st).1 [(pSeq g (pAlt g k) st).2]).1.next ∧ _
    exact ⟨by omega, h2.2⟩

end Go.Proofs.YtnbfddjaonlmaaaGreatDoor

namespace Go.Proofs.YtnbfddjaonlmaaaGreatDoor
open Go.RowKit Go.Maps
set_option linter.unusedVariables false
set_option maxRecDepth 100000

theorem Tryz.infoNode : (Tryz.prog.info? 56).map (fun i => (i.zero, i.size, i.bytes)) = some (some (.agg #[.int .i64 0, .slice none 0 0, .slice none 0 0, .int .i64 0, .int .i64 0, .int .i64 0, .int .i64 0, .bool false]), 8, 96) := by kernel_rfl

/-- a node over a list, laid into the result's block -/
theorem list_close {w w3 : World} {g : RG} {fo fo' : Bool} {st st' : RS} {v : Value} {qs : List Nv} {acc : List PT} {cs : List CT} {k tk : Int} (hR : RdAt w g fo st) (h3 : RdAt w3 g fo' st') (ps : PsAt w3 (w.heap.size + 1) v qs acc cs) (hk : (k = 3 ∧ tk = 2) ∨ (k = 4 ∧ tk = 3 ∧ acc ≠ [])) (k1 : Kept g.own w w3) :
    ∃ pa pc, v = .slice pa acc.length pc ∧ RdAt (putNv w3 w.heap.size (listNv k pa acc.length pc)) g fo' st' ∧ PTAt (putNv w3 w.heap.size (listNv k pa acc.length pc)) w.heap.size (putNv w3 w.heap.size (listNv k pa acc.length pc)).heap.size (listNv k pa acc.length pc) (.node tk acc 0 0) (.node k [] false false 0 0 0 0 false cs) ∧
    Kept g.own w (putNv w3 w.heap.size (listNv k pa acc.length pc)) := by
  obtain ⟨pa, pc, rfl, hp⟩ := ps.node k tk hk
  have sz := putNv_size w3 w.heap.size (listNv k pa acc.length pc)
  have kq := putNv_kept w3 w.heap.size (listNv k pa acc.length pc)
  exact ⟨pa, pc, rfl, h3.new hR kq (fun i hi => by omega), (hp.kept kq (fun i h1 _ he => by omega) (Nat.le_refl _)).widen (by omega) (by omega), k1.trans' kq (fun i hi he => by omega)⟩

set_option maxHeartbeats 2000000 in
theorem seq_rd {w : World} {g : RG} {fo : Bool} {st : RS} {k : Nat} (hA : AltOk g k) (hR : RdAt w g fo st) (hrem : g.rs.length - st.next ≤ k) :
    Calls Tryz.prog 52 #[.pointer (some ⟨g.b, 0, none⟩)] w fun e w' => ∃ q, e = .returned (Nv.val q) ∧ RdAt w' g fo (pSeq g (pAlt g k) st).1 ∧ PTAt w' w.heap.size w'.heap.size q (pSeq g (pAlt g k) st).2 (cSeq g (pAlt g k) (cAlt g k) fo st) ∧ Kept g.own w w' := by
  have hlen := hR.len
  have hnl := hR.next
  have hnown : ∀ i, w.heap.size ≤ i → ¬ g.own i := fun i hi hx => by have := hR.own_lt hx; omega
  obtain ⟨i0, hi0, hz0, hz1, hz2⟩ := info_parts Tryz.infoNode
  have ha := hR.nil ((Kept.refl Nil w).alloc (.cells zeroNv.cells 56))
  have hb0 := Blk.new w zeroNv.cells 56
  have hka : Kept g.own w (w.alloc (.cells zeroNv.cells 56)) := (Kept.refl _ w).alloc _
  have hsz0 : w.heap.size + 1 ≤ (w.alloc (.cells zeroNv.cells 56)).heap.size := by simp
  have hps := PsAt.nil (w.alloc (.cells zeroNv.cells 56)) (w.heap.size + 1)
  unfold pSeq cSeq
  go_enter Tryz.func52, Tryz.ntmps52
  go_wp2_with fail
  go_loopg [3] (g.rs.length - st.next) (fun kk v wr => ∃ st1 m acc cs qs, RdAt wr g fo st1 ∧ PsAt wr (w.heap.size + 1) v qs acc cs ∧ Hid (pSeqs g (pAlt g k) m st1 acc = pSeqs g (pAlt g k) (g.rs.length + 1) st []) ∧ Hid (cSeqs g (pAlt g k) (cAlt g k) fo m st1 cs = cSeqs g (pAlt g k) (cAlt g k) fo (g.rs.length + 1) st []) ∧ kk = g.rs.length - st1.next ∧ kk < m ∧ st.next ≤ st1.next ∧ acc.length ≤ st1.next ∧ Kept g.own w wr ∧ w.heap.size + 1 ≤ wr.heap.size ∧ Blk wr w.heap.size zeroNv.cells 56)
  case atStart => exact ⟨st, g.rs.length + 1, [], [], [], ha, hps, rfl, rfl, rfl, by omega, Nat.le_refl _, by simp, hka, hsz0, hb0⟩
  case round =>
    obtain ⟨st1, m, acc, cs, qs, hr, hPs, HP, HPC, rfl, hm, hge, hacc, hk, hsz, hb⟩ := hrel
    clear ha hka hb0 hsz0 hps
    have hle := hr.next
    by_cases hend : seeOf g st1 = -1
    · have hbb : (seeOf g st1 != -1) = false := by simp [hend]
      go_wp2_with fail
      refine (seeL hr).mono ?_
      rintro e w3 ⟨rfl, h3, hk3⟩
      have HE : Hid (pSeqs g (pAlt g k) (g.rs.length + 1) st [] = (st1, acc)) := by show _ = _; rw [← HP.out, pSeqs_end g _ m st1 acc (Or.inl hend)]
      have HC : Hid (cSeqs g (pAlt g k) (cAlt g k) fo (g.rs.length + 1) st [] = cs) := by show _ = _; rw [← HPC.out, cSeqs_end g _ _ fo m st1 cs (Or.inl hend)]
      clear hend HP HPC
      have ps3 := hPs.kept hk3 (fun i hi => by have := hR.own_lt hi; omega)
      have b3 := hb.kept hk3 (hnown _ (Nat.le_refl _))
      have kw3 := hk.trans hk3
      have s3 := hk3.size
      obtain ⟨ao3, c3, hv3, fin⟩ := list_close (k := 3) (tk := 2) hR h3 ps3 (Or.inl ⟨rfl, rfl⟩) kw3
      rw [hv3]
      clear hv3 hPs hb hk hr
      obtain ⟨e0, e1, e2, e3, e4, e5, e6, e7⟩ := b3.eight
      obtain ⟨g0, g1, g2, g3, g4, g5, g6, g7⟩ := b3.thaw
      simp only [zeroNv] at e0 e1 e2 e3 e4 e5 e6 e7
      have hlt9 : w.heap.size < w3.heap.size := b3.lt
      go_wp2_with fail
      have bfin := putNv_blk b3 (listNv 3 ao3 acc.length c3)
      simp only [putNv, listNv] at fin bfin
      refine node_ret (i := 2) (b := w.heap.size) (q := listNv 3 ao3 acc.length c3) Tryz.results52 ?_ ?_ ?_ ?_
      · rfl
      · rfl
      · exact bfin
      · rw [HE.out, HC.out]; exact ⟨_, rfl, fin⟩
    · have hbb : (seeOf g st1 != -1) = true := by simp [hend]
      have hlt := lt_of_see hend
      clear hend
      cases hsq : inSet lBarRound (seeOf g st1)
      · go_wp2_with fail
        refine (seeL hr).mono ?_
        rintro e w3 ⟨rfl, h3, hk3⟩
        go_wp2_with fail
        refine (seesL h3 _ lBarRound (by rfl) (by decide)).mono ?_
        rintro e w4 ⟨rfl, h4, hk4⟩
        rw [hsq]
        go_wp2_with fail
        refine (atom_rd hA h4 (by omega)).mono ?_
        rintro e w5 ⟨q5, rfl, h5, hp5, hk5⟩
        go_wp2_with fail
        refine (repeated_rd h5 hp5 (Nat.le_refl _) hk5.size (fun i hi => h4.own_lt hi)).mono ?_
        rintro e w6 ⟨q, rfl, h6, hp6, hk6⟩
        have kk4 := (hk3.trans hk4)
        have ps6 := hPs.kept ((kk4.trans hk5).trans hk6) (fun i hi => by have := hR.own_lt hi; omega)
        have hfew : acc.length ≤ 300 := by omega
        simp only [Nv.val, Nv.cells]
        go_wp2_with (at_builtin; refine wpList_append_own_at _ rfl _ _ 51 rfl (w.heap.size + 1) 56 i0 _ 8 96 Tryz.underlying51 hi0 hz0 hz1 hz2 rfl (by decide) _ _ _ rfl (ps6.own.alloc (.cells q.cells 56)) ⟨w6.heap.size, 0, none⟩ 1 1 q.cells.toList rfl rfl ?c1 ?c2 ?c3 ?c4 ?c5 ?_)
        case c1 => exact nv_news q
        case c2 => exact q.one
        case c3 => unfold maxLen; omega
        case c4 => omega
        case c5 => have := kk4.size; have := hk5.size; have := hk6.size; simp; omega
        intro v' w7 hown' hgrow hnil hloc
        have s34 := kk4.size
        have s5 := hk5.size
        have s6 := hk6.size
        have ps4 := hPs.kept kk4 (fun i hi => by have := hR.own_lt hi; omega)
        have ka6 : Kept Nil w6 (w6.alloc (.cells q.cells 56)) := (Kept.refl _ _).alloc _
        have psn := PsAt.snoc (q := q) ps6 hp6 (by omega) (fun b hb => (own32_block ps4.own hb).2) (Nat.le_refl _) ka6 hown' hgrow (by rw [size_alloc1]; simpa using hloc) (by omega)
        have k67 : Kept (fun i => u3.ownBlock = some i) w6 w7 := (ka6.mono (fun _ hx => hx.elim)).grown hgrow (fun j hj => Or.inl hj)
        have hge67 : ∀ i, u3.ownBlock = some i → w.heap.size + 1 ≤ i := fun i hi => (own32_block ps4.own hi).1
        have h7 := h6.new hR k67 (fun i hi => by have := hge67 i hi; omega)
        have kw7 := (((hk.trans kk4).trans hk5).trans hk6).trans' k67 (fun i hi he => by have := hge67 i he; omega)
        have hb7 := (hb.kept ((kk4.trans hk5).trans hk6) (hnown _ (Nat.le_refl _))).kept k67 (fun he => by have := hge67 _ he; omega)
        have s7 := k67.size
        clear hown' hgrow hloc hnil ps6 ps4 hPs hk5 hk6 hk3 hk4 ka6 k67 hp5 hp6 hb
        have n1 := pAtom_next g (pAlt g k) (pAlt_fwd g k) st1 (by omega)
        have n2 := pRepeated_next g (pAtom g (pAlt g k) st1).2 _ n1.2.1
        have n3 := n1.2.2 hlt
        go_wp2_with fail
        go_roundg (g.rs.length - (pRepeated g (pAtom g (pAlt g k) st1).2 (pAtom g (pAlt g k) st1).1).1.next)
        case measure => omega
        case rel =>
          have hc' : ¬ (seeOf g st1 = -1 ∨ inSet lBarRound (seeOf g st1) = true) := by simp [hsq]; simpa using hbb
          obtain ⟨m', rfl⟩ : ∃ m', m = m' + 1 := ⟨m - 1, by omega⟩
          refine ⟨_, m', _, _, _, h7, psn, ?_, ?_, rfl, by omega, by omega, by simp; omega, kw7, by omega, hb7⟩
          · rw [← HP.out]
            show pSeqs g (pAlt g k) m' _ _ = pSeqs g (pAlt g k) (m' + 1) st1 acc
            rw [show pSeqs g (pAlt g k) (m' + 1) st1 acc = if seeOf g st1 = -1 ∨ inSet lBarRound (seeOf g st1) = true then (st1, acc) else pSeqs g (pAlt g k) m' (pRepeated g (pAtom g (pAlt g k) st1).2 (pAtom g (pAlt g k) st1).1).1 (acc ++ [(pRepeated g (pAtom g (pAlt g k) st1).2 (pAtom g (pAlt g k) st1).1).2]) from rfl, if_neg hc']
          · rw [← HPC.out]
            show cSeqs g (pAlt g k) (cAlt g k) fo m' _ _ = cSeqs g (pAlt g k) (cAlt g k) fo (m' + 1) st1 cs
            rw [show cSeqs g (pAlt g k) (cAlt g k) fo (m' + 1) st1 cs = if seeOf g st1 = -1 ∨ inSet lBarRound (seeOf g st1) = true then cs else cSeqs g (pAlt g k) (cAlt g k) fo m' (pRepeated g (pAtom g (pAlt g k) st1).2 (pAtom g (pAlt g k) st1).1).1 (cs ++ [cRepeated g (cAtom g (cAlt g k) fo st1) (pAtom g (pAlt g k) st1).1]) from rfl, if_neg hc']
      · go_wp2_with fail
        refine (seeL hr).mono ?_
        rintro e w2 ⟨rfl, h2, hk2⟩
        go_wp2_with fail
        refine (seesL h2 _ lBarRound (by rfl) (by decide)).mono ?_
        rintro e w3 ⟨rfl, h3, hk3'⟩
        have hk3 := hk2.trans hk3'
        rw [hsq]
        have HE : Hid (pSeqs g (pAlt g k) (g.rs.length + 1) st [] = (st1, acc)) := by show _ = _; rw [← HP.out, pSeqs_end g _ m st1 acc (Or.inr hsq)]
        have HC : Hid (cSeqs g (pAlt g k) (cAlt g k) fo (g.rs.length + 1) st [] = cs) := by show _ = _; rw [← HPC.out, cSeqs_end g _ _ fo m st1 cs (Or.inr hsq)]
        clear HP HPC
        have ps3 := hPs.kept hk3 (fun i hi => by have := hR.own_lt hi; omega)
        have b3 := hb.kept hk3 (hnown _ (Nat.le_refl _))
        have kw3 := hk.trans hk3
        have s3 := hk3.size
        obtain ⟨ao3, c3, hv3, fin⟩ := list_close (k := 3) (tk := 2) hR h3 ps3 (Or.inl ⟨rfl, rfl⟩) kw3
        rw [hv3]
        clear hv3 hPs hb hk hr
        obtain ⟨e0, e1, e2, e3, e4, e5, e6, e7⟩ := b3.eight
        obtain ⟨g0, g1, g2, g3, g4, g5, g6, g7⟩ := b3.thaw
        simp only [zeroNv] at e0 e1 e2 e3 e4 e5 e6 e7
        have hlt9 : w.heap.size < w3.heap.size := b3.lt
        go_wp2_with fail
        have bfin := putNv_blk b3 (listNv 3 ao3 acc.length c3)
        simp only [putNv, listNv] at fin bfin
        refine node_ret (i := 2) (b := w.heap.size) (q := listNv 3 ao3 acc.length c3) Tryz.results52 ?_ ?_ ?_ ?_
        · rfl
        · rfl
        · exact bfin
        · rw [HE.out, HC.out]; exact ⟨_, rfl, fin⟩
end Go.Proofs.YtnbfddjaonlmaaaGreatDoor

namespace Go.Proofs.YtnbfddjaonlmaaaGreatDoor
open Go.RowKit Go.Maps
set_option linter.unusedVariables false
set_option maxRecDepth 100000

theorem PsAt.one {w : World} {base lo hi : Nat} {q : Nv} {T : PT} {C : CT} (hp : PTAt w lo hi q T C) (hlo : base ≤ lo) (hhi : hi ≤ w.heap.size) (hb : base ≤ w.heap.size) :
    PsAt (w.alloc (.cells q.cells 56)) base (.slice (some ⟨w.heap.size, 0, none⟩) 1 1) [q] [T] [C] := by
  refine ⟨⟨rfl, Or.inr ⟨w.heap.size, 1, q.cells, rfl, hb, Blk.new w _ _, Nat.le_refl _, by unfold maxLen; omega, rfl, rfl⟩⟩, rfl, rfl, by simp, fun i h1 h2 h3 => ?_⟩
  have e : i = 0 := by simp at h1; omega
  subst e
  refine ⟨lo, hi, hlo, by simp; omega, hp.kept ((Kept.refl Nil w).alloc _) (fun _ _ _ hx => hx) hhi, fun b hb' => ?_⟩
  simp [Value.ownBlock] at hb'
  omega

theorem pAlts_end (g : RG) (alt : RS → RS × PT) (m : Nat) (st : RS) (acc : List PT) (h : inSet lBar (seeOf g st) = false) : pAlts g alt m st acc = (st, acc) := by
  cases m with
  | zero => rfl
  | succ m => unfold pAlts; rw [if_neg (by simp [h])]

set_option maxHeartbeats 2000000 in
theorem alt_step {g : RG} {k : Nat} (hA : AltOk g k) : AltOk g (k + 1) := by
  intro w fo st hR hrem
  have hlen := hR.len
  have hnl := hR.next
  have hnown : ∀ i, w.heap.size ≤ i → ¬ g.own i := fun i hi hx => by have := hR.own_lt hx; omega
  obtain ⟨i0, hi0, hz0, hz1, hz2⟩ := info_parts Tryz.infoNode
  have hfwd := pSeq_next g (pAlt g k) (pAlt_fwd g k) st hnl
  have ha := hR.nil ((Kept.refl Nil w).alloc (.cells zeroNv.cells 56))
  have hb0 := Blk.new w zeroNv.cells 56
  have hka : Kept g.own w (w.alloc (.cells zeroNv.cells 56)) := (Kept.refl _ w).alloc _
  show Calls Tryz.prog 37 #[.pointer (some ⟨g.b, 0, none⟩)] w fun e w' => ∃ q, e = .returned (Nv.val q) ∧ RdAt w' g fo (pAlts g (pAlt g k) (g.rs.length + 1) (pSeq g (pAlt g k) st).1 [(pSeq g (pAlt g k) st).2]).1 ∧ PTAt w' w.heap.size w'.heap.size q (.node 3 (pAlts g (pAlt g k) (g.rs.length + 1) (pSeq g (pAlt g k) st).1 [(pSeq g (pAlt g k) st).2]).2 0 0) (.node 4 [] false false 0 0 0 0 false (cAlts g (pAlt g k) (cAlt g k) fo (g.rs.length + 1) (pSeq g (pAlt g k) st).1 [cSeq g (pAlt g k) (cAlt g k) fo st])) ∧ Kept g.own w w'
  go_enter Tryz.func37, Tryz.ntmps37
  go_wp2_with fail
  refine (seq_rd hA ha (by omega)).mono ?_
  rintro e w1 ⟨q1, rfl, h1, hp1, hk1⟩
  simp only [Nv.val, Nv.cells]
  go_wp2_with fail
  have s1 := hk1.size
  rw [size_alloc1] at s1 hp1
  have hps := PsAt.one (base := w.heap.size + 1) (q := q1) hp1 (Nat.le_refl _) (Nat.le_refl _) s1
  have hk0 := (hka.trans hk1).alloc (.cells q1.cells 56)
  have hb1 := (hb0.kept hk1 (hnown _ (Nat.le_refl _))).alloc (.cells q1.cells 56)
  have h1' := h1.nil ((Kept.refl Nil w1).alloc (.cells q1.cells 56))
  generalize hS : pSeq g (pAlt g k) st = x0 at *
  generalize hSC : cSeq g (pAlt g k) (cAlt g k) fo st = y0 at *
  go_loopg [3] (g.rs.length - x0.1.next) (fun kk v wr => ∃ st1 m acc cs qs, RdAt wr g fo st1 ∧ PsAt wr (w.heap.size + 1) v qs acc cs ∧ Hid (pAlts g (pAlt g k) m st1 acc = pAlts g (pAlt g k) (g.rs.length + 1) x0.1 [x0.2]) ∧ Hid (cAlts g (pAlt g k) (cAlt g k) fo m st1 cs = cAlts g (pAlt g k) (cAlt g k) fo (g.rs.length + 1) x0.1 [y0]) ∧ kk = g.rs.length - st1.next ∧ kk < m ∧ st.next ≤ st1.next ∧ acc.length ≤ st1.next + 1 ∧ acc ≠ [] ∧ Kept g.own w wr ∧ w.heap.size + 1 ≤ wr.heap.size ∧ Blk wr w.heap.size zeroNv.cells 56)
  case atStart => exact ⟨x0.1, g.rs.length + 1, _, _, _, h1', hps, rfl, rfl, rfl, by omega, by omega, by simp, by simp, hk0, by simp; omega, hb1⟩
  case round =>
    obtain ⟨st1, m, acc, cs, qs, hr, hPs, HP, HPC, rfl, hm, hge, hacc, hne, hk, hsz, hb⟩ := hrel
    have HS : Hid (pSeq g (pAlt g k) st = x0) := hS
    have HSC : Hid (cSeq g (pAlt g k) (cAlt g k) fo st = y0) := hSC
    clear ha hka hb0 hps hk0 hb1 h1' h1 hk1 hp1 hS hSC
    have hle := hr.next
    cases hsq : inSet lBar (seeOf g st1)
    · go_wp2_with fail
      refine (takeN hr _ lBar (by rfl) (by decide) hsq).mono ?_
      rintro e w3 ⟨rfl, h3, hk3⟩
      have HE : Hid (pAlts g (pAlt g k) (g.rs.length + 1) x0.1 [x0.2] = (st1, acc)) := by show _ = _; rw [← HP.out, pAlts_end g _ m st1 acc hsq]
      have HCE : Hid (cAlts g (pAlt g k) (cAlt g k) fo (g.rs.length + 1) x0.1 [y0] = cs) := by show _ = _; rw [← HPC.out, cAlts_end g _ _ fo m st1 cs hsq]
      clear HP HPC
      have ps3 := hPs.kept hk3 (fun i hi => by have := hR.own_lt hi; omega)
      have b3 := hb.kept hk3 (hnown _ (Nat.le_refl _))
      have kw3 := hk.trans hk3
      have s3 := hk3.size
      obtain ⟨ao3, c3, hv3, fin⟩ := list_close (k := 4) (tk := 3) hR h3 ps3 (Or.inr ⟨rfl, rfl, hne⟩) kw3
      rw [hv3]
      clear hv3 hPs hb hk hr
      obtain ⟨e0, e1, e2, e3, e4, e5, e6, e7⟩ := b3.eight
      obtain ⟨g0, g1, g2, g3, g4, g5, g6, g7⟩ := b3.thaw
      simp only [zeroNv] at e0 e1 e2 e3 e4 e5 e6 e7
      have hlt9 : w.heap.size < w3.heap.size := b3.lt
      go_wp2_with fail
      have bfin := putNv_blk b3 (listNv 4 ao3 acc.length c3)
      simp only [putNv, listNv] at fin bfin
      refine node_ret (i := 2) (b := w.heap.size) (q := listNv 4 ao3 acc.length c3) Tryz.results37 ?_ ?_ ?_ ?_
      · rfl
      · rfl
      · exact bfin
      · rw [HS.out, HE.out, HSC.out, HCE.out]; exact ⟨_, rfl, fin⟩
    · have hlt := seeOf_lt hsq
      have n2 := pSeq_next g (pAlt g k) (pAlt_fwd g k) { st1 with next := st1.next + 1 } (by simp; omega)
      go_wp2_with fail
      refine (takeY hr _ lBar (by rfl) (by decide) hsq).mono ?_
      rintro e w4 ⟨rfl, h4, hk4⟩
      go_wp2_with fail
      refine (seq_rd hA h4 (by simp; omega)).mono ?_
      rintro e w6 ⟨q, rfl, h6, hp6, hk6⟩
      have ps6 := hPs.kept (hk4.trans hk6) (fun i hi => by have := hR.own_lt hi; omega)
      have hfew : acc.length ≤ 301 := by omega
      simp only [Nv.val, Nv.cells]
      go_wp2_with (at_builtin; refine wpList_append_own_at _ rfl _ _ 51 rfl (w.heap.size + 1) 56 i0 _ 8 96 Tryz.underlying51 hi0 hz0 hz1 hz2 rfl (by decide) _ _ _ rfl (ps6.own.alloc (.cells q.cells 56)) ⟨w6.heap.size, 0, none⟩ 1 1 q.cells.toList rfl rfl ?c1 ?c2 ?c3 ?c4 ?c5 ?_)
      case c1 => exact nv_news q
      case c2 => exact q.one
      case c3 => unfold maxLen; omega
      case c4 => omega
      case c5 => have := hk4.size; have := hk6.size; simp; omega
      intro v' w7 hown' hgrow hnil hloc
      have s34 := hk4.size
      have s6 := hk6.size
      have ps4 := hPs.kept hk4 (fun i hi => by have := hR.own_lt hi; omega)
      have ka6 : Kept Nil w6 (w6.alloc (.cells q.cells 56)) := (Kept.refl _ _).alloc _
      have psn := PsAt.snoc (q := q) ps6 hp6 (by omega) (fun b hb => (own32_block ps4.own hb).2) (Nat.le_refl _) ka6 hown' hgrow (by rw [size_alloc1]; simpa using hloc) (by omega)
      have k67 : Kept (fun i => u3.ownBlock = some i) w6 w7 := (ka6.mono (fun _ hx => hx.elim)).grown hgrow (fun j hj => Or.inl hj)
      have hge67 : ∀ i, u3.ownBlock = some i → w.heap.size + 1 ≤ i := fun i hi => (own32_block ps4.own hi).1
      have h7 := h6.new hR k67 (fun i hi => by have := hge67 i hi; omega)
      have kw7 := ((hk.trans hk4).trans hk6).trans' k67 (fun i hi he => by have := hge67 i he; omega)
      have hb7 := (hb.kept (hk4.trans hk6) (hnown _ (Nat.le_refl _))).kept k67 (fun he => by have := hge67 _ he; omega)
      have s7 := k67.size
      clear hown' hgrow hloc hnil ps6 ps4 hPs hk6 hk4 ka6 k67 hp6 hb
      go_wp2_with fail
      go_roundg (g.rs.length - (pSeq g (pAlt g k) { st1 with next := st1.next + 1 }).1.next)
      case measure => omega
      case rel =>
        obtain ⟨m', rfl⟩ : ∃ m', m = m' + 1 := ⟨m - 1, by omega⟩
        refine ⟨_, m', _, _, _, h7, psn, ?_, ?_, rfl, by omega, by omega, by simp; omega, by simp, kw7, by omega, hb7⟩
        · rw [← HP.out]
          show pAlts g (pAlt g k) m' _ _ = pAlts g (pAlt g k) (m' + 1) st1 acc
          rw [show pAlts g (pAlt g k) (m' + 1) st1 acc = if inSet lBar (seeOf g st1) then pAlts g (pAlt g k) m' (pSeq g (pAlt g k) { st1 with next := st1.next + 1 }).1 (acc ++ [(pSeq g (pAlt g k) { st1 with next := st1.next + 1 }).2]) else (st1, acc) from rfl, if_pos hsq]
        · rw [← HPC.out]
          show cAlts g (pAlt g k) (cAlt g k) fo m' _ _ = cAlts g (pAlt g k) (cAlt g k) fo (m' + 1) st1 cs
          rw [show cAlts g (pAlt g k) (cAlt g k) fo (m' + 1) st1 cs = if inSet lBar (seeOf g st1) then cAlts g (pAlt g k) (cAlt g k) fo m' (pSeq g (pAlt g k) { st1 with next := st1.next + 1 }).1 (cs ++ [cSeq g (pAlt g k) (cAlt g k) fo { st1 with next := st1.next + 1 }]) else cs from rfl, if_pos hsq]

theorem alt_ok (g : RG) : ∀ k, AltOk g k
  | 0 => fun w fo st hR h => absurd h (by omega)
  | k + 1 => alt_step (alt_ok g k)

/-- 'whole' -/
theorem whole_rd {w : World} {g : RG} {st : RS} (hR : RdAt w g false st) :
    Calls Tryz.prog 28 #[.pointer (some ⟨g.b, 0, none⟩)] w fun e w' => ∃ q, e = .returned (Nv.val q) ∧ RdAt w' g false (pWhole g st).1 ∧ PTAt w' w.heap.size w'.heap.size q (pWhole g st).2 (cWhole g st) ∧ Kept g.own w w' := by
  have ha := hR.nil ((Kept.refl Nil w).alloc (.cells zeroNv.cells 56))
  have hb0 := Blk.new w zeroNv.cells 56
  have hka : Kept g.own w (w.alloc (.cells zeroNv.cells 56)) := (Kept.refl _ w).alloc _
  have hnown : ∀ i, w.heap.size ≤ i → ¬ g.own i := fun i hi hx => by have := hR.own_lt hx; omega
  unfold pWhole cWhole
  by_cases hend : seeOf g (pAlt g (g.rs.length + 1) st).1 = -1
  · rw [if_pos hend]
    have hbb : (seeOf g (pAlt g (g.rs.length + 1) st).1 != -1) = false := by simp [hend]
    clear hend
    go_enter Tryz.func28, Tryz.ntmps28
    go_wp2_with fail
    refine (alt_ok g (g.rs.length + 1) _ false st ha (by omega)).mono ?_
    rintro e w1 ⟨q, rfl, h1, hp1, hk1⟩
    simp only [Nv.val, Nv.cells]
    go_wp2_with fail
    have s1 := hk1.size
    rw [size_alloc1] at s1 hp1
    have h1' := h1.nil ((Kept.refl Nil w1).alloc (.cells q.cells 56))
    have ka1 : Kept g.own w1 (w1.alloc (.cells q.cells 56)) := (Kept.refl _ _).alloc _
    have hb1 := Blk.new w1 q.cells 56
    refine (seeL h1').mono ?_
    rintro e w2 ⟨rfl, h2, hk2⟩
    have hz := h2
    have kz' := hk2
    obtain ⟨wz, hwz⟩ : ∃ wz, wz = w2 := ⟨_, rfl⟩
    subst hwz
    have kz : Kept g.own w1 wz := ka1.trans kz'
    have kall := hk1.trans kz
    have b0 := hb0.kept kall (hnown _ (Nat.le_refl _))
    have b1 := hb1.kept kz' (hnown _ (by omega))
    have sz := kz.size
    obtain ⟨e0, e1, e2, e3, e4, e5, e6, e7⟩ := b0.eight
    obtain ⟨g0, g1, g2, g3, g4, g5, g6, g7⟩ := b0.thaw
    obtain ⟨d0, d1, d2, d3, d4, d5, d6, d7⟩ := b1.eight
    simp only [zeroNv] at e0 e1 e2 e3 e4 e5 e6 e7
    have hpz := hp1.kept kz (fun i h1 _ hx => hnown i (by omega) hx) (Nat.le_refl _)
    go_wp2_with fail
    have fin := node_close hR hz hpz (by omega) (by omega) (hka.trans kall)
    have bfin := putNv_blk b0 q
    simp only [putNv] at fin bfin
    refine node_ret (i := 2) (b := w.heap.size) (q := q) Tryz.results28 ?_ ?_ ?_ ?_
    · rfl
    · rfl
    · exact bfin
    · exact ⟨_, rfl, fin⟩
  · rw [if_neg hend]
    have hbb : (seeOf g (pAlt g (g.rs.length + 1) st).1 != -1) = true := by simp [hend]
    clear hend
    go_enter Tryz.func28, Tryz.ntmps28
    go_wp2_with fail
    refine (alt_ok g (g.rs.length + 1) _ false st ha (by omega)).mono ?_
    rintro e w1 ⟨q, rfl, h1, hp1, hk1⟩
    simp only [Nv.val, Nv.cells]
    go_wp2_with fail
    have s1 := hk1.size
    rw [size_alloc1] at s1 hp1
    have h1' := h1.nil ((Kept.refl Nil w1).alloc (.cells q.cells 56))
    have ka1 : Kept g.own w1 (w1.alloc (.cells q.cells 56)) := (Kept.refl _ _).alloc _
    have hb1 := Blk.new w1 q.cells 56
    refine (seeL h1').mono ?_
    rintro e w2 ⟨rfl, h2, hk2⟩
    go_wp2_with fail
    refine (refuse_any h2).mono ?_
    rintro e wz ⟨rfl, hz, hkz⟩
    have kz' := hk2.trans hkz
    have kz : Kept g.own w1 wz := ka1.trans kz'
    have kall := hk1.trans kz
    have b0 := hb0.kept kall (hnown _ (Nat.le_refl _))
    have b1 := hb1.kept kz' (hnown _ (by omega))
    have sz := kz.size
    obtain ⟨e0, e1, e2, e3, e4, e5, e6, e7⟩ := b0.eight
    obtain ⟨g0, g1, g2, g3, g4, g5, g6, g7⟩ := b0.thaw
    obtain ⟨d0, d1, d2, d3, d4, d5, d6, d7⟩ := b1.eight
    simp only [zeroNv] at e0 e1 e2 e3 e4 e5 e6 e7
    have hpz := hp1.kept kz (fun i h1 _ hx => hnown i (by omega) hx) (Nat.le_refl _)
    go_wp2_with fail
    have fin := node_close hR hz hpz (by omega) (by omega) (hka.trans kall)
    have bfin := putNv_blk b0 q
    simp only [putNv] at fin bfin
    refine node_ret (i := 2) (b := w.heap.size) (q := q) Tryz.results28 ?_ ?_ ?_ ?_
    · rfl
    · rfl
    · exact bfin
    · exact ⟨_, rfl, fin⟩
end Go.Proofs.YtnbfddjaonlmaaaGreatDoor
