/- The reader of the program: newGroup, bracket. -/
import Derived.Test.YtnbfddjaonlmaaaGreatDoorP08
namespace Go.Proofs.YtnbfddjaonlmaaaGreatDoor
open Go.RowKit Go.Maps
set_option linter.unusedVariables false
set_option maxRecDepth 100000

/-- 'alt' as its mirror says, at a reader with fewer than k runes to come -/
def AltOk (g : RG) (k : Nat) : Prop := ∀ (w : World) (fo : Bool) (st : RS), RdAt w g fo st → g.rs.length - st.next < k →
  Calls Tryz.prog 37 #[.pointer (some ⟨g.b, 0, none⟩)] w fun e w' => ∃ q, e = .returned (Nv.val q) ∧ RdAt w' g fo (pAlt g k st).1 ∧ PTAt w' w.heap.size w'.heap.size q (pAlt g k st).2 (cAlt g k fo st) ∧ Kept g.own w w'

theorem pHead_next (g : RG) (st : RS) (h : st.next ≤ g.rs.length) : st.next ≤ (pHead g st).next ∧ (pHead g st).next ≤ g.rs.length := by
  unfold pHead
  cases hq : inSet lQuery (seeOf g st)
  · simp; exact h
  · have h1 := seeOf_lt hq
    simp only [Bool.true_eq_false, if_false]
    cases hl : inSet lLess (seeOf g { st with next := st.next + 1 })
    · have h2 := takeOf_next g lI { st with next := st.next + 1 } (by simp; omega)
      have h3 := needSt_next g lColon _ h2.2
      simp at *; omega
    · have h2 := seeOf_lt hl
      simp only at h2
      have h3 := pName_next g { st with next := st.next + 2, groups := st.groups + 1 } (by simp; omega)
      simp at *; omega

theorem newGroup_rd {w : World} {g : RG} {fo : Bool} {st : RS} (h : RdAt w g fo st) (hg : st.groups < st.next) :
    Calls Tryz.prog 100 #[.pointer (some ⟨g.b, 0, none⟩)] w fun e w' => e = .returned (.int .i64 ((st.groups : Int) + 1)) ∧ RdAt w' g fo { st with groups := st.groups + 1 } ∧ Kept g.own w w' := by
  have c5 : w.cell? ⟨g.b, 5, none⟩ = some (.int .i64 st.groups) := h.blk.cell 5
  have f5 : w.frozen? ⟨g.b, 5, none⟩ = false := h.blk.frozen 5
  have hl := h.len
  have hn := h.next
  go_enter Tryz.func100, Tryz.ntmps100
  go_wp2
  go_ret
  have := h.setGroups (st.groups + 1) (by omega) (by omega)
  exact ⟨rfl, by simpa using this, by simpa using own_setCell g 5 (.int .i64 ((st.groups : Int) + 1))⟩

def twoNv : Nv := ⟨2, none, 0, 0, none, 0, 0, 0, 0, 0, 0, false⟩
def twoG (gr : Int) : Nv := ⟨2, none, 0, 0, none, 0, 0, 0, gr, 0, 0, false⟩
def brkW (w : World) : World := (w.alloc (.cells zeroNv.cells 56)).alloc (.cells twoNv.cells 56)
theorem brkW_kept (w : World) (S : Nat → Prop) : Kept S w (brkW w) := ((Kept.refl S w).alloc _).alloc _
theorem brkW_size (w : World) : (brkW w).heap.size = w.heap.size + 2 := by simp [brkW]
theorem brkW_blk0 (w : World) : Blk (brkW w) w.heap.size zeroNv.cells 56 := (Blk.new w _ _).alloc _
theorem brkW_blk1 (w : World) : Blk (brkW w) (w.heap.size + 1) twoNv.cells 56 := by
  have := Blk.new (w.alloc (.cells zeroNv.cells 56)) twoNv.cells 56
  rw [size_alloc1] at this
  exact this
theorem twoG_set {w : World} {b : Nat} {t : TypeId} (h : Blk w b twoNv.cells t) (gr : Int) : Blk (w.setCell ⟨b, 4, none⟩ (.int .i64 gr)) b (twoG gr).cells t := by
  have := h.setCell 4 (.int .i64 gr)
  rw [show twoNv.cells.setIfInBounds 4 (.int .i64 gr) = (twoG gr).cells by simp [Nv.cells, twoNv, twoG]] at this
  exact this
theorem oneNv_set {w : World} {b b2 : Nat} {t : TypeId} {gr : Int} (h : Blk w b (twoG gr).cells t) : Blk (w.setCell ⟨b, 1, none⟩ (.slice (some ⟨b2, 0, none⟩) 1 1)) b (oneNv 2 b2 1 gr 0 0 false).cells t := by
  have := h.setCell 1 (.slice (some ⟨b2, 0, none⟩) 1 1)
  rw [show (twoG gr).cells.setIfInBounds 1 (.slice (some ⟨b2, 0, none⟩) 1 1) = (oneNv 2 b2 1 gr 0 0 false).cells by simp [Nv.cells, twoG, oneNv]] at this
  exact this

/-- what a bracket leaves -/
theorem bracket_close {w w1 w2 w4 : World} {g : RG} {fo fo2 : Bool} {st st' : RS} {q : Nv} {T : PT} {C : CT} {gr : Int} (h : RdAt w g fo st) (h4 : RdAt w4 g fo2 st') (hw1 : w.heap.size + 2 ≤ w1.heap.size)
    (hp : PTAt w2 w1.heap.size w2.heap.size q T C) (hw12 : w1.heap.size ≤ w2.heap.size) (k1 : Kept g.own w w4) (k2 : Kept (fun i => g.own i ∨ i = w.heap.size + 1) w2 w4) (bq : Blk w4 w2.heap.size q.cells 56) (hgr : 0 ≤ gr ∧ gr ≤ 300) :
    RdAt (putNv (w4.setCell ⟨g.b, 4, none⟩ (.bool fo)) w.heap.size (oneNv 2 w2.heap.size 1 gr 0 0 false)) g fo st' ∧
    PTAt (putNv (w4.setCell ⟨g.b, 4, none⟩ (.bool fo)) w.heap.size (oneNv 2 w2.heap.size 1 gr 0 0 false)) w.heap.size (putNv (w4.setCell ⟨g.b, 4, none⟩ (.bool fo)) w.heap.size (oneNv 2 w2.heap.size 1 gr 0 0 false)).heap.size (oneNv 2 w2.heap.size 1 gr 0 0 false) (.node 1 [T] 0 0) (.node 2 [] false false 0 gr 0 0 false [C]) ∧
    Kept g.own w (putNv (w4.setCell ⟨g.b, 4, none⟩ (.bool fo)) w.heap.size (oneNv 2 w2.heap.size 1 gr 0 0 false)) := by
  have h5 := h4.setFold fo
  have k5 : Kept g.own w4 (w4.setCell ⟨g.b, 4, none⟩ (.bool fo)) := own_setCell g 4 _
  generalize w4.setCell ⟨g.b, 4, none⟩ (.bool fo) = w5 at *
  generalize hQ : oneNv 2 w2.heap.size 1 gr 0 0 false = Q
  have sz := putNv_size w5 w.heap.size Q
  have kq := putNv_kept w5 w.heap.size Q
  have s5 := k5.size
  have blt := bq.lt
  refine ⟨h5.new h kq (fun i hi => by omega), ?_, (k1.trans k5).trans' kq (fun i hi he => by omega)⟩
  rw [← hQ] at *
  refine PTAt.wrap (S := fun i => g.own i ∨ i = w.heap.size ∨ i = w.heap.size + 1) (q := q) hp (Nat.le_refl _) (((k2.mono (fun i hi => by rcases hi with hi | hi; exact Or.inl hi; exact Or.inr (Or.inr hi))).trans (k5.mono (fun i hi => Or.inl hi))).trans (kq.mono (fun i hi => Or.inr (Or.inl hi)))) (fun i hi => ?_) ((bq.kept k5 (fun hx => by have := h.own_lt hx; omega)).kept kq (by omega)) (by omega) (by omega) ⟨by omega, by omega⟩ ⟨by omega, by omega, hgr⟩ (Or.inl ⟨rfl, rfl⟩)
  rcases hi with hi | hi | hi
  · have := h.own_lt hi; omega
  · omega
  · omega

set_option maxHeartbeats 2000000 in
theorem bracket_plain {w : World} {g : RG} {fo : Bool} {st : RS} {k : Nat} (hA : AltOk g k) (hR : RdAt w g fo st) (hg : st.groups < st.next) (hrem : g.rs.length - st.next < k) (hq : inSet lQuery (seeOf g st) = false) :
    Calls Tryz.prog 83 #[.pointer (some ⟨g.b, 0, none⟩)] w fun e w' => ∃ q, e = .returned (Nv.val q) ∧ RdAt w' g fo (pBracket g (pAlt g k) st).1 ∧ PTAt w' w.heap.size w'.heap.size q (pBracket g (pAlt g k) st).2 (cBracket g (cAlt g k) fo st) ∧ Kept g.own w w' := by
  have hph := pHead_next g st hR.next
  have hl := hR.len
  have hnl := hR.next
  have hnown : ∀ i, w.heap.size ≤ i → ¬ g.own i := fun i hi hx => by have := hR.own_lt hx; omega
  have ha := hR.nil (brkW_kept w Nil)
  have ka := brkW_kept w g.own
  have sb := brkW_size w
  have x0 := brkW_blk0 w
  have x1 := brkW_blk1 w
  have c4 : (brkW w).cell? ⟨g.b, 4, none⟩ = some (.bool fo) := ha.blk.cell 4
  simp only [brkW, Nv.cells, zeroNv, twoNv] at c4
  unfold pBracket cBracket
  rw [if_pos hq]
  rw [show pHead g st = { st with groups := st.groups + 1 } from by simp [pHead, hq]] at hph ⊢
  simp only at hph
  go_enter Tryz.func83, Tryz.ntmps83
  go_wp2_with fail
  refine (takeN ha _ lQuery (by rfl) (by decide) hq).mono ?_
  rintro e w1 ⟨rfl, h1, hk1⟩
  go_wp2_with fail
  refine (newGroup_rd h1 hg).mono ?_
  rintro e w1' ⟨rfl, h1', hk1'⟩
  have kk := (ka.trans hk1).trans hk1'
  have o1 := (x1.kept hk1 (hnown _ (by omega))).kept hk1' (hnown _ (by omega))
  have o0 := (x0.kept hk1 (hnown _ (by omega))).kept hk1' (hnown _ (by omega))
  have d4 : w1'.cell? ⟨w.heap.size + 1, 4, none⟩ = some (.int .i64 0) := o1.cell 4
  have f4 : w1'.frozen? ⟨w.heap.size + 1, 4, none⟩ = false := o1.frozen 4
  have n1 := twoG_set o1 ((st.groups : Int) + 1)
  have kset1 : Kept (fun i => i = w.heap.size + 1) w1' (w1'.setCell ⟨w.heap.size + 1, 4, none⟩ (.int .i64 ((st.groups : Int) + 1))) := (Kept.refl (fun i => i = w.heap.size + 1) w1').setCell (p := ⟨w.heap.size + 1, 4, none⟩) (Or.inl rfl) _
  have n0 := o0.kept kset1 (by omega)
  have hs1 := h1'.new hR kset1 (fun i hi => by omega)
  have kn := kk.trans' kset1 (fun i hi he => by omega)
  have sk := hk1.size
  have sk' := hk1'.size
  have ssz1 := kset1.size
  go_wp2_with fail
  have sz1 := kn.size
  refine (hA _ _ _ hs1 (by omega)).mono ?_
  rintro e w2 ⟨q, rfl, h2, hp, hk2⟩
  have y1 := n1.kept hk2 (hnown _ (by omega))
  have y0 := n0.kept hk2 (hnown _ (by omega))
  have d1 : w2.cell? ⟨w.heap.size + 1, 1, none⟩ = some (.slice none 0 0) := y1.cell 1
  have f1 : w2.frozen? ⟨w.heap.size + 1, 1, none⟩ = false := y1.frozen 1
  have s2 := hk2.size
  have hlt7 : w.heap.size + 1 < w2.heap.size := y1.lt
  have z1 := (oneNv_set (b2 := w2.heap.size) y1).alloc (.cells q.cells 56)
  have kset : Kept (fun i => i = w.heap.size + 1) w2 (w2.setCell ⟨w.heap.size + 1, 1, none⟩ (.slice (some ⟨w2.heap.size, 0, none⟩) 1 1)) := (Kept.refl (fun i => i = w.heap.size + 1) w2).setCell (p := ⟨w.heap.size + 1, 1, none⟩) (Or.inl rfl) _
  have kseta := kset.alloc (.cells q.cells 56)
  have z0 := y0.kept kseta (by omega)
  have ssz : (w2.setCell ⟨w.heap.size + 1, 1, none⟩ (.slice (some ⟨w2.heap.size, 0, none⟩) 1 1)).heap.size = w2.heap.size := by simp [World.setCell]
  have zq := Blk.new (w2.setCell ⟨w.heap.size + 1, 1, none⟩ (.slice (some ⟨w2.heap.size, 0, none⟩) 1 1)) q.cells 56
  rw [ssz] at zq
  have h3 := h2.new hR kseta (fun i hi => by omega)
  have kw2 := kn.trans hk2
  have kw3 := kw2.trans' kseta (fun i hi he => by omega)
  clear y0 y1
  simp only [Nv.val, Nv.cells]
  go_wp2_with fail
  refine (needL h3 _ lRound (by rfl) (by decide)).mono ?_
  rintro e w4 ⟨rfl, h4, hk4⟩
  have t1 := z1.kept hk4 (hnown _ (by omega))
  have t0 := z0.kept hk4 (hnown _ (by omega))
  have tq := zq.kept hk4 (hnown _ (by omega))
  have k24 : Kept (fun i => g.own i ∨ i = w.heap.size + 1) w2 w4 := (kseta.mono (fun i hi => Or.inr hi)).trans (hk4.mono (fun i hi => Or.inl hi))
  have kw4 := kw3.trans hk4
  have s4 := hk4.size
  have sa3 := kseta.size
  have c4' : w4.cell? ⟨g.b, 4, none⟩ = some (.bool fo) := h4.blk.cell 4
  have f4' : w4.frozen? ⟨g.b, 4, none⟩ = false := h4.blk.frozen 4
  have hgb : g.b < w.heap.size := hR.blt
  obtain ⟨p0, p1, p2, p3, p4, p5, p6, p7⟩ := t1.eight
  obtain ⟨e0, e1, e2, e3, e4, e5, e6, e7⟩ := t0.eight
  obtain ⟨g0, g1, g2, g3, g4, g5, g6, g7⟩ := t0.thaw
  simp only [zeroNv, oneNv] at e0 e1 e2 e3 e4 e5 e6 e7 p0 p1 p2 p3 p4 p5 p6 p7
  have hlt9 : w.heap.size < w4.heap.size := t0.lt
  have hlt8 : w.heap.size + 1 < w4.heap.size := t1.lt
  have hne8 : g.b ≠ w.heap.size := by omega
  have hne9 : g.b ≠ w.heap.size + 1 := by omega
  go_wp2_with fail
  have fin := bracket_close (fo := fo) hR h4 (by omega) hp s2 kw4 k24 tq (gr := ((st.groups : Int) + 1)) (by omega)
  have bfin := putNv_blk (t0.kept (own_setCell g 4 (.bool fo)) (hnown _ (Nat.le_refl _))) (oneNv 2 w2.heap.size 1 ((st.groups : Int) + 1) 0 0 false)
  simp only [putNv, oneNv] at fin bfin
  refine node_ret (i := 2) (b := w.heap.size) (q := oneNv 2 w2.heap.size 1 ((st.groups : Int) + 1) 0 0 false) Tryz.results83 ?_ ?_ ?_ ?_
  · rfl
  · rfl
  · exact bfin
  · exact ⟨_, rfl, fin⟩

set_option maxHeartbeats 2000000 in
theorem bracket_named {w : World} {g : RG} {fo : Bool} {st : RS} {k : Nat} (hA : AltOk g k) (hR : RdAt w g fo st) (hg : st.groups < st.next) (hrem : g.rs.length - st.next < k) (hq : inSet lQuery (seeOf g st) = true) (hs : inSet lLess (seeOf g { st with next := st.next + 1 }) = true) :
    Calls Tryz.prog 83 #[.pointer (some ⟨g.b, 0, none⟩)] w fun e w' => ∃ q, e = .returned (Nv.val q) ∧ RdAt w' g fo (pBracket g (pAlt g k) st).1 ∧ PTAt w' w.heap.size w'.heap.size q (pBracket g (pAlt g k) st).2 (cBracket g (cAlt g k) fo st) ∧ Kept g.own w w' := by
  have hph := pHead_next g st hR.next
  have hl := hR.len
  have hnl := hR.next
  have hnown : ∀ i, w.heap.size ≤ i → ¬ g.own i := fun i hi hx => by have := hR.own_lt hx; omega
  have ha := hR.nil (brkW_kept w Nil)
  have ka := brkW_kept w g.own
  have sb := brkW_size w
  have x0 := brkW_blk0 w
  have x1 := brkW_blk1 w
  have c4 : (brkW w).cell? ⟨g.b, 4, none⟩ = some (.bool fo) := ha.blk.cell 4
  simp only [brkW, Nv.cells, zeroNv, twoNv] at c4
  have hlq := seeOf_lt hq
  have hls := seeOf_lt hs
  simp only at hls
  have hnm := hR.names
  unfold pBracket cBracket
  rw [if_neg (by rw [hq]; simp), if_pos hs]
  rw [show pHead g st = pName g { st with next := st.next + 1 + 1, groups := st.groups + 1 } from by simp [pHead, hq, hs]] at hph ⊢
  go_enter Tryz.func83, Tryz.ntmps83
  go_wp2_with fail
  refine (takeY ha _ lQuery (by rfl) (by decide) hq).mono ?_
  rintro e wa ⟨rfl, h1a, hk1a⟩
  go_wp2_with fail
  refine (takeY h1a _ lLess (by rfl) (by decide) hs).mono ?_
  rintro e w1 ⟨rfl, h1, hk1b⟩
  have hk1 := hk1a.trans hk1b
  go_wp2_with fail
  refine (newGroup_rd h1 (by simp; omega)).mono ?_
  rintro e w1' ⟨rfl, h1', hk1'⟩
  have kk := (ka.trans hk1).trans hk1'
  have o1 := (x1.kept hk1 (hnown _ (by omega))).kept hk1' (hnown _ (by omega))
  have o0 := (x0.kept hk1 (hnown _ (by omega))).kept hk1' (hnown _ (by omega))
  have d4 : w1'.cell? ⟨w.heap.size + 1, 4, none⟩ = some (.int .i64 0) := o1.cell 4
  have f4 : w1'.frozen? ⟨w.heap.size + 1, 4, none⟩ = false := o1.frozen 4
  have n1a := twoG_set o1 ((st.groups : Int) + 1)
  have kset1 : Kept (fun i => i = w.heap.size + 1) w1' (w1'.setCell ⟨w.heap.size + 1, 4, none⟩ (.int .i64 ((st.groups : Int) + 1))) := (Kept.refl (fun i => i = w.heap.size + 1) w1').setCell (p := ⟨w.heap.size + 1, 4, none⟩) (Or.inl rfl) _
  have n0a := o0.kept kset1 (by omega)
  have hs1a := h1'.new hR kset1 (fun i hi => by omega)
  have kna := kk.trans' kset1 (fun i hi he => by omega)
  have sk := hk1.size
  have sk' := hk1'.size
  have ssz1 := kset1.size
  go_wp2_with fail
  refine (name_rd hs1a (by omega) (by simp; omega)).mono ?_
  rintro e wn ⟨rfl, hs1, hkn⟩
  have n1 := n1a.kept hkn (hnown _ (by omega))
  have n0 := n0a.kept hkn (hnown _ (by omega))
  have kn := kna.trans hkn
  have skn := hkn.size
  go_wp2_with fail
  have sz1 := kn.size
  refine (hA _ _ _ hs1 (by omega)).mono ?_
  rintro e w2 ⟨q, rfl, h2, hp, hk2⟩
  have y1 := n1.kept hk2 (hnown _ (by omega))
  have y0 := n0.kept hk2 (hnown _ (by omega))
  have d1 : w2.cell? ⟨w.heap.size + 1, 1, none⟩ = some (.slice none 0 0) := y1.cell 1
  have f1 : w2.frozen? ⟨w.heap.size + 1, 1, none⟩ = false := y1.frozen 1
  have s2 := hk2.size
  have hlt7 : w.heap.size + 1 < w2.heap.size := y1.lt
  have z1 := (oneNv_set (b2 := w2.heap.size) y1).alloc (.cells q.cells 56)
  have kset : Kept (fun i => i = w.heap.size + 1) w2 (w2.setCell ⟨w.heap.size + 1, 1, none⟩ (.slice (some ⟨w2.heap.size, 0, none⟩) 1 1)) := (Kept.refl (fun i => i = w.heap.size + 1) w2).setCell (p := ⟨w.heap.size + 1, 1, none⟩) (Or.inl rfl) _
  have kseta := kset.alloc (.cells q.cells 56)
  have z0 := y0.kept kseta (by omega)
  have ssz : (w2.setCell ⟨w.heap.size + 1, 1, none⟩ (.slice (some ⟨w2.heap.size, 0, none⟩) 1 1)).heap.size = w2.heap.size := by simp [World.setCell]
  have zq := Blk.new (w2.setCell ⟨w.heap.size + 1, 1, none⟩ (.slice (some ⟨w2.heap.size, 0, none⟩) 1 1)) q.cells 56
  rw [ssz] at zq
  have h3 := h2.new hR kseta (fun i hi => by omega)
  have kw2 := kn.trans hk2
  have kw3 := kw2.trans' kseta (fun i hi he => by omega)
  clear y0 y1
  simp only [Nv.val, Nv.cells]
  go_wp2_with fail
  refine (needL h3 _ lRound (by rfl) (by decide)).mono ?_
  rintro e w4 ⟨rfl, h4, hk4⟩
  have t1 := z1.kept hk4 (hnown _ (by omega))
  have t0 := z0.kept hk4 (hnown _ (by omega))
  have tq := zq.kept hk4 (hnown _ (by omega))
  have k24 : Kept (fun i => g.own i ∨ i = w.heap.size + 1) w2 w4 := (kseta.mono (fun i hi => Or.inr hi)).trans (hk4.mono (fun i hi => Or.inl hi))
  have kw4 := kw3.trans hk4
  have s4 := hk4.size
  have sa3 := kseta.size
  have c4' : w4.cell? ⟨g.b, 4, none⟩ = some (.bool fo) := h4.blk.cell 4
  have f4' : w4.frozen? ⟨g.b, 4, none⟩ = false := h4.blk.frozen 4
  have hgb : g.b < w.heap.size := hR.blt
  obtain ⟨p0, p1, p2, p3, p4, p5, p6, p7⟩ := t1.eight
  obtain ⟨e0, e1, e2, e3, e4, e5, e6, e7⟩ := t0.eight
  obtain ⟨g0, g1, g2, g3, g4, g5, g6, g7⟩ := t0.thaw
  simp only [zeroNv, oneNv] at e0 e1 e2 e3 e4 e5 e6 e7 p0 p1 p2 p3 p4 p5 p6 p7
  have hlt9 : w.heap.size < w4.heap.size := t0.lt
  have hlt8 : w.heap.size + 1 < w4.heap.size := t1.lt
  have hne8 : g.b ≠ w.heap.size := by omega
  have hne9 : g.b ≠ w.heap.size + 1 := by omega
  go_wp2_with fail
  have fin := bracket_close (fo := fo) hR h4 (by omega) hp s2 kw4 k24 tq (gr := ((st.groups : Int) + 1)) (by omega)
  have bfin := putNv_blk (t0.kept (own_setCell g 4 (.bool fo)) (hnown _ (Nat.le_refl _))) (oneNv 2 w2.heap.size 1 ((st.groups : Int) + 1) 0 0 false)
  simp only [putNv, oneNv] at fin bfin
  refine node_ret (i := 2) (b := w.heap.size) (q := oneNv 2 w2.heap.size 1 ((st.groups : Int) + 1) 0 0 false) Tryz.results83 ?_ ?_ ?_ ?_
  · rfl
  · rfl
  · exact bfin
  · exact ⟨_, rfl, fin⟩

set_option maxHeartbeats 2000000 in
theorem bracket_other {w : World} {g : RG} {fo : Bool} {st : RS} {k : Nat} (hA : AltOk g k) (hR : RdAt w g fo st) (hg : st.groups < st.next) (hrem : g.rs.length - st.next < k) (hq : inSet lQuery (seeOf g st) = true) (hs : inSet lLess (seeOf g { st with next := st.next + 1 }) = false) (hi : inSet lI (seeOf g { st with next := st.next + 1 }) = false) :
    Calls Tryz.prog 83 #[.pointer (some ⟨g.b, 0, none⟩)] w fun e w' => ∃ q, e = .returned (Nv.val q) ∧ RdAt w' g fo (pBracket g (pAlt g k) st).1 ∧ PTAt w' w.heap.size w'.heap.size q (pBracket g (pAlt g k) st).2 (cBracket g (cAlt g k) fo st) ∧ Kept g.own w w' := by
  have hph := pHead_next g st hR.next
  have hl := hR.len
  have hnl := hR.next
  have hnown : ∀ i, w.heap.size ≤ i → ¬ g.own i := fun i hi hx => by have := hR.own_lt hx; omega
  have ha := hR.nil (brkW_kept w Nil)
  have ka := brkW_kept w g.own
  have sb := brkW_size w
  have x0 := brkW_blk0 w
  have x1 := brkW_blk1 w
  have c4 : (brkW w).cell? ⟨g.b, 4, none⟩ = some (.bool fo) := ha.blk.cell 4
  simp only [brkW, Nv.cells, zeroNv, twoNv] at c4
  have hlq := seeOf_lt hq
  unfold pBracket cBracket
  rw [if_neg (by rw [hq]; simp), if_neg (by rw [hs]; simp), hi]
  rw [show pHead g st = needSt g lColon { st with next := st.next + 1 } from by simp [pHead, hq, hs, takeOf, hi]] at hph ⊢
  simp only [Bool.false_or]
  go_enter Tryz.func83, Tryz.ntmps83
  go_wp2_with fail
  refine (takeY ha _ lQuery (by rfl) (by decide) hq).mono ?_
  rintro e wa ⟨rfl, h1a, hk1a⟩
  go_wp2_with fail
  refine (takeN h1a _ lLess (by rfl) (by decide) hs).mono ?_
  rintro e wb ⟨rfl, h1b, hk1b⟩
  go_wp2_with fail
  refine (takeN h1b _ lI (by rfl) (by decide) hi).mono ?_
  rintro e w1 ⟨rfl, h1, hk1c⟩
  have hk1 := (hk1a.trans hk1b).trans hk1c
  have kk := ka.trans hk1
  have c4a : w1.cell? ⟨g.b, 4, none⟩ = some (.bool fo) := h1.blk.cell 4
  have f4a : w1.frozen? ⟨g.b, 4, none⟩ = false := h1.blk.frozen 4
  have o1 := x1.kept hk1 (hnown _ (by omega))
  have o0 := x0.kept hk1 (hnown _ (by omega))
  have hsf := h1.setFold fo
  have ksf : Kept g.own w1 (w1.setCell ⟨g.b, 4, none⟩ (.bool fo)) := own_setCell g 4 _
  have sk := hk1.size
  have ssf := ksf.size
  go_wp2_with fail
  refine (needL hsf _ lColon (by rfl) (by decide)).mono ?_
  rintro e wn ⟨rfl, hs1, hkn⟩
  have n1 : Blk wn (w.heap.size + 1) (twoG 0).cells 56 := (o1.kept ksf (hnown _ (by omega))).kept hkn (hnown _ (by omega))
  have n0 := (o0.kept ksf (hnown _ (by omega))).kept hkn (hnown _ (by omega))
  have kn := (kk.trans ksf).trans hkn
  have skn := hkn.size
  go_wp2_with fail
  have sz1 := kn.size
  refine (hA _ _ _ hs1 (by omega)).mono ?_
  rintro e w2 ⟨q, rfl, h2, hp, hk2⟩
  have y1 := n1.kept hk2 (hnown _ (by omega))
  have y0 := n0.kept hk2 (hnown _ (by omega))
  have d1 : w2.cell? ⟨w.heap.size + 1, 1, none⟩ = some (.slice none 0 0) := y1.cell 1
  have f1 : w2.frozen? ⟨w.heap.size + 1, 1, none⟩ = false := y1.frozen 1
  have s2 := hk2.size
  have hlt7 : w.heap.size + 1 < w2.heap.size := y1.lt
  have z1 := (oneNv_set (b2 := w2.heap.size) y1).alloc (.cells q.cells 56)
  have kset : Kept (fun i => i = w.heap.size + 1) w2 (w2.setCell ⟨w.heap.size + 1, 1, none⟩ (.slice (some ⟨w2.heap.size, 0, none⟩) 1 1)) := (Kept.refl (fun i => i = w.heap.size + 1) w2).setCell (p := ⟨w.heap.size + 1, 1, none⟩) (Or.inl rfl) _
  have kseta := kset.alloc (.cells q.cells 56)
  have z0 := y0.kept kseta (by omega)
  have ssz : (w2.setCell ⟨w.heap.size + 1, 1, none⟩ (.slice (some ⟨w2.heap.size, 0, none⟩) 1 1)).heap.size = w2.heap.size := by simp [World.setCell]
  have zq := Blk.new (w2.setCell ⟨w.heap.size + 1, 1, none⟩ (.slice (some ⟨w2.heap.size, 0, none⟩) 1 1)) q.cells 56
  rw [ssz] at zq
  have h3 := h2.new hR kseta (fun i hi => by omega)
  have kw2 := kn.trans hk2
  have kw3 := kw2.trans' kseta (fun i hi he => by omega)
  clear y0 y1
  simp only [Nv.val, Nv.cells]
  go_wp2_with fail
  refine (needL h3 _ lRound (by rfl) (by decide)).mono ?_
  rintro e w4 ⟨rfl, h4, hk4⟩
  have t1 := z1.kept hk4 (hnown _ (by omega))
  have t0 := z0.kept hk4 (hnown _ (by omega))
  have tq := zq.kept hk4 (hnown _ (by omega))
  have k24 : Kept (fun i => g.own i ∨ i = w.heap.size + 1) w2 w4 := (kseta.mono (fun i hi => Or.inr hi)).trans (hk4.mono (fun i hi => Or.inl hi))
  have kw4 := kw3.trans hk4
  have s4 := hk4.size
  have sa3 := kseta.size
  have c4' : w4.cell? ⟨g.b, 4, none⟩ = some (.bool fo) := h4.blk.cell 4
  have f4' : w4.frozen? ⟨g.b, 4, none⟩ = false := h4.blk.frozen 4
  have hgb : g.b < w.heap.size := hR.blt
  obtain ⟨p0, p1, p2, p3, p4, p5, p6, p7⟩ := t1.eight
  obtain ⟨e0, e1, e2, e3, e4, e5, e6, e7⟩ := t0.eight
  obtain ⟨g0, g1, g2, g3, g4, g5, g6, g7⟩ := t0.thaw
  simp only [zeroNv, oneNv] at e0 e1 e2 e3 e4 e5 e6 e7 p0 p1 p2 p3 p4 p5 p6 p7
  have hlt9 : w.heap.size < w4.heap.size := t0.lt
  have hlt8 : w.heap.size + 1 < w4.heap.size := t1.lt
  have hne8 : g.b ≠ w.heap.size := by omega
  have hne9 : g.b ≠ w.heap.size + 1 := by omega
  go_wp2_with fail
  have fin := bracket_close (fo := fo) hR h4 (by omega) hp s2 kw4 k24 tq (gr := 0) (by omega)
  have bfin := putNv_blk (t0.kept (own_setCell g 4 (.bool fo)) (hnown _ (Nat.le_refl _))) (oneNv 2 w2.heap.size 1 0 0 0 false)
  simp only [putNv, oneNv] at fin bfin
  refine node_ret (i := 2) (b := w.heap.size) (q := oneNv 2 w2.heap.size 1 0 0 0 false) Tryz.results83 ?_ ?_ ?_ ?_
  · rfl
  · rfl
  · exact bfin
  · exact ⟨_, rfl, fin⟩

set_option maxHeartbeats 2000000 in
theorem bracket_otherI {w : World} {g : RG} {fo : Bool} {st : RS} {k : Nat} (hA : AltOk g k) (hR : RdAt w g fo st) (hg : st.groups < st.next) (hrem : g.rs.length - st.next < k) (hq : inSet lQuery (seeOf g st) = true) (hs : inSet lLess (seeOf g { st with next := st.next + 1 }) = false) (hi : inSet lI (seeOf g { st with next := st.next + 1 }) = true) :
    Calls Tryz.prog 83 #[.pointer (some ⟨g.b, 0, none⟩)] w fun e w' => ∃ q, e = .returned (Nv.val q) ∧ RdAt w' g fo (pBracket g (pAlt g k) st).1 ∧ PTAt w' w.heap.size w'.heap.size q (pBracket g (pAlt g k) st).2 (cBracket g (cAlt g k) fo st) ∧ Kept g.own w w' := by
  have hph := pHead_next g st hR.next
  have hl := hR.len
  have hnl := hR.next
  have hnown : ∀ i, w.heap.size ≤ i → ¬ g.own i := fun i hi hx => by have := hR.own_lt hx; omega
  have ha := hR.nil (brkW_kept w Nil)
  have ka := brkW_kept w g.own
  have sb := brkW_size w
  have x0 := brkW_blk0 w
  have x1 := brkW_blk1 w
  have c4 : (brkW w).cell? ⟨g.b, 4, none⟩ = some (.bool fo) := ha.blk.cell 4
  simp only [brkW, Nv.cells, zeroNv, twoNv] at c4
  have hlq := seeOf_lt hq
  unfold pBracket cBracket
  rw [if_neg (by rw [hq]; simp), if_neg (by rw [hs]; simp), hi]
  rw [show pHead g st = needSt g lColon { st with next := st.next + 1 + 1 } from by simp [pHead, hq, hs, takeOf, hi]] at hph ⊢
  simp only [Bool.true_or]
  go_enter Tryz.func83, Tryz.ntmps83
  go_wp2_with fail
  refine (takeY ha _ lQuery (by rfl) (by decide) hq).mono ?_
  rintro e wa ⟨rfl, h1a, hk1a⟩
  go_wp2_with fail
  refine (takeN h1a _ lLess (by rfl) (by decide) hs).mono ?_
  rintro e wb ⟨rfl, h1b, hk1b⟩
  go_wp2_with fail
  refine (takeY h1b _ lI (by rfl) (by decide) hi).mono ?_
  rintro e w1 ⟨rfl, h1, hk1c⟩
  have hk1 := (hk1a.trans hk1b).trans hk1c
  have kk := ka.trans hk1
  have c4a : w1.cell? ⟨g.b, 4, none⟩ = some (.bool fo) := h1.blk.cell 4
  have f4a : w1.frozen? ⟨g.b, 4, none⟩ = false := h1.blk.frozen 4
  have o1 := x1.kept hk1 (hnown _ (by omega))
  have o0 := x0.kept hk1 (hnown _ (by omega))
  have hsf := h1.setFold true
  have ksf : Kept g.own w1 (w1.setCell ⟨g.b, 4, none⟩ (.bool true)) := own_setCell g 4 _
  have sk := hk1.size
  have ssf := ksf.size
  go_wp2_with fail
  refine (needL hsf _ lColon (by rfl) (by decide)).mono ?_
  rintro e wn ⟨rfl, hs1, hkn⟩
  have n1 : Blk wn (w.heap.size + 1) (twoG 0).cells 56 := (o1.kept ksf (hnown _ (by omega))).kept hkn (hnown _ (by omega))
  have n0 := (o0.kept ksf (hnown _ (by omega))).kept hkn (hnown _ (by omega))
  have kn := (kk.trans ksf).trans hkn
  have skn := hkn.size
  go_wp2_with fail
  have sz1 := kn.size
  refine (hA _ _ _ hs1 (by omega)).mono ?_
  rintro e w2 ⟨q, rfl, h2, hp, hk2⟩
  have y1 := n1.kept hk2 (hnown _ (by omega))
  have y0 := n0.kept hk2 (hnown _ (by omega))
  have d1 : w2.cell? ⟨w.heap.size + 1, 1, none⟩ = some (.slice none 0 0) := y1.cell 1
  have f1 : w2.frozen? ⟨w.heap.size + 1, 1, none⟩ = false := y1.frozen 1
  have s2 := hk2.size
  have hlt7 : w.heap.size + 1 < w2.heap.size := y1.lt
  have z1 := (oneNv_set (b2 := w2.heap.size) y1).alloc (.cells q.cells 56)
  have kset : Kept (fun i => i = w.heap.size + 1) w2 (w2.setCell ⟨w.heap.size + 1, 1, none⟩ (.slice (some ⟨w2.heap.size, 0, none⟩) 1 1)) := (Kept.refl (fun i => i = w.heap.size + 1) w2).setCell (p := ⟨w.heap.size + 1, 1, none⟩) (Or.inl rfl) _
  have kseta := kset.alloc (.cells q.cells 56)
  have z0 := y0.kept kseta (by omega)
  have ssz : (w2.setCell ⟨w.heap.size + 1, 1, none⟩ (.slice (some ⟨w2.heap.size, 0, none⟩) 1 1)).heap.size = w2.heap.size := by simp [World.setCell]
  have zq := Blk.new (w2.setCell ⟨w.heap.size + 1, 1, none⟩ (.slice (some ⟨w2.heap.size, 0, none⟩) 1 1)) q.cells 56
  rw [ssz] at zq
  have h3 := h2.new hR kseta (fun i hi => by omega)
  have kw2 := kn.trans hk2
  have kw3 := kw2.trans' kseta (fun i hi he => by omega)
  clear y0 y1
  simp only [Nv.val, Nv.cells]
  go_wp2_with fail
  refine (needL h3 _ lRound (by rfl) (by decide)).mono ?_
  rintro e w4 ⟨rfl, h4, hk4⟩
  have t1 := z1.kept hk4 (hnown _ (by omega))
  have t0 := z0.kept hk4 (hnown _ (by omega))
  have tq := zq.kept hk4 (hnown _ (by omega))
  have k24 : Kept (fun i => g.own i ∨ i = w.heap.size + 1) w2 w4 := (kseta.mono (fun i hi => Or.inr hi)).trans (hk4.mono (fun i hi => Or.inl hi))
  have kw4 := kw3.trans hk4
  have s4 := hk4.size
  have sa3 := kseta.size
  have c4' : w4.cell? ⟨g.b, 4, none⟩ = some (.bool true) := h4.blk.cell 4
  have f4' : w4.frozen? ⟨g.b, 4, none⟩ = false := h4.blk.frozen 4
  have hgb : g.b < w.heap.size := hR.blt
  obtain ⟨p0, p1, p2, p3, p4, p5, p6, p7⟩ := t1.eight
  obtain ⟨e0, e1, e2, e3, e4, e5, e6, e7⟩ := t0.eight
  obtain ⟨g0, g1, g2, g3, g4, g5, g6, g7⟩ := t0.thaw
  simp only [zeroNv, oneNv] at e0 e1 e2 e3 e4 e5 e6 e7 p0 p1 p2 p3 p4 p5 p6 p7
  have hlt9 : w.heap.size < w4.heap.size := t0.lt
  have hlt8 : w.heap.size + 1 < w4.heap.size := t1.lt
  have hne8 : g.b ≠ w.heap.size := by omega
  have hne9 : g.b ≠ w.heap.size + 1 := by omega
  go_wp2_with fail
  have fin := bracket_close (fo := fo) hR h4 (by omega) hp s2 kw4 k24 tq (gr := 0) (by omega)
  have bfin := putNv_blk (t0.kept (own_setCell g 4 (.bool fo)) (hnown _ (Nat.le_refl _))) (oneNv 2 w2.heap.size 1 0 0 0 false)
  simp only [putNv, oneNv] at fin bfin
  refine node_ret (i := 2) (b := w.heap.size) (q := oneNv 2 w2.heap.size 1 0 0 0 false) Tryz.results83 ?_ ?_ ?_ ?_
  · rfl
  · rfl
  · exact bfin
  · exact ⟨_, rfl, fin⟩

theorem bracket_rd {w : World} {g : RG} {fo : Bool} {st : RS} {k : Nat} (hA : AltOk g k) (hR : RdAt w g fo st) (hg : st.groups < st.next) (hrem : g.rs.length - st.next < k) :
    Calls Tryz.prog 83 #[.pointer (some ⟨g.b, 0, none⟩)] w fun e w' => ∃ q, e = .returned (Nv.val q) ∧ RdAt w' g fo (pBracket g (pAlt g k) st).1 ∧ PTAt w' w.heap.size w'.heap.size q (pBracket g (pAlt g k) st).2 (cBracket g (cAlt g k) fo st) ∧ Kept g.own w w' := by
  cases hq : inSet lQuery (seeOf g st)
  · exact bracket_plain hA hR hg hrem hq
  · cases hs : inSet lLess (seeOf g { st with next := st.next + 1 })
    · cases hi : inSet lI (seeOf g { st with next := st.next + 1 })
      · exact bracket_other hA hR hg hrem hq hs hi
      · exact bracket_otherI hA hR hg hrem hq hs hi
    · exact bracket_named hA hR hg hrem hq hs
end Go.Proofs.YtnbfddjaonlmaaaGreatDoor
