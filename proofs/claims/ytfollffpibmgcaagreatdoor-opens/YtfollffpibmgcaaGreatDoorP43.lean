/- The reference's tree: brackets that are no groups. The reference's tree: words for a bracket with a name. -/
import Derived.Test.YtfollffpibmgcaaGreatDoorP42
set_option linter.unusedVariables false
set_option maxRecDepth 100000
namespace Go.Proofs.YtfollffpibmgcaaGreatDoor
open Go.RowKit Go.Maps
set_option maxRecDepth 100000 in
set_option maxHeartbeats 4000000 in
theorem bracket_bare {w : World} {t : TG} {g : RG} {st : RS} {fold : Int} {vn : Value} {nl : List (List UInt8)} {k : Nat} (hA : AltT g k) (hT : TrAt w t g st fold vn nl) (hlt : st.next < t.l.length) (hrem : g.rs.length - st.next ≤ k)
  (hq : (seeOf g { st with next := st.next + 1 } == 63) = true) (hr : (seeOf g { st with next := st.next + 2 } == 58) = true) (hf : (pBracket g (pAlt g k) { st with next := st.next + 1 }).1.flt.form = none) :
  Calls Tryz.prog 100 #[.pointer (some ⟨t.b, 0, none⟩)] w (NdPost w t g fold vn (pBracket g (pAlt g k) { st with next := st.next + 1 }) (rBracket g (rAlt g k) fold { st with next := st.next + 1 })) := by
 have hl := hT.len
 have hlr := hT.lenr
 have htb := hT.blt
 obtain ⟨i0, hi0, hz0, hz1, hz2⟩ := info_parts Tryz.infoStr
 have hph : pHead g { st with next := st.next + 1 } = (⟨st.next + 3, st.flt, st.groups, st.names⟩ : RS) := by
  have hf' : (pHead g { st with next := st.next + 1 }).flt.form = none := pAlt_form g k _ (needSt_form hf).2.1
  unfold pHead at hf' ⊢
  rw [show inSet lQuery (seeOf g { st with next := st.next + 1 }) = (seeOf g { st with next := st.next + 1 } == 63) from inOne' 63 _, hq] at hf' ⊢
  simp only [Bool.true_eq_false, if_false] at hf' ⊢
  rw [show inSet lLess (seeOf g { st with next := st.next + 2 }) = (seeOf g { st with next := st.next + 2 } == 60) from inOne' 60 _] at hf' ⊢
  rw [beq_iff_eq.1 hr] at hf' ⊢
  simp only [show ((58 : Int) == 60) = false from rfl, Bool.false_eq_true, if_false] at hf' ⊢
  rw [(needSt_form hf').2.2]
  rw [show takeOf g lI { st with next := st.next + 2 } = { st with next := st.next + 2 } from by unfold takeOf; rw [if_neg (by rw [beq_iff_eq.1 hr]; decide)]]
 have HR : Hid (rBracket g (rAlt g k) fold { st with next := st.next + 1 } = .node sBare [] false false [rAlt g k (fold) (⟨st.next + 3, st.flt, st.groups, st.names⟩ : RS)] 0 0 0 false) := by
  show _ = _
  unfold rBracket
  rw [if_neg (by rw [inQ, hq]; simp), if_neg (by show ¬ inSet lLess (seeOf g { st with next := st.next + 2 }) = true; rw [beq_iff_eq.1 hr]; decide), if_neg (by show ¬ inSet lI (seeOf g { st with next := st.next + 2 }) = true; rw [beq_iff_eq.1 hr]; decide), hph]
 unfold pBracket at hf ⊢
 rw [hph] at hf ⊢
 clear hph
 obtain ⟨a1, a2, a3⟩ := needSt_form hf
 rw [a3]
 clear a3 hf
 obtain ⟨X, hX⟩ : ∃ X, pAlt g k (⟨st.next + 3, st.flt, st.groups, st.names⟩ : RS) = X := ⟨_, rfl⟩
 rw [hX] at a1 a2 ⊢
 have HS : Hid (pAlt g k (⟨st.next + 3, st.flt, st.groups, st.names⟩ : RS) = X) := hX
 clear hX
 have c1 : w.cell? ⟨t.b, 1, none⟩ = some (.int .i64 st.next) := hT.blk.cell 1
 have f1 : w.frozen? ⟨t.b, 1, none⟩ = false := hT.blk.frozen 1
 have hgr := hT.groups
 go_enter Tryz.func100, Tryz.ntmps100
 go_wp2_with fail
 have h1 : TrAt ((w.setCell ⟨t.b, 1, none⟩ (.int .i64 ((st.next : Int) + 1))).alloc (bNode sGroup)) t g { st with next := st.next + 1 } fold vn nl := (hT.step hlt).nil ((Kept.refl _ _).alloc _)
 have k1 : Kept (fun i => i = t.b ∨ vn.ownBlock = some i) w ((w.setCell ⟨t.b, 1, none⟩ (.int .i64 ((st.next : Int) + 1))).alloc (bNode sGroup)) := ((own1 (w := w) (t := t) 1 (.int .i64 ((st.next : Int) + 1))).mono (fun i hi => Or.inl hi)).alloc _
 have b1 : Blk ((w.setCell ⟨t.b, 1, none⟩ (.int .i64 ((st.next : Int) + 1))).alloc (bNode sGroup)) w.heap.size (nodeCells sGroup (.slice none 0 0) false false (.slice none 0 0) 0 0 0 false) 126 := Blk.new' _ _ (by rw [size_set])
 refine (Tr_atL h1).mono ?_
 rintro e w2 ⟨rfl, h2, hk2⟩
 have k2 := k1.trans (hk2.mono (fun i hi => Or.inl hi))
 have b2 := b1.kept hk2 (by omega)
 have s2 := b2.lt
 clear h1 k1 b1 hk2 c1 f1
 have hvn : ∀ i, vn.ownBlock = some i → i < w.heap.size := fun i hi => (ownsRow_block hT.names hi).2
 have hnl : nl.length ≤ 300 := by have := hT.nrel.1; have := hT.next; omega
 have hl2 : st.next + 1 < t.l.length := by have := lt_of_see (g := g) (st := { st with next := st.next + 1 }) (by rw [beq_iff_eq.1 hq]; omega); simp at this; omega
 have c21 : w2.cell? ⟨t.b, 1, none⟩ = some (.int .i64 ((st.next : Int) + 1)) := by have := h2.blk.cell 1; simpa using this
 have f21 : w2.frozen? ⟨t.b, 1, none⟩ = false := h2.blk.frozen 1
 have h3 : TrAt (w2.setCell ⟨t.b, 1, none⟩ (.int .i64 ((st.next : Int) + 2))) t g { st with next := st.next + 2 } fold vn nl := by
  have := h2.setNext (st.next + 2) (by omega) (by simp)
  simpa using this
 have b3 := b2.setCell_other (p := ⟨t.b, 1, none⟩) (show w.heap.size ≠ t.b by omega) (.int .i64 ((st.next : Int) + 2))
 have k3 := k2.trans ((own1 (w := w2) (t := t) 1 (.int .i64 ((st.next : Int) + 2))).mono (fun i hi => Or.inl hi))
 clear c21 f21
 have c21 : w2.cell? ⟨t.b, 1, none⟩ = some (.int .i64 ((st.next : Int) + 1)) := by have := h2.blk.cell 1; simpa using this
 have f21 : w2.frozen? ⟨t.b, 1, none⟩ = false := h2.blk.frozen 1
 go_wp2_with fail
 refine (Tr_atL h3).mono ?_
 rintro e w4 ⟨rfl, h4, hk4⟩
 have b4 := b3.kept hk4 (by omega)
 have k4 := k3.trans (hk4.mono (fun i hi => Or.inl hi))
 clear c21 f21 h3 b3 k3 hk4
 have hl3 : st.next + 2 < t.l.length := by have := lt_of_see (g := g) (st := { st with next := st.next + 2 }) (by rw [beq_iff_eq.1 hr]; omega); simp at this; omega
 have c41 : w4.cell? ⟨t.b, 1, none⟩ = some (.int .i64 ((st.next : Int) + 2)) := by have := h4.blk.cell 1; simpa using this
 have f41 : w4.frozen? ⟨t.b, 1, none⟩ = false := h4.blk.frozen 1
 have c40 : w4.cell? ⟨w.heap.size, 0, none⟩ = some (.string ⟨#[103, 114, 111, 117, 112]⟩) := b4.cell 0
 have f40 : w4.frozen? ⟨w.heap.size, 0, none⟩ = false := b4.frozen 0
 have h5 : TrAt (w4.setCell ⟨t.b, 1, none⟩ (.int .i64 ((st.next : Int) + 3))) t g { st with next := st.next + 3 } fold vn nl := by
  have := h4.setNext (st.next + 3) (by omega) (by simp)
  simpa using this
 have b5 := (b4.setCell_other (p := ⟨t.b, 1, none⟩) (show w.heap.size ≠ t.b by omega) (.int .i64 ((st.next : Int) + 3))).setCell 0 (.string sBare)
 have k5 : Kept (fun i => i = w.heap.size) (w4.setCell ⟨t.b, 1, none⟩ (.int .i64 ((st.next : Int) + 3))) ((w4.setCell ⟨t.b, 1, none⟩ (.int .i64 ((st.next : Int) + 3))).setCell ⟨w.heap.size, 0, none⟩ (.string sBare)) := (Kept.refl (fun i => i = w.heap.size) _).setCell (p := ⟨w.heap.size, 0, none⟩) (Or.inl rfl) _
 have h6a := h5.new hT k5 (fun i hi => by omega) (fun b hb hx => by have := hvn b hb; omega)
 have k6a := (k4.trans ((own1 (w := w4) (t := t) 1 (.int .i64 ((st.next : Int) + 3))).mono (fun i hi => Or.inl hi))).trans' k5 (fun i hi he => by omega)
 have hva : ∀ i, vn.ownBlock = some i → vn.ownBlock = some i ∨ w.heap.size < i := fun i hi => Or.inl hi
 have c42 : w4.cell? ⟨t.b, 2, none⟩ = some (.int .i64 fold) := h4.blk.cell 2
 have f42 : w4.frozen? ⟨t.b, 2, none⟩ = false := h4.blk.frozen 2
 have htb4 := h4.blt
 have hnb4 := b4.lt
 clear k4 b4 h4
 obtain ⟨wx, hwx⟩ : ∃ wx, wx = ((w4.setCell ⟨t.b, 1, none⟩ (.int .i64 ((st.next : Int) + 3))).setCell ⟨w.heap.size, 0, none⟩ (.string sBare)) := ⟨_, rfl⟩
 have hx := h6a
 have bx := b5
 have kx := k6a
 rw [← hwx] at hx bx kx
 clear h6a b5 k6a h5 k5
 have htx : t.b < wx.heap.size := hx.blt
 have hxn := hx.next
 have hf0 := hT.fold0
 have cx2 : wx.cell? ⟨t.b, 2, none⟩ = some (.int .i64 fold) := hx.blk.cell 2
 have fx2 : wx.frozen? ⟨t.b, 2, none⟩ = false := hx.blk.frozen 2
 have hf6 : 0 ≤ fold ∧ fold ≤ (((st.next + 3) : Nat) : Int) := by omega
 have h6 := hx.setFold fold hf6
 have b6 := bx.setCell_other (p := ⟨t.b, 2, none⟩) (show w.heap.size ≠ t.b by omega) (.int .i64 fold)
 have k6 := kx.trans ((own1 (w := wx) (t := t) 2 (.int .i64 fold)).mono (fun i hi => Or.inl hi))
 go_wp2_with fail
 rw [show (⟨#[98, 97, 114, 101]⟩ : ByteArray) = sBare from rfl, show ((st.next : Int) + 2 + 1) = (st.next : Int) + 3 from by omega, ← hwx]
 clear hwx
 refine (hA _ t _ _ _ _ h6 (by show g.rs.length - (st.next + 3) < k; omega) (by rw [HS.out]; exact a2)).mono ?_
 rw [HS.out]
 rintro e w7 ⟨b7, vn7, nl7, rfl, h7, q2, q3, q4⟩
 have hv7 : ∀ i, vn7.ownBlock = some i → i < w7.heap.size := fun i hi => (ownsRow_block h7.names hi).2
 have b7' := b6.kept q3 (by rintro (e | e); · omega
                            · rcases hva _ e with h | h
                              · have := hvn _ h; omega
                              · omega)
 have s7 := q3.size
 rw [size_set] at s7
 have sx := bx.lt
 have hX := h7.next
 have hxl := lt_of_see (g := g) (st := X.1) (by intro e; rw [e, inSet_end] at a1; exact absurd a1 (by simp))
 have hf7 := h7.fold0
 have c74 : w7.cell? ⟨w.heap.size, 4, none⟩ = some (.slice none 0 0) := b7'.cell 4
 have f74 : w7.frozen? ⟨w.heap.size, 4, none⟩ = false := b7'.frozen 4
 have c72 : w7.cell? ⟨t.b, 2, none⟩ = some (.int .i64 fold) := h7.blk.cell 2
 have f72 : w7.frozen? ⟨t.b, 2, none⟩ = false := h7.blk.frozen 2
 have c71 : w7.cell? ⟨t.b, 1, none⟩ = some (.int .i64 X.1.next) := h7.blk.cell 1
 have f71 : w7.frozen? ⟨t.b, 1, none⟩ = false := h7.blk.frozen 1
 have htb7 := h7.blt
 have hnb7 := b7'.lt
 have hX300 : X.1.next ≤ 300 := by omega
 have k8 : Kept (fun i => i = w.heap.size) w7 (w7.setCell ⟨w.heap.size, 4, none⟩ (.slice (some ⟨w7.heap.size, 0, none⟩) 1 1)) := (Kept.refl (fun i => i = w.heap.size) w7).setCell (p := ⟨w.heap.size, 4, none⟩) (Or.inl rfl) _
 have h8 := h7.new hT k8 (fun i hi => by omega) (fun b hb hx => by
  rcases q4 b hb with h | h
  ·rcases hva b h with h | h
   ·have := hvn b h; omega
   ·omega
  ·rw [size_set] at h; omega)
 have h9 := ((h8.setFold fold (by omega)).step (by omega)).nil ((Kept.refl Nil _).alloc (.cells #[.pointer (some ⟨b7, 0, none⟩)] 33))
 have k9 : Kept (fun i => i = t.b ∨ i = w.heap.size) w7 _ := (((k8.mono (fun i hi => Or.inr hi)).trans ((own1 (t := t) 2 (.int .i64 fold)).mono (fun i hi => Or.inl hi))).trans ((own1 (t := t) 1 (.int .i64 ((X.1.next : Int) + 1))).mono (fun i hi => Or.inl hi))).alloc (.cells #[.pointer (some ⟨b7, 0, none⟩)] 33)
 have b9 := (((b7'.setCell 4 (.slice (some ⟨w7.heap.size, 0, none⟩) 1 1)).setCell_other (p := ⟨t.b, 2, none⟩) (show w.heap.size ≠ t.b by omega) (.int .i64 fold)).setCell_other (p := ⟨t.b, 1, none⟩) (show w.heap.size ≠ t.b by omega) (.int .i64 ((X.1.next : Int) + 1))).alloc (.cells #[.pointer (some ⟨b7, 0, none⟩)] 33)
 have bk9 : Blk ((((w7.setCell ⟨w.heap.size, 4, none⟩ (.slice (some ⟨w7.heap.size, 0, none⟩) 1 1)).setCell ⟨t.b, 2, none⟩ (.int .i64 fold)).setCell ⟨t.b, 1, none⟩ (.int .i64 ((X.1.next : Int) + 1))).alloc (.cells #[.pointer (some ⟨b7, 0, none⟩)] 33)) w7.heap.size #[.pointer (some ⟨b7, 0, none⟩)] 33 := Blk.new' _ _ (by simp only [size_set])
 go_wp2_with fail
 go_ret
 rw [HR.out]
 exact bracket_node (wa := wx.setCell ⟨t.b, 2, none⟩ (.int .i64 fold)) hT k6 rfl (by rw [size_set]; exact sx) hva q2 q3 q4 hv7 h9 k9 (bk9.cell 0) (Nat.le_refl _) b9 op_bare
set_option maxRecDepth 100000 in
set_option maxHeartbeats 4000000 in
theorem bracket_fold {w : World} {t : TG} {g : RG} {st : RS} {fold : Int} {vn : Value} {nl : List (List UInt8)} {k : Nat} (hA : AltT g k) (hT : TrAt w t g st fold vn nl) (hlt : st.next < t.l.length) (hrem : g.rs.length - st.next ≤ k)
  (hq : (seeOf g { st with next := st.next + 1 } == 63) = true) (hr : (seeOf g { st with next := st.next + 2 } == 105) = true) (hl4 : st.next + 3 < t.l.length) (hf : (pBracket g (pAlt g k) { st with next := st.next + 1 }).1.flt.form = none) :
  Calls Tryz.prog 100 #[.pointer (some ⟨t.b, 0, none⟩)] w (NdPost w t g fold vn (pBracket g (pAlt g k) { st with next := st.next + 1 }) (rBracket g (rAlt g k) fold { st with next := st.next + 1 })) := by
 have hl := hT.len
 have hlr := hT.lenr
 have htb := hT.blt
 obtain ⟨i0, hi0, hz0, hz1, hz2⟩ := info_parts Tryz.infoStr
 have hph : pHead g { st with next := st.next + 1 } = (⟨st.next + 4, st.flt, st.groups, st.names⟩ : RS) := by
  have hf' : (pHead g { st with next := st.next + 1 }).flt.form = none := pAlt_form g k _ (needSt_form hf).2.1
  unfold pHead at hf' ⊢
  rw [show inSet lQuery (seeOf g { st with next := st.next + 1 }) = (seeOf g { st with next := st.next + 1 } == 63) from inOne' 63 _, hq] at hf' ⊢
  simp only [Bool.true_eq_false, if_false] at hf' ⊢
  rw [show inSet lLess (seeOf g { st with next := st.next + 2 }) = (seeOf g { st with next := st.next + 2 } == 60) from inOne' 60 _] at hf' ⊢
  rw [beq_iff_eq.1 hr] at hf' ⊢
  simp only [show ((105 : Int) == 60) = false from rfl, Bool.false_eq_true, if_false] at hf' ⊢
  rw [(needSt_form hf').2.2]
  rw [show takeOf g lI { st with next := st.next + 2 } = { st with next := st.next + 3 } from by unfold takeOf; rw [if_pos (by rw [beq_iff_eq.1 hr]; decide)]]
 have HR : Hid (rBracket g (rAlt g k) fold { st with next := st.next + 1 } = .node sBare [] false false [rAlt g k (fold + 1) (⟨st.next + 4, st.flt, st.groups, st.names⟩ : RS)] 0 0 0 false) := by
  show _ = _
  unfold rBracket
  rw [if_neg (by rw [inQ, hq]; simp), if_neg (by show ¬ inSet lLess (seeOf g { st with next := st.next + 2 }) = true; rw [beq_iff_eq.1 hr]; decide), if_pos (by show inSet lI (seeOf g { st with next := st.next + 2 }) = true; rw [beq_iff_eq.1 hr]; decide), hph]
 unfold pBracket at hf ⊢
 rw [hph] at hf ⊢
 clear hph
 obtain ⟨a1, a2, a3⟩ := needSt_form hf
 rw [a3]
 clear a3 hf
 obtain ⟨X, hX⟩ : ∃ X, pAlt g k (⟨st.next + 4, st.flt, st.groups, st.names⟩ : RS) = X := ⟨_, rfl⟩
 rw [hX] at a1 a2 ⊢
 have HS : Hid (pAlt g k (⟨st.next + 4, st.flt, st.groups, st.names⟩ : RS) = X) := hX
 clear hX
 have c1 : w.cell? ⟨t.b, 1, none⟩ = some (.int .i64 st.next) := hT.blk.cell 1
 have f1 : w.frozen? ⟨t.b, 1, none⟩ = false := hT.blk.frozen 1
 have hgr := hT.groups
 go_enter Tryz.func100, Tryz.ntmps100
 go_wp2_with fail
 have h1 : TrAt ((w.setCell ⟨t.b, 1, none⟩ (.int .i64 ((st.next : Int) + 1))).alloc (bNode sGroup)) t g { st with next := st.next + 1 } fold vn nl := (hT.step hlt).nil ((Kept.refl _ _).alloc _)
 have k1 : Kept (fun i => i = t.b ∨ vn.ownBlock = some i) w ((w.setCell ⟨t.b, 1, none⟩ (.int .i64 ((st.next : Int) + 1))).alloc (bNode sGroup)) := ((own1 (w := w) (t := t) 1 (.int .i64 ((st.next : Int) + 1))).mono (fun i hi => Or.inl hi)).alloc _
 have b1 : Blk ((w.setCell ⟨t.b, 1, none⟩ (.int .i64 ((st.next : Int) + 1))).alloc (bNode sGroup)) w.heap.size (nodeCells sGroup (.slice none 0 0) false false (.slice none 0 0) 0 0 0 false) 126 := Blk.new' _ _ (by rw [size_set])
 refine (Tr_atL h1).mono ?_
 rintro e w2 ⟨rfl, h2, hk2⟩
 have k2 := k1.trans (hk2.mono (fun i hi => Or.inl hi))
 have b2 := b1.kept hk2 (by omega)
 have s2 := b2.lt
 clear h1 k1 b1 hk2 c1 f1
 have hvn : ∀ i, vn.ownBlock = some i → i < w.heap.size := fun i hi => (ownsRow_block hT.names hi).2
 have hnl : nl.length ≤ 300 := by have := hT.nrel.1; have := hT.next; omega
 have hl2 : st.next + 1 < t.l.length := by have := lt_of_see (g := g) (st := { st with next := st.next + 1 }) (by rw [beq_iff_eq.1 hq]; omega); simp at this; omega
 have c21 : w2.cell? ⟨t.b, 1, none⟩ = some (.int .i64 ((st.next : Int) + 1)) := by have := h2.blk.cell 1; simpa using this
 have f21 : w2.frozen? ⟨t.b, 1, none⟩ = false := h2.blk.frozen 1
 have h3 : TrAt (w2.setCell ⟨t.b, 1, none⟩ (.int .i64 ((st.next : Int) + 2))) t g { st with next := st.next + 2 } fold vn nl := by
  have := h2.setNext (st.next + 2) (by omega) (by simp)
  simpa using this
 have b3 := b2.setCell_other (p := ⟨t.b, 1, none⟩) (show w.heap.size ≠ t.b by omega) (.int .i64 ((st.next : Int) + 2))
 have k3 := k2.trans ((own1 (w := w2) (t := t) 1 (.int .i64 ((st.next : Int) + 2))).mono (fun i hi => Or.inl hi))
 clear c21 f21
 have c21 : w2.cell? ⟨t.b, 1, none⟩ = some (.int .i64 ((st.next : Int) + 1)) := by have := h2.blk.cell 1; simpa using this
 have f21 : w2.frozen? ⟨t.b, 1, none⟩ = false := h2.blk.frozen 1
 go_wp2_with fail
 refine (Tr_atL h3).mono ?_
 rintro e w4 ⟨rfl, h4, hk4⟩
 have b4 := b3.kept hk4 (by omega)
 have k4 := k3.trans (hk4.mono (fun i hi => Or.inl hi))
 clear c21 f21 h3 b3 k3 hk4
 have hl3 : st.next + 2 < t.l.length := by have := lt_of_see (g := g) (st := { st with next := st.next + 2 }) (by rw [beq_iff_eq.1 hr]; omega); simp at this; omega
 have c41 : w4.cell? ⟨t.b, 1, none⟩ = some (.int .i64 ((st.next : Int) + 2)) := by have := h4.blk.cell 1; simpa using this
 have f41 : w4.frozen? ⟨t.b, 1, none⟩ = false := h4.blk.frozen 1
 have c40 : w4.cell? ⟨w.heap.size, 0, none⟩ = some (.string ⟨#[103, 114, 111, 117, 112]⟩) := b4.cell 0
 have f40 : w4.frozen? ⟨w.heap.size, 0, none⟩ = false := b4.frozen 0
 have h5 : TrAt (w4.setCell ⟨t.b, 1, none⟩ (.int .i64 ((st.next : Int) + 3))) t g { st with next := st.next + 3 } fold vn nl := by
  have := h4.setNext (st.next + 3) (by omega) (by simp)
  simpa using this
 have b5 := (b4.setCell_other (p := ⟨t.b, 1, none⟩) (show w.heap.size ≠ t.b by omega) (.int .i64 ((st.next : Int) + 3))).setCell 0 (.string sBare)
 have k5 : Kept (fun i => i = w.heap.size) (w4.setCell ⟨t.b, 1, none⟩ (.int .i64 ((st.next : Int) + 3))) ((w4.setCell ⟨t.b, 1, none⟩ (.int .i64 ((st.next : Int) + 3))).setCell ⟨w.heap.size, 0, none⟩ (.string sBare)) := (Kept.refl (fun i => i = w.heap.size) _).setCell (p := ⟨w.heap.size, 0, none⟩) (Or.inl rfl) _
 have h6a := h5.new hT k5 (fun i hi => by omega) (fun b hb hx => by have := hvn b hb; omega)
 have k6a := (k4.trans ((own1 (w := w4) (t := t) 1 (.int .i64 ((st.next : Int) + 3))).mono (fun i hi => Or.inl hi))).trans' k5 (fun i hi he => by omega)
 have hva : ∀ i, vn.ownBlock = some i → vn.ownBlock = some i ∨ w.heap.size < i := fun i hi => Or.inl hi
 have c42 : w4.cell? ⟨t.b, 2, none⟩ = some (.int .i64 fold) := h4.blk.cell 2
 have f42 : w4.frozen? ⟨t.b, 2, none⟩ = false := h4.blk.frozen 2
 have htb4 := h4.blt
 have hnb4 := b4.lt
 clear k4 b4 h4
 have h7a : TrAt (((w4.setCell ⟨t.b, 1, none⟩ (.int .i64 ((st.next : Int) + 3))).setCell ⟨w.heap.size, 0, none⟩ (.string sBare)).setCell ⟨t.b, 1, none⟩ (.int .i64 ((st.next : Int) + 4))) t g { st with next := st.next + 4 } fold vn nl := by
  have := h6a.setNext (st.next + 4) (by omega) (by simp)
  simpa using this
 have b7a := b5.setCell_other (p := ⟨t.b, 1, none⟩) (show w.heap.size ≠ t.b by omega) (.int .i64 ((st.next : Int) + 4))
 have k7a := k6a.trans ((own1 (w := ((w4.setCell ⟨t.b, 1, none⟩ (.int .i64 ((st.next : Int) + 3))).setCell ⟨w.heap.size, 0, none⟩ (.string sBare))) (t := t) 1 (.int .i64 ((st.next : Int) + 4))).mono (fun i hi => Or.inl hi))
 obtain ⟨wx, hwx⟩ : ∃ wx, wx = ((w4.setCell ⟨t.b, 1, none⟩ (.int .i64 ((st.next : Int) + 3))).setCell ⟨w.heap.size, 0, none⟩ (.string sBare)).setCell ⟨t.b, 1, none⟩ (.int .i64 ((st.next : Int) + 4)) := ⟨_, rfl⟩
 have hx := h7a
 have bx := b7a
 have kx := k7a
 rw [← hwx] at hx bx kx
 clear h6a b5 k6a h5 k5 h7a b7a k7a
 have htx : t.b < wx.heap.size := hx.blt
 have hxn := hx.next
 have hf0 := hT.fold0
 have cx2 : wx.cell? ⟨t.b, 2, none⟩ = some (.int .i64 fold) := hx.blk.cell 2
 have fx2 : wx.frozen? ⟨t.b, 2, none⟩ = false := hx.blk.frozen 2
 have hf6 : 0 ≤ (fold + 1) ∧ (fold + 1) ≤ (((st.next + 4) : Nat) : Int) := by omega
 have h6 := hx.setFold (fold + 1) hf6
 have b6 := bx.setCell_other (p := ⟨t.b, 2, none⟩) (show w.heap.size ≠ t.b by omega) (.int .i64 (fold + 1))
 have k6 := kx.trans ((own1 (w := wx) (t := t) 2 (.int .i64 (fold + 1))).mono (fun i hi => Or.inl hi))
 go_wp2_with fail
 rw [show (⟨#[98, 97, 114, 101]⟩ : ByteArray) = sBare from rfl, show ((st.next : Int) + 2 + 1 + 1) = (st.next : Int) + 4 from by omega, show ((st.next : Int) + 2 + 1) = (st.next : Int) + 3 from by omega, ← hwx]
 clear hwx
 refine (hA _ t _ _ _ _ h6 (by show g.rs.length - (st.next + 4) < k; omega) (by rw [HS.out]; exact a2)).mono ?_
 rw [HS.out]
 rintro e w7 ⟨b7, vn7, nl7, rfl, h7, q2, q3, q4⟩
 have hv7 : ∀ i, vn7.ownBlock = some i → i < w7.heap.size := fun i hi => (ownsRow_block h7.names hi).2
 have b7' := b6.kept q3 (by rintro (e | e); · omega
                            · rcases hva _ e with h | h
                              · have := hvn _ h; omega
                              · omega)
 have s7 := q3.size
 rw [size_set] at s7
 have sx := bx.lt
 have hX := h7.next
 have hxl := lt_of_see (g := g) (st := X.1) (by intro e; rw [e, inSet_end] at a1; exact absurd a1 (by simp))
 have hf7 := h7.fold0
 have c74 : w7.cell? ⟨w.heap.size, 4, none⟩ = some (.slice none 0 0) := b7'.cell 4
 have f74 : w7.frozen? ⟨w.heap.size, 4, none⟩ = false := b7'.frozen 4
 have c72 : w7.cell? ⟨t.b, 2, none⟩ = some (.int .i64 (fold + 1)) := h7.blk.cell 2
 have f72 : w7.frozen? ⟨t.b, 2, none⟩ = false := h7.blk.frozen 2
 have c71 : w7.cell? ⟨t.b, 1, none⟩ = some (.int .i64 X.1.next) := h7.blk.cell 1
 have f71 : w7.frozen? ⟨t.b, 1, none⟩ = false := h7.blk.frozen 1
 have htb7 := h7.blt
 have hnb7 := b7'.lt
 have hX300 : X.1.next ≤ 300 := by omega
 have k8 : Kept (fun i => i = w.heap.size) w7 (w7.setCell ⟨w.heap.size, 4, none⟩ (.slice (some ⟨w7.heap.size, 0, none⟩) 1 1)) := (Kept.refl (fun i => i = w.heap.size) w7).setCell (p := ⟨w.heap.size, 4, none⟩) (Or.inl rfl) _
 have h8 := h7.new hT k8 (fun i hi => by omega) (fun b hb hx => by
  rcases q4 b hb with h | h
  ·rcases hva b h with h | h
   ·have := hvn b h; omega
   ·omega
  ·rw [size_set] at h; omega)
 have h9 := ((h8.setFold fold (by omega)).step (by omega)).nil ((Kept.refl Nil _).alloc (.cells #[.pointer (some ⟨b7, 0, none⟩)] 33))
 have k9 : Kept (fun i => i = t.b ∨ i = w.heap.size) w7 _ := (((k8.mono (fun i hi => Or.inr hi)).trans ((own1 (t := t) 2 (.int .i64 fold)).mono (fun i hi => Or.inl hi))).trans ((own1 (t := t) 1 (.int .i64 ((X.1.next : Int) + 1))).mono (fun i hi => Or.inl hi))).alloc (.cells #[.pointer (some ⟨b7, 0, none⟩)] 33)
 have b9 := (((b7'.setCell 4 (.slice (some ⟨w7.heap.size, 0, none⟩) 1 1)).setCell_other (p := ⟨t.b, 2, none⟩) (show w.heap.size ≠ t.b by omega) (.int .i64 fold)).setCell_other (p := ⟨t.b, 1, none⟩) (show w.heap.size ≠ t.b by omega) (.int .i64 ((X.1.next : Int) + 1))).alloc (.cells #[.pointer (some ⟨b7, 0, none⟩)] 33)
 have bk9 : Blk ((((w7.setCell ⟨w.heap.size, 4, none⟩ (.slice (some ⟨w7.heap.size, 0, none⟩) 1 1)).setCell ⟨t.b, 2, none⟩ (.int .i64 fold)).setCell ⟨t.b, 1, none⟩ (.int .i64 ((X.1.next : Int) + 1))).alloc (.cells #[.pointer (some ⟨b7, 0, none⟩)] 33)) w7.heap.size #[.pointer (some ⟨b7, 0, none⟩)] 33 := Blk.new' _ _ (by simp only [size_set])
 go_wp2_with fail
 go_ret
 rw [HR.out]
 exact bracket_node (wa := wx.setCell ⟨t.b, 2, none⟩ (.int .i64 (fold + 1))) hT k6 rfl (by rw [size_set]; exact sx) hva q2 q3 q4 hv7 h9 k9 (bk9.cell 0) (Nat.le_refl _) b9 op_bare
set_option maxRecDepth 100000
theorem pLetters_eq (g : RG) (first : Nat) : ∀ (m : Nat) (st : RS), pLetters g first m st = { st with next := (pLetters g first m st).next }
 | 0, _ => rfl
 | m + 1, st => by
  unfold pLetters
  split
  ·exact pLetters_eq g first m { st with next := st.next + 1 }
  ·rfl
theorem pLetters_all (g : RG) (first : Nat) : ∀ (m : Nat) (st : RS) (j : Nat), st.next ≤ j → j < (pLetters g first m st).next → inSet lLetters (g.rs.getD j (-1)) = true
 | 0, st, j, h1, h2 => by simp only [pLetters] at h2; omega
 | m + 1, st, j, h1, h2 => by
  unfold pLetters at h2
  split at h2
  ·rename_i hc
   by_cases hj : j = st.next
   ·subst hj; exact hc.2
   ·exact pLetters_all g first m { st with next := st.next + 1 } j (by simp; omega) h2
  ·omega
def bytesOf (g : RG) (a b : Nat) : List UInt8 := ((g.rs.take b).drop a).map fun r => UInt8.ofNat r.toNat
theorem bytesOf_nil (g : RG) (a : Nat) : bytesOf g a a = [] := by simp [bytesOf]
theorem bytesOf_succ (g : RG) (a b : Nat) (hab : a ≤ b) (hb : b < g.rs.length) : bytesOf g a (b + 1) = bytesOf g a b ++ [UInt8.ofNat (g.rs.getD b (-1)).toNat] := by
 unfold bytesOf
 rw [List.take_succ_eq_append_getElem hb, List.drop_append_of_le_length (by simp; omega)]
 simp [List.getD, List.getElem?_eq_getElem hb]
theorem bytesOf_length (g : RG) (a b : Nat) (hb : b ≤ g.rs.length) : (bytesOf g a b).length = b - a := by
 simp [bytesOf]; omega
theorem letters_range {r : Int} (h : inSet lLetters r = true) : 97 ≤ r ∧ r ≤ 122 := by
 unfold inSet lLetters at h
 simp only [List.any_cons, List.any_nil, Bool.or_false, Bool.or_eq_true, beq_iff_eq] at h
 rcases h with h | h | h | h | h | h | h | h | h | h | h | h | h | h | h | h | h | h | h | h | h | h | h | h | h | h <;> rw [← h] <;> decide
theorem encode_letter (r : Int) (h : 97 ≤ r ∧ r ≤ 122) : (Utf8.encode r).data.toList = [UInt8.ofNat r.toNat] := by
 have : r = 97 ∨ r = 98 ∨ r = 99 ∨ r = 100 ∨ r = 101 ∨ r = 102 ∨ r = 103 ∨ r = 104 ∨ r = 105 ∨ r = 106 ∨ r = 107 ∨ r = 108 ∨ r = 109 ∨ r = 110 ∨ r = 111 ∨ r = 112 ∨ r = 113 ∨ r = 114 ∨ r = 115 ∨ r = 116 ∨ r = 117 ∨ r = 118 ∨ r = 119 ∨ r = 120 ∨ r = 121 ∨ r = 122 := by omega
 rcases this with h | h | h | h | h | h | h | h | h | h | h | h | h | h | h | h | h | h | h | h | h | h | h | h | h | h <;> subst h <;> rfl
theorem runesBytes_letters (l : List Int) (hl : ∀ r ∈ l, 97 ≤ r ∧ r ≤ 122) : runesToBytes l = l.map fun r => UInt8.ofNat r.toNat := by
 have key : ∀ (l : List Int) (acc : ByteArray), (∀ r ∈ l, 97 ≤ r ∧ r ≤ 122) → (l.foldl (fun r n => r ++ Utf8.encode n) acc).data.toList = acc.data.toList ++ l.map fun r => UInt8.ofNat r.toNat := by
  intro l
  induction l with
  | nil => intro acc _; simp
  | cons a l ih =>
   intro acc h
   rw [List.foldl_cons, ih _ (fun r hr => h r (List.mem_cons_of_mem _ hr))]
   rw [ByteArray.data_append, Array.toList_append, encode_letter a (h a List.mem_cons_self)]
   simp
 unfold runesToBytes runesBytes
 rw [key l _ hl]
 rfl
theorem NRel.named {st : RS} {nl : List (List UInt8)} (h : NRel st nl) (x : List UInt8) (hx : x ≠ []) (hnew : nl.any (fun y => y == x) = false) : NRel { st with groups := st.groups + 1, names := (x, st.groups + 1) :: st.names } (nl ++ [x]) := by
 have hne : ∀ j : Nat, nl[j]? = some x → False := by
  intro j hj
  rw [List.any_eq_false] at hnew
  obtain ⟨hl, he⟩ := List.getElem?_eq_some_iff.1 hj
  exact hnew _ (List.getElem_mem hl) (by rw [he]; simp)
 refine ⟨by simp [h.1], fun y hy => ?_, fun p hp => ?_, fun hn y i hy => ?_⟩
 ·simp only [List.any_cons, List.any_append, List.any_nil, Bool.or_false]
  rw [h.2.1 y hy, Bool.or_comm]
 ·rcases List.mem_cons.1 hp with rfl | hp
  ·exact hx
  ·exact h.2.2.1 p hp
 ·simp only [List.mem_cons, Prod.mk.injEq]
  rw [h.2.2.2 hn y i hy]
  constructor
  ·rintro (⟨rfl, rfl⟩ | ⟨j, rfl, hj⟩)
   ·exact ⟨nl.length, by rw [h.1], by simp⟩
   ·refine ⟨j, rfl, ?_⟩
    rw [List.getElem?_append_left (List.getElem?_eq_some_iff.1 hj).1]; exact hj
  ·rintro ⟨j, rfl, hj⟩
   by_cases hlt : j < nl.length
   ·rw [List.getElem?_append_left hlt] at hj
    exact Or.inr ⟨j, rfl, hj⟩
   ·rw [List.getElem?_append_right (by omega)] at hj
    cases hd : j - nl.length with
    | zero =>
     rw [hd] at hj
     simp at hj
     exact Or.inl ⟨hj.symm, by have := h.1; omega⟩
    | succ m => rw [hd] at hj; simp at hj
theorem NRel.twice {st : RS} {nl : List (List UInt8)} (h : NRel st nl) (x : List UInt8) (hx : x ≠ []) (hold : nl.any (fun y => y == x) = true) (hn : st.flt.nam ≠ none) : NRel { st with groups := st.groups + 1 } (nl ++ [x]) := by
 refine ⟨by simp [h.1], fun y hy => ?_, h.2.2.1, fun hn' => absurd hn' hn⟩
 simp only [List.any_append, List.any_cons, List.any_nil, Bool.or_false]
 rw [h.2.1 y hy]
 cases hxy : (x == y)
 ·simp
 ·have e : x = y := by simpa using hxy
  subst e
  rw [hold]; rfl
theorem TrAt.setNam {w : World} {t : TG} {g : RG} {st : RS} {fold : Int} {vn : Value} {nl : List (List UInt8)} (h : TrAt w t g st fold vn nl) (p : Int) (hp : 0 ≤ p) (hn : st.flt.nam = none) : TrAt (w.setCell ⟨t.b, 6, none⟩ (.int .i64 p)) t g (st.note 6 p) fold vn nl := by
 have e : st.note 6 p = { st with flt := { st.flt with nam := some p } } := by simp [RS.note, Flt.note, Flt.get, hn, Flt.put]
 have k : Kept (fun i => i = t.b) w (w.setCell ⟨t.b, 6, none⟩ (.int .i64 p)) := own1 6 _
 rw [e]
 exact { h with
  blk := h.blk.setCell 6 _
  gl := h.gl.kept k (fun hl => h.ne hl)
  names := ownsRow_kept h.names k (fun b hb he => by have := (ownsRow_block h.names hb).1; omega)
  nrel := ⟨h.nrel.1, h.nrel.2.1, h.nrel.2.2.1, fun hc => by simp at hc⟩
  groups := h.groups
  fold0 := h.fold0
  fok := ⟨h.fok.1, h.fok.2.1, fun q hq => by simp at hq; omega⟩ }
theorem note6_some {st : RS} (p : Int) (hn : st.flt.nam ≠ none) : st.note 6 p = st := by
 cases hc : st.flt.nam with
 | none => exact absurd hc hn
 | some q => simp [RS.note, Flt.note, Flt.get, hc]
theorem note6_nam (st : RS) (p : Int) : (st.note 6 p).flt.nam ≠ none := by
 cases hc : st.flt.nam with
 | none => simp [RS.note, Flt.note, Flt.get, hc, Flt.put]
 | some q => simp [RS.note, Flt.note, Flt.get, hc]
def namNote (st : RS) (nl : List (List UInt8)) (x : List UInt8) (p : Int) : RS := if nl.any (fun y => y == x) then st.note 6 p else st
theorem namNote_next (st : RS) (nl : List (List UInt8)) (x : List UInt8) (p : Int) : (namNote st nl x p).next = st.next := by unfold namNote; split <;> rfl
theorem namNote_groups (st : RS) (nl : List (List UInt8)) (x : List UInt8) (p : Int) : (namNote st nl x p).groups = st.groups := by unfold namNote; split <;> rfl
theorem namNote_hit (st : RS) (nl : List (List UInt8)) (y x : List UInt8) (p : Int) (h : (y == x) = true) : namNote st (nl ++ [y]) x p = (namNote st nl x p).note 6 p := by
 unfold namNote
 simp only [List.any_append, List.any_cons, List.any_nil, Bool.or_false, h, Bool.or_true, if_true]
 split
 ·rw [note6_some _ (note6_nam st p)]
 ·rfl
theorem namNote_miss (st : RS) (nl : List (List UInt8)) (y x : List UInt8) (p : Int) (h : (y == x) = false) : namNote st (nl ++ [y]) x p = namNote st nl x p := by
 unfold namNote
 simp only [List.any_append, List.any_cons, List.any_nil, Bool.or_false, h]
end Go.Proofs.YtfollffpibmgcaaGreatDoor
