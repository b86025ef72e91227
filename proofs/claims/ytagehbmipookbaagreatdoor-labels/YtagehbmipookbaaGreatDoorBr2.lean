/- The reference's tree: brackets that are no groups. -/
import Derived.Test.YtagehbmipookbaaGreatDoorBr1
namespace Go.Proofs.YtagehbmipookbaaGreatDoor
open Go.RowKit Go.Maps
set_option linter.unusedVariables false
set_option maxRecDepth 100000

set_option maxRecDepth 100000 in
set_option maxHeartbeats 4000000 in
/-- (?: .. ) -/
theorem bracket_bare {w : World} {t : TG} {g : RG} {st : RS} {fold : Int} {vn : Value} {nl : List (List UInt8)} {k : Nat} (hA : AltT g k) (hT : TrAt w t g st fold vn nl) (hlt : st.next < t.l.length) (hrem : g.rs.length - st.next ≤ k)
    (hq : (seeOf g { st with next := st.next + 1 } == 63) = true) (hr : (seeOf g { st with next := st.next + 2 } == 58) = true) (hf : (pBracket g (pAlt g k) { st with next := st.next + 1 }).1.flt.form = none) :
    Calls Tryz.prog 47 #[.pointer (some ⟨t.b, 0, none⟩)] w (NdPost w t g fold vn (pBracket g (pAlt g k) { st with next := st.next + 1 }) (rBracket g (rAlt g k) fold { st with next := st.next + 1 })) := by
  have hl := hT.len
  have hlr := hT.lenr
  have htb := hT.blt
  obtain ⟨i0, hi0, hz0, hz1, hz2⟩ := info_parts Tryz.infoStr
  have hph : pHead g { st with next := st.next + 1 } = (⟨st.next + 3, st.flt, st.groups, st.names⟩ : RS) := by
    have hf' : (pHead g { st with next := st.next + 1 }).flt.form = none := pAlt_form g k _ (needSt_form hf).2.1
    unfold pHead at hf' ⊢
    rw [show inSet lQuery (seeOf g { st with next := st.next + 1 }) = (seeOf g { st with next := st.next + 1 } == 63) from inOne' 63 _, hq] at hf' ⊢
    simp only [Bool.true_eq_false, if_false] at hf' ⊢
    rw [show inSet lLess (seeOf g { st with next := st.next + 2 }) = (seeOf g { st with next := st.next + 2 } == 60) from inOne' 60 _] at hf' ⊢
    rw [beq_iff_eq.1 hr] at hf' ⊢
    simp only [show ((58 : Int) == 60) = false from rfl, Bool.false_eq_true, if_false] at hf' ⊢
    rw [(needSt_form hf').2.2]
    rw [show takeOf g lI { st with next := st.next + 2 } = { st with next := st.next + 2 } from by unfold takeOf; rw [if_neg (by rw [beq_iff_eq.1 hr]; decide)]]
  have HR : Hid (rBracket g (rAlt g k) fold { st with next := st.next + 1 } = .node sBare [] false false [rAlt g k (fold) (⟨st.next + 3, st.flt, st.groups, st.names⟩ : RS)] 0 0 0 false) := by
    show _ = _
    unfold rBracket
    rw [if_neg (by rw [inQ, hq]; simp), if_neg (by show ¬ inSet lLess (seeOf g { st with next := st.next + 2 }) = true; rw [beq_iff_eq.1 hr]; decide), if_neg (by show ¬ inSet lI (seeOf g { st with next := st.next + 2 }) = true; rw [beq_iff_eq.1 hr]; decide), hph]
  unfold pBracket at hf ⊢
  rw [hph] at hf ⊢
  clear hph
  obtain ⟨a1, a2, a3⟩ := needSt_form hf
  rw [a3]
  clear a3 hf
  obtain ⟨X, hX⟩ : ∃ X, pAlt g k (⟨st.next + 3, st.flt, st.groups, st.names⟩ : RS) = X := ⟨_, rfl⟩
  rw [hX] at a1 a2 ⊢
  have HS : Hid (pAlt g k (⟨st.next + 3, st.flt, st.groups, st.names⟩ : RS) = X) := hX
  clear hX
  have c1 : w.cell? ⟨t.b, 1, none⟩ = some (.int .i64 st.next) := hT.blk.cell 1
  have f1 : w.frozen? ⟨t.b, 1, none⟩ = false := hT.blk.frozen 1
  have hgr := hT.groups
  go_enter Tryz.func47, Tryz.ntmps47
  go_wp2_with fail
  have h1 : TrAt ((w.setCell ⟨t.b, 1, none⟩ (.int .i64 ((st.next : Int) + 1))).alloc (bNode sGroup)) t g { st with next := st.next + 1 } fold vn nl := (hT.step hlt).nil ((Kept.refl _ _).alloc _)
  have k1 : Kept (fun i => i = t.b ∨ vn.ownBlock = some i) w ((w.setCell ⟨t.b, 1, none⟩ (.int .i64 ((st.next : Int) + 1))).alloc (bNode sGroup)) := ((own1 (w := w) (t := t) 1 (.int .i64 ((st.next : Int) + 1))).mono (fun i hi => Or.inl hi)).alloc _
  have b1 : Blk ((w.setCell ⟨t.b, 1, none⟩ (.int .i64 ((st.next : Int) + 1))).alloc (bNode sGroup)) w.heap.size (nodeCells sGroup (.slice none 0 0) false false (.slice none 0 0) 0 0 0 false) 77 := Blk.new' _ _ (by rw [size_set])
  refine (Tr_atL h1).mono ?_
  rintro e w2 ⟨rfl, h2, hk2⟩
  have k2 := k1.trans (hk2.mono (fun i hi => Or.inl hi))
  have b2 := b1.kept hk2 (by omega)
  have s2 := b2.lt
  clear h1 k1 b1 hk2 c1 f1
  have hvn : ∀ i, vn.ownBlock = some i → i < w.heap.size := fun i hi => (ownsRow_block hT.names hi).2
  have hnl : nl.length ≤ 300 := by have := hT.nrel.1; have := hT.next; omega
  have hl2 : st.next + 1 < t.l.length := by have := lt_of_see (g := g) (st := { st with next := st.next + 1 }) (by rw [beq_iff_eq.1 hq]; omega); simp at this; omega
  have c21 : w2.cell? ⟨t.b, 1, none⟩ = some (.int .i64 ((st.next : Int) + 1)) := by have := h2.blk.cell 1; simpa using this
  have f21 : w2.frozen? ⟨t.b, 1, none⟩ = false := h2.blk.frozen 1
  have h3 : TrAt (w2.setCell ⟨t.b, 1, none⟩ (.int .i64 ((st.next : Int) + 2))) t g { st with next := st.next + 2 } fold vn nl := by
    have := h2.setNext (st.next + 2) (by omega) (by simp)
    simpa using this
  have b3 := b2.setCell_other (p := ⟨t.b, 1, none⟩) (show w.heap.size ≠ t.b by omega) (.int .i64 ((st.next : Int) + 2))
  have k3 := k2.trans ((own1 (w := w2) (t := t) 1 (.int .i64 ((st.next : Int) + 2))).mono (fun i hi => Or.inl hi))
  clear c21 f21
  have c21 : w2.cell? ⟨t.b, 1, none⟩ = some (.int .i64 ((st.next : Int) + 1)) := by have := h2.blk.cell 1; simpa using this
  have f21 : w2.frozen? ⟨t.b, 1, none⟩ = false := h2.blk.frozen 1
  go_wp2_with fail
  refine (Tr_atL h3).mono ?_
  rintro e w4 ⟨rfl, h4, hk4⟩
  have b4 := b3.kept hk4 (by omega)
  have k4 := k3.trans (hk4.mono (fun i hi => Or.inl hi))
  clear c21 f21 h3 b3 k3 hk4
  have hl3 : st.next + 2 < t.l.length := by have := lt_of_see (g := g) (st := { st with next := st.next + 2 }) (by rw [beq_iff_eq.1 hr]; omega); simp at this; omega
  have c41 : w4.cell? ⟨t.b, 1, none⟩ = some (.int .i64 ((st.next : Int) + 2)) := by have := h4.blk.cell 1; simpa using this
  have f41 : w4.frozen? ⟨t.b, 1, none⟩ = false := h4.blk.frozen 1
  have c40 : w4.cell? ⟨w.heap.size, 0, none⟩ = some (.string ⟨#[103, 114, 111, 117, 112]⟩) := b4.cell 0
  have f40 : w4.frozen? ⟨w.heap.size, 0, none⟩ = false := b4.frozen 0
  have h5 : TrAt (w4.setCell ⟨t.b, 1, none⟩ (.int .i64 ((st.next : Int) + 3))) t g { st with next := st.next + 3 } fold vn nl := by
    have := h4.setNext (st.next + 3) (by omega) (by simp)
    simpa using this
  have b5 := (b4.setCell_other (p := ⟨t.b, 1, none⟩) (show w.heap.size ≠ t.b by omega) (.int .i64 ((st.next : Int) + 3))).setCell 0 (.string sBare)
  have k5 : Kept (fun i => i = w.heap.size) (w4.setCell ⟨t.b, 1, none⟩ (.int .i64 ((st.next : Int) + 3))) ((w4.setCell ⟨t.b, 1, none⟩ (.int .i64 ((st.next : Int) + 3))).setCell ⟨w.heap.size, 0, none⟩ (.string sBare)) := (Kept.refl (fun i => i = w.heap.size) _).setCell (p := ⟨w.heap.size, 0, none⟩) (Or.inl rfl) _
  have h6a := h5.new hT k5 (fun i hi => by omega) (fun b hb hx => by have := hvn b hb; omega)
  have k6a := (k4.trans ((own1 (w := w4) (t := t) 1 (.int .i64 ((st.next : Int) + 3))).mono (fun i hi => Or.inl hi))).trans' k5 (fun i hi he => by omega)
  have hva : ∀ i, vn.ownBlock = some i → vn.ownBlock = some i ∨ w.heap.size < i := fun i hi => Or.inl hi
  have c42 : w4.cell? ⟨t.b, 2, none⟩ = some (.int .i64 fold) := h4.blk.cell 2
  have f42 : w4.frozen? ⟨t.b, 2, none⟩ = false := h4.blk.frozen 2
  have htb4 := h4.blt
  have hnb4 := b4.lt
  clear k4 b4 h4
  obtain ⟨wx, hwx⟩ : ∃ wx, wx = ((w4.setCell ⟨t.b, 1, none⟩ (.int .i64 ((st.next : Int) + 3))).setCell ⟨w.heap.size, 0, none⟩ (.string sBare)) := ⟨_, rfl⟩
  have hx := h6a
  have bx := b5
  have kx := k6a
  rw [← hwx] at hx bx kx
  clear h6a b5 k6a h5 k5
  have htx : t.b < wx.heap.size := hx.blt
  have hxn := hx.next
  have hf0 := hT.fold0
  have cx2 : wx.cell? ⟨t.b, 2, none⟩ = some (.int .i64 fold) := hx.blk.cell 2
  have fx2 : wx.frozen? ⟨t.b, 2, none⟩ = false := hx.blk.frozen 2
  have hf6 : 0 ≤ fold ∧ fold ≤ (((st.next + 3) : Nat) : Int) := by omega
  have h6 := hx.setFold fold hf6
  have b6 := bx.setCell_other (p := ⟨t.b, 2, none⟩) (show w.heap.size ≠ t.b by omega) (.int .i64 fold)
  have k6 := kx.trans ((own1 (w := wx) (t := t) 2 (.int .i64 fold)).mono (fun i hi => Or.inl hi))
  go_wp2_with fail
  rw [show (⟨#[98, 97, 114, 101]⟩ : ByteArray) = sBare from rfl, show ((st.next : Int) + 2 + 1) = (st.next : Int) + 3 from by omega, ← hwx]
  clear hwx
  refine (hA _ t _ _ _ _ h6 (by show g.rs.length - (st.next + 3) < k; omega) (by rw [HS.out]; exact a2)).mono ?_
  rw [HS.out]
  rintro e w7 ⟨b7, vn7, nl7, rfl, h7, q2, q3, q4⟩
  have hv7 : ∀ i, vn7.ownBlock = some i → i < w7.heap.size := fun i hi => (ownsRow_block h7.names hi).2
  have b7' := b6.kept q3 (by rintro (e | e); · omega
                             · rcases hva _ e with h | h
                               · have := hvn _ h; omega
                               · omega)
  have s7 := q3.size
  rw [size_set] at s7
  have sx := bx.lt
  have hX := h7.next
  have hxl := lt_of_see (g := g) (st := X.1) (by intro e; rw [e, inSet_end] at a1; exact absurd a1 (by simp))
  have hf7 := h7.fold0
  have c74 : w7.cell? ⟨w.heap.size, 4, none⟩ = some (.slice none 0 0) := b7'.cell 4
  have f74 : w7.frozen? ⟨w.heap.size, 4, none⟩ = false := b7'.frozen 4
  have c72 : w7.cell? ⟨t.b, 2, none⟩ = some (.int .i64 fold) := h7.blk.cell 2
  have f72 : w7.frozen? ⟨t.b, 2, none⟩ = false := h7.blk.frozen 2
  have c71 : w7.cell? ⟨t.b, 1, none⟩ = some (.int .i64 X.1.next) := h7.blk.cell 1
  have f71 : w7.frozen? ⟨t.b, 1, none⟩ = false := h7.blk.frozen 1
  have htb7 := h7.blt
  have hnb7 := b7'.lt
  have hX300 : X.1.next ≤ 300 := by omega
  have k8 : Kept (fun i => i = w.heap.size) w7 (w7.setCell ⟨w.heap.size, 4, none⟩ (.slice (some ⟨w7.heap.size, 0, none⟩) 1 1)) := (Kept.refl (fun i => i = w.heap.size) w7).setCell (p := ⟨w.heap.size, 4, none⟩) (Or.inl rfl) _
  have h8 := h7.new hT k8 (fun i hi => by omega) (fun b hb hx => by
    rcases q4 b hb with h | h
    · rcases hva b h with h | h
      · have := hvn b h; omega
      · omega
    · rw [size_set] at h; omega)
  have h9 := ((h8.setFold fold (by omega)).step (by omega)).nil ((Kept.refl Nil _).alloc (.cells #[.pointer (some ⟨b7, 0, none⟩)] 25))
  have k9 : Kept (fun i => i = t.b ∨ i = w.heap.size) w7 _ := (((k8.mono (fun i hi => Or.inr hi)).trans ((own1 (t := t) 2 (.int .i64 fold)).mono (fun i hi => Or.inl hi))).trans ((own1 (t := t) 1 (.int .i64 ((X.1.next : Int) + 1))).mono (fun i hi => Or.inl hi))).alloc (.cells #[.pointer (some ⟨b7, 0, none⟩)] 25)
  have b9 := (((b7'.setCell 4 (.slice (some ⟨w7.heap.size, 0, none⟩) 1 1)).setCell_other (p := ⟨t.b, 2, none⟩) (show w.heap.size ≠ t.b by omega) (.int .i64 fold)).setCell_other (p := ⟨t.b, 1, none⟩) (show w.heap.size ≠ t.b by omega) (.int .i64 ((X.1.next : Int) + 1))).alloc (.cells #[.pointer (some ⟨b7, 0, none⟩)] 25)
  have bk9 : Blk ((((w7.setCell ⟨w.heap.size, 4, none⟩ (.slice (some ⟨w7.heap.size, 0, none⟩) 1 1)).setCell ⟨t.b, 2, none⟩ (.int .i64 fold)).setCell ⟨t.b, 1, none⟩ (.int .i64 ((X.1.next : Int) + 1))).alloc (.cells #[.pointer (some ⟨b7, 0, none⟩)] 25)) w7.heap.size #[.pointer (some ⟨b7, 0, none⟩)] 25 := Blk.new' _ _ (by simp only [size_set])
  go_wp2_with fail
  go_ret
  rw [HR.out]
  exact bracket_node (wa := wx.setCell ⟨t.b, 2, none⟩ (.int .i64 fold)) hT k6 rfl (by rw [size_set]; exact sx) hva q2 q3 q4 hv7 h9 k9 (bk9.cell 0) (Nat.le_refl _) b9 op_bare

set_option maxRecDepth 100000 in
set_option maxHeartbeats 4000000 in
/-- (?i: .. ) -/
theorem bracket_fold {w : World} {t : TG} {g : RG} {st : RS} {fold : Int} {vn : Value} {nl : List (List UInt8)} {k : Nat} (hA : AltT g k) (hT : TrAt w t g st fold vn nl) (hlt : st.next < t.l.length) (hrem : g.rs.length - st.next ≤ k)
    (hq : (seeOf g { st with next := st.next + 1 } == 63) = true) (hr : (seeOf g { st with next := st.next + 2 } == 105) = true) (hl4 : st.next + 3 < t.l.length) (hf : (pBracket g (pAlt g k) { st with next := st.next + 1 }).1.flt.form = none) :
    Calls Tryz.prog 47 #[.pointer (some ⟨t.b, 0, none⟩)] w (NdPost w t g fold vn (pBracket g (pAlt g k) { st with next := st.next + 1 }) (rBracket g (rAlt g k) fold { st with next := st.next + 1 })) := by
  have hl := hT.len
  have hlr := hT.lenr
  have htb := hT.blt
  obtain ⟨i0, hi0, hz0, hz1, hz2⟩ := info_parts Tryz.infoStr
  have hph : pHead g { st with next := st.next + 1 } = (⟨st.next + 4, st.flt, st.groups, st.names⟩ : RS) := by
    have hf' : (pHead g { st with next := st.next + 1 }).flt.form = none := pAlt_form g k _ (needSt_form hf).2.1
    unfold pHead at hf' ⊢
    rw [show inSet lQuery (seeOf g { st with next := st.next + 1 }) = (seeOf g { st with next := st.next + 1 } == 63) from inOne' 63 _, hq] at hf' ⊢
    simp only [Bool.true_eq_false, if_false] at hf' ⊢
    rw [show inSet lLess (seeOf g { st with next := st.next + 2 }) = (seeOf g { st with next := st.next + 2 } == 60) from inOne' 60 _] at hf' ⊢
    rw [beq_iff_eq.1 hr] at hf' ⊢
    simp only [show ((105 : Int) == 60) = false from rfl, Bool.false_eq_true, if_false] at hf' ⊢
    rw [(needSt_form hf').2.2]
    rw [show takeOf g lI { st with next := st.next + 2 } = { st with next := st.next + 3 } from by unfold takeOf; rw [if_pos (by rw [beq_iff_eq.1 hr]; decide)]]
  have HR : Hid (rBracket g (rAlt g k) fold { st with next := st.next + 1 } = .node sBare [] false false [rAlt g k (fold + 1) (⟨st.next + 4, st.flt, st.groups, st.names⟩ : RS)] 0 0 0 false) := by
    show _ = _
    unfold rBracket
    rw [if_neg (by rw [inQ, hq]; simp), if_neg (by show ¬ inSet lLess (seeOf g { st with next := st.next + 2 }) = true; rw [beq_iff_eq.1 hr]; decide), if_pos (by show inSet lI (seeOf g { st with next := st.next + 2 }) = true; rw [beq_iff_eq.1 hr]; decide), hph]
  unfold pBracket at hf ⊢
  rw [hph] at hf ⊢
  clear hph
  obtain ⟨a1, a2, a3⟩ := needSt_form hf
  rw [a3]
  clear a3 hf
  obtain ⟨X, hX⟩ : ∃ X, pAlt g k (⟨st.next + 4, st.flt, st.groups, st.names⟩ : RS) = X := ⟨_, rfl⟩
  rw [hX] at a1 a2 ⊢
  have HS : Hid (pAlt g k (⟨st.next + 4, st.flt, st.groups, st.names⟩ : RS) = X) := hX
  clear hX
  have c1 : w.cell? ⟨t.b, 1, none⟩ = some (.int .i64 st.next) := hT.blk.cell 1
  have f1 : w.frozen? ⟨t.b, 1, none⟩ = false := hT.blk.frozen 1
  have hgr := hT.groups
  go_enter Tryz.func47, Tryz.ntmps47
  go_wp2_with fail
  have h1 : TrAt ((w.setCell ⟨t.b, 1, none⟩ (.int .i64 ((st.next : Int) + 1))).alloc (bNode sGroup)) t g { st with next := st.next + 1 } fold vn nl := (hT.step hlt).nil ((Kept.refl _ _).alloc _)
  have k1 : Kept (fun i => i = t.b ∨ vn.ownBlock = some i) w ((w.setCell ⟨t.b, 1, none⟩ (.int .i64 ((st.next : Int) + 1))).alloc (bNode sGroup)) := ((own1 (w := w) (t := t) 1 (.int .i64 ((st.next : Int) + 1))).mono (fun i hi => Or.inl hi)).alloc _
  have b1 : Blk ((w.setCell ⟨t.b, 1, none⟩ (.int .i64 ((st.next : Int) + 1))).alloc (bNode sGroup)) w.heap.size (nodeCells sGroup (.slice none 0 0) false false (.slice none 0 0) 0 0 0 false) 77 := Blk.new' _ _ (by rw [size_set])
  refine (Tr_atL h1).mono ?_
  rintro e w2 ⟨rfl, h2, hk2⟩
  have k2 := k1.trans (hk2.mono (fun i hi => Or.inl hi))
  have b2 := b1.kept hk2 (by omega)
  have s2 := b2.lt
  clear h1 k1 b1 hk2 c1 f1
  have hvn : ∀ i, vn.ownBlock = some i → i < w.heap.size := fun i hi => (ownsRow_block hT.names hi).2
  have hnl : nl.length ≤ 300 := by have := hT.nrel.1; have := hT.next; omega
  have hl2 : st.next + 1 < t.l.length := by have := lt_of_see (g := g) (st := { st with next := st.next + 1 }) (by rw [beq_iff_eq.1 hq]; omega); simp at this; omega
  have c21 : w2.cell? ⟨t.b, 1, none⟩ = some (.int .i64 ((st.next : Int) + 1)) := by have := h2.blk.cell 1; simpa using this
  have f21 : w2.frozen? ⟨t.b, 1, none⟩ = false := h2.blk.frozen 1
  have h3 : TrAt (w2.setCell ⟨t.b, 1, none⟩ (.int .i64 ((st.next : Int) + 2))) t g { st with next := st.next + 2 } fold vn nl := by
    have := h2.setNext (st.next + 2) (by omega) (by simp)
    simpa using this
  have b3 := b2.setCell_other (p := ⟨t.b, 1, none⟩) (show w.heap.size ≠ t.b by omega) (.int .i64 ((st.next : Int) + 2))
  have k3 := k2.trans ((own1 (w := w2) (t := t) 1 (.int .i64 ((st.next : Int) + 2))).mono (fun i hi => Or.inl hi))
  clear c21 f21
  have c21 : w2.cell? ⟨t.b, 1, none⟩ = some (.int .i64 ((st.next : Int) + 1)) := by have := h2.blk.cell 1; simpa using this
  have f21 : w2.frozen? ⟨t.b, 1, none⟩ = false := h2.blk.frozen 1
  go_wp2_with fail
  refine (Tr_atL h3).mono ?_
  rintro e w4 ⟨rfl, h4, hk4⟩
  have b4 := b3.kept hk4 (by omega)
  have k4 := k3.trans (hk4.mono (fun i hi => Or.inl hi))
  clear c21 f21 h3 b3 k3 hk4
  have hl3 : st.next + 2 < t.l.length := by have := lt_of_see (g := g) (st := { st with next := st.next + 2 }) (by rw [beq_iff_eq.1 hr]; omega); simp at this; omega
  have c41 : w4.cell? ⟨t.b, 1, none⟩ = some (.int .i64 ((st.next : Int) + 2)) := by have := h4.blk.cell 1; simpa using this
  have f41 : w4.frozen? ⟨t.b, 1, none⟩ = false := h4.blk.frozen 1
  have c40 : w4.cell? ⟨w.heap.size, 0, none⟩ = some (.string ⟨#[103, 114, 111, 117, 112]⟩) := b4.cell 0
  have f40 : w4.frozen? ⟨w.heap.size, 0, none⟩ = false := b4.frozen 0
  have h5 : TrAt (w4.setCell ⟨t.b, 1, none⟩ (.int .i64 ((st.next : Int) + 3))) t g { st with next := st.next + 3 } fold vn nl := by
    have := h4.setNext (st.next + 3) (by omega) (by simp)
    simpa using this
  have b5 := (b4.setCell_other (p := ⟨t.b, 1, none⟩) (show w.heap.size ≠ t.b by omega) (.int .i64 ((st.next : Int) + 3))).setCell 0 (.string sBare)
  have k5 : Kept (fun i => i = w.heap.size) (w4.setCell ⟨t.b, 1, none⟩ (.int .i64 ((st.next : Int) + 3))) ((w4.setCell ⟨t.b, 1, none⟩ (.int .i64 ((st.next : Int) + 3))).setCell ⟨w.heap.size, 0, none⟩ (.string sBare)) := (Kept.refl (fun i => i = w.heap.size) _).setCell (p := ⟨w.heap.size, 0, none⟩) (Or.inl rfl) _
  have h6a := h5.new hT k5 (fun i hi => by omega) (fun b hb hx => by have := hvn b hb; omega)
  have k6a := (k4.trans ((own1 (w := w4) (t := t) 1 (.int .i64 ((st.next : Int) + 3))).mono (fun i hi => Or.inl hi))).trans' k5 (fun i hi he => by omega)
  have hva : ∀ i, vn.ownBlock = some i → vn.ownBlock = some i ∨ w.heap.size < i := fun i hi => Or.inl hi
  have c42 : w4.cell? ⟨t.b, 2, none⟩ = some (.int .i64 fold) := h4.blk.cell 2
  have f42 : w4.frozen? ⟨t.b, 2, none⟩ = false := h4.blk.frozen 2
  have htb4 := h4.blt
  have hnb4 := b4.lt
  clear k4 b4 h4
  have h7a : TrAt (((w4.setCell ⟨t.b, 1, none⟩ (.int .i64 ((st.next : Int) + 3))).setCell ⟨w.heap.size, 0, none⟩ (.string sBare)).setCell ⟨t.b, 1, none⟩ (.int .i64 ((st.next : Int) + 4))) t g { st with next := st.next + 4 } fold vn nl := by
    have := h6a.setNext (st.next + 4) (by omega) (by simp)
    simpa using this
  have b7a := b5.setCell_other (p := ⟨t.b, 1, none⟩) (show w.heap.size ≠ t.b by omega) (.int .i64 ((st.next : Int) + 4))
  have k7a := k6a.trans ((own1 (w := ((w4.setCell ⟨t.b, 1, none⟩ (.int .i64 ((st.next : Int) + 3))).setCell ⟨w.heap.size, 0, none⟩ (.string sBare))) (t := t) 1 (.int .i64 ((st.next : Int) + 4))).mono (fun i hi => Or.inl hi))
  obtain ⟨wx, hwx⟩ : ∃ wx, wx = ((w4.setCell ⟨t.b, 1, none⟩ (.int .i64 ((st.next : Int) + 3))).setCell ⟨w.heap.size, 0, none⟩ (.string sBare)).setCell ⟨t.b, 1, none⟩ (.int .i64 ((st.next : Int) + 4)) := ⟨_, rfl⟩
  have hx := h7a
  have bx := b7a
  have kx := k7a
  rw [← hwx] at hx bx kx
  clear h6a b5 k6a h5 k5 h7a b7a k7a
  have htx : t.b < wx.heap.size := hx.blt
  have hxn := hx.next
  have hf0 := hT.fold0
  have cx2 : wx.cell? ⟨t.b, 2, none⟩ = some (.int .i64 fold) := hx.blk.cell 2
  have fx2 : wx.frozen? ⟨t.b, 2, none⟩ = false := hx.blk.frozen 2
  have hf6 : 0 ≤ (fold + 1) ∧ (fold + 1) ≤ (((st.next + 4) : Nat) : Int) := by omega
  have h6 := hx.setFold (fold + 1) hf6
  have b6 := bx.setCell_other (p := ⟨t.b, 2, none⟩) (show w.heap.size ≠ t.b by omega) (.int .i64 (fold + 1))
  have k6 := kx.trans ((own1 (w := wx) (t := t) 2 (.int .i64 (fold + 1))).mono (fun i hi => Or.inl hi))
  go_wp2_with fail
  rw [show (⟨#[98, 97, 114, 101]⟩ : ByteArray) = sBare from rfl, show ((st.next : Int) + 2 + 1 + 1) = (st.next : Int) + 4 from by omega, show ((st.next : Int) + 2 + 1) = (st.next : Int) + 3 from by omega, ← hwx]
  clear hwx
  refine (hA _ t _ _ _ _ h6 (by show g.rs.length - (st.next + 4) < k; omega) (by rw [HS.out]; exact a2)).mono ?_
  rw [HS.out]
  rintro e w7 ⟨b7, vn7, nl7, rfl, h7, q2, q3, q4⟩
  have hv7 : ∀ i, vn7.ownBlock = some i → i < w7.heap.size := fun i hi => (ownsRow_block h7.names hi).2
  have b7' := b6.kept q3 (by rintro (e | e); · omega
                             · rcases hva _ e with h | h
                               · have := hvn _ h; omega
                               · omega)
  have s7 := q3.size
  rw [size_set] at s7
  have sx := bx.lt
  have hX := h7.next
  have hxl := lt_of_see (g := g) (st := X.1) (by intro e; rw [e, inSet_end] at a1; exact absurd a1 (by simp))
  have hf7 := h7.fold0
  have c74 : w7.cell? ⟨w.heap.size, 4, none⟩ = some (.slice none 0 0) := b7'.cell 4
  have f74 : w7.frozen? ⟨w.heap.size, 4, none⟩ = false := b7'.frozen 4
  have c72 : w7.cell? ⟨t.b, 2, none⟩ = some (.int .i64 (fold + 1)) := h7.blk.cell 2
  have f72 : w7.frozen? ⟨t.b, 2, none⟩ = false := h7.blk.frozen 2
  have c71 : w7.cell? ⟨t.b, 1, none⟩ = some (.int .i64 X.1.next) := h7.blk.cell 1
  have f71 : w7.frozen? ⟨t.b, 1, none⟩ = false := h7.blk.frozen 1
  have htb7 := h7.blt
  have hnb7 := b7'.lt
  have hX300 : X.1.next ≤ 300 := by omega
  have k8 : Kept (fun i => i = w.heap.size) w7 (w7.setCell ⟨w.heap.size, 4, none⟩ (.slice (some ⟨w7.heap.size, 0, none⟩) 1 1)) := (Kept.refl (fun i => i = w.heap.size) w7).setCell (p := ⟨w.heap.size, 4, none⟩) (Or.inl rfl) _
  have h8 := h7.new hT k8 (fun i hi => by omega) (fun b hb hx => by
    rcases q4 b hb with h | h
    · rcases hva b h with h | h
      · have := hvn b h; omega
      · omega
    · rw [size_set] at h; omega)
  have h9 := ((h8.setFold fold (by omega)).step (by omega)).nil ((Kept.refl Nil _).alloc (.cells #[.pointer (some ⟨b7, 0, none⟩)] 25))
  have k9 : Kept (fun i => i = t.b ∨ i = w.heap.size) w7 _ := (((k8.mono (fun i hi => Or.inr hi)).trans ((own1 (t := t) 2 (.int .i64 fold)).mono (fun i hi => Or.inl hi))).trans ((own1 (t := t) 1 (.int .i64 ((X.1.next : Int) + 1))).mono (fun i hi => Or.inl hi))).alloc (.cells #[.pointer (some ⟨b7, 0, none⟩)] 25)
  have b9 := (((b7'.setCell 4 (.slice (some ⟨w7.heap.size, 0, none⟩) 1 1)).setCell_other (p := ⟨t.b, 2, none⟩) (show w.heap.size ≠ t.b by omega) (.int .i64 fold)).setCell_other (p := ⟨t.b, 1, none⟩) (show w.heap.size ≠ t.b by omega) (.int .i64 ((X.1.next : Int) + 1))).alloc (.cells #[.pointer (some ⟨b7, 0, none⟩)] 25)
  have bk9 : Blk ((((w7.setCell ⟨w.heap.size, 4, none⟩ (.slice (some ⟨w7.heap.size, 0, none⟩) 1 1)).setCell ⟨t.b, 2, none⟩ (.int .i64 fold)).setCell ⟨t.b, 1, none⟩ (.int .i64 ((X.1.next : Int) + 1))).alloc (.cells #[.pointer (some ⟨b7, 0, none⟩)] 25)) w7.heap.size #[.pointer (some ⟨b7, 0, none⟩)] 25 := Blk.new' _ _ (by simp only [size_set])
  go_wp2_with fail
  go_ret
  rw [HR.out]
  exact bracket_node (wa := wx.setCell ⟨t.b, 2, none⟩ (.int .i64 (fold + 1))) hT k6 rfl (by rw [size_set]; exact sx) hva q2 q3 q4 hv7 h9 k9 (bk9.cell 0) (Nat.le_refl _) b9 op_bare

end Go.Proofs.YtagehbmipookbaaGreatDoor
