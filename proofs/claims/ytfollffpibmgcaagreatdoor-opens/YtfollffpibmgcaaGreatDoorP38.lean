/- The reference's tree: times, but for numbers in braces. -/
import Derived.Test.YtfollffpibmgcaaGreatDoorP37
namespace Go.Proofs.YtfollffpibmgcaaGreatDoor
open Go.RowKit
set_option linter.unusedVariables false
set_option maxRecDepth 100000
theorem times_node {w w1 w' : World} {t : TG} {g : RG} {st1 st' : RS} {fold : Int} {vn vn1 : Value} {nl1 : List (List UInt8)} {b1 nb kb cap : Nat} {A : PT} {RA : RT} {l h : Int} {lz : Bool}
  (h1 : TrAt w1 t g st1 fold vn1 nl1) (q2 : NdAt w1 (Fr w.heap.size w1.heap.size vn1) b1 A RA) (q3 : Kept (fun i => i = t.b ∨ vn.ownBlock = some i) w w1) (q4 : ∀ i, vn1.ownBlock = some i → vn.ownBlock = some i ∨ w.heap.size ≤ i)
  (h' : TrAt w' t g st' fold vn1 nl1) (k : Kept (fun i => i = t.b) w1 w') (hb : t.b < w.heap.size)
  (hkid : w'.cell? ⟨kb, 0, none⟩ = some (.pointer (some ⟨b1, 0, none⟩))) (hkb : w1.heap.size ≤ kb)
  (hblk : Blk w' nb (nodeCells sTimes (.slice none 0 0) false false (.slice (some ⟨kb, 0, none⟩) 1 cap) 0 l h lz) 126) (hnb : w1.heap.size ≤ nb) (hl : -1 ≤ l ∧ l ≤ 99) (hh : -1 ≤ h ∧ h ≤ 99) :
  NdPost w t g fold vn (st', .node 4 [A] l h) (rTimes RA l h lz) (.returned (.pointer (some ⟨nb, 0, none⟩))) w' := by
 have hs1 := q3.size
 have hs2 := k.size
 have hv : ∀ i, vn1.ownBlock = some i → i < w1.heap.size := fun i hi => (ownsRow_block h1.names hi).2
 have fr : ∀ i, w1.heap.size ≤ i → i < w'.heap.size → Fr w.heap.size w'.heap.size vn1 i := fun i h1 h2 => ⟨by omega, h2, fun e => by have := hv i e; omega⟩
 refine ⟨nb, vn1, nl1, rfl, h', ?_, ?_, q4⟩
 ·refine NdAt.mk nb sTimes [] none 0 0 false false lz 0 l h 4 l h (some ⟨kb, 0, none⟩) cap kb [A] [RA] (fun _ => b1) hblk (fr nb hnb hblk.lt) (Or.inr (Or.inr (Or.inl ⟨rfl, rfl⟩))) (fun _ => ⟨rfl, rfl⟩) (fun _ => ⟨rfl, fr kb hkb (cell_lt hkid)⟩) (fun i hi => ?_) rfl (fun i hi hi2 => ?_) ⟨hl, hh, by simp, by omega⟩ (SpOf.nil _ _)
  ·have : i = 0 := by simp at hi; omega
   subst this; exact hkid
  ·have : i = 0 := by simp at hi; omega
   subst this
   exact (q2.kept k (fun i hi e => by have := hi.1; omega)).widen (fun i hi _ => ⟨hi.1, by have := hi.2.1; omega, hi.2.2⟩)
 ·exact q3.trans (k.mono (fun i hi => Or.inl hi))
theorem inQ (r : Int) : inSet lQuery r = (r == 63) := inOne' 63 r
theorem takeQ {g : RG} {st : RS} (h : (seeOf g st == 63) = true) : takeOf g lQuery st = { st with next := st.next + 1 } := by
 unfold takeOf; rw [if_pos (by rw [show lQuery = [63] from rfl, inOne']; exact h)]
theorem takeNQ {g : RG} {st : RS} (h : (seeOf g st == 63) = false) : takeOf g lQuery st = st := by
 unfold takeOf; rw [if_neg (by rw [show lQuery = [63] from rfl, inOne', show ((63 : UInt8).toNat : Int) = 63 from rfl, h]; simp)]
abbrev timesRest (w1 : World) (b1 : Nat) : World := (w1.alloc (.cells #[.pointer (some ⟨b1, 0, none⟩)] 33)).alloc (.cells (nodeCells sTimes (.slice none 0 0) false false (.slice (some ⟨w1.heap.size, 0, none⟩) 1 1) 0 0 (-1) false) 126)
theorem times_none {w : World} {t : TG} {g : RG} {st st1 : RS} {A : PT} {RA : RT} {fold : Int} {vn : Value} {nl : List (List UInt8)} (hT : TrAt w t g st fold vn nl) (hAt : Calls Tryz.prog 73 #[.pointer (some ⟨t.b, 0, none⟩)] w (NdPost w t g fold vn (st1, A) RA))
  (n1 : (seeOf g st1 == 42) = false) (n2 : (seeOf g st1 == 43) = false) (n3 : (seeOf g st1 == 63) = false) (n4 : (seeOf g st1 == 123) = false) :
  Calls Tryz.prog 47 #[.pointer (some ⟨t.b, 0, none⟩)] w (NdPost w t g fold vn (st1, A) RA) := by
 have htb := hT.blt
 go_enter Tryz.func47, Tryz.ntmps47
 go_wp2_with fail
 refine hAt.mono ?_
 rintro e w1 ⟨b1, vn1, nl1, rfl, h1, q2, q3, q4⟩
 have hl := h1.len
 have hlr := h1.lenr
 have hs1 := q3.size
 have ka : Kept (fun i => i = t.b) w1 (timesRest w1 b1) := ((Kept.refl _ _).alloc _).alloc _
 have ha : TrAt (timesRest w1 b1) t g st1 fold vn1 nl1 := h1.nil (((Kept.refl _ _).alloc _).alloc _)
 have ba : Blk (timesRest w1 b1) (w1.heap.size + 1) (nodeCells sTimes (.slice none 0 0) false false (.slice (some ⟨w1.heap.size, 0, none⟩) 1 1) 0 0 (-1) false) 126 := Blk.new' _ _ (by rw [size_alloc1])
 have bk : Blk (timesRest w1 b1) w1.heap.size #[.pointer (some ⟨b1, 0, none⟩)] 33 := (Blk.new w1 _ _).alloc _
 go_wp2_with fail
 refine (Tr_atL ha).mono ?_
 rintro e w3 ⟨rfl, h3, hk3⟩
 have b3 := ba.kept hk3 (by omega)
 have bk3 := bk.kept hk3 (by omega)
 have k3 := ka.trans hk3
 have s3 := k3.size
 go_wp2_with fail
 go_ret
 exact ⟨b1, vn1, nl1, rfl, h3, (q2.kept k3 (fun i hi e => by have := hi.1; omega)).widen (fun i hi _ => ⟨hi.1, by have := hi.2.1; omega, hi.2.2⟩), q3.trans (k3.mono (fun i hi => Or.inl hi)), q4⟩
theorem times_star {w : World} {t : TG} {g : RG} {st st1 : RS} {A : PT} {RA : RT} {fold : Int} {vn : Value} {nl : List (List UInt8)} (hT : TrAt w t g st fold vn nl) (hAt : Calls Tryz.prog 73 #[.pointer (some ⟨t.b, 0, none⟩)] w (NdPost w t g fold vn (st1, A) RA))
  (HS : (seeOf g st1 == 42) = true) :
  Calls Tryz.prog 47 #[.pointer (some ⟨t.b, 0, none⟩)] w (NdPost w t g fold vn (takeOf g lQuery { st1 with next := st1.next + 1 }, .node 4 [A] 0 (-1)) (rTimes RA 0 (-1) (inSet lQuery (seeOf g { st1 with next := st1.next + 1 })))) := by
 have hlt1 : st1.next < g.rs.length := lt_of_see (by intro e; rw [e] at HS; exact absurd HS (by decide))
 have htb := hT.blt
 go_enter Tryz.func47, Tryz.ntmps47
 go_wp2_with fail
 refine hAt.mono ?_
 rintro e w1 ⟨b1, vn1, nl1, rfl, h1, q2, q3, q4⟩
 have hl := h1.len
 have hlr := h1.lenr
 have hs1 := q3.size
 have ka : Kept (fun i => i = t.b) w1 (timesRest w1 b1) := ((Kept.refl _ _).alloc _).alloc _
 have ha : TrAt (timesRest w1 b1) t g st1 fold vn1 nl1 := h1.nil (((Kept.refl _ _).alloc _).alloc _)
 have ba : Blk (timesRest w1 b1) (w1.heap.size + 1) (nodeCells sTimes (.slice none 0 0) false false (.slice (some ⟨w1.heap.size, 0, none⟩) 1 1) 0 0 (-1) false) 126 := Blk.new' _ _ (by rw [size_alloc1])
 have bk : Blk (timesRest w1 b1) w1.heap.size #[.pointer (some ⟨b1, 0, none⟩)] 33 := (Blk.new w1 _ _).alloc _
 go_wp2_with fail
 refine (Tr_atL ha).mono ?_
 rintro e w3 ⟨rfl, h3, hk3⟩
 have b3 := ba.kept hk3 (by omega)
 have bk3 := bk.kept hk3 (by omega)
 have k3 := ka.trans hk3
 have s3 := k3.size
 have c31 : w3.cell? ⟨t.b, 1, none⟩ = some (.int .i64 st1.next) := h3.blk.cell 1
 have f31 : w3.frozen? ⟨t.b, 1, none⟩ = false := h3.blk.frozen 1
 have h4 := h3.step (by omega)
 have k4 := k3.trans (own1 (w := w3) (t := t) 1 (.int .i64 ((st1.next : Int) + 1)))
 have b4 := b3.setCell_other (p := ⟨t.b, 1, none⟩) (show w1.heap.size + 1 ≠ t.b by omega) (.int .i64 ((st1.next : Int) + 1))
 have bk4 := bk3.setCell_other (p := ⟨t.b, 1, none⟩) (show w1.heap.size ≠ t.b by omega) (.int .i64 ((st1.next : Int) + 1))
 clear hk3 ha ba bk
 go_wp2_with fail
 refine (Tr_atL h4).mono ?_
 rintro e w6 ⟨rfl, h6, hk6⟩
 have k6 := k4.trans hk6
 have b6 := b4.kept hk6 (by omega)
 have bk6 := bk4.kept hk6 (by omega)
 cases hq : (seeOf g { st1 with next := st1.next + 1 } == 63)
 ·go_wp2_with fail
  go_ret
  rw [takeNQ hq, inQ, hq]
  exact times_node h1 q2 q3 q4 h6 k6 htb (bk6.cell 0) (Nat.le_refl _) b6 (by omega) (by omega) (by omega)
 ·have hlt6 := lt_of_see (g := g) (st := { st1 with next := st1.next + 1 }) (by rw [beq_iff_eq.1 hq]; omega)
  simp only at hlt6
  have c61 : w6.cell? ⟨t.b, 1, none⟩ = some (.int .i64 ((st1.next : Int) + 1)) := by have := h6.blk.cell 1; simpa using this
  have f61 : w6.frozen? ⟨t.b, 1, none⟩ = false := h6.blk.frozen 1
  have c68 : w6.cell? ⟨w1.heap.size + 1, 8, none⟩ = some (.bool false) := b6.cell 8
  have f68 : w6.frozen? ⟨w1.heap.size + 1, 8, none⟩ = false := b6.frozen 8
  have h7 : TrAt (w6.setCell ⟨t.b, 1, none⟩ (.int .i64 ((st1.next : Int) + 2))) t g { st1 with next := st1.next + 2 } fold vn1 nl1 := by
   have := h6.setNext (st1.next + 2) (by omega) (by simp)
   simpa using this
  have kn7 : Kept (fun i => i = w1.heap.size + 1) (w6.setCell ⟨t.b, 1, none⟩ (.int .i64 ((st1.next : Int) + 2))) ((w6.setCell ⟨t.b, 1, none⟩ (.int .i64 ((st1.next : Int) + 2))).setCell ⟨w1.heap.size + 1, 8, none⟩ (.bool true)) := (Kept.refl (fun i => i = w1.heap.size + 1) _).setCell (p := ⟨w1.heap.size + 1, 8, none⟩) (Or.inl rfl) _
  have h8 := h7.new h1 kn7 (fun i hi => by omega) (fun b hb hx => by have := (ownsRow_block h1.names hb).2; omega)
  have k8 := (k6.trans (own1 (w := w6) (t := t) 1 (.int .i64 ((st1.next : Int) + 2)))).trans' kn7 (fun i hi he => by omega)
  have b8 := (b6.setCell_other (p := ⟨t.b, 1, none⟩) (show w1.heap.size + 1 ≠ t.b by omega) (.int .i64 ((st1.next : Int) + 2))).setCell 8 (.bool true)
  have bk8 := (bk6.setCell_other (p := ⟨t.b, 1, none⟩) (show w1.heap.size ≠ t.b by omega) (.int .i64 ((st1.next : Int) + 2))).setCell_other (p := ⟨w1.heap.size + 1, 8, none⟩) (show w1.heap.size ≠ w1.heap.size + 1 by omega) (.bool true)
  go_wp2_with fail
  go_ret
  rw [takeQ hq, inQ, hq]
  exact times_node h1 q2 q3 q4 h8 k8 htb (bk8.cell 0) (Nat.le_refl _) b8 (by omega) (by omega) (by omega)
theorem times_plus {w : World} {t : TG} {g : RG} {st st1 : RS} {A : PT} {RA : RT} {fold : Int} {vn : Value} {nl : List (List UInt8)} (hT : TrAt w t g st fold vn nl) (hAt : Calls Tryz.prog 73 #[.pointer (some ⟨t.b, 0, none⟩)] w (NdPost w t g fold vn (st1, A) RA))
  (HS : (seeOf g st1 == 43) = true) (n1 : (seeOf g st1 == 42) = false) :
  Calls Tryz.prog 47 #[.pointer (some ⟨t.b, 0, none⟩)] w (NdPost w t g fold vn (takeOf g lQuery { st1 with next := st1.next + 1 }, .node 4 [A] 1 (-1)) (rTimes RA 1 (-1) (inSet lQuery (seeOf g { st1 with next := st1.next + 1 })))) := by
 have hlt1 : st1.next < g.rs.length := lt_of_see (by intro e; rw [e] at HS; exact absurd HS (by decide))
 have htb := hT.blt
 go_enter Tryz.func47, Tryz.ntmps47
 go_wp2_with fail
 refine hAt.mono ?_
 rintro e w1 ⟨b1, vn1, nl1, rfl, h1, q2, q3, q4⟩
 have hl := h1.len
 have hlr := h1.lenr
 have hs1 := q3.size
 have ka : Kept (fun i => i = t.b) w1 (timesRest w1 b1) := ((Kept.refl _ _).alloc _).alloc _
 have ha : TrAt (timesRest w1 b1) t g st1 fold vn1 nl1 := h1.nil (((Kept.refl _ _).alloc _).alloc _)
 have ba : Blk (timesRest w1 b1) (w1.heap.size + 1) (nodeCells sTimes (.slice none 0 0) false false (.slice (some ⟨w1.heap.size, 0, none⟩) 1 1) 0 0 (-1) false) 126 := Blk.new' _ _ (by rw [size_alloc1])
 have bk : Blk (timesRest w1 b1) w1.heap.size #[.pointer (some ⟨b1, 0, none⟩)] 33 := (Blk.new w1 _ _).alloc _
 go_wp2_with fail
 refine (Tr_atL ha).mono ?_
 rintro e w3 ⟨rfl, h3, hk3⟩
 have b3 := ba.kept hk3 (by omega)
 have bk3 := bk.kept hk3 (by omega)
 have k3 := ka.trans hk3
 have s3 := k3.size
 have c31 : w3.cell? ⟨t.b, 1, none⟩ = some (.int .i64 st1.next) := h3.blk.cell 1
 have f31 : w3.frozen? ⟨t.b, 1, none⟩ = false := h3.blk.frozen 1
 have h4 := h3.step (by omega)
 have k4 := k3.trans (own1 (w := w3) (t := t) 1 (.int .i64 ((st1.next : Int) + 1)))
 have b4 := b3.setCell_other (p := ⟨t.b, 1, none⟩) (show w1.heap.size + 1 ≠ t.b by omega) (.int .i64 ((st1.next : Int) + 1))
 have bk4 := bk3.setCell_other (p := ⟨t.b, 1, none⟩) (show w1.heap.size ≠ t.b by omega) (.int .i64 ((st1.next : Int) + 1))
 have c3n : w3.cell? ⟨w1.heap.size + 1, 6, none⟩ = some (.int .i64 0) := b3.cell 6
 have f3n : w3.frozen? ⟨w1.heap.size + 1, 6, none⟩ = false := b3.frozen 6
 have kn : Kept (fun i => i = w1.heap.size + 1) (w3.setCell ⟨t.b, 1, none⟩ (.int .i64 ((st1.next : Int) + 1))) ((w3.setCell ⟨t.b, 1, none⟩ (.int .i64 ((st1.next : Int) + 1))).setCell ⟨w1.heap.size + 1, 6, none⟩ (.int .i64 1)) := (Kept.refl (fun i => i = w1.heap.size + 1) _).setCell (p := ⟨w1.heap.size + 1, 6, none⟩) (Or.inl rfl) _
 have h5 := h4.new h1 kn (fun i hi => by omega) (fun b hb hx => by have := (ownsRow_block h1.names hb).2; omega)
 have k5 := k4.trans' kn (fun i hi he => by omega)
 have b5 := b4.setCell 6 (.int .i64 1)
 have bk5 := bk4.setCell_other (p := ⟨w1.heap.size + 1, 6, none⟩) (show w1.heap.size ≠ w1.heap.size + 1 by omega) (.int .i64 1)
 clear hk3 ha ba bk
 go_wp2_with fail
 refine (Tr_atL h5).mono ?_
 rintro e w6 ⟨rfl, h6, hk6⟩
 have k6 := k5.trans hk6
 have b6 := b5.kept hk6 (by omega)
 have bk6 := bk5.kept hk6 (by omega)
 cases hq : (seeOf g { st1 with next := st1.next + 1 } == 63)
 ·go_wp2_with fail
  go_ret
  rw [takeNQ hq, inQ, hq]
  exact times_node h1 q2 q3 q4 h6 k6 htb (bk6.cell 0) (Nat.le_refl _) b6 (by omega) (by omega) (by omega)
 ·have hlt6 := lt_of_see (g := g) (st := { st1 with next := st1.next + 1 }) (by rw [beq_iff_eq.1 hq]; omega)
  simp only at hlt6
  have c61 : w6.cell? ⟨t.b, 1, none⟩ = some (.int .i64 ((st1.next : Int) + 1)) := by have := h6.blk.cell 1; simpa using this
  have f61 : w6.frozen? ⟨t.b, 1, none⟩ = false := h6.blk.frozen 1
  have c68 : w6.cell? ⟨w1.heap.size + 1, 8, none⟩ = some (.bool false) := b6.cell 8
  have f68 : w6.frozen? ⟨w1.heap.size + 1, 8, none⟩ = false := b6.frozen 8
  have h7 : TrAt (w6.setCell ⟨t.b, 1, none⟩ (.int .i64 ((st1.next : Int) + 2))) t g { st1 with next := st1.next + 2 } fold vn1 nl1 := by
   have := h6.setNext (st1.next + 2) (by omega) (by simp)
   simpa using this
  have kn7 : Kept (fun i => i = w1.heap.size + 1) (w6.setCell ⟨t.b, 1, none⟩ (.int .i64 ((st1.next : Int) + 2))) ((w6.setCell ⟨t.b, 1, none⟩ (.int .i64 ((st1.next : Int) + 2))).setCell ⟨w1.heap.size + 1, 8, none⟩ (.bool true)) := (Kept.refl (fun i => i = w1.heap.size + 1) _).setCell (p := ⟨w1.heap.size + 1, 8, none⟩) (Or.inl rfl) _
  have h8 := h7.new h1 kn7 (fun i hi => by omega) (fun b hb hx => by have := (ownsRow_block h1.names hb).2; omega)
  have k8 := (k6.trans (own1 (w := w6) (t := t) 1 (.int .i64 ((st1.next : Int) + 2)))).trans' kn7 (fun i hi he => by omega)
  have b8 := (b6.setCell_other (p := ⟨t.b, 1, none⟩) (show w1.heap.size + 1 ≠ t.b by omega) (.int .i64 ((st1.next : Int) + 2))).setCell 8 (.bool true)
  have bk8 := (bk6.setCell_other (p := ⟨t.b, 1, none⟩) (show w1.heap.size ≠ t.b by omega) (.int .i64 ((st1.next : Int) + 2))).setCell_other (p := ⟨w1.heap.size + 1, 8, none⟩) (show w1.heap.size ≠ w1.heap.size + 1 by omega) (.bool true)
  go_wp2_with fail
  go_ret
  rw [takeQ hq, inQ, hq]
  exact times_node h1 q2 q3 q4 h8 k8 htb (bk8.cell 0) (Nat.le_refl _) b8 (by omega) (by omega) (by omega)
theorem times_query {w : World} {t : TG} {g : RG} {st st1 : RS} {A : PT} {RA : RT} {fold : Int} {vn : Value} {nl : List (List UInt8)} (hT : TrAt w t g st fold vn nl) (hAt : Calls Tryz.prog 73 #[.pointer (some ⟨t.b, 0, none⟩)] w (NdPost w t g fold vn (st1, A) RA))
  (HS : (seeOf g st1 == 63) = true) (n1 : (seeOf g st1 == 42) = false) (n2 : (seeOf g st1 == 43) = false) :
  Calls Tryz.prog 47 #[.pointer (some ⟨t.b, 0, none⟩)] w (NdPost w t g fold vn (takeOf g lQuery { st1 with next := st1.next + 1 }, .node 4 [A] 0 1) (rTimes RA 0 1 (inSet lQuery (seeOf g { st1 with next := st1.next + 1 })))) := by
 have hlt1 : st1.next < g.rs.length := lt_of_see (by intro e; rw [e] at HS; exact absurd HS (by decide))
 have htb := hT.blt
 go_enter Tryz.func47, Tryz.ntmps47
 go_wp2_with fail
 refine hAt.mono ?_
 rintro e w1 ⟨b1, vn1, nl1, rfl, h1, q2, q3, q4⟩
 have hl := h1.len
 have hlr := h1.lenr
 have hs1 := q3.size
 have ka : Kept (fun i => i = t.b) w1 (timesRest w1 b1) := ((Kept.refl _ _).alloc _).alloc _
 have ha : TrAt (timesRest w1 b1) t g st1 fold vn1 nl1 := h1.nil (((Kept.refl _ _).alloc _).alloc _)
 have ba : Blk (timesRest w1 b1) (w1.heap.size + 1) (nodeCells sTimes (.slice none 0 0) false false (.slice (some ⟨w1.heap.size, 0, none⟩) 1 1) 0 0 (-1) false) 126 := Blk.new' _ _ (by rw [size_alloc1])
 have bk : Blk (timesRest w1 b1) w1.heap.size #[.pointer (some ⟨b1, 0, none⟩)] 33 := (Blk.new w1 _ _).alloc _
 go_wp2_with fail
 refine (Tr_atL ha).mono ?_
 rintro e w3 ⟨rfl, h3, hk3⟩
 have b3 := ba.kept hk3 (by omega)
 have bk3 := bk.kept hk3 (by omega)
 have k3 := ka.trans hk3
 have s3 := k3.size
 have c31 : w3.cell? ⟨t.b, 1, none⟩ = some (.int .i64 st1.next) := h3.blk.cell 1
 have f31 : w3.frozen? ⟨t.b, 1, none⟩ = false := h3.blk.frozen 1
 have h4 := h3.step (by omega)
 have k4 := k3.trans (own1 (w := w3) (t := t) 1 (.int .i64 ((st1.next : Int) + 1)))
 have b4 := b3.setCell_other (p := ⟨t.b, 1, none⟩) (show w1.heap.size + 1 ≠ t.b by omega) (.int .i64 ((st1.next : Int) + 1))
 have bk4 := bk3.setCell_other (p := ⟨t.b, 1, none⟩) (show w1.heap.size ≠ t.b by omega) (.int .i64 ((st1.next : Int) + 1))
 have c3n : w3.cell? ⟨w1.heap.size + 1, 7, none⟩ = some (.int .i64 (-1)) := b3.cell 7
 have f3n : w3.frozen? ⟨w1.heap.size + 1, 7, none⟩ = false := b3.frozen 7
 have kn : Kept (fun i => i = w1.heap.size + 1) (w3.setCell ⟨t.b, 1, none⟩ (.int .i64 ((st1.next : Int) + 1))) ((w3.setCell ⟨t.b, 1, none⟩ (.int .i64 ((st1.next : Int) + 1))).setCell ⟨w1.heap.size + 1, 7, none⟩ (.int .i64 1)) := (Kept.refl (fun i => i = w1.heap.size + 1) _).setCell (p := ⟨w1.heap.size + 1, 7, none⟩) (Or.inl rfl) _
 have h5 := h4.new h1 kn (fun i hi => by omega) (fun b hb hx => by have := (ownsRow_block h1.names hb).2; omega)
 have k5 := k4.trans' kn (fun i hi he => by omega)
 have b5 := b4.setCell 7 (.int .i64 1)
 have bk5 := bk4.setCell_other (p := ⟨w1.heap.size + 1, 7, none⟩) (show w1.heap.size ≠ w1.heap.size + 1 by omega) (.int .i64 1)
 clear hk3 ha ba bk
 go_wp2_with fail
 refine (Tr_atL h5).mono ?_
 rintro e w6 ⟨rfl, h6, hk6⟩
 have k6 := k5.trans hk6
 have b6 := b5.kept hk6 (by omega)
 have bk6 := bk5.kept hk6 (by omega)
 cases hq : (seeOf g { st1 with next := st1.next + 1 } == 63)
 ·go_wp2_with fail
  go_ret
  rw [takeNQ hq, inQ, hq]
  exact times_node h1 q2 q3 q4 h6 k6 htb (bk6.cell 0) (Nat.le_refl _) b6 (by omega) (by omega) (by omega)
 ·have hlt6 := lt_of_see (g := g) (st := { st1 with next := st1.next + 1 }) (by rw [beq_iff_eq.1 hq]; omega)
  simp only at hlt6
  have c61 : w6.cell? ⟨t.b, 1, none⟩ = some (.int .i64 ((st1.next : Int) + 1)) := by have := h6.blk.cell 1; simpa using this
  have f61 : w6.frozen? ⟨t.b, 1, none⟩ = false := h6.blk.frozen 1
  have c68 : w6.cell? ⟨w1.heap.size + 1, 8, none⟩ = some (.bool false) := b6.cell 8
  have f68 : w6.frozen? ⟨w1.heap.size + 1, 8, none⟩ = false := b6.frozen 8
  have h7 : TrAt (w6.setCell ⟨t.b, 1, none⟩ (.int .i64 ((st1.next : Int) + 2))) t g { st1 with next := st1.next + 2 } fold vn1 nl1 := by
   have := h6.setNext (st1.next + 2) (by omega) (by simp)
   simpa using this
  have kn7 : Kept (fun i => i = w1.heap.size + 1) (w6.setCell ⟨t.b, 1, none⟩ (.int .i64 ((st1.next : Int) + 2))) ((w6.setCell ⟨t.b, 1, none⟩ (.int .i64 ((st1.next : Int) + 2))).setCell ⟨w1.heap.size + 1, 8, none⟩ (.bool true)) := (Kept.refl (fun i => i = w1.heap.size + 1) _).setCell (p := ⟨w1.heap.size + 1, 8, none⟩) (Or.inl rfl) _
  have h8 := h7.new h1 kn7 (fun i hi => by omega) (fun b hb hx => by have := (ownsRow_block h1.names hb).2; omega)
  have k8 := (k6.trans (own1 (w := w6) (t := t) 1 (.int .i64 ((st1.next : Int) + 2)))).trans' kn7 (fun i hi he => by omega)
  have b8 := (b6.setCell_other (p := ⟨t.b, 1, none⟩) (show w1.heap.size + 1 ≠ t.b by omega) (.int .i64 ((st1.next : Int) + 2))).setCell 8 (.bool true)
  have bk8 := (bk6.setCell_other (p := ⟨t.b, 1, none⟩) (show w1.heap.size ≠ t.b by omega) (.int .i64 ((st1.next : Int) + 2))).setCell_other (p := ⟨w1.heap.size + 1, 8, none⟩) (show w1.heap.size ≠ w1.heap.size + 1 by omega) (.bool true)
  go_wp2_with fail
  go_ret
  rw [takeQ hq, inQ, hq]
  exact times_node h1 q2 q3 q4 h8 k8 htb (bk8.cell 0) (Nat.le_refl _) b8 (by omega) (by omega) (by omega)
end Go.Proofs.YtfollffpibmgcaaGreatDoor
