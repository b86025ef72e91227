/- The reference's tree: atom. -/
import Derived.Test.YtfollffpibmgcaaGreatDoorP36
namespace Go.Proofs.YtfollffpibmgcaaGreatDoor
open Go.RowKit
set_option linter.unusedVariables false
set_option maxRecDepth 100000
theorem inOne' (b : UInt8) (r : Int) : inSet [b] r = (r == (b.toNat : Int)) := by
 unfold inSet
 simp only [List.any_cons, List.any_nil, Bool.or_false]
 rw [Bool.eq_iff_iff]
 simp only [beq_iff_eq]
 exact ⟨fun h => h.symm, fun h => h.symm⟩
theorem singles_eq (r : Int) : inSet lSingles r = (r == 46 || r == 94 || r == 36) := by
 unfold inSet lSingles
 simp only [List.any_cons, List.any_nil, Bool.or_false]
 rw [Bool.eq_iff_iff]
 simp only [beq_iff_eq, Bool.or_eq_true]
 constructor
 ·rintro (h | h | h) <;> simp at h <;> omega
 ·rintro ((h | h) | h) <;> simp <;> omega
theorem op0 {op : ByteArray} (h1 : (op.data.toList == [115, 101, 113]) = false) (h2 : (op.data.toList == [97, 108, 116]) = false) (h3 : (op.data.toList == [116, 105, 109, 101, 115]) = false) : OpOf op 0 :=
 Or.inr (Or.inr (Or.inr ⟨Or.inl rfl, by rw [Lib.toList_data]; exact h1, by rw [Lib.toList_data]; exact h2, by rw [Lib.toList_data]; exact h3⟩))
theorem new_single {w w' : World} {t : TG} {g : RG} {st st' : RS} {fold : Int} {vn : Value} {nl : List (List UInt8)} (hT : TrAt w t g st fold vn nl) (h' : TrAt w' t g st' fold vn nl) {b : Nat} {op : ByteArray} {sp : List (Int × Int)} {aos : Option Addr} {caps bs : Nat} {nt fd : Bool}
  (hblk : Blk w' b (nodeCells op (.slice aos sp.length caps) nt fd (.slice none 0 0) 0 0 0 false) 126) (hlo : w.heap.size ≤ b) (hop : OpOf op 0) (hsp : SpOf w' (fun i => w.heap.size ≤ i) aos bs sp) (k : Kept (fun i => i = t.b) w w') : NdPost w t g fold vn (st', single) (rLeaf op sp nt fd) (.returned (.pointer (some ⟨b, 0, none⟩))) w' :=
 ⟨b, vn, nl, rfl, h', NdAt.single hblk ⟨hlo, hblk.lt, fun hb => by have := (ownsRow_block hT.names hb).2; omega⟩ hop (hsp.widen (fun i hi hlt => ⟨hi, hlt, fun hb => by have := (ownsRow_block hT.names hb).2; omega⟩)), k.mono (fun i hi => Or.inl hi), fun i hi => Or.inl hi⟩
theorem Blk.new' {w : World} {b : Nat} (cs : Array Value) (t : TypeId) (h : b = w.heap.size) : Blk (w.alloc (.cells cs t (0, 0))) b cs t := by subst h; exact Blk.new w cs t
theorem size_set (w : World) (p : Addr) (v : Value) : (w.setCell p v).heap.size = w.heap.size := by simp [World.setCell]
theorem op_rune : OpOf sRune 0 := op0 (by decide) (by decide) (by decide)
theorem atom_single {w : World} {t : TG} {g : RG} {st : RS} {fold : Int} {vn : Value} {nl : List (List UInt8)} (hT : TrAt w t g st fold vn nl) (hs : inSet lSingles (seeOf g st) = true) :
  Calls Tryz.prog 73 #[.pointer (some ⟨t.b, 0, none⟩)] w (NdPost w t g fold vn ({ st with next := st.next + 1 }, single) (rSingle (seeOf g st))) := by
 have hl := hT.len
 have hlr := hT.lenr
 have hlt := seeOf_lt hs
 have c1 : w.cell? ⟨t.b, 1, none⟩ = some (.int .i64 st.next) := hT.blk.cell 1
 rw [singles_eq] at hs
 have hn40 : (seeOf g st == 40) = false := by simp at hs ⊢; omega
 have hn91 : (seeOf g st == 91) = false := by simp at hs ⊢; omega
 go_enter Tryz.func73, Tryz.ntmps73
 go_wp2_with fail
 refine (Tr_atL hT).mono ?_
 rintro e w1 ⟨rfl, h1, hk1⟩
 have d1 : w1.cell? ⟨t.b, 1, none⟩ = some (.int .i64 st.next) := h1.blk.cell 1
 have f1 : w1.frozen? ⟨t.b, 1, none⟩ = false := h1.blk.frozen 1
 have s1 := hk1.size
 have h2 := h1.step (by omega)
 have k2 := hk1.trans (own1 (w := w1) (t := t) 1 (.int .i64 ((st.next : Int) + 1)))
 by_cases h46 : seeOf g st = 46
 ·have hb : (seeOf g st == 46) = true := by simp [h46]
  have HE : Hid (rSingle (seeOf g st) = rLeaf sRune [(10, 10)] true false) := by show _ = _; unfold rSingle; rw [if_pos h46]
  clear h46 hs
  go_wp2_with fail
  go_ret
  rw [HE.out]
  exact new_single (b := w1.heap.size + 1) (op := sRune) (sp := [(10, 10)]) hT (h2.nil (((Kept.refl _ _).alloc _).alloc _)) (Blk.new' _ _ (by simp [World.setCell])) (by omega) op_rune (SpOf.ofBlk (b := w1.heap.size) ((Blk.new' _ _ (by simp [World.setCell])).alloc _) s1 (by simp)) ((k2.alloc _).alloc _)
 ·by_cases h94 : seeOf g st = 94
  ·have hb0 : (seeOf g st == 46) = false := by simp [h46]
   have hb : (seeOf g st == 94) = true := by simp [h94]
   have HE : Hid (rSingle (seeOf g st) = rLeaf sCaret [] false false) := by show _ = _; unfold rSingle; rw [if_neg h46, if_pos h94]
   clear h46 hs h94
   go_wp2_with fail
   go_ret
   rw [HE.out]
   exact new_single (b := w1.heap.size) (op := sCaret) (sp := []) hT (h2.nil ((Kept.refl _ _).alloc _)) (Blk.new' _ _ (by simp [World.setCell])) (by omega) (op0 (by decide) (by decide) (by decide)) (SpOf.nil _ _) (k2.alloc _)
  ·have hb0 : (seeOf g st == 46) = false := by simp [h46]
   have hb1 : (seeOf g st == 94) = false := by simp [h94]
   have hb : (seeOf g st == 36) = true := by simp [h46, h94] at hs ⊢; exact hs
   have HE : Hid (rSingle (seeOf g st) = rLeaf sDollar [] false false) := by show _ = _; unfold rSingle; rw [if_neg h46, if_neg h94]
   clear h46 hs h94
   go_wp2_with fail
   go_ret
   rw [HE.out]
   exact new_single (b := w1.heap.size) (op := sDollar) (sp := []) hT (h2.nil ((Kept.refl _ _).alloc _)) (Blk.new' _ _ (by simp [World.setCell])) (by omega) (op0 (by decide) (by decide) (by decide)) (SpOf.nil _ _) (k2.alloc _)
theorem atom_plain {w : World} {t : TG} {g : RG} {st : RS} {fold : Int} {vn : Value} {nl : List (List UInt8)} (hT : TrAt w t g st fold vn nl) (hne : seeOf g st ≠ -1) (hs : inSet lNotPlain (seeOf g st) = false) :
  Calls Tryz.prog 73 #[.pointer (some ⟨t.b, 0, none⟩)] w (NdPost w t g fold vn ({ st with next := st.next + 1 }, single) (rLeaf sRune [(seeOf g st, seeOf g st)] false (decide (0 < fold)))) := by
 have hl := hT.len
 have hlr := hT.lenr
 have hlt := lt_of_see hne
 have hno : seeOf g st ≠ 40 ∧ seeOf g st ≠ 91 ∧ seeOf g st ≠ 46 ∧ seeOf g st ≠ 94 ∧ seeOf g st ≠ 36 ∧ seeOf g st ≠ 92 := by
  refine ⟨?_, ?_, ?_, ?_, ?_, ?_⟩ <;> (intro e; rw [e] at hs; revert hs; decide)
 have n1 : (seeOf g st == 40) = false := by simp [hno]
 have n2 : (seeOf g st == 91) = false := by simp [hno]
 have n3 : (seeOf g st == 46) = false := by simp [hno]
 have n4 : (seeOf g st == 94) = false := by simp [hno]
 have n5 : (seeOf g st == 36) = false := by simp [hno]
 have n6 : (seeOf g st == 92) = false := by simp [hno]
 go_enter Tryz.func73, Tryz.ntmps73
 go_wp2_with fail
 refine (Tr_atL hT).mono ?_
 rintro e w1 ⟨rfl, h1, hk1⟩
 go_wp2_with fail
 refine (plainA h1 (by omega) hno.2.2.2.2.2).mono ?_
 rintro e w2 ⟨rfl, h2, hk2⟩
 have c2 : w2.cell? ⟨t.b, 2, none⟩ = some (.int .i64 fold) := h2.blk.cell 2
 have k2 := hk1.trans hk2
 have s2 := k2.size
 have hfd := h2.fold0
 have hb2 := h2.blt
 go_wp2_with fail
 go_ret
 exact new_single (b := w2.heap.size + 1) (op := sRune) (sp := [(seeOf g st, seeOf g st)]) hT (h2.nil (((Kept.refl _ _).alloc _).alloc _)) (Blk.new' _ _ (by simp)) (by omega) op_rune (SpOf.ofBlk (b := w2.heap.size) ((Blk.new _ _ _).alloc _) s2 (by simp)) ((k2.alloc _).alloc _)
def lSets2 : List UInt8 := [68, 87, 83]
theorem escape_cases {r : Int} (h : inSet lEscape r = true) : r = 100 ∨ r = 119 ∨ r = 115 ∨ r = 68 ∨ r = 87 ∨ r = 83 ∨ r = 98 ∨ r = 66 ∨ (inSet lSets r = false ∧ inSet lSets2 r = false ∧ r ≠ 98 ∧ r ≠ 66) := by
 unfold inSet lEscape at h
 simp only [List.any_cons, List.any_nil, Bool.or_false, Bool.or_eq_true, beq_iff_eq] at h
 rcases h with h | h | h | h | h | h | h | h | h | h | h | h | h | h | h | h | h | h | h | h | h | h | h | h | h | h | h <;> rw [← h] <;> decide
set_option maxHeartbeats 2000000 in
theorem atom_escape {w : World} {t : TG} {g : RG} {st : RS} {fold : Int} {vn : Value} {nl : List (List UInt8)} (hT : TrAt w t g st fold vn nl) (h92 : seeOf g st = 92) (hs : inSet lEscape (seeOf g { st with next := st.next + 1 }) = true) :
  Calls Tryz.prog 73 #[.pointer (some ⟨t.b, 0, none⟩)] w (NdPost w t g fold vn ({ st with next := st.next + 2 }, single) (rEscape fold (seeOf g { st with next := st.next + 1 }))) := by
 have hl := hT.len
 have hlr := hT.lenr
 have hlt := seeOf_lt hs
 simp only at hlt
 have n1 : (seeOf g st == 40) = false := by rw [h92]; rfl
 have n2 : (seeOf g st == 91) = false := by rw [h92]; rfl
 have n3 : (seeOf g st == 46) = false := by rw [h92]; rfl
 have n4 : (seeOf g st == 94) = false := by rw [h92]; rfl
 have n5 : (seeOf g st == 36) = false := by rw [h92]; rfl
 have n6 : (seeOf g st == 92) = true := by rw [h92]; rfl
 go_enter Tryz.func73, Tryz.ntmps73
 go_wp2_with fail
 refine (Tr_atL hT).mono ?_
 rintro e w1 ⟨rfl, h1, hk1⟩
 go_wp2_with fail
 refine (Tr_behindL h1).mono ?_
 rintro e w2 ⟨rfl, h2, hk2⟩
 have k2 := hk1.trans hk2
 have hb2 := h2.blt
 have d1 : w2.cell? ⟨t.b, 1, none⟩ = some (.int .i64 st.next) := h2.blk.cell 1
 have f1 : w2.frozen? ⟨t.b, 1, none⟩ = false := h2.blk.frozen 1
 have h4 : TrAt (w2.setCell ⟨t.b, 1, none⟩ (.int .i64 ((st.next : Int) + 2))) t g { st with next := st.next + 2 } fold vn nl := by
  have := h2.setNext (st.next + 2) (by omega) (by simp)
  simpa using this
 have k4 := k2.trans (own1 (w := w2) (t := t) 1 (.int .i64 ((st.next : Int) + 2)))
 have s4 := k4.size
 have s2 := k2.size
 obtain ⟨q, hq⟩ : ∃ q, seeOf g { st with next := st.next + 1 } = q := ⟨_, rfl⟩
 have HQ : Hid (seeOf g { st with next := st.next + 1 } = q) := hq
 rw [hq] at hs ⊢
 clear hq
 go_wp2_with fail
 refine (amongL _ lSets _ _ (by rfl) (by decide)).mono ?_
 rintro e w2 ⟨rfl, rfl⟩
 rcases escape_cases hs with rfl | rfl | rfl | rfl | rfl | rfl | rfl | rfl | ⟨e1, e2, e3, e4⟩
 ·rw [show inSet lSets 100 = true from by decide]
  go_wp2_with fail
  refine (letters_any _ _).mono ?_
  rintro e w5 ⟨rfl, hmm, hB5, hk5⟩
  have s5 := hk5.size
  rw [size_set] at s5 hB5
  rw [show ∀ p v, (w2.setCell p v).heap.size = w2.heap.size from fun p v => size_set w2 p v]
  go_wp2_with fail
  go_ret
  rw [HQ.out, show rEscape fold 100 = rLeaf sRune (letterSpans 100) false false from rfl]
  exact new_single (b := w5.heap.size) (op := sRune) hT (h4.nil (hk5.alloc _)) (Blk.new' _ _ rfl) (by omega) op_rune (SpOf.ofBlk (hB5.alloc _) (by omega) (by omega)) (k4.trans ((hk5.mono (fun _ hx => hx.elim)).alloc _))
 ·rw [show inSet lSets 119 = true from by decide]
  go_wp2_with fail
  refine (letters_any _ _).mono ?_
  rintro e w5 ⟨rfl, hmm, hB5, hk5⟩
  have s5 := hk5.size
  rw [size_set] at s5 hB5
  rw [show ∀ p v, (w2.setCell p v).heap.size = w2.heap.size from fun p v => size_set w2 p v]
  go_wp2_with fail
  go_ret
  rw [HQ.out, show rEscape fold 119 = rLeaf sRune (letterSpans 119) false false from rfl]
  exact new_single (b := w5.heap.size) (op := sRune) hT (h4.nil (hk5.alloc _)) (Blk.new' _ _ rfl) (by omega) op_rune (SpOf.ofBlk (hB5.alloc _) (by omega) (by omega)) (k4.trans ((hk5.mono (fun _ hx => hx.elim)).alloc _))
 ·rw [show inSet lSets 115 = true from by decide]
  go_wp2_with fail
  refine (letters_any _ _).mono ?_
  rintro e w5 ⟨rfl, hmm, hB5, hk5⟩
  have s5 := hk5.size
  rw [size_set] at s5 hB5
  rw [show ∀ p v, (w2.setCell p v).heap.size = w2.heap.size from fun p v => size_set w2 p v]
  go_wp2_with fail
  go_ret
  rw [HQ.out, show rEscape fold 115 = rLeaf sRune (letterSpans 115) false false from rfl]
  exact new_single (b := w5.heap.size) (op := sRune) hT (h4.nil (hk5.alloc _)) (Blk.new' _ _ rfl) (by omega) op_rune (SpOf.ofBlk (hB5.alloc _) (by omega) (by omega)) (k4.trans ((hk5.mono (fun _ hx => hx.elim)).alloc _))
 ·rw [show inSet lSets 68 = false from by decide]
  go_wp2_with fail
  refine (amongL _ lSets2 _ _ (by rfl) (by decide)).mono ?_
  rintro e w2 ⟨rfl, rfl⟩
  rw [show inSet lSets2 68 = true from by decide]
  go_wp2_with fail
  refine (letters_any _ _).mono ?_
  rintro e w5 ⟨rfl, hmm, hB5, hk5⟩
  have s5 := hk5.size
  rw [size_set] at s5 hB5
  rw [show ∀ p v, (w2.setCell p v).heap.size = w2.heap.size from fun p v => size_set w2 p v]
  go_wp2_with fail
  go_ret
  rw [HQ.out, show rEscape fold 68 = rLeaf sRune (letterSpans 68) true false from rfl]
  exact new_single (b := w5.heap.size) (op := sRune) hT (h4.nil (hk5.alloc _)) (Blk.new' _ _ rfl) (by omega) op_rune (SpOf.ofBlk (hB5.alloc _) (by omega) (by omega)) (k4.trans ((hk5.mono (fun _ hx => hx.elim)).alloc _))
 ·rw [show inSet lSets 87 = false from by decide]
  go_wp2_with fail
  refine (amongL _ lSets2 _ _ (by rfl) (by decide)).mono ?_
  rintro e w2 ⟨rfl, rfl⟩
  rw [show inSet lSets2 87 = true from by decide]
  go_wp2_with fail
  refine (letters_any _ _).mono ?_
  rintro e w5 ⟨rfl, hmm, hB5, hk5⟩
  have s5 := hk5.size
  rw [size_set] at s5 hB5
  rw [show ∀ p v, (w2.setCell p v).heap.size = w2.heap.size from fun p v => size_set w2 p v]
  go_wp2_with fail
  go_ret
  rw [HQ.out, show rEscape fold 87 = rLeaf sRune (letterSpans 87) true false from rfl]
  exact new_single (b := w5.heap.size) (op := sRune) hT (h4.nil (hk5.alloc _)) (Blk.new' _ _ rfl) (by omega) op_rune (SpOf.ofBlk (hB5.alloc _) (by omega) (by omega)) (k4.trans ((hk5.mono (fun _ hx => hx.elim)).alloc _))
 ·rw [show inSet lSets 83 = false from by decide]
  go_wp2_with fail
  refine (amongL _ lSets2 _ _ (by rfl) (by decide)).mono ?_
  rintro e w2 ⟨rfl, rfl⟩
  rw [show inSet lSets2 83 = true from by decide]
  go_wp2_with fail
  refine (letters_any _ _).mono ?_
  rintro e w5 ⟨rfl, hmm, hB5, hk5⟩
  have s5 := hk5.size
  rw [size_set] at s5 hB5
  rw [show ∀ p v, (w2.setCell p v).heap.size = w2.heap.size from fun p v => size_set w2 p v]
  go_wp2_with fail
  go_ret
  rw [HQ.out, show rEscape fold 83 = rLeaf sRune (letterSpans 83) true false from rfl]
  exact new_single (b := w5.heap.size) (op := sRune) hT (h4.nil (hk5.alloc _)) (Blk.new' _ _ rfl) (by omega) op_rune (SpOf.ofBlk (hB5.alloc _) (by omega) (by omega)) (k4.trans ((hk5.mono (fun _ hx => hx.elim)).alloc _))
 ·rw [show inSet lSets 98 = false from by decide]
  go_wp2_with fail
  refine (amongL _ lSets2 _ _ (by rfl) (by decide)).mono ?_
  rintro e w2 ⟨rfl, rfl⟩
  rw [show inSet lSets2 98 = false from by decide]
  go_wp2_with fail
  go_ret
  rw [HQ.out, show rEscape fold 98 = rLeaf sSmallB [] false false from rfl]
  exact new_single (b := w2.heap.size) (op := sSmallB) (sp := []) hT (h4.nil ((Kept.refl _ _).alloc _)) (Blk.new' _ _ (by rw [size_set])) (by omega) (op0 (by decide) (by decide) (by decide)) (SpOf.nil _ _) (k4.alloc _)
 ·rw [show inSet lSets 66 = false from by decide]
  go_wp2_with fail
  refine (amongL _ lSets2 _ _ (by rfl) (by decide)).mono ?_
  rintro e w2 ⟨rfl, rfl⟩
  rw [show inSet lSets2 66 = false from by decide]
  go_wp2_with fail
  go_ret
  rw [HQ.out, show rEscape fold 66 = rLeaf sBigB [] false false from rfl]
  exact new_single (b := w2.heap.size) (op := sBigB) (sp := []) hT (h4.nil ((Kept.refl _ _).alloc _)) (Blk.new' _ _ (by rw [size_set])) (by omega) (op0 (by decide) (by decide) (by decide)) (SpOf.nil _ _) (k4.alloc _)
 ·have b98 : (q == 98) = false := by simp [e3]
  have b66 : (q == 66) = false := by simp [e4]
  have HE : Hid (rEscape fold (seeOf g { st with next := st.next + 1 }) = rLeaf sRune [(escRune (seeOf g { st with next := st.next + 1 }), escRune (seeOf g { st with next := st.next + 1 }))] false (decide (0 < fold))) := by
   show _ = _
   rw [HQ.out]
   unfold rEscape
   rw [if_neg, if_neg, if_neg e3, if_neg e4]
   ·rintro (rfl | rfl | rfl) <;> revert e2 <;> decide
   ·rintro (rfl | rfl | rfl) <;> revert e1 <;> decide
  rw [e1]
  go_wp2_with fail
  refine (amongL _ lSets2 _ _ (by rfl) (by decide)).mono ?_
  rintro e w2 ⟨rfl, rfl⟩
  rw [show inSet lSets2 q = false from e2]
  go_wp2_with fail
  refine (plainB h2 (by omega) h92).mono ?_
  rintro e w5 ⟨rfl, h5, hk5⟩
  have c2 : w5.cell? ⟨t.b, 2, none⟩ = some (.int .i64 fold) := h5.blk.cell 2
  have k5 := k2.trans hk5
  have s5 := k5.size
  have hfd := h5.fold0
  have hb5 := h5.blt
  go_wp2_with fail
  go_ret
  rw [HE.out]
  exact new_single (b := w5.heap.size + 1) (op := sRune) (sp := [(escRune (seeOf g { st with next := st.next + 1 }), escRune (seeOf g { st with next := st.next + 1 }))]) hT (h5.nil (((Kept.refl _ _).alloc _).alloc _)) (Blk.new' _ _ (by rw [size_alloc1])) (by omega) op_rune (SpOf.ofBlk (b := w5.heap.size) ((Blk.new _ _ _).alloc _) s5 (by simp)) ((k5.alloc _).alloc _)
theorem NdPost.from {w w1 w' : World} {t : TG} {g : RG} {fold : Int} {vn : Value} {x : RS × PT} {R : RT} {e : Ending} (k : Kept (fun i => i = t.b) w w1) (h : NdPost w1 t g fold vn x R e w') : NdPost w t g fold vn x R e w' := by
 obtain ⟨b, vn', nl', rfl, h1, h2, h3, h4⟩ := h
 have hs := k.size
 exact ⟨b, vn', nl', rfl, h1, h2.widen (fun i hi _ => ⟨by have := hi.1; omega, hi.2⟩), (k.mono (fun i hi => Or.inl hi)).trans h3, fun i hi => (h4 i hi).imp id (fun h => by omega)⟩
theorem atom_tr {w : World} {t : TG} {g : RG} {st : RS} {fold : Int} {vn : Value} {nl : List (List UInt8)} {alt : RS → RS × PT} {ralt : Int → RS → RT} (hT : TrAt w t g st fold vn nl) (hf : (pAtom g alt st).1.flt.form = none)
  (hB : seeOf g st = 40 → ∀ w, TrAt w t g st fold vn nl → Calls Tryz.prog 100 #[.pointer (some ⟨t.b, 0, none⟩)] w (NdPost w t g fold vn (pBracket g alt { st with next := st.next + 1 }) (rBracket g ralt fold { st with next := st.next + 1 })))
  (hC : seeOf g st = 91 → ∀ w, TrAt w t g st fold vn nl → Calls Tryz.prog 101 #[.pointer (some ⟨t.b, 0, none⟩)] w (NdPost w t g fold vn (pClass g { st with next := st.next + 1 }, single) (rClass g fold { st with next := st.next + 1 }))) :
  Calls Tryz.prog 73 #[.pointer (some ⟨t.b, 0, none⟩)] w (NdPost w t g fold vn (pAtom g alt st) (rAtom g ralt fold st)) := by
 unfold pAtom at hf ⊢
 unfold rAtom
 by_cases h40 : inSet lOpenRound (seeOf g st) = true
 ·rw [if_pos h40] at hf
  rw [if_pos h40, if_pos h40]
  have hb : (seeOf g st == 40) = true := by rw [show lOpenRound = [40] from rfl, inOne'] at h40; simpa using h40
  have HB := hB (beq_iff_eq.1 hb)
  generalize pBracket g alt { st with next := st.next + 1 } = X at *
  generalize rBracket g ralt fold { st with next := st.next + 1 } = Y at *
  clear h40 hB hC
  go_enter Tryz.func73, Tryz.ntmps73
  go_wp2_with fail
  refine (Tr_atL hT).mono ?_
  rintro e w1 ⟨rfl, h1, hk1⟩
  go_wp2_with fail
  refine (HB w1 h1).mono ?_
  rintro e w2 hN
  have hM := hN.from hk1
  clear hN
  obtain ⟨b, vn', nl', rfl, q1, q2, q3, q4⟩ := hM
  go_wp2_with fail
  go_ret
  exact ⟨b, vn', nl', rfl, q1, q2, q3, q4⟩
 ·rw [if_neg h40] at hf
  rw [if_neg h40, if_neg h40]
  by_cases h91 : inSet lOpenSquare (seeOf g st) = true
  ·rw [if_pos h91] at hf
   rw [if_pos h91, if_pos h91]
   have hb : (seeOf g st == 91) = true := by rw [show lOpenSquare = [91] from rfl, inOne'] at h91; simpa using h91
   have hb0 : (seeOf g st == 40) = false := by rw [beq_iff_eq.1 hb]; rfl
   have HB := hC (beq_iff_eq.1 hb)
   generalize (pClass g { st with next := st.next + 1 }, single) = X at *
   generalize rClass g fold { st with next := st.next + 1 } = Y at *
   clear h40 h91 hB hC
   go_enter Tryz.func73, Tryz.ntmps73
   go_wp2_with fail
   refine (Tr_atL hT).mono ?_
   rintro e w1 ⟨rfl, h1, hk1⟩
   go_wp2_with fail
   refine (HB w1 h1).mono ?_
   rintro e w2 hN
   have hM := hN.from hk1
   clear hN
   obtain ⟨b, vn', nl', rfl, q1, q2, q3, q4⟩ := hM
   go_wp2_with fail
   go_ret
   exact ⟨b, vn', nl', rfl, q1, q2, q3, q4⟩
  ·rw [if_neg h91] at hf
   rw [if_neg h91, if_neg h91]
   by_cases h92 : inSet lBack (seeOf g st) = true
   ·rw [if_pos h92] at hf
    rw [if_pos h92, if_pos h92]
    obtain ⟨a1, a2, a3⟩ := needSt_form hf
    rw [a3]
    exact atom_escape hT (by rw [show lBack = [92] from rfl, inOne'] at h92; simpa using h92) a1
   ·rw [if_neg h92] at hf
    rw [if_neg h92, if_neg h92]
    by_cases hs : inSet lSingles (seeOf g st) = true
    ·rw [if_pos hs] at hf
     rw [if_pos hs, if_pos hs]
     exact atom_single hT hs
    ·rw [if_neg hs] at hf
     rw [if_neg hs, if_neg hs]
     obtain ⟨a1, a2, a3, a4⟩ := needOtherSt_form hf
     rw [a4]
     exact atom_plain hT a1 a2
end Go.Proofs.YtfollffpibmgcaaGreatDoor
