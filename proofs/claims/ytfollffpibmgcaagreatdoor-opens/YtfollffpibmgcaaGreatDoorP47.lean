/- The reference's tree: class, with ^. -/
import Derived.Test.YtfollffpibmgcaaGreatDoorP46
namespace Go.Proofs.YtfollffpibmgcaaGreatDoor
open Go.RowKit
set_option linter.unusedVariables false
set_option maxRecDepth 100000
set_option maxRecDepth 100000 in
set_option maxHeartbeats 8000000 in
theorem class_caret {w : World} {t : TG} {g : RG} {st : RS} {fold : Int} {vn : Value} {nl : List (List UInt8)} (hT : TrAt w t g st fold vn nl) (hlt : st.next < t.l.length) (hcar : (seeOf g { st with next := st.next + 1 } == 94) = true) (hf : (pClass g { st with next := st.next + 1 }).flt.form = none) :
  Calls Tryz.prog 101 #[.pointer (some ⟨t.b, 0, none⟩)] w fun e w' => NdPost w t g fold vn (pClass g { st with next := st.next + 1 }, single) (rClass g fold { st with next := st.next + 1 }) e w' := by
 have hl := hT.len
 have hlr := hT.lenr
 obtain ⟨i0, hi0, hz0, hz1, hz2⟩ := info_parts Tryz.infoSpan
 have hfold := hT.fold0
 have hvn : ∀ b, vn.ownBlock = some b → b < w.heap.size := fun b hb => (hT.names_b hb).2
 have htb := hT.blt
 have c1 : w.cell? ⟨t.b, 1, none⟩ = some (.int .i64 st.next) := hT.blk.cell 1
 have f1 : w.frozen? ⟨t.b, 1, none⟩ = false := hT.blk.frozen 1
 have c2 : w.cell? ⟨t.b, 2, none⟩ = some (.int .i64 fold) := hT.blk.cell 2
 go_enter Tryz.func101, Tryz.ntmps101
 go_wp2_with fail
 have hF0 : pClass g { st with next := st.next + 1 } = needSt g lSquare (pItems g (g.rs.length + 1) (pItem g (takeOf g lCaret { st with next := st.next + 1 }))) := rfl
 have hf3 : (pItem g (takeOf g lCaret { st with next := st.next + 1 })).flt.form = none := pItems_form (needSt_form (by rw [← hF0]; exact hf)).2.1
 obtain ⟨hh1, hh2⟩ := pItem_head hf3
 have HF2' : Hid (needSt g lSquare (pItems g (g.rs.length + 2) (takeOf g lCaret { st with next := st.next + 1 })) = pClass g { st with next := st.next + 1 }) := by show _ = _; rw [hF0, pItems_succ hh1 hh2]
 have h1 : TrAt ((w.setCell ⟨t.b, 1, none⟩ (.int .i64 ((st.next : Int) + 1))).alloc (.cells (nodeCells sRune (.slice none 0 0) false (decide (0 < fold)) (.slice none 0 0) 0 0 0 false) 126)) t g { st with next := st.next + 1 } fold vn nl := (hT.step hlt).nil ((Kept.refl _ _).alloc _)
 have sp1 : SpAt ((w.setCell ⟨t.b, 1, none⟩ (.int .i64 ((st.next : Int) + 1))).alloc (.cells (nodeCells sRune (.slice none 0 0) false (decide (0 < fold)) (.slice none 0 0) 0 0 0 false) 126)) w.heap.size (.slice none 0 0) false (decide (0 < fold)) [] := by
  refine ⟨?_, World.ownsRow_nil _ _ _ _⟩
  have := Blk.new (w.setCell ⟨t.b, 1, none⟩ (.int .i64 ((st.next : Int) + 1))) (nodeCells sRune (.slice none 0 0) false (decide (0 < fold)) (.slice none 0 0) 0 0 0 false) 126
  have e : (w.setCell ⟨t.b, 1, none⟩ (.int .i64 ((st.next : Int) + 1))).heap.size = w.heap.size := by simp [World.setCell]
  rw [e] at this
  exact this
 have k1 : Kept (fun i => i = t.b) w ((w.setCell ⟨t.b, 1, none⟩ (.int .i64 ((st.next : Int) + 1))).alloc (.cells (nodeCells sRune (.slice none 0 0) false (decide (0 < fold)) (.slice none 0 0) 0 0 0 false) 126)) := (own1 (w := w) 1 (.int .i64 ((st.next : Int) + 1))).alloc _
 clear hF0 hf3 c1 f1 c2
 refine (Tr_atL h1).mono ?_
 rintro e wS ⟨rfl, hS, hkS⟩
 have spS0 := sp1.kept hkS (fun i hi => by omega)
 have kS0 := k1.trans hkS
 clear h1 sp1 k1 hkS
 have et : takeOf g lCaret { st with next := st.next + 1 } = { st with next := st.next + 2 } := by unfold takeOf; rw [if_pos (by rw [lCaret_eq, hcar])]
 rw [et] at HF2'
 obtain ⟨SP, hSP⟩ : ∃ SP, SP = rItems g (g.rs.length + 2) (takeOf g lCaret { st with next := st.next + 1 }) [] := ⟨_, rfl⟩
 have HRC : Hid (rClass g fold { st with next := st.next + 1 } = rLeaf sRune SP true (decide (0 < fold))) := by show _ = _; unfold rClass; rw [← hSP, lCaret_eq, hcar]
 rw [et] at hSP
 have hl1 : st.next + 1 < t.l.length := by have := lt_of_see (g := g) (st := { st with next := st.next + 1 }) (by rw [beq_iff_eq.1 hcar]; omega); simp at this; omega
 have cn : wS.cell? ⟨w.heap.size, 2, none⟩ = some (.bool false) := spS0.blk.cell 2
 have fn : wS.frozen? ⟨w.heap.size, 2, none⟩ = false := spS0.blk.frozen 2
 have c1 : wS.cell? ⟨t.b, 1, none⟩ = some (.int .i64 ((st.next : Int) + 1)) := by have := hS.blk.cell 1; simpa using this
 have f1 : wS.frozen? ⟨t.b, 1, none⟩ = false := hS.blk.frozen 1
 obtain ⟨st2, hst2⟩ : ∃ st2, st2 = { st with next := st.next + 2 } := ⟨_, rfl⟩
 have kn : Kept (fun i => i = w.heap.size) wS (wS.setCell ⟨w.heap.size, 2, none⟩ (.bool true)) := (Kept.refl (fun i => i = w.heap.size) wS).setCell (p := ⟨w.heap.size, 2, none⟩) (Or.inl rfl) _
 have hS1 := hS.new hT kn (fun i hi => by omega) (fun b hb hx => by have := hvn b hb; omega)
 have hS2 : TrAt ((wS.setCell ⟨w.heap.size, 2, none⟩ (.bool true)).setCell ⟨t.b, 1, none⟩ (.int .i64 ((st.next : Int) + 2))) t g { st with next := st.next + 2 } fold vn nl := by
  have := hS1.setNext (st.next + 2) (by omega) (by simp)
  simpa using this
 have HF2 := HF2'
 have spS : SpAt ((wS.setCell ⟨w.heap.size, 2, none⟩ (.bool true)).setCell ⟨t.b, 1, none⟩ (.int .i64 ((st.next : Int) + 2))) w.heap.size (.slice none 0 0) true (decide (0 < fold)) [] := by
  have q : SpAt (wS.setCell ⟨w.heap.size, 2, none⟩ (.bool true)) w.heap.size (.slice none 0 0) true (decide (0 < fold)) [] := ⟨spS0.blk.setCell 2 _, World.ownsRow_nil _ _ _ _⟩
  exact q.kept (own1 (t := t) 1 _) (fun i hi => by omega)
 have kS : Kept (fun i => i = t.b) w ((wS.setCell ⟨w.heap.size, 2, none⟩ (.bool true)).setCell ⟨t.b, 1, none⟩ (.int .i64 ((st.next : Int) + 2))) := (kS0.trans' kn (fun i hi he => by omega)).trans (own1 1 _)
 have hn2 : st2.next = st.next + 2 := by rw [hst2]
 have HS0 : Hid (rItems g (g.rs.length + 2) st2 [] = SP) := by show _ = _; rw [hSP, hst2]
 clear hSP
 go_wp2_with fail
 rw [← hst2] at hS2
 rw [show needSt g lSquare (pItems g (g.rs.length + 2) { st with next := st.next + 2 }) = needSt g lSquare (pItems g (g.rs.length + 2) st2) from by rw [hst2]] at HF2
 clear hS HF2' spS0 kS0 et hh1 hh2 hst2 hS1 cn fn c1 f1
 go_loopg [4] (g.rs.length - st2.next) (fun kk _ wr => ∃ (st3 : RS) (m : Nat) (vs : Value) (sp : List (Int × Int)), TrAt wr t g st3 fold vn nl ∧ SpAt wr w.heap.size vs true (decide (0 < fold)) sp ∧ Hid (rItems g m st3 sp = SP) ∧ Hid (needSt g lSquare (pItems g m st3) = pClass g { st with next := st.next + 1 }) ∧ kk = g.rs.length - st3.next ∧ kk < m ∧ sp.length ≤ 4 * st3.next ∧ Kept (fun i => i = t.b) w wr ∧ w.heap.size + 1 ≤ wr.heap.size)
 case atStart => exact ⟨st2, g.rs.length + 2, _, [], hS2, spS, HS0, HF2, rfl, by omega, by simp, kS, spS.blk.lt⟩
 case round =>
  obtain ⟨st3, m, vs, sp, hr, hsp, HR, HP, rfl, hm, hk4, hk, hsz⟩ := hrel
  clear hS2 spS kS HF2 HS0
  have hr0 := hr.len
  have hle := hr.next
  have hfm : (needSt g lSquare (pItems g m st3)).flt.form = none := by rw [HP.out]; exact hf
  obtain ⟨q1, q2, q3⟩ := needSt_form hfm
  by_cases h93 : seeOf g st3 = 93
  ·have hb93 : (seeOf g st3 != 93) = false := by simp [h93]
   have HE : Hid (pClass g { st with next := st.next + 1 } = { st3 with next := st3.next + 1 }) := by
    show _ = _
    have e1 := pItems_end g m st3 (Or.inr (by rw [lSquare_eq, h93]; rfl))
    rw [e1] at q3
    rw [← HP.out, e1, q3]
   have HRE : Hid (sp = SP) := by show _ = _; rw [← HR.out, rItems_end g m st3 sp (Or.inr (by rw [lSquare_eq, h93]; rfl))]
   have hl3 := lt_of_see (g := g) (st := st3) (by rw [h93]; omega)
   clear q1 q2 q3 hfm h93 HP
   go_wp2_with fail
   refine (Tr_atL hr).mono ?_
   rintro e w3 ⟨rfl, h3, hk3⟩
   have c1 : w3.cell? ⟨t.b, 1, none⟩ = some (.int .i64 st3.next) := h3.blk.cell 1
   have f1 : w3.frozen? ⟨t.b, 1, none⟩ = false := h3.blk.frozen 1
   go_wp2_with fail
   go_ret
   have sp3 := (hsp.kept (hk3.trans (own1 (w := w3) 1 (.int .i64 ((st3.next : Int) + 1)))) (fun i hi => by omega))
   have s3 := (hk3.trans (own1 (w := w3) (t := t) 1 (.int .i64 ((st3.next : Int) + 1)))).size
   rw [HRC.out, ← HRE.out]
   refine ⟨w.heap.size, vn, nl, rfl, ?_, sp3.node (fun i hi hlt => ⟨hi, hlt, fun hb => by have := hvn _ hb; omega⟩) (by omega), ((hk.trans hk3).trans (own1 1 _)).mono (fun i hi => Or.inl hi), fun i hi => Or.inl hi⟩
   show TrAt _ t g (pClass g { st with next := st.next + 1 }) fold vn nl
   rw [HE.out]
   exact h3.step (by omega)
  ·have hb93 : (seeOf g st3 != 93) = true := by simp [h93]
   have hs93 : inSet lSquare (seeOf g st3) = false := by rw [lSquare_eq]; simp [h93]
   have hne1 : seeOf g st3 ≠ -1 := by
    intro e
    rw [pItems_end g m st3 (Or.inl e), e] at q1
    revert q1; decide
   have hl3 := lt_of_see hne1
   obtain ⟨m', rfl⟩ : ∃ m', m = m' + 1 := ⟨m - 1, by omega⟩
   have e4 := pItems_succ (m := m') hne1 hs93
   have hfi : (pItem g st3).flt.form = none := pItems_form (m := m') (by rw [← e4]; exact q2)
   have HP2 : Hid (needSt g lSquare (pItems g m' (pItem g st3)) = pClass g { st with next := st.next + 1 }) := by show _ = _; rw [← e4]; exact HP.out
   have hn1 := pItem_next g st3 (by omega)
   have hn2 := hn1.2.2 hl3
   have hl3' : st3.next < t.l.length := by omega
   have HR2 : Hid (rItems g m' (pItem g st3) (sp ++ rItem g st3) = SP) := by show _ = _; rw [← rItems_succ hne1 hs93]; exact HR.out
   clear q1 q2 q3 hfm h93 HP e4 hs93 HR
   have hkv : ∀ b, vs.ownBlock = some b → w.heap.size + 1 ≤ b := fun b hb => (ownsRow_block hsp.own hb).1
   go_wp2_with fail
   refine (Tr_atL hr).mono ?_
   rintro e w3 ⟨rfl, h3, hk3⟩
   go_wp2_with fail
   refine (Tr_behindL h3).mono ?_
   rintro e w4 ⟨rfl, h4, hk4⟩
   go_wp2_with fail
   refine (Tr_atL h4).mono ?_
   rintro e w5 ⟨rfl, h5, hk5⟩
   have k5 := (hk3.trans hk4).trans hk5
   clear h3 h4 hk3 hk4 hk5
   by_cases h92 : seeOf g st3 = 92
   ·have hb92 : (seeOf g st3 == 92) = true := by simp [h92]
    cases hset : inSet lSets (seeOf g { st3 with next := st3.next + 1 })
    ·go_wp2_with fail
     refine (amongL _ lSets _ _ (by rfl) (by decide)).mono ?_
     rintro e w5 ⟨rfl, rfl⟩
     rw [hset]
     have EI : Hid (pItem g st3 = pUpto g (placeOf g st3) (pOne' g st3)) := by show _ = _; unfold pItem; rw [if_neg (by simp [hset])]
     have EN : Hid (¬ (inSet lBack (seeOf g st3) = true ∧ inSet lSets (seeOf g { st3 with next := st3.next + 1 }) = true)) := by show ¬ _; simp [hset]
     clear h92
     have hf1 : (pOne' g st3).1.flt.form = none := pUpto_form (by rw [← EI.out]; exact hfi)
     have HFU : Hid ((pUpto g (placeOf g st3) (pOne' g st3)).flt.form = none) := by show _ = _; rw [← EI.out]; exact hfi
     obtain ⟨hao, _, _⟩ := h5.gl.isSome (by intro e; rw [e] at hl3'; simp at hl3')
     have c50 : w5.cell? ⟨t.b, 0, none⟩ = some (.slice (some ⟨t.bl, 0, none⟩) t.l.length t.cap) := by rw [← hao]; exact h5.blk.cell 0
     have c51 : w5.cell? ⟨t.b, 1, none⟩ = some (.int .i64 st3.next) := h5.blk.cell 1
     have cpl := (h5.gl.cells st3.next hl3').2
     rw [← h5.ps st3.next hl3'] at cpl
     change w5.cell? ⟨t.bl, st3.next * 3 + 1, none⟩ = some (.int .i64 (placeOf g st3)) at cpl
     have hpr : 0 ≤ placeOf g st3 ∧ placeOf g st3 ≤ 300 := h5.pr st3.next
     have hl3I : (st3.next : Int) < (t.l.length : Int) := by omega
     go_wp2_with fail
     go_region
     all_goals go_wp2_with fail
     have h6 := h5.nil (Kept.refl Nil w5).drew
     refine (plain_one h6 hf1).mono ?_
     rintro e w7 ⟨rfl, h7, hk7⟩
     have k57 : Kept (fun i => i = t.b) w5 w7 := (Kept.refl _ _).drew.trans hk7
     clear c50 c51 cpl h6 hk7 hao
     have hn7 := pOne'_next g st3 (by omega)
     go_wp2_with fail
     refine (Tr_atL h7).mono ?_
     rintro e w8 ⟨rfl, h8, hk8⟩
     have k58 := k57.trans hk8
     cases hdash : (seeOf g (pOne' g st3).1 == 45)
     ·have EU : Hid (pUpto g (placeOf g st3) (pOne' g st3) = (pOne' g st3).1) := by show _ = _; unfold pUpto; rw [if_neg (by rw [lDash_eq, hdash]; simp)]
      have HI : Hid (rItem g st3 = [((pOne' g st3).2, (pOne' g st3).2)]) := rItem_one EN.out hdash
      have hlt9 : ¬ (pOne' g st3).2 < (pOne' g st3).2 := by omega
      obtain ⟨wz, hwz⟩ : ∃ wz, wz = w8 := ⟨_, rfl⟩
      have hz := h8
      have kz := k58
      rw [← hwz] at hz kz ⊢
      clear hwz h8 h7 h5
      have EZ : Hid (pItem g st3 = (pOne' g st3).1) := by show _ = _; rw [EI.out, EU.out]
      have hzn : (pOne' g st3).1.next ≤ g.rs.length := hn7.2.1
      have spz := hsp.kept (k5.trans kz) (fun i hi => by omega)
      have ownz := spz.own
      have sz5 := (k5.trans kz).size
      have e1 : wz.cell? ⟨w.heap.size, 1, none⟩ = some vs := spz.blk.cell 1
      go_wp2_with (at_builtin; refine wpList_append_own_at _ rfl _ _ 123 rfl (w.heap.size + 1) 177 i0 _ 2 16 Tryz.underlying123 hi0 hz0 hz1 hz2 rfl (by decide) _ _ _ rfl (ownz.alloc _) ⟨wz.heap.size, 0, none⟩ 1 1 [.int .i64 (pOne' g st3).2, .int .i64 (pOne' g st3).2] rfl rfl ?c1_1 ?c2_1 ?c3_1 ?c4_1 ?c5_1 ?_)
      case c1_1 => exact new_news _ _ _
      case c2_1 => first | exact ⟨rfl, rfl⟩ | (intro u hu; simp at hu; rcases hu with rfl | rfl <;> rfl)
      case c3_1 => unfold maxLen; omega
      case c4_1 => omega
      case c5_1 => first | omega | (simp; omega)
      intro v' w11 hown' hgrow hnil hloc
      have sp11 := spz.push (new := [((pOne' g st3).2, (pOne' g st3).2)]) hkv ((Kept.refl Nil wz).alloc _) hown' hgrow
      have kz11 : Kept (fun i => vs.ownBlock = some i) wz w11 := ((Kept.refl _ _).alloc _).grown hgrow (fun j hj => Or.inl hj)
      have b11 := spz.blk.kept kz11 (fun hx => by have := hkv _ hx; omega)
      have h11 := hz.new hT kz11 (fun i hi => by have := hkv i hi; omega) (fun b hb hx => by have := hvn b hb; have := hkv b hx; omega)
      obtain ⟨ao11, cc11, hv11⟩ := ownsRow_slice hown'
      rw [hv11] at sp11 ⊢
      clear hown' hgrow hnil hloc hv11 e1 ownz
      have c111 : w11.cell? ⟨w.heap.size, 1, none⟩ = some vs := b11.cell 1
      have f111 : w11.frozen? ⟨w.heap.size, 1, none⟩ = false := b11.frozen 1
      have k12 : Kept (fun i => i = w.heap.size) w11 (w11.setCell ⟨w.heap.size, 1, none⟩ (.slice ao11 (sp.length + 1) cc11)) := (Kept.refl (fun i => i = w.heap.size) w11).setCell (p := ⟨w.heap.size, 1, none⟩) (Or.inl rfl) _
      have h12 := h11.new hT k12 (fun i hi => by omega) (fun b hb hx => by have := hvn b hb; omega)
      have kall := ((((hk.trans k5).trans kz).trans' kz11 (fun i hi he => by have := hkv i he; omega)).trans' k12 (fun i hi he => by omega))
      rw [← EZ.out] at h12 hzn
      go_wp2_with fail
      go_roundg (g.rs.length - (pItem g st3).next)
      case measure => omega
      case rel =>
       have := kall.size
       exact ⟨pItem g st3, m', _, _, h12, sp11, (by show _ = _; rw [← HI.out]; exact HR2.out), HP2, rfl, by omega, by simp; omega, kall, sp11.blk.lt⟩
     ·have hl9 := lt_of_see (g := g) (st := (pOne' g st3).1) (by rw [beq_iff_eq.1 hdash]; omega)
      have hfy : (pOne' g { (pOne' g st3).1 with next := (pOne' g st3).1.next + 1 }).1.flt.form = none := by
       have := HFU.out
       unfold pUpto at this
       rw [if_pos (by rw [lDash_eq]; exact hdash)] at this
       split at this
       ·rw [note_form (by omega)] at this; exact this
       ·exact this
      have c81 : w8.cell? ⟨t.b, 1, none⟩ = some (.int .i64 (pOne' g st3).1.next) := h8.blk.cell 1
      have f81 : w8.frozen? ⟨t.b, 1, none⟩ = false := h8.blk.frozen 1
      have hll : (pOne' g st3).1.next ≤ 300 := by omega
      go_wp2_with fail
      have h9 := h8.step (by omega)
      refine (plain_one h9 hfy).mono ?_
      rintro e w10 ⟨rfl, h10, hk10⟩
      have k10 := (k58.trans (own1 (w := w8) 1 (.int .i64 (((pOne' g st3).1.next : Int) + 1)))).trans hk10
      have hn10 := pOne'_next g { (pOne' g st3).1 with next := (pOne' g st3).1.next + 1 } (by simp; omega)
      clear c81 f81 h9 h8 hk10 h7 h5
      generalize hy : pOne' g { (pOne' g st3).1 with next := (pOne' g st3).1.next + 1 } = y at *
      have HY : Hid (pOne' g { (pOne' g st3).1 with next := (pOne' g st3).1.next + 1 } = y) := hy
      clear hy
      have hdd : inSet lDash (seeOf g (pOne' g st3).1) = true := by rw [lDash_eq]; exact hdash
      have HI : Hid (rItem g st3 = [((pOne' g st3).2, y.2)]) := rItem_upto EN.out hdd HY.out
      by_cases hlt : y.2 < (pOne' g st3).2
      ·have EU : Hid (pItem g st3 = y.1.note 5 (placeOf g st3)) := by show _ = _; rw [EI.out]; unfold pUpto; rw [if_pos hdd, HY.out, if_pos hlt]
       have c105 : w10.cell? ⟨t.b, 5, none⟩ = some (.int .i64 (orNeg y.1.flt.cls)) := h10.blk.cell 5
       have f105 : w10.frozen? ⟨t.b, 5, none⟩ = false := h10.blk.frozen 5
       cases hcl : y.1.flt.cls with
       | none =>
        rw [orNeg_none hcl] at c105
        have hz := h10.setOrder (placeOf g st3) hpr.1 hcl
        have kz := k10.trans (own1 (w := w10) 5 (.int .i64 (placeOf g st3)))
        have EZ : Hid (pItem g st3 = y.1.note 5 (placeOf g st3)) := EU
        have hzn : (y.1.note 5 (placeOf g st3)).next ≤ g.rs.length := hn10.2.1
        have spz := hsp.kept (k5.trans kz) (fun i hi => by omega)
        have ownz := spz.own
        have ez : (w10.setCell ⟨t.b, 5, none⟩ (.int .i64 (placeOf g st3))).heap.size = w10.heap.size := by simp [World.setCell]
        have sz5 := (k5.trans kz).size
        have e1 : w10.cell? ⟨w.heap.size, 1, none⟩ = some vs := (hsp.kept (k5.trans k10) (fun i hi => by omega)).blk.cell 1
        go_wp2_with (at_builtin; refine wpList_append_own_at _ rfl _ _ 123 rfl (w.heap.size + 1) 177 i0 _ 2 16 Tryz.underlying123 hi0 hz0 hz1 hz2 rfl (by decide) _ _ _ rfl (ownz.alloc _) ⟨w10.heap.size, 0, none⟩ 1 1 [.int .i64 (pOne' g st3).2, .int .i64 y.2] rfl rfl ?c1_2 ?c2_2 ?c3_2 ?c4_2 ?c5_2 ?_)
        case c1_2 => rw [← ez]; exact new_news _ _ _
        case c2_2 => first | exact ⟨rfl, rfl⟩ | (intro u hu; simp at hu; rcases hu with rfl | rfl <;> rfl)
        case c3_2 => unfold maxLen; omega
        case c4_2 => omega
        case c5_2 => rw [size_alloc1]; omega
        intro v' w11 hown' hgrow hnil hloc
        have sp11 := spz.push (new := [((pOne' g st3).2, y.2)]) hkv ((Kept.refl Nil (w10.setCell ⟨t.b, 5, none⟩ (.int .i64 (placeOf g st3)))).alloc _) hown' hgrow
        have kz11 : Kept (fun i => vs.ownBlock = some i) (w10.setCell ⟨t.b, 5, none⟩ (.int .i64 (placeOf g st3))) w11 := ((Kept.refl _ _).alloc _).grown hgrow (fun j hj => Or.inl hj)
        have b11 := spz.blk.kept kz11 (fun hx => by have := hkv _ hx; omega)
        have h11 := hz.new hT kz11 (fun i hi => by have := hkv i hi; omega) (fun b hb hx => by have := hvn b hb; have := hkv b hx; omega)
        obtain ⟨ao11, cc11, hv11⟩ := ownsRow_slice hown'
        rw [hv11] at sp11 ⊢
        clear hown' hgrow hnil hloc hv11 e1 ownz
        have c111 : w11.cell? ⟨w.heap.size, 1, none⟩ = some vs := b11.cell 1
        have f111 : w11.frozen? ⟨w.heap.size, 1, none⟩ = false := b11.frozen 1
        have k12 : Kept (fun i => i = w.heap.size) w11 (w11.setCell ⟨w.heap.size, 1, none⟩ (.slice ao11 (sp.length + 1) cc11)) := (Kept.refl (fun i => i = w.heap.size) w11).setCell (p := ⟨w.heap.size, 1, none⟩) (Or.inl rfl) _
        have h12 := h11.new hT k12 (fun i hi => by omega) (fun b hb hx => by have := hvn b hb; omega)
        have kall := ((((hk.trans k5).trans kz).trans' kz11 (fun i hi he => by have := hkv i he; omega)).trans' k12 (fun i hi he => by omega))
        rw [← EZ.out] at h12 hzn
        go_wp2_with fail
        go_roundg (g.rs.length - (pItem g st3).next)
        case measure => omega
        case rel =>
         have := kall.size
         exact ⟨pItem g st3, m', _, _, h12, sp11, (by show _ = _; rw [← HI.out]; exact HR2.out), HP2, rfl, by omega, by simp; omega, kall, sp11.blk.lt⟩
       | some pq =>
        have hpos : ¬ pq < 0 := by have := h10.fok.2.1 pq hcl; omega
        rw [show orNeg y.1.flt.cls = pq from by rw [hcl]; rfl] at c105
        have hz := h10.keepOrder (placeOf g st3) (by rw [hcl]; simp)
        have kz := k10
        obtain ⟨wz, hwz⟩ : ∃ wz, wz = w10 := ⟨_, rfl⟩
        rw [← hwz] at hz kz c105 ⊢
        have EZ : Hid (pItem g st3 = y.1.note 5 (placeOf g st3)) := EU
        have hzn : (y.1.note 5 (placeOf g st3)).next ≤ g.rs.length := hn10.2.1
        clear hwz f105 h10
        have spz := hsp.kept (k5.trans kz) (fun i hi => by omega)
        have ownz := spz.own
        have sz5 := (k5.trans kz).size
        have e1 : wz.cell? ⟨w.heap.size, 1, none⟩ = some vs := spz.blk.cell 1
        go_wp2_with (at_builtin; refine wpList_append_own_at _ rfl _ _ 123 rfl (w.heap.size + 1) 177 i0 _ 2 16 Tryz.underlying123 hi0 hz0 hz1 hz2 rfl (by decide) _ _ _ rfl (ownz.alloc _) ⟨wz.heap.size, 0, none⟩ 1 1 [.int .i64 (pOne' g st3).2, .int .i64 y.2] rfl rfl ?c1_3 ?c2_3 ?c3_3 ?c4_3 ?c5_3 ?_)
        case c1_3 => exact new_news _ _ _
        case c2_3 => first | exact ⟨rfl, rfl⟩ | (intro u hu; simp at hu; rcases hu with rfl | rfl <;> rfl)
        case c3_3 => unfold maxLen; omega
        case c4_3 => omega
        case c5_3 => first | omega | (simp; omega)
        intro v' w11 hown' hgrow hnil hloc
        have sp11 := spz.push (new := [((pOne' g st3).2, y.2)]) hkv ((Kept.refl Nil wz).alloc _) hown' hgrow
        have kz11 : Kept (fun i => vs.ownBlock = some i) wz w11 := ((Kept.refl _ _).alloc _).grown hgrow (fun j hj => Or.inl hj)
        have b11 := spz.blk.kept kz11 (fun hx => by have := hkv _ hx; omega)
        have h11 := hz.new hT kz11 (fun i hi => by have := hkv i hi; omega) (fun b hb hx => by have := hvn b hb; have := hkv b hx; omega)
        obtain ⟨ao11, cc11, hv11⟩ := ownsRow_slice hown'
        rw [hv11] at sp11 ⊢
        clear hown' hgrow hnil hloc hv11 e1 ownz
        have c111 : w11.cell? ⟨w.heap.size, 1, none⟩ = some vs := b11.cell 1
        have f111 : w11.frozen? ⟨w.heap.size, 1, none⟩ = false := b11.frozen 1
        have k12 : Kept (fun i => i = w.heap.size) w11 (w11.setCell ⟨w.heap.size, 1, none⟩ (.slice ao11 (sp.length + 1) cc11)) := (Kept.refl (fun i => i = w.heap.size) w11).setCell (p := ⟨w.heap.size, 1, none⟩) (Or.inl rfl) _
        have h12 := h11.new hT k12 (fun i hi => by omega) (fun b hb hx => by have := hvn b hb; omega)
        have kall := ((((hk.trans k5).trans kz).trans' kz11 (fun i hi he => by have := hkv i he; omega)).trans' k12 (fun i hi he => by omega))
        rw [← EZ.out] at h12 hzn
        go_wp2_with fail
        go_roundg (g.rs.length - (pItem g st3).next)
        case measure => omega
        case rel =>
         have := kall.size
         exact ⟨pItem g st3, m', _, _, h12, sp11, (by show _ = _; rw [← HI.out]; exact HR2.out), HP2, rfl, by omega, by simp; omega, kall, sp11.blk.lt⟩
      ·have EU : Hid (pItem g st3 = y.1) := by show _ = _; rw [EI.out]; unfold pUpto; rw [if_pos hdd, HY.out, if_neg hlt]
       obtain ⟨wz, hwz⟩ : ∃ wz, wz = w10 := ⟨_, rfl⟩
       have hz := h10
       have kz := k10
       rw [← hwz] at hz kz ⊢
       have EZ : Hid (pItem g st3 = y.1) := EU
       have hzn : y.1.next ≤ g.rs.length := hn10.2.1
       clear hwz h10
       have spz := hsp.kept (k5.trans kz) (fun i hi => by omega)
       have ownz := spz.own
       have sz5 := (k5.trans kz).size
       have e1 : wz.cell? ⟨w.heap.size, 1, none⟩ = some vs := spz.blk.cell 1
       go_wp2_with (at_builtin; refine wpList_append_own_at _ rfl _ _ 123 rfl (w.heap.size + 1) 177 i0 _ 2 16 Tryz.underlying123 hi0 hz0 hz1 hz2 rfl (by decide) _ _ _ rfl (ownz.alloc _) ⟨wz.heap.size, 0, none⟩ 1 1 [.int .i64 (pOne' g st3).2, .int .i64 y.2] rfl rfl ?c1_4 ?c2_4 ?c3_4 ?c4_4 ?c5_4 ?_)
       first
        | (case c1_4 => exact new_news _ _ _)
        | skip
       case c2_4 => first | exact ⟨rfl, rfl⟩ | (intro u hu; simp at hu; rcases hu with rfl | rfl <;> rfl)
       case c3_4 => unfold maxLen; omega
       case c4_4 => omega
       case c5_4 => first | omega | (simp; omega)
       intro v' w11 hown' hgrow hnil hloc
       have sp11 := spz.push (new := [((pOne' g st3).2, y.2)]) hkv ((Kept.refl Nil wz).alloc _) hown' hgrow
       have kz11 : Kept (fun i => vs.ownBlock = some i) wz w11 := ((Kept.refl _ _).alloc _).grown hgrow (fun j hj => Or.inl hj)
       have b11 := spz.blk.kept kz11 (fun hx => by have := hkv _ hx; omega)
       have h11 := hz.new hT kz11 (fun i hi => by have := hkv i hi; omega) (fun b hb hx => by have := hvn b hb; have := hkv b hx; omega)
       obtain ⟨ao11, cc11, hv11⟩ := ownsRow_slice hown'
       rw [hv11] at sp11 ⊢
       clear hown' hgrow hnil hloc hv11 e1 ownz
       have c111 : w11.cell? ⟨w.heap.size, 1, none⟩ = some vs := b11.cell 1
       have f111 : w11.frozen? ⟨w.heap.size, 1, none⟩ = false := b11.frozen 1
       have k12 : Kept (fun i => i = w.heap.size) w11 (w11.setCell ⟨w.heap.size, 1, none⟩ (.slice ao11 (sp.length + 1) cc11)) := (Kept.refl (fun i => i = w.heap.size) w11).setCell (p := ⟨w.heap.size, 1, none⟩) (Or.inl rfl) _
       have h12 := h11.new hT k12 (fun i hi => by omega) (fun b hb hx => by have := hvn b hb; omega)
       have kall := ((((hk.trans k5).trans kz).trans' kz11 (fun i hi he => by have := hkv i he; omega)).trans' k12 (fun i hi he => by omega))
       rw [← EZ.out] at h12 hzn
       go_wp2_with fail
       go_roundg (g.rs.length - (pItem g st3).next)
       case measure => omega
       case rel =>
        have := kall.size
        exact ⟨pItem g st3, m', _, _, h12, sp11, (by show _ = _; rw [← HI.out]; exact HR2.out), HP2, rfl, by omega, by simp; omega, kall, sp11.blk.lt⟩
    ·have EI : Hid (pItem g st3 = { st3 with next := st3.next + 2 }) := by show _ = _; unfold pItem; rw [if_pos ⟨by rw [lBack_eq]; exact hb92, hset⟩]
     clear h92
     have hl4 := seeOf_lt hset
     simp only at hl4
     go_wp2_with fail
     refine (amongL _ lSets _ _ (by rfl) (by decide)).mono ?_
     rintro e w5 ⟨rfl, rfl⟩
     rw [hset]
     go_wp2_with fail
     refine (letters_any _ _).mono ?_
     rintro e w6 ⟨rfl, hmm, hB6, hk6⟩
     have HI : Hid (rItem g st3 = letterSpans (seeOf g { st3 with next := st3.next + 1 })) := rItem_set (by rw [lBack_eq]; exact hb92) hset
     generalize letterSpans (seeOf g { st3 with next := st3.next + 1 }) = L at *
     have hnews : ∀ j u, (flat2 L)[j]? = some u → w6.cell? (Addr.add ⟨w5.heap.size, 0, none⟩ j) = some u := fun j u hj => by rw [add_at, hB6.cell j]; simpa using hj
     have sp6 := (hsp.kept k5 (fun i hi => by omega)).kept hk6 (fun i hi => hi.elim)
     have h6 := h5.nil hk6
     have own6 := sp6.own
     have s6 := hk6.size
     have s5 := k5.size
     have e1 : w6.cell? ⟨w.heap.size, 1, none⟩ = some vs := sp6.blk.cell 1
     go_wp2_with (at_builtin; refine wpList_append_own_at _ rfl _ _ 123 rfl (w.heap.size + 1) 177 i0 _ 2 16 Tryz.underlying123 hi0 hz0 hz1 hz2 rfl (by decide) _ _ _ rfl own6 ⟨w5.heap.size, 0, none⟩ L.length L.length (flat2 L) rfl (flat2_length L) hnews (flat2_one L) ?c3_5 ?c4_5 ?c5_5 ?_)
     case c3_5 => unfold maxLen; omega
     case c4_5 => omega
     case c5_5 => omega
     intro v' w7 hown' hgrow hnil hloc
     have sp7 := sp6.push hkv (Kept.refl Nil w6) hown' hgrow
     have k67 : Kept (fun i => vs.ownBlock = some i) w6 w7 := (Kept.refl _ _).grown hgrow (fun j hj => Or.inl hj)
     have b7 := sp6.blk.kept k67 (fun hx => by have := hkv _ hx; omega)
     have h7 := h6.new hT k67 (fun i hi => by have := hkv i hi; omega) (fun b hb hx => by have := hvn b hb; have := hkv b hx; omega)
     obtain ⟨ao7, cc7, hv7⟩ := ownsRow_slice hown'
     rw [hv7] at sp7 ⊢
     clear hown' hgrow hnil hloc hv7 e1 own6
     have c71 : w7.cell? ⟨w.heap.size, 1, none⟩ = some vs := b7.cell 1
     have f71 : w7.frozen? ⟨w.heap.size, 1, none⟩ = false := b7.frozen 1
     have k78 : Kept (fun i => i = w.heap.size) w7 (w7.setCell ⟨w.heap.size, 1, none⟩ (.slice ao7 (sp.length + L.length) cc7)) := (Kept.refl (fun i => i = w.heap.size) w7).setCell (p := ⟨w.heap.size, 1, none⟩) (Or.inl rfl) _
     have h8 := h7.new hT k78 (fun i hi => by omega) (fun b hb hx => by have := hvn b hb; omega)
     have c81 : (w7.setCell ⟨w.heap.size, 1, none⟩ (.slice ao7 (sp.length + L.length) cc7)).cell? ⟨t.b, 1, none⟩ = some (.int .i64 st3.next) := h8.blk.cell 1
     have f81 : (w7.setCell ⟨w.heap.size, 1, none⟩ (.slice ao7 (sp.length + L.length) cc7)).frozen? ⟨t.b, 1, none⟩ = false := h8.blk.frozen 1
     go_wp2_with fail
     have h9 : TrAt ((w7.setCell ⟨w.heap.size, 1, none⟩ (.slice ao7 (sp.length + L.length) cc7)).setCell ⟨t.b, 1, none⟩ (.int .i64 ((st3.next : Int) + 2))) t g { st3 with next := st3.next + 2 } fold vn nl := by
      have := h8.setNext (st3.next + 2) (by omega) (by omega)
      simpa using this
     have sp9 := sp7.kept (own1 (w := w7.setCell ⟨w.heap.size, 1, none⟩ (.slice ao7 (sp.length + L.length) cc7)) (t := t) 1 (.int .i64 ((st3.next : Int) + 2))) (fun i hi => by omega)
     have kall : Kept (fun i => i = t.b) w ((w7.setCell ⟨w.heap.size, 1, none⟩ (.slice ao7 (sp.length + L.length) cc7)).setCell ⟨t.b, 1, none⟩ (.int .i64 ((st3.next : Int) + 2))) := ((((hk.trans k5).trans (hk6.mono (fun _ hx => hx.elim))).trans' k67 (fun i hi he => by have := hkv i he; omega)).trans' k78 (fun i hi he => by omega)).trans (own1 1 _)
     go_roundg (g.rs.length - (st3.next + 2))
     case measure => omega
     case rel =>
      have := kall.size
      exact ⟨{ st3 with next := st3.next + 2 }, m', _, _, h9, sp9, (by show _ = _; rw [← HR2.out, EI.out, HI.out]), (by show _ = _; rw [← HP2.out, EI.out]), rfl, by omega, by simp; omega, kall, sp9.blk.lt⟩
   ·have hb92 : (seeOf g st3 == 92) = false := by simp [h92]
    have EI : Hid (pItem g st3 = pUpto g (placeOf g st3) (pOne' g st3)) := by show _ = _; unfold pItem; rw [if_neg (by rw [lBack_eq, hb92]; simp)]
    have EN : Hid (¬ (inSet lBack (seeOf g st3) = true ∧ inSet lSets (seeOf g { st3 with next := st3.next + 1 }) = true)) := by show ¬ _; rw [lBack_eq, hb92]; simp
    clear h92
    have hf1 : (pOne' g st3).1.flt.form = none := pUpto_form (by rw [← EI.out]; exact hfi)
    have HFU : Hid ((pUpto g (placeOf g st3) (pOne' g st3)).flt.form = none) := by show _ = _; rw [← EI.out]; exact hfi
    obtain ⟨hao, _, _⟩ := h5.gl.isSome (by intro e; rw [e] at hl3'; simp at hl3')
    have c50 : w5.cell? ⟨t.b, 0, none⟩ = some (.slice (some ⟨t.bl, 0, none⟩) t.l.length t.cap) := by rw [← hao]; exact h5.blk.cell 0
    have c51 : w5.cell? ⟨t.b, 1, none⟩ = some (.int .i64 st3.next) := h5.blk.cell 1
    have cpl := (h5.gl.cells st3.next hl3').2
    rw [← h5.ps st3.next hl3'] at cpl
    change w5.cell? ⟨t.bl, st3.next * 3 + 1, none⟩ = some (.int .i64 (placeOf g st3)) at cpl
    have hpr : 0 ≤ placeOf g st3 ∧ placeOf g st3 ≤ 300 := h5.pr st3.next
    have hl3I : (st3.next : Int) < (t.l.length : Int) := by omega
    go_wp2_with fail
    go_region
    all_goals go_wp2_with fail
    have h6 := h5.nil (Kept.refl Nil w5).drew
    refine (plain_one h6 hf1).mono ?_
    rintro e w7 ⟨rfl, h7, hk7⟩
    have k57 : Kept (fun i => i = t.b) w5 w7 := (Kept.refl _ _).drew.trans hk7
    clear c50 c51 cpl h6 hk7 hao
    have hn7 := pOne'_next g st3 (by omega)
    go_wp2_with fail
    refine (Tr_atL h7).mono ?_
    rintro e w8 ⟨rfl, h8, hk8⟩
    have k58 := k57.trans hk8
    cases hdash : (seeOf g (pOne' g st3).1 == 45)
    ·have EU : Hid (pUpto g (placeOf g st3) (pOne' g st3) = (pOne' g st3).1) := by show _ = _; unfold pUpto; rw [if_neg (by rw [lDash_eq, hdash]; simp)]
     have HI : Hid (rItem g st3 = [((pOne' g st3).2, (pOne' g st3).2)]) := rItem_one EN.out hdash
     have hlt9 : ¬ (pOne' g st3).2 < (pOne' g st3).2 := by omega
     obtain ⟨wz, hwz⟩ : ∃ wz, wz = w8 := ⟨_, rfl⟩
     have hz := h8
     have kz := k58
     rw [← hwz] at hz kz ⊢
     clear hwz h8 h7 h5
     have EZ : Hid (pItem g st3 = (pOne' g st3).1) := by show _ = _; rw [EI.out, EU.out]
     have hzn : (pOne' g st3).1.next ≤ g.rs.length := hn7.2.1
     have spz := hsp.kept (k5.trans kz) (fun i hi => by omega)
     have ownz := spz.own
     have sz5 := (k5.trans kz).size
     have e1 : wz.cell? ⟨w.heap.size, 1, none⟩ = some vs := spz.blk.cell 1
     go_wp2_with (at_builtin; refine wpList_append_own_at _ rfl _ _ 123 rfl (w.heap.size + 1) 177 i0 _ 2 16 Tryz.underlying123 hi0 hz0 hz1 hz2 rfl (by decide) _ _ _ rfl (ownz.alloc _) ⟨wz.heap.size, 0, none⟩ 1 1 [.int .i64 (pOne' g st3).2, .int .i64 (pOne' g st3).2] rfl rfl ?c1_6 ?c2_6 ?c3_6 ?c4_6 ?c5_6 ?_)
     case c1_6 => exact new_news _ _ _
     case c2_6 => first | exact ⟨rfl, rfl⟩ | (intro u hu; simp at hu; rcases hu with rfl | rfl <;> rfl)
     case c3_6 => unfold maxLen; omega
     case c4_6 => omega
     case c5_6 => first | omega | (simp; omega)
     intro v' w11 hown' hgrow hnil hloc
     have sp11 := spz.push (new := [((pOne' g st3).2, (pOne' g st3).2)]) hkv ((Kept.refl Nil wz).alloc _) hown' hgrow
     have kz11 : Kept (fun i => vs.ownBlock = some i) wz w11 := ((Kept.refl _ _).alloc _).grown hgrow (fun j hj => Or.inl hj)
     have b11 := spz.blk.kept kz11 (fun hx => by have := hkv _ hx; omega)
     have h11 := hz.new hT kz11 (fun i hi => by have := hkv i hi; omega) (fun b hb hx => by have := hvn b hb; have := hkv b hx; omega)
     obtain ⟨ao11, cc11, hv11⟩ := ownsRow_slice hown'
     rw [hv11] at sp11 ⊢
     clear hown' hgrow hnil hloc hv11 e1 ownz
     have c111 : w11.cell? ⟨w.heap.size, 1, none⟩ = some vs := b11.cell 1
     have f111 : w11.frozen? ⟨w.heap.size, 1, none⟩ = false := b11.frozen 1
     have k12 : Kept (fun i => i = w.heap.size) w11 (w11.setCell ⟨w.heap.size, 1, none⟩ (.slice ao11 (sp.length + 1) cc11)) := (Kept.refl (fun i => i = w.heap.size) w11).setCell (p := ⟨w.heap.size, 1, none⟩) (Or.inl rfl) _
     have h12 := h11.new hT k12 (fun i hi => by omega) (fun b hb hx => by have := hvn b hb; omega)
     have kall := ((((hk.trans k5).trans kz).trans' kz11 (fun i hi he => by have := hkv i he; omega)).trans' k12 (fun i hi he => by omega))
     rw [← EZ.out] at h12 hzn
     go_wp2_with fail
     go_roundg (g.rs.length - (pItem g st3).next)
     case measure => omega
     case rel =>
      have := kall.size
      exact ⟨pItem g st3, m', _, _, h12, sp11, (by show _ = _; rw [← HI.out]; exact HR2.out), HP2, rfl, by omega, by simp; omega, kall, sp11.blk.lt⟩
    ·have hl9 := lt_of_see (g := g) (st := (pOne' g st3).1) (by rw [beq_iff_eq.1 hdash]; omega)
     have hfy : (pOne' g { (pOne' g st3).1 with next := (pOne' g st3).1.next + 1 }).1.flt.form = none := by
      have := HFU.out
      unfold pUpto at this
      rw [if_pos (by rw [lDash_eq]; exact hdash)] at this
      split at this
      ·rw [note_form (by omega)] at this; exact this
      ·exact this
     have c81 : w8.cell? ⟨t.b, 1, none⟩ = some (.int .i64 (pOne' g st3).1.next) := h8.blk.cell 1
     have f81 : w8.frozen? ⟨t.b, 1, none⟩ = false := h8.blk.frozen 1
     have hll : (pOne' g st3).1.next ≤ 300 := by omega
     go_wp2_with fail
     have h9 := h8.step (by omega)
     refine (plain_one h9 hfy).mono ?_
     rintro e w10 ⟨rfl, h10, hk10⟩
     have k10 := (k58.trans (own1 (w := w8) 1 (.int .i64 (((pOne' g st3).1.next : Int) + 1)))).trans hk10
     have hn10 := pOne'_next g { (pOne' g st3).1 with next := (pOne' g st3).1.next + 1 } (by simp; omega)
     clear c81 f81 h9 h8 hk10 h7 h5
     generalize hy : pOne' g { (pOne' g st3).1 with next := (pOne' g st3).1.next + 1 } = y at *
     have HY : Hid (pOne' g { (pOne' g st3).1 with next := (pOne' g st3).1.next + 1 } = y) := hy
     clear hy
     have hdd : inSet lDash (seeOf g (pOne' g st3).1) = true := by rw [lDash_eq]; exact hdash
     have HI : Hid (rItem g st3 = [((pOne' g st3).2, y.2)]) := rItem_upto EN.out hdd HY.out
     by_cases hlt : y.2 < (pOne' g st3).2
     ·have EU : Hid (pItem g st3 = y.1.note 5 (placeOf g st3)) := by show _ = _; rw [EI.out]; unfold pUpto; rw [if_pos hdd, HY.out, if_pos hlt]
      have c105 : w10.cell? ⟨t.b, 5, none⟩ = some (.int .i64 (orNeg y.1.flt.cls)) := h10.blk.cell 5
      have f105 : w10.frozen? ⟨t.b, 5, none⟩ = false := h10.blk.frozen 5
      cases hcl : y.1.flt.cls with
      | none =>
       rw [orNeg_none hcl] at c105
       have hz := h10.setOrder (placeOf g st3) hpr.1 hcl
       have kz := k10.trans (own1 (w := w10) 5 (.int .i64 (placeOf g st3)))
       have EZ : Hid (pItem g st3 = y.1.note 5 (placeOf g st3)) := EU
       have hzn : (y.1.note 5 (placeOf g st3)).next ≤ g.rs.length := hn10.2.1
       have spz := hsp.kept (k5.trans kz) (fun i hi => by omega)
       have ownz := spz.own
       have ez : (w10.setCell ⟨t.b, 5, none⟩ (.int .i64 (placeOf g st3))).heap.size = w10.heap.size := by simp [World.setCell]
       have sz5 := (k5.trans kz).size
       have e1 : w10.cell? ⟨w.heap.size, 1, none⟩ = some vs := (hsp.kept (k5.trans k10) (fun i hi => by omega)).blk.cell 1
       go_wp2_with (at_builtin; refine wpList_append_own_at _ rfl _ _ 123 rfl (w.heap.size + 1) 177 i0 _ 2 16 Tryz.underlying123 hi0 hz0 hz1 hz2 rfl (by decide) _ _ _ rfl (ownz.alloc _) ⟨w10.heap.size, 0, none⟩ 1 1 [.int .i64 (pOne' g st3).2, .int .i64 y.2] rfl rfl ?c1_7 ?c2_7 ?c3_7 ?c4_7 ?c5_7 ?_)
       case c1_7 => rw [← ez]; exact new_news _ _ _
       case c2_7 => first | exact ⟨rfl, rfl⟩ | (intro u hu; simp at hu; rcases hu with rfl | rfl <;> rfl)
       case c3_7 => unfold maxLen; omega
       case c4_7 => omega
       case c5_7 => rw [size_alloc1]; omega
       intro v' w11 hown' hgrow hnil hloc
       have sp11 := spz.push (new := [((pOne' g st3).2, y.2)]) hkv ((Kept.refl Nil (w10.setCell ⟨t.b, 5, none⟩ (.int .i64 (placeOf g st3)))).alloc _) hown' hgrow
       have kz11 : Kept (fun i => vs.ownBlock = some i) (w10.setCell ⟨t.b, 5, none⟩ (.int .i64 (placeOf g st3))) w11 := ((Kept.refl _ _).alloc _).grown hgrow (fun j hj => Or.inl hj)
       have b11 := spz.blk.kept kz11 (fun hx => by have := hkv _ hx; omega)
       have h11 := hz.new hT kz11 (fun i hi => by have := hkv i hi; omega) (fun b hb hx => by have := hvn b hb; have := hkv b hx; omega)
       obtain ⟨ao11, cc11, hv11⟩ := ownsRow_slice hown'
       rw [hv11] at sp11 ⊢
       clear hown' hgrow hnil hloc hv11 e1 ownz
       have c111 : w11.cell? ⟨w.heap.size, 1, none⟩ = some vs := b11.cell 1
       have f111 : w11.frozen? ⟨w.heap.size, 1, none⟩ = false := b11.frozen 1
       have k12 : Kept (fun i => i = w.heap.size) w11 (w11.setCell ⟨w.heap.size, 1, none⟩ (.slice ao11 (sp.length + 1) cc11)) := (Kept.refl (fun i => i = w.heap.size) w11).setCell (p := ⟨w.heap.size, 1, none⟩) (Or.inl rfl) _
       have h12 := h11.new hT k12 (fun i hi => by omega) (fun b hb hx => by have := hvn b hb; omega)
       have kall := ((((hk.trans k5).trans kz).trans' kz11 (fun i hi he => by have := hkv i he; omega)).trans' k12 (fun i hi he => by omega))
       rw [← EZ.out] at h12 hzn
       go_wp2_with fail
       go_roundg (g.rs.length - (pItem g st3).next)
       case measure => omega
       case rel =>
        have := kall.size
        exact ⟨pItem g st3, m', _, _, h12, sp11, (by show _ = _; rw [← HI.out]; exact HR2.out), HP2, rfl, by omega, by simp; omega, kall, sp11.blk.lt⟩
      | some pq =>
       have hpos : ¬ pq < 0 := by have := h10.fok.2.1 pq hcl; omega
       rw [show orNeg y.1.flt.cls = pq from by rw [hcl]; rfl] at c105
       have hz := h10.keepOrder (placeOf g st3) (by rw [hcl]; simp)
       have kz := k10
       obtain ⟨wz, hwz⟩ : ∃ wz, wz = w10 := ⟨_, rfl⟩
       rw [← hwz] at hz kz c105 ⊢
       have EZ : Hid (pItem g st3 = y.1.note 5 (placeOf g st3)) := EU
       have hzn : (y.1.note 5 (placeOf g st3)).next ≤ g.rs.length := hn10.2.1
       clear hwz f105 h10
       have spz := hsp.kept (k5.trans kz) (fun i hi => by omega)
       have ownz := spz.own
       have sz5 := (k5.trans kz).size
       have e1 : wz.cell? ⟨w.heap.size, 1, none⟩ = some vs := spz.blk.cell 1
       go_wp2_with (at_builtin; refine wpList_append_own_at _ rfl _ _ 123 rfl (w.heap.size + 1) 177 i0 _ 2 16 Tryz.underlying123 hi0 hz0 hz1 hz2 rfl (by decide) _ _ _ rfl (ownz.alloc _) ⟨wz.heap.size, 0, none⟩ 1 1 [.int .i64 (pOne' g st3).2, .int .i64 y.2] rfl rfl ?c1_8 ?c2_8 ?c3_8 ?c4_8 ?c5_8 ?_)
       case c1_8 => exact new_news _ _ _
       case c2_8 => first | exact ⟨rfl, rfl⟩ | (intro u hu; simp at hu; rcases hu with rfl | rfl <;> rfl)
       case c3_8 => unfold maxLen; omega
       case c4_8 => omega
       case c5_8 => first | omega | (simp; omega)
       intro v' w11 hown' hgrow hnil hloc
       have sp11 := spz.push (new := [((pOne' g st3).2, y.2)]) hkv ((Kept.refl Nil wz).alloc _) hown' hgrow
       have kz11 : Kept (fun i => vs.ownBlock = some i) wz w11 := ((Kept.refl _ _).alloc _).grown hgrow (fun j hj => Or.inl hj)
       have b11 := spz.blk.kept kz11 (fun hx => by have := hkv _ hx; omega)
       have h11 := hz.new hT kz11 (fun i hi => by have := hkv i hi; omega) (fun b hb hx => by have := hvn b hb; have := hkv b hx; omega)
       obtain ⟨ao11, cc11, hv11⟩ := ownsRow_slice hown'
       rw [hv11] at sp11 ⊢
       clear hown' hgrow hnil hloc hv11 e1 ownz
       have c111 : w11.cell? ⟨w.heap.size, 1, none⟩ = some vs := b11.cell 1
       have f111 : w11.frozen? ⟨w.heap.size, 1, none⟩ = false := b11.frozen 1
       have k12 : Kept (fun i => i = w.heap.size) w11 (w11.setCell ⟨w.heap.size, 1, none⟩ (.slice ao11 (sp.length + 1) cc11)) := (Kept.refl (fun i => i = w.heap.size) w11).setCell (p := ⟨w.heap.size, 1, none⟩) (Or.inl rfl) _
       have h12 := h11.new hT k12 (fun i hi => by omega) (fun b hb hx => by have := hvn b hb; omega)
       have kall := ((((hk.trans k5).trans kz).trans' kz11 (fun i hi he => by have := hkv i he; omega)).trans' k12 (fun i hi he => by omega))
       rw [← EZ.out] at h12 hzn
       go_wp2_with fail
       go_roundg (g.rs.length - (pItem g st3).next)
       case measure => omega
       case rel =>
        have := kall.size
        exact ⟨pItem g st3, m', _, _, h12, sp11, (by show _ = _; rw [← HI.out]; exact HR2.out), HP2, rfl, by omega, by simp; omega, kall, sp11.blk.lt⟩
     ·have EU : Hid (pItem g st3 = y.1) := by show _ = _; rw [EI.out]; unfold pUpto; rw [if_pos hdd, HY.out, if_neg hlt]
      obtain ⟨wz, hwz⟩ : ∃ wz, wz = w10 := ⟨_, rfl⟩
      have hz := h10
      have kz := k10
      rw [← hwz] at hz kz ⊢
      have EZ : Hid (pItem g st3 = y.1) := EU
      have hzn : y.1.next ≤ g.rs.length := hn10.2.1
      clear hwz h10
      have spz := hsp.kept (k5.trans kz) (fun i hi => by omega)
      have ownz := spz.own
      have sz5 := (k5.trans kz).size
      have e1 : wz.cell? ⟨w.heap.size, 1, none⟩ = some vs := spz.blk.cell 1
      go_wp2_with (at_builtin; refine wpList_append_own_at _ rfl _ _ 123 rfl (w.heap.size + 1) 177 i0 _ 2 16 Tryz.underlying123 hi0 hz0 hz1 hz2 rfl (by decide) _ _ _ rfl (ownz.alloc _) ⟨wz.heap.size, 0, none⟩ 1 1 [.int .i64 (pOne' g st3).2, .int .i64 y.2] rfl rfl ?c1_9 ?c2_9 ?c3_9 ?c4_9 ?c5_9 ?_)
      first
       | (case c1_9 => exact new_news _ _ _)
       | skip
      case c2_9 => first | exact ⟨rfl, rfl⟩ | (intro u hu; simp at hu; rcases hu with rfl | rfl <;> rfl)
      case c3_9 => unfold maxLen; omega
      case c4_9 => omega
      case c5_9 => first | omega | (simp; omega)
      intro v' w11 hown' hgrow hnil hloc
      have sp11 := spz.push (new := [((pOne' g st3).2, y.2)]) hkv ((Kept.refl Nil wz).alloc _) hown' hgrow
      have kz11 : Kept (fun i => vs.ownBlock = some i) wz w11 := ((Kept.refl _ _).alloc _).grown hgrow (fun j hj => Or.inl hj)
      have b11 := spz.blk.kept kz11 (fun hx => by have := hkv _ hx; omega)
      have h11 := hz.new hT kz11 (fun i hi => by have := hkv i hi; omega) (fun b hb hx => by have := hvn b hb; have := hkv b hx; omega)
      obtain ⟨ao11, cc11, hv11⟩ := ownsRow_slice hown'
      rw [hv11] at sp11 ⊢
      clear hown' hgrow hnil hloc hv11 e1 ownz
      have c111 : w11.cell? ⟨w.heap.size, 1, none⟩ = some vs := b11.cell 1
      have f111 : w11.frozen? ⟨w.heap.size, 1, none⟩ = false := b11.frozen 1
      have k12 : Kept (fun i => i = w.heap.size) w11 (w11.setCell ⟨w.heap.size, 1, none⟩ (.slice ao11 (sp.length + 1) cc11)) := (Kept.refl (fun i => i = w.heap.size) w11).setCell (p := ⟨w.heap.size, 1, none⟩) (Or.inl rfl) _
      have h12 := h11.new hT k12 (fun i hi => by omega) (fun b hb hx => by have := hvn b hb; omega)
      have kall := ((((hk.trans k5).trans kz).trans' kz11 (fun i hi he => by have := hkv i he; omega)).trans' k12 (fun i hi he => by omega))
      rw [← EZ.out] at h12 hzn
      go_wp2_with fail
      go_roundg (g.rs.length - (pItem g st3).next)
      case measure => omega
      case rel =>
       have := kall.size
       exact ⟨pItem g st3, m', _, _, h12, sp11, (by show _ = _; rw [← HI.out]; exact HR2.out), HP2, rfl, by omega, by simp; omega, kall, sp11.blk.lt⟩
theorem class_tr {w : World} {t : TG} {g : RG} {st : RS} {fold : Int} {vn : Value} {nl : List (List UInt8)} (hT : TrAt w t g st fold vn nl) (hlt : st.next < t.l.length) (hf : (pClass g { st with next := st.next + 1 }).flt.form = none) :
  Calls Tryz.prog 101 #[.pointer (some ⟨t.b, 0, none⟩)] w fun e w' => NdPost w t g fold vn (pClass g { st with next := st.next + 1 }, single) (rClass g fold { st with next := st.next + 1 }) e w' := by
 cases hcar : (seeOf g { st with next := st.next + 1 } == 94)
 ·exact class_plain hT hlt hcar hf
 ·exact class_caret hT hlt hcar hf
end Go.Proofs.YtfollffpibmgcaaGreatDoor
