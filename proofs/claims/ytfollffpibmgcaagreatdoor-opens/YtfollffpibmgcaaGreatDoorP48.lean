/- The reference's tree: alt. -/
import Derived.Test.YtfollffpibmgcaaGreatDoorP45
import Derived.Test.YtfollffpibmgcaaGreatDoorP47
namespace Go.Proofs.YtfollffpibmgcaaGreatDoor
open Go.RowKit Go.Maps
set_option linter.unusedVariables false
set_option maxRecDepth 100000
set_option maxRecDepth 100000 in
set_option maxHeartbeats 8000000 in
theorem alt_tr {g : RG} {k : Nat} (hA : AltT g k) : AltT g (k + 1) := by
 intro w t st fold vn nl hT hrem hf
 have hl := hT.len
 have hlr := hT.lenr
 have htb := hT.blt
 have hvn : ∀ i, vn.ownBlock = some i → i < w.heap.size := fun i hi => (ownsRow_block hT.names hi).2
 obtain ⟨i0, hi0, hz0, hz1, hz2⟩ := info_parts Tryz.infoPtr
 have hF : pAlt g (k + 1) st = ((pAlts g (pAlt g k) (g.rs.length + 1) (pSeq g (pAlt g k) st).1 [(pSeq g (pAlt g k) st).2]).1, .node 3 (pAlts g (pAlt g k) (g.rs.length + 1) (pSeq g (pAlt g k) st).1 [(pSeq g (pAlt g k) st).2]).2 0 0) := rfl
 obtain ⟨Y, hY⟩ : ∃ Y, pAlts g (pAlt g k) (g.rs.length + 1) (pSeq g (pAlt g k) st).1 [(pSeq g (pAlt g k) st).2] = Y := ⟨_, rfl⟩
 rw [hF, hY] at hf ⊢
 simp only at hf
 have HY : Hid (pAlts g (pAlt g k) (g.rs.length + 1) (pSeq g (pAlt g k) st).1 ([] ++ [(pSeq g (pAlt g k) st).2]) = Y) := hY
 obtain ⟨RY, hRY⟩ : ∃ RY, rAlts g (pAlt g k) (rAlt g k) fold (g.rs.length + 1) (pSeq g (pAlt g k) st).1 [rSeq g (pAlt g k) (rAlt g k) fold st] = RY := ⟨_, rfl⟩
 have HRA : Hid (rAlt g (k + 1) fold st = .node sAlt [] false false RY 0 0 0 false) := by show _ = _; rw [← hRY]; rfl
 have HRY : Hid (rAlts g (pAlt g k) (rAlt g k) fold (g.rs.length + 1) (pSeq g (pAlt g k) st).1 ([] ++ [rSeq g (pAlt g k) (rAlt g k) fold st]) = RY) := hRY
 clear hF hY hRY
 go_enter Tryz.func21, Tryz.ntmps21
 go_wp2_with fail
 have h0 : TrAt (w.alloc (.cells (nodeCells sAlt (.slice none 0 0) false false (.slice none 0 0) 0 0 0 false) 126)) t g st fold vn nl := hT.nil ((Kept.refl _ _).alloc _)
 have b0 := Blk.new w (nodeCells sAlt (.slice none 0 0) false false (.slice none 0 0) 0 0 0 false) 126
 have k0 : Kept (fun i => i = t.b ∨ vn.ownBlock = some i) w (w.alloc (.cells (nodeCells sAlt (.slice none 0 0) false false (.slice none 0 0) 0 0 0 false) 126)) := (Kept.refl _ _).alloc _
 have ks0 := KsAt.nil (w.alloc (.cells (nodeCells sAlt (.slice none 0 0) false false (.slice none 0 0) 0 0 0 false) 126)) (w.heap.size + 1) (w.heap.size + 1) vn (by rw [size_alloc1]; omega)
 go_loopg [] (g.rs.length + 1 - st.next) (fun kk wr => ∃ (st1 : RS) (m : Nat) (acc : List PT) (racc : List RT) (Ps : List Nat) (vk vn1 : Value) (nl1 : List (List UInt8)), TrAt wr t g st1 fold vn1 nl1 ∧ KsAt wr (w.heap.size + 1) wr.heap.size vk vn1 Ps acc racc ∧ Blk wr w.heap.size (nodeCells sAlt (.slice none 0 0) false false vk 0 0 0 false) 126 ∧ Kept (fun i => i = t.b ∨ vn.ownBlock = some i) w wr ∧ (∀ i, vn1.ownBlock = some i → vn.ownBlock = some i ∨ w.heap.size < i)
  ∧ Hid (pAlts g (pAlt g k) m (pSeq g (pAlt g k) st1).1 (acc ++ [(pSeq g (pAlt g k) st1).2]) = Y) ∧ Hid (rAlts g (pAlt g k) (rAlt g k) fold m (pSeq g (pAlt g k) st1).1 (racc ++ [rSeq g (pAlt g k) (rAlt g k) fold st1]) = RY) ∧ kk = g.rs.length + 1 - st1.next ∧ kk ≤ m ∧ st.next ≤ st1.next ∧ acc.length ≤ st1.next ∧ w.heap.size + 1 ≤ wr.heap.size)
 case atStart =>
  exact ⟨st, g.rs.length + 1, [], [], [], _, vn, nl, h0, ks0.up (by rw [size_alloc1]; omega) (Nat.le_refl _), b0, k0, fun i hi => Or.inl hi, HY, HRY, rfl, by omega, Nat.le_refl _, by simp, by rw [size_alloc1]; omega⟩
 case round =>
  obtain ⟨st1, m, acc, racc, Ps, vk, vn1, nl1, hr, hKs, hB, hk, hvv, HP, HPR, rfl, hm, hge, hacc, hsz⟩ := hrel
  clear h0 b0 k0 ks0 HY HRY
  obtain ⟨wo, rfl⟩ : ∃ wo, wo = wr := ⟨_, rfl⟩
  have hfs : (pSeq g (pAlt g k) st1).1.flt.form = none := pAlts_form (pAlt_form g k) m _ _ (by rw [HP.out]; exact hf)
  have hB4 : wo.cell? ⟨w.heap.size, 4, none⟩ = some vk := hB.cell 4
  go_wp2_with fail
  have h1 : TrAt (wo.alloc (.cells (nodeCells sSeq (.slice none 0 0) false false (.slice none 0 0) 0 0 0 false) 126)) t g st1 fold vn1 nl1 := hr.nil ((Kept.refl _ _).alloc _)
  have b1 := Blk.new wo (nodeCells sSeq (.slice none 0 0) false false (.slice none 0 0) 0 0 0 false) 126
  have k1 : Kept (fun i => i = t.b ∨ vn1.ownBlock = some i) wo (wo.alloc (.cells (nodeCells sSeq (.slice none 0 0) false false (.slice none 0 0) 0 0 0 false) 126)) := (Kept.refl _ _).alloc _
  have ks1 := KsAt.nil (wo.alloc (.cells (nodeCells sSeq (.slice none 0 0) false false (.slice none 0 0) 0 0 0 false) 126)) (wo.heap.size + 1) (wo.heap.size + 1) vn1 (by rw [size_alloc1]; omega)
  have hrb := hr.blt
  have hvn1 : ∀ i, vn1.ownBlock = some i → i < wo.heap.size := fun i hi => (ownsRow_block hr.names hi).2
  go_loopg [] (g.rs.length + 1 - st1.next) (fun kk wi => ∃ (st2 : RS) (m2 : Nat) (acc2 : List PT) (racc2 : List RT) (Qs : List Nat) (vs vn2 : Value) (nl2 : List (List UInt8)), TrAt wi t g st2 fold vn2 nl2 ∧ KsAt wi (wo.heap.size + 1) wi.heap.size vs vn2 Qs acc2 racc2 ∧ Blk wi wo.heap.size (nodeCells sSeq (.slice none 0 0) false false vs 0 0 0 false) 126 ∧ Kept (fun i => i = t.b ∨ vn1.ownBlock = some i) wo wi ∧ (∀ i, vn2.ownBlock = some i → vn1.ownBlock = some i ∨ wo.heap.size < i)
   ∧ Hid (pSeqs g (pAlt g k) m2 st2 acc2 = pSeqs g (pAlt g k) (g.rs.length + 1) st1 []) ∧ Hid (rSeqs g (pAlt g k) (rAlt g k) fold m2 st2 racc2 = rSeqs g (pAlt g k) (rAlt g k) fold (g.rs.length + 1) st1 []) ∧ kk = g.rs.length + 1 - st2.next ∧ kk ≤ m2 ∧ st1.next ≤ st2.next ∧ acc2.length ≤ st2.next ∧ wo.heap.size + 1 ≤ wi.heap.size)
  case atStart =>
   exact ⟨st1, g.rs.length + 1, [], [], [], _, vn1, nl1, h1, ks1.up (by rw [size_alloc1]; omega) (Nat.le_refl _), b1, k1, fun i hi => Or.inl hi, rfl, rfl, rfl, by omega, Nat.le_refl _, by simp, by rw [size_alloc1]; omega⟩
  case round =>
   obtain ⟨st2, m2, acc2, racc2, Qs, vs, vn2, nl2, hr2, hKs2, hB2, hk2, hvv2, HP2, HPR2, rfl, hm2, hge2, hacc2, hsz2⟩ := hrel
   clear h1 b1 k1 ks1
   have hle2 := hr2.next
   have hrb2 := hr2.blt
   by_cases hend : seeOf g st2 = -1 ∨ inSet lBarRound (seeOf g st2) = true
   ·have HQ : Hid (pSeq g (pAlt g k) st1 = (st2, .node 2 acc2 0 0)) := by
     show _ = _
     unfold pSeq
     rw [← HP2.out, pSeqs_end g _ m2 st2 acc2 hend]
    have HQR : Hid (rSeq g (pAlt g k) (rAlt g k) fold st1 = .node sSeq [] false false racc2 0 0 0 false) := by
     show _ = _
     unfold rSeq
     rw [← HPR2.out, rSeqs_end g _ _ fold m2 st2 racc2 hend]
    clear HP2 HPR2
    by_cases e1 : seeOf g st2 = -1
    ·have g1 : (seeOf g st2 != -1) = false := by rw [e1]; rfl
     have gb : (seeOf g st2 != 124) = true := by rw [e1]; rfl
     have hbar : inSet lBar (seeOf g st2) = false := by rw [e1]; rfl
     clear e1 hend
     go_wp2_with fail
     refine (Tr_atL hr2).mono ?_
     rintro e w0a ⟨rfl, h0a, hk0a⟩
     obtain ⟨wz, hwz⟩ : ∃ wz, wz = w0a := ⟨_, rfl⟩
     have hz := h0a
     have kz := hk0a
     rw [← hwz] at hz kz ⊢
     clear hwz
     have hvn2 : ∀ i, vn2.ownBlock = some i → i < wr.heap.size := fun i hi => (ownsRow_block hr2.names hi).2
     have hvs : ∀ b, vs.ownBlock = some b → wo.heap.size + 1 ≤ b ∧ b < wr.heap.size := fun b hb => ownsRow_block hKs2.own hb
     have hvk : ∀ b, vk.ownBlock = some b → w.heap.size + 1 ≤ b ∧ b < wo.heap.size := fun b hb => ownsRow_block hKs.own hb
     have sz := kz.size
     have hne2 : vn2.ownBlock ≠ some wo.heap.size := fun e => by
      rcases hvv2 _ e with h | h
      ·have := hvn1 _ h; omega
      ·omega
     have ksz := hKs2.kept (vn' := vn2) kz (fun j hj => Or.inl (by omega)) (fun b hb hx => by have := hvs b hb; omega) (fun i hi => Or.inl hi)
     have bz := hB2.kept kz (by omega)
     have seqN := ksz.node (lo := wo.heap.size) (kk := 2) bz (Nat.le_refl _) (by omega) hne2 (by omega) (Or.inl ⟨rfl, rfl⟩) (by omega) (by omega)
     have koz := hk2.trans (kz.mono (fun i hi => Or.inl hi))
     have kso := hKs.kept (vn' := vn2) koz (fun j hj => by
      rcases hj with h | h
      ·exact Or.inl (by omega)
      ·exact Or.inr (Or.inl h)) (fun b hb hx => by
      rcases hx with h | h
      ·have := hvk b hb; omega
      ·exact hKs.apart b hb h) (fun i hi => by
      rcases hvv2 i hi with h | h
      ·exact Or.inl h
      ·exact Or.inr (by omega))
     have hne1 : vn1.ownBlock ≠ some w.heap.size := fun e => by
      rcases hvv _ e with h | h
      ·have := hvn _ h; omega
      ·omega
     have bnz := hB.kept koz (by
      rintro (h | h)
      ·omega
      ·exact hne1 h)
     have cz4 : wz.cell? ⟨w.heap.size, 4, none⟩ = some vk := bnz.cell 4
     have hnbz := bnz.lt
     have hfewo : acc.length ≤ 300 := by have := hr.next; omega
     clear hr2 hKs2 hB2 hKs hB bz
     go_wp2_with (at_builtin; refine wpList_append_own_at _ rfl _ _ 124 rfl (w.heap.size + 1) 33 i0 _ 1 8 Tryz.underlying124 hi0 hz0 hz1 hz2 rfl (by decide) _ _ _ rfl (kso.own.alloc _) ⟨wz.heap.size, 0, none⟩ 1 1 [ptr wo.heap.size] rfl rfl ?c1_m1 ?c2_m1 ?c3_m1 ?c4_m1 ?c5_m1 ?_)
     first
      | (case c1_m1 => exact cell_one_new _ _ _)
      | skip
     case c2_m1 => first | rfl | (intro u hu; simp at hu; subst hu; rfl)
     case c3_m1 => unfold maxLen; omega
     case c4_m1 => omega
     case c5_m1 => first | omega | (rw [size_alloc1]; omega) | (simp; omega)
     intro v7 w7 hown' hgrow hnil hloc
     have ka6 : Kept Nil wz (wz.alloc (.cells #[ptr wo.heap.size] 33)) := (Kept.refl _ _).alloc _
     have ks7 := KsAt.snoc kso seqN (by omega) (fun b hb => by have := hvk b hb; omega) (Nat.le_refl _) (fun i hi => by have := hvn2 i hi; omega) ka6 hown' hgrow (by rw [size_alloc1]; exact hloc) (by omega)
     have k67 : Kept (fun i => vk.ownBlock = some i) wz w7 := (ka6.mono (fun _ hx => hx.elim)).grown hgrow (fun j hj => Or.inl hj)
     have h7 := hz.new hT k67 (fun i hi => by have := hvk i hi; omega) (fun b hb hx => kso.apart b hx hb)
     have b7 := bnz.kept k67 (fun hx => by have := hvk _ hx; omega)
     obtain ⟨ao7, cc7, hv7⟩ := ownsRow_slice hown'
     rw [hv7] at ks7 ⊢
     clear hown' hgrow hnil hloc hv7 ka6 
     have c74 : w7.cell? ⟨w.heap.size, 4, none⟩ = some vk := b7.cell 4
     have f74 : w7.frozen? ⟨w.heap.size, 4, none⟩ = false := b7.frozen 4
     have k78 : Kept (fun i => i = w.heap.size) w7 (w7.setCell ⟨w.heap.size, 4, none⟩ (.slice ao7 (acc.length + 1) cc7)) := (Kept.refl (fun i => i = w.heap.size) w7).setCell (p := ⟨w.heap.size, 4, none⟩) (Or.inl rfl) _
     have hne0 : vn2.ownBlock ≠ some w.heap.size := fun e => by
      rcases hvv2 _ e with h | h
      ·exact hne1 h
      ·omega
     have h8 := h7.new hT k78 (fun i hi => by omega) (fun b hb hx => hne0 (hx ▸ hb))
     have b8 := b7.setCell 4 (.slice ao7 (acc.length + 1) cc7)
     have ks8 : KsAt (w7.setCell ⟨w.heap.size, 4, none⟩ (.slice ao7 (acc.length + 1) cc7)) (w.heap.size + 1) w7.heap.size (.slice ao7 (acc.length + 1) cc7) vn2 (Ps ++ [wo.heap.size]) (acc ++ [.node 2 acc2 0 0]) (racc ++ [.node sSeq [] false false racc2 0 0 0 false]) := ks7.kept k78 (fun j hj => Or.inl (by omega)) (fun b hb hx => by have := (ownsRow_block ks7.own hb).1; omega) (fun i hi => Or.inl hi)
     have k08 := ((hk.trans' koz (fun i hi he => by
      rcases he with h | h
      ·exact Or.inl h
      ·rcases hvv i h with h | h
       ·exact Or.inr h
       ·omega)).trans' k67 (fun i hi he => by have := hvk i he; omega)).trans' k78 (fun i hi he => by omega)
     have hvv9 : ∀ i, vn2.ownBlock = some i → vn.ownBlock = some i ∨ w.heap.size < i := fun i hi => by
      rcases hvv2 i hi with h | h
      ·exact hvv i h
      ·exact Or.inr (by omega)
     have s8 := b8.lt
     clear ks7 h7 k67 b7 k78
     go_wp2_with fail
     refine (Tr_atL h8).mono ?_
     rintro e w9 ⟨rfl, h9, hk9⟩
     have k09 := k08.trans (hk9.mono (fun i hi => Or.inl hi))
     have b9 := b8.kept hk9 (by omega)
     have ks9 := ks8.kept (vn' := vn2) hk9 (fun j hj => Or.inl (by omega)) (fun b hb hx => by have := (ownsRow_block ks8.own hb).1; omega) (fun i hi => Or.inl hi)
     have HE : Hid (Y = (st2, acc ++ [.node 2 acc2 0 0])) := by
      show _ = _
      rw [← HP.out, HQ.out]
      exact pAlts_end g _ m st2 _ hbar
     have HER : Hid (RY = racc ++ [.node sSeq [] false false racc2 0 0 0 false]) := by
      show _ = _
      rw [← HPR.out, HQR.out, HQ.out]
      exact rAlts_end g _ _ fold m st2 _ hbar
     go_wp2_with fail
     go_ret
     refine ⟨w.heap.size, vn2, nl2, rfl, ?_, ?_, k09, fun i hi => (hvv9 i hi).imp id (fun h => by omega)⟩
     ·show TrAt _ t g Y.1 fold vn2 nl2
      rw [HE.out]; exact h9
     ·show NdAt _ _ _ (.node 3 Y.2 0 0) (rAlt g (k + 1) fold st)
      rw [HRA.out, HE.out, HER.out]
      exact ks9.node (lo := w.heap.size) (kk := 3) b9 (Nat.le_refl _) (by have := b8.lt; rw [size_set] at this; exact this) hne0 (by omega) (Or.inr (Or.inl ⟨rfl, rfl⟩)) (by omega) (by simp)
    ·have g1 : (seeOf g st2 != -1) = true := bne_iff_ne.2 e1
     have hb2 : inSet lBarRound (seeOf g st2) = true := hend.resolve_left e1
     rw [barRound_eq, Bool.or_eq_true] at hb2
     clear hend
     rcases hb2 with hbarb | h41
     ·have g2 : (seeOf g st2 != 124) = false := by rw [beq_iff_eq.1 hbarb]; rfl
      have hbar : inSet lBar (seeOf g st2) = true := by rw [beq_iff_eq.1 hbarb]; rfl
      go_wp2_with fail
      refine (Tr_atL hr2).mono ?_
      rintro e w0a ⟨rfl, h0a, hk0a⟩
      go_wp2_with fail
      refine (Tr_atL h0a).mono ?_
      rintro e w1a ⟨rfl, h1a, hk1a⟩
      obtain ⟨wz, hwz⟩ : ∃ wz, wz = w1a := ⟨_, rfl⟩
      have hz := h1a
      have kz := (hk0a.trans hk1a)
      rw [← hwz] at hz kz ⊢
      clear hwz
      have hvn2 : ∀ i, vn2.ownBlock = some i → i < wr.heap.size := fun i hi => (ownsRow_block hr2.names hi).2
      have hvs : ∀ b, vs.ownBlock = some b → wo.heap.size + 1 ≤ b ∧ b < wr.heap.size := fun b hb => ownsRow_block hKs2.own hb
      have hvk : ∀ b, vk.ownBlock = some b → w.heap.size + 1 ≤ b ∧ b < wo.heap.size := fun b hb => ownsRow_block hKs.own hb
      have sz := kz.size
      have hne2 : vn2.ownBlock ≠ some wo.heap.size := fun e => by
       rcases hvv2 _ e with h | h
       ·have := hvn1 _ h; omega
       ·omega
      have ksz := hKs2.kept (vn' := vn2) kz (fun j hj => Or.inl (by omega)) (fun b hb hx => by have := hvs b hb; omega) (fun i hi => Or.inl hi)
      have bz := hB2.kept kz (by omega)
      have seqN := ksz.node (lo := wo.heap.size) (kk := 2) bz (Nat.le_refl _) (by omega) hne2 (by omega) (Or.inl ⟨rfl, rfl⟩) (by omega) (by omega)
      have koz := hk2.trans (kz.mono (fun i hi => Or.inl hi))
      have kso := hKs.kept (vn' := vn2) koz (fun j hj => by
       rcases hj with h | h
       ·exact Or.inl (by omega)
       ·exact Or.inr (Or.inl h)) (fun b hb hx => by
       rcases hx with h | h
       ·have := hvk b hb; omega
       ·exact hKs.apart b hb h) (fun i hi => by
       rcases hvv2 i hi with h | h
       ·exact Or.inl h
       ·exact Or.inr (by omega))
      have hne1 : vn1.ownBlock ≠ some w.heap.size := fun e => by
       rcases hvv _ e with h | h
       ·have := hvn _ h; omega
       ·omega
      have bnz := hB.kept koz (by
       rintro (h | h)
       ·omega
       ·exact hne1 h)
      have cz4 : wz.cell? ⟨w.heap.size, 4, none⟩ = some vk := bnz.cell 4
      have hnbz := bnz.lt
      have hfewo : acc.length ≤ 300 := by have := hr.next; omega
      clear hr2 hKs2 hB2 hKs hB bz
      go_wp2_with (at_builtin; refine wpList_append_own_at _ rfl _ _ 124 rfl (w.heap.size + 1) 33 i0 _ 1 8 Tryz.underlying124 hi0 hz0 hz1 hz2 rfl (by decide) _ _ _ rfl (kso.own.alloc _) ⟨wz.heap.size, 0, none⟩ 1 1 [ptr wo.heap.size] rfl rfl ?c1_bar ?c2_bar ?c3_bar ?c4_bar ?c5_bar ?_)
      first
       | (case c1_bar => exact cell_one_new _ _ _)
       | skip
      case c2_bar => first | rfl | (intro u hu; simp at hu; subst hu; rfl)
      case c3_bar => unfold maxLen; omega
      case c4_bar => omega
      case c5_bar => first | omega | (rw [size_alloc1]; omega) | (simp; omega)
      intro v7 w7 hown' hgrow hnil hloc
      have ka6 : Kept Nil wz (wz.alloc (.cells #[ptr wo.heap.size] 33)) := (Kept.refl _ _).alloc _
      have ks7 := KsAt.snoc kso seqN (by omega) (fun b hb => by have := hvk b hb; omega) (Nat.le_refl _) (fun i hi => by have := hvn2 i hi; omega) ka6 hown' hgrow (by rw [size_alloc1]; exact hloc) (by omega)
      have k67 : Kept (fun i => vk.ownBlock = some i) wz w7 := (ka6.mono (fun _ hx => hx.elim)).grown hgrow (fun j hj => Or.inl hj)
      have h7 := hz.new hT k67 (fun i hi => by have := hvk i hi; omega) (fun b hb hx => kso.apart b hx hb)
      have b7 := bnz.kept k67 (fun hx => by have := hvk _ hx; omega)
      obtain ⟨ao7, cc7, hv7⟩ := ownsRow_slice hown'
      rw [hv7] at ks7 ⊢
      clear hown' hgrow hnil hloc hv7 ka6 
      have c74 : w7.cell? ⟨w.heap.size, 4, none⟩ = some vk := b7.cell 4
      have f74 : w7.frozen? ⟨w.heap.size, 4, none⟩ = false := b7.frozen 4
      have k78 : Kept (fun i => i = w.heap.size) w7 (w7.setCell ⟨w.heap.size, 4, none⟩ (.slice ao7 (acc.length + 1) cc7)) := (Kept.refl (fun i => i = w.heap.size) w7).setCell (p := ⟨w.heap.size, 4, none⟩) (Or.inl rfl) _
      have hne0 : vn2.ownBlock ≠ some w.heap.size := fun e => by
       rcases hvv2 _ e with h | h
       ·exact hne1 h
       ·omega
      have h8 := h7.new hT k78 (fun i hi => by omega) (fun b hb hx => hne0 (hx ▸ hb))
      have b8 := b7.setCell 4 (.slice ao7 (acc.length + 1) cc7)
      have ks8 : KsAt (w7.setCell ⟨w.heap.size, 4, none⟩ (.slice ao7 (acc.length + 1) cc7)) (w.heap.size + 1) w7.heap.size (.slice ao7 (acc.length + 1) cc7) vn2 (Ps ++ [wo.heap.size]) (acc ++ [.node 2 acc2 0 0]) (racc ++ [.node sSeq [] false false racc2 0 0 0 false]) := ks7.kept k78 (fun j hj => Or.inl (by omega)) (fun b hb hx => by have := (ownsRow_block ks7.own hb).1; omega) (fun i hi => Or.inl hi)
      have k08 := ((hk.trans' koz (fun i hi he => by
       rcases he with h | h
       ·exact Or.inl h
       ·rcases hvv i h with h | h
        ·exact Or.inr h
        ·omega)).trans' k67 (fun i hi he => by have := hvk i he; omega)).trans' k78 (fun i hi he => by omega)
      have hvv9 : ∀ i, vn2.ownBlock = some i → vn.ownBlock = some i ∨ w.heap.size < i := fun i hi => by
       rcases hvv2 i hi with h | h
       ·exact hvv i h
       ·exact Or.inr (by omega)
      have s8 := b8.lt
      clear ks7 h7 k67 b7 k78
      go_wp2_with fail
      refine (Tr_atL h8).mono ?_
      rintro e w9 ⟨rfl, h9, hk9⟩
      have k09 := k08.trans (hk9.mono (fun i hi => Or.inl hi))
      have b9 := b8.kept hk9 (by omega)
      have ks9 := ks8.kept (vn' := vn2) hk9 (fun j hj => Or.inl (by omega)) (fun b hb hx => by have := (ownsRow_block ks8.own hb).1; omega) (fun i hi => Or.inl hi)
      have c91 : w9.cell? ⟨t.b, 1, none⟩ = some (.int .i64 st2.next) := h9.blk.cell 1
      have f91 : w9.frozen? ⟨t.b, 1, none⟩ = false := h9.blk.frozen 1
      have hlt9 := lt_of_see (g := g) (st := st2) (by have := beq_iff_eq.1 hbarb; omega)
      have h10 := h9.step (show st2.next < _ by omega)
      have k10 := k09.trans ((own1 (w := w9) (t := t) 1 (.int .i64 ((st2.next : Int) + 1))).mono (fun i hi => Or.inl hi))
      have b10 := b9.setCell_other (p := ⟨t.b, 1, none⟩) (show w.heap.size ≠ t.b by omega) (.int .i64 ((st2.next : Int) + 1))
      have ks10 := ks9.kept (vn' := vn2) (own1 (w := w9) (t := t) 1 (.int .i64 ((st2.next : Int) + 1))) (fun j hj => Or.inl (by omega)) (fun b hb hx => by have := (ownsRow_block ks9.own hb).1; omega) (fun i hi => Or.inl hi)
      obtain ⟨m', rfl⟩ : ∃ m', m = m' + 1 := ⟨m - 1, by have := hr.next; omega⟩
      have HP3 : Hid (pAlts g (pAlt g k) m' (pSeq g (pAlt g k) { st2 with next := st2.next + 1 }).1 ((acc ++ [.node 2 acc2 0 0]) ++ [(pSeq g (pAlt g k) { st2 with next := st2.next + 1 }).2]) = Y) := by
       show _ = _
       rw [← HP.out, HQ.out]
       show _ = (if inSet lBar (seeOf g st2) = true then _ else _)
       rw [if_pos hbar]
      have HPR3 : Hid (rAlts g (pAlt g k) (rAlt g k) fold m' (pSeq g (pAlt g k) { st2 with next := st2.next + 1 }).1 ((racc ++ [.node sSeq [] false false racc2 0 0 0 false]) ++ [rSeq g (pAlt g k) (rAlt g k) fold { st2 with next := st2.next + 1 }]) = RY) := by
       show _ = _
       rw [← HPR.out, HQR.out, HQ.out]
       show _ = (if inSet lBar (seeOf g st2) = true then _ else _)
       rw [if_pos hbar]
      have s10 := k10.size
      have s9 := hk9.size
      rw [size_set] at s9
      go_wp2_with fail
      go_roundg (g.rs.length + 1 - (st2.next + 1))
      case measure => omega
      case rel =>
       exact ⟨{ st2 with next := st2.next + 1 }, m', _, _, _, _, vn2, nl2, h10, ks10.up (by rw [size_set]; omega) (Nat.le_refl _), b10, k10, hvv9, HP3, HPR3, rfl, by simp; omega, by simp; omega, by simp; omega, by rw [size_set]; have := b9.lt; omega⟩
     ·have g2 : (seeOf g st2 != 124) = true := by rw [beq_iff_eq.1 h41]; rfl
      have g3 : (seeOf g st2 != 41) = false := by rw [beq_iff_eq.1 h41]; rfl
      have hbar : inSet lBar (seeOf g st2) = false := by rw [beq_iff_eq.1 h41]; rfl
      clear h41
      go_wp2_with fail
      refine (Tr_atL hr2).mono ?_
      rintro e w0a ⟨rfl, h0a, hk0a⟩
      go_wp2_with fail
      refine (Tr_atL h0a).mono ?_
      rintro e w1a ⟨rfl, h1a, hk1a⟩
      go_wp2_with fail
      refine (Tr_atL h1a).mono ?_
      rintro e w2a ⟨rfl, h2a, hk2a⟩
      obtain ⟨wz, hwz⟩ : ∃ wz, wz = w2a := ⟨_, rfl⟩
      have hz := h2a
      have kz := ((hk0a.trans hk1a).trans hk2a)
      rw [← hwz] at hz kz ⊢
      clear hwz
      have hvn2 : ∀ i, vn2.ownBlock = some i → i < wr.heap.size := fun i hi => (ownsRow_block hr2.names hi).2
      have hvs : ∀ b, vs.ownBlock = some b → wo.heap.size + 1 ≤ b ∧ b < wr.heap.size := fun b hb => ownsRow_block hKs2.own hb
      have hvk : ∀ b, vk.ownBlock = some b → w.heap.size + 1 ≤ b ∧ b < wo.heap.size := fun b hb => ownsRow_block hKs.own hb
      have sz := kz.size
      have hne2 : vn2.ownBlock ≠ some wo.heap.size := fun e => by
       rcases hvv2 _ e with h | h
       ·have := hvn1 _ h; omega
       ·omega
      have ksz := hKs2.kept (vn' := vn2) kz (fun j hj => Or.inl (by omega)) (fun b hb hx => by have := hvs b hb; omega) (fun i hi => Or.inl hi)
      have bz := hB2.kept kz (by omega)
      have seqN := ksz.node (lo := wo.heap.size) (kk := 2) bz (Nat.le_refl _) (by omega) hne2 (by omega) (Or.inl ⟨rfl, rfl⟩) (by omega) (by omega)
      have koz := hk2.trans (kz.mono (fun i hi => Or.inl hi))
      have kso := hKs.kept (vn' := vn2) koz (fun j hj => by
       rcases hj with h | h
       ·exact Or.inl (by omega)
       ·exact Or.inr (Or.inl h)) (fun b hb hx => by
       rcases hx with h | h
       ·have := hvk b hb; omega
       ·exact hKs.apart b hb h) (fun i hi => by
       rcases hvv2 i hi with h | h
       ·exact Or.inl h
       ·exact Or.inr (by omega))
      have hne1 : vn1.ownBlock ≠ some w.heap.size := fun e => by
       rcases hvv _ e with h | h
       ·have := hvn _ h; omega
       ·omega
      have bnz := hB.kept koz (by
       rintro (h | h)
       ·omega
       ·exact hne1 h)
      have cz4 : wz.cell? ⟨w.heap.size, 4, none⟩ = some vk := bnz.cell 4
      have hnbz := bnz.lt
      have hfewo : acc.length ≤ 300 := by have := hr.next; omega
      clear hr2 hKs2 hB2 hKs hB bz
      go_wp2_with (at_builtin; refine wpList_append_own_at _ rfl _ _ 124 rfl (w.heap.size + 1) 33 i0 _ 1 8 Tryz.underlying124 hi0 hz0 hz1 hz2 rfl (by decide) _ _ _ rfl (kso.own.alloc _) ⟨wz.heap.size, 0, none⟩ 1 1 [ptr wo.heap.size] rfl rfl ?c1_rnd ?c2_rnd ?c3_rnd ?c4_rnd ?c5_rnd ?_)
      first
       | (case c1_rnd => exact cell_one_new _ _ _)
       | skip
      case c2_rnd => first | rfl | (intro u hu; simp at hu; subst hu; rfl)
      case c3_rnd => unfold maxLen; omega
      case c4_rnd => omega
      case c5_rnd => first | omega | (rw [size_alloc1]; omega) | (simp; omega)
      intro v7 w7 hown' hgrow hnil hloc
      have ka6 : Kept Nil wz (wz.alloc (.cells #[ptr wo.heap.size] 33)) := (Kept.refl _ _).alloc _
      have ks7 := KsAt.snoc kso seqN (by omega) (fun b hb => by have := hvk b hb; omega) (Nat.le_refl _) (fun i hi => by have := hvn2 i hi; omega) ka6 hown' hgrow (by rw [size_alloc1]; exact hloc) (by omega)
      have k67 : Kept (fun i => vk.ownBlock = some i) wz w7 := (ka6.mono (fun _ hx => hx.elim)).grown hgrow (fun j hj => Or.inl hj)
      have h7 := hz.new hT k67 (fun i hi => by have := hvk i hi; omega) (fun b hb hx => kso.apart b hx hb)
      have b7 := bnz.kept k67 (fun hx => by have := hvk _ hx; omega)
      obtain ⟨ao7, cc7, hv7⟩ := ownsRow_slice hown'
      rw [hv7] at ks7 ⊢
      clear hown' hgrow hnil hloc hv7 ka6 
      have c74 : w7.cell? ⟨w.heap.size, 4, none⟩ = some vk := b7.cell 4
      have f74 : w7.frozen? ⟨w.heap.size, 4, none⟩ = false := b7.frozen 4
      have k78 : Kept (fun i => i = w.heap.size) w7 (w7.setCell ⟨w.heap.size, 4, none⟩ (.slice ao7 (acc.length + 1) cc7)) := (Kept.refl (fun i => i = w.heap.size) w7).setCell (p := ⟨w.heap.size, 4, none⟩) (Or.inl rfl) _
      have hne0 : vn2.ownBlock ≠ some w.heap.size := fun e => by
       rcases hvv2 _ e with h | h
       ·exact hne1 h
       ·omega
      have h8 := h7.new hT k78 (fun i hi => by omega) (fun b hb hx => hne0 (hx ▸ hb))
      have b8 := b7.setCell 4 (.slice ao7 (acc.length + 1) cc7)
      have ks8 : KsAt (w7.setCell ⟨w.heap.size, 4, none⟩ (.slice ao7 (acc.length + 1) cc7)) (w.heap.size + 1) w7.heap.size (.slice ao7 (acc.length + 1) cc7) vn2 (Ps ++ [wo.heap.size]) (acc ++ [.node 2 acc2 0 0]) (racc ++ [.node sSeq [] false false racc2 0 0 0 false]) := ks7.kept k78 (fun j hj => Or.inl (by omega)) (fun b hb hx => by have := (ownsRow_block ks7.own hb).1; omega) (fun i hi => Or.inl hi)
      have k08 := ((hk.trans' koz (fun i hi he => by
       rcases he with h | h
       ·exact Or.inl h
       ·rcases hvv i h with h | h
        ·exact Or.inr h
        ·omega)).trans' k67 (fun i hi he => by have := hvk i he; omega)).trans' k78 (fun i hi he => by omega)
      have hvv9 : ∀ i, vn2.ownBlock = some i → vn.ownBlock = some i ∨ w.heap.size < i := fun i hi => by
       rcases hvv2 i hi with h | h
       ·exact hvv i h
       ·exact Or.inr (by omega)
      have s8 := b8.lt
      clear ks7 h7 k67 b7 k78
      go_wp2_with fail
      refine (Tr_atL h8).mono ?_
      rintro e w9 ⟨rfl, h9, hk9⟩
      have k09 := k08.trans (hk9.mono (fun i hi => Or.inl hi))
      have b9 := b8.kept hk9 (by omega)
      have ks9 := ks8.kept (vn' := vn2) hk9 (fun j hj => Or.inl (by omega)) (fun b hb hx => by have := (ownsRow_block ks8.own hb).1; omega) (fun i hi => Or.inl hi)
      have HE : Hid (Y = (st2, acc ++ [.node 2 acc2 0 0])) := by
       show _ = _
       rw [← HP.out, HQ.out]
       exact pAlts_end g _ m st2 _ hbar
      have HER : Hid (RY = racc ++ [.node sSeq [] false false racc2 0 0 0 false]) := by
       show _ = _
       rw [← HPR.out, HQR.out, HQ.out]
       exact rAlts_end g _ _ fold m st2 _ hbar
      go_wp2_with fail
      go_ret
      refine ⟨w.heap.size, vn2, nl2, rfl, ?_, ?_, k09, fun i hi => (hvv9 i hi).imp id (fun h => by omega)⟩
      ·show TrAt _ t g Y.1 fold vn2 nl2
       rw [HE.out]; exact h9
      ·show NdAt _ _ _ (.node 3 Y.2 0 0) (rAlt g (k + 1) fold st)
       rw [HRA.out, HE.out, HER.out]
       exact ks9.node (lo := w.heap.size) (kk := 3) b9 (Nat.le_refl _) (by have := b8.lt; rw [size_set] at this; exact this) hne0 (by omega) (Or.inr (Or.inl ⟨rfl, rfl⟩)) (by omega) (by simp)
   ·rw [not_or] at hend
    have hnb : inSet lBarRound (seeOf g st2) = false := by simpa using hend.2
    have hlt2 := lt_of_see hend.1
    rw [barRound_eq] at hnb
    have g1 : (seeOf g st2 != -1) = true := bne_iff_ne.2 hend.1
    have g2 : (seeOf g st2 != 124) = true := by rw [bne_iff_ne]; intro e; rw [e] at hnb; exact absurd hnb (by decide)
    have g3 : (seeOf g st2 != 41) = true := by rw [bne_iff_ne]; intro e; rw [e] at hnb; exact absurd hnb (by decide)
    obtain ⟨m3, rfl⟩ : ∃ m3, m2 = m3 + 1 := ⟨m2 - 1, by omega⟩
    have hstep : pSeqs g (pAlt g k) (m3 + 1) st2 acc2 = pSeqs g (pAlt g k) m3 (pRepeated g (pAtom g (pAlt g k) st2).2 (pAtom g (pAlt g k) st2).1).1 (acc2 ++ [(pRepeated g (pAtom g (pAlt g k) st2).2 (pAtom g (pAlt g k) st2).1).2]) := by
     rw [show pSeqs g (pAlt g k) (m3 + 1) st2 acc2 = if seeOf g st2 = -1 ∨ inSet lBarRound (seeOf g st2) = true then (st2, acc2) else pSeqs g (pAlt g k) m3 (pRepeated g (pAtom g (pAlt g k) st2).2 (pAtom g (pAlt g k) st2).1).1 (acc2 ++ [(pRepeated g (pAtom g (pAlt g k) st2).2 (pAtom g (pAlt g k) st2).1).2]) from rfl, if_neg (not_or.2 hend)]
    have hn1 := pAtom_next g (pAlt g k) (pAlt_fwd g k) st2 (by omega)
    have hn2 := pRepeated_next g (pAtom g (pAlt g k) st2).2 (pAtom g (pAlt g k) st2).1 hn1.2.1
    have hn3 := hn1.2.2 (by omega)
    have hfr : (pRepeated g (pAtom g (pAlt g k) st2).2 (pAtom g (pAlt g k) st2).1).1.flt.form = none := by
     have : (pSeqs g (pAlt g k) (g.rs.length + 1) st1 []).1.flt.form = none := hfs
     rw [← HP2.out, hstep] at this
     exact pSeqs_form (pAlt_form g k) _ _ _ this
    rw [hstep] at HP2
    have HPR2' : Hid (rSeqs g (pAlt g k) (rAlt g k) fold m3 (pRepeated g (pAtom g (pAlt g k) st2).2 (pAtom g (pAlt g k) st2).1).1 (racc2 ++ [rRepeated g (rAtom g (rAlt g k) fold st2) (pAtom g (pAlt g k) st2).1]) = rSeqs g (pAlt g k) (rAlt g k) fold (g.rs.length + 1) st1 []) := by
     show _ = _
     rw [← HPR2.out]
     show _ = (if seeOf g st2 = -1 ∨ inSet lBarRound (seeOf g st2) = true then _ else _)
     rw [if_neg (not_or.2 hend)]
    clear hstep hend hnb HPR2
    have hclass : seeOf g st2 = 91 → ∀ w', TrAt w' t g st2 fold vn2 nl2 → Calls Tryz.prog 101 #[.pointer (some ⟨t.b, 0, none⟩)] w' (NdPost w' t g fold vn2 (pClass g { st2 with next := st2.next + 1 }, single) (rClass g fold { st2 with next := st2.next + 1 })) := by
     intro h91 w' hT'
     refine class_tr hT' (by omega) ?_
     have := pRepeated_form hfr
     unfold pAtom at this
     rw [h91] at this
     exact this
    have hcall := fun (w' : World) (hT' : TrAt w' t g st2 fold vn2 nl2) => times_all hA hT' (by omega) hfr hclass
    generalize pRepeated g (pAtom g (pAlt g k) st2).2 (pAtom g (pAlt g k) st2).1 = x at *
    generalize rRepeated g (rAtom g (rAlt g k) fold st2) (pAtom g (pAlt g k) st2).1 = y at *
    clear hn1 hclass hfr
    go_wp2_with fail
    refine (Tr_atL hr2).mono ?_
    rintro e w3 ⟨rfl, h3, hk3⟩
    go_wp2_with fail
    refine (Tr_atL h3).mono ?_
    rintro e w4 ⟨rfl, h4, hk4⟩
    go_wp2_with fail
    refine (Tr_atL h4).mono ?_
    rintro e w5 ⟨rfl, h5, hk5⟩
    go_wp2_with fail
    refine (hcall w5 h5).mono ?_
    rintro e w6 ⟨b6, vn6, nl6, rfl, h6, q2, q3, q4⟩
    have k35 := (hk3.trans hk4).trans hk5
    have s35 := k35.size
    have hvn2 : ∀ i, vn2.ownBlock = some i → i < wr.heap.size := fun i hi => (ownsRow_block hr2.names hi).2
    have hvn6 : ∀ i, vn6.ownBlock = some i → i < w6.heap.size := fun i hi => (ownsRow_block h6.names hi).2
    have hne2 : vn2.ownBlock ≠ some wo.heap.size := fun e => by
     rcases hvv2 _ e with h | h
     ·have := hvn1 _ h; omega
     ·omega
    have kst : Kept (fun i => i = t.b ∨ vn2.ownBlock = some i) wr w6 := (k35.mono (fun i hi => Or.inl hi)).trans q3
    have s6 := kst.size
    have s56 := q3.size
    have hvs : ∀ b, vs.ownBlock = some b → wo.heap.size + 1 ≤ b ∧ b < wr.heap.size := fun b hb => ownsRow_block hKs2.own hb
    have ks6 : KsAt w6 (wo.heap.size + 1) wr.heap.size vs vn6 Qs acc2 racc2 := hKs2.kept kst (fun j hj => by
     rcases hj with h | h
     ·exact Or.inl (by omega)
     ·exact Or.inr (Or.inl h)) (fun b hb hx => by
     rcases hx with h | h
     ·have := hvs b hb; omega
     ·exact hKs2.apart b hb h) (fun i hi => by
     rcases q4 i hi with h | h
     ·exact Or.inl h
     ·exact Or.inr (by omega))
    have b6' := hB2.kept kst (by
     rintro (h | h)
     ·omega
     ·exact hne2 h)
    have c64 : w6.cell? ⟨wo.heap.size, 4, none⟩ = some vs := b6'.cell 4
    have hfew : acc2.length ≤ 300 := by omega
    go_wp2_with (at_builtin; refine wpList_append_own_at _ rfl _ _ 124 rfl (wo.heap.size + 1) 33 i0 _ 1 8 Tryz.underlying124 hi0 hz0 hz1 hz2 rfl (by decide) _ _ _ rfl (ks6.own.alloc _) ⟨w6.heap.size, 0, none⟩ 1 1 [ptr b6] rfl rfl ?c1_a ?c2_a ?c3_a ?c4_a ?c5_a ?_)
    first
     | (case c1_a => exact cell_one_new _ _ _)
     | skip
    case c2_a => first | rfl | (intro u hu; simp at hu; subst hu; rfl)
    case c3_a => unfold maxLen; omega
    case c4_a => omega
    case c5_a => first | omega | (rw [size_alloc1]; omega) | (simp; omega)
    intro v7 w7 hown' hgrow hnil hloc
    have ka6 : Kept Nil w6 (w6.alloc (.cells #[ptr b6] 33)) := (Kept.refl _ _).alloc _
    have ks7 := KsAt.snoc ks6 q2 (by omega) (fun b hb => by have := hvs b hb; omega) (Nat.le_refl _) hvn6 ka6 hown' hgrow (by rw [size_alloc1]; exact hloc) (by omega)
    have k67 : Kept (fun i => vs.ownBlock = some i) w6 w7 := (ka6.mono (fun _ hx => hx.elim)).grown hgrow (fun j hj => Or.inl hj)
    have h7 := h6.new hr k67 (fun i hi => by have := hvs i hi; omega) (fun b hb hx => ks6.apart b hx hb)
    have b7 := b6'.kept k67 (fun hx => by have := hvs _ hx; omega)
    obtain ⟨ao7, cc7, hv7⟩ := ownsRow_slice hown'
    rw [hv7] at ks7 ⊢
    clear hown' hgrow hnil hloc hv7 ka6 ks6 b6'
    have c74 : w7.cell? ⟨wo.heap.size, 4, none⟩ = some vs := b7.cell 4
    have f74 : w7.frozen? ⟨wo.heap.size, 4, none⟩ = false := b7.frozen 4
    have k78 : Kept (fun i => i = wo.heap.size) w7 (w7.setCell ⟨wo.heap.size, 4, none⟩ (.slice ao7 (acc2.length + 1) cc7)) := (Kept.refl (fun i => i = wo.heap.size) w7).setCell (p := ⟨wo.heap.size, 4, none⟩) (Or.inl rfl) _
    have hne6 : vn6.ownBlock ≠ some wo.heap.size := fun e => by
     rcases q4 _ e with h | h
     ·exact hne2 h
     ·omega
    have h8 := h7.new hr k78 (fun i hi => by omega) (fun b hb hx => hne6 (hx ▸ hb))
    have b8 := b7.setCell 4 (.slice ao7 (acc2.length + 1) cc7)
    have ks8 : KsAt (w7.setCell ⟨wo.heap.size, 4, none⟩ (.slice ao7 (acc2.length + 1) cc7)) (wo.heap.size + 1) w7.heap.size (.slice ao7 (acc2.length + 1) cc7) vn6 (Qs ++ [b6]) (acc2 ++ [x.2]) (racc2 ++ [y]) := ks7.kept k78 (fun j hj => Or.inl (by omega)) (fun b hb hx => by have := (ownsRow_block ks7.own hb).1; omega) (fun i hi => Or.inl hi)
    have k08 := ((hk2.trans' kst (fun i hi he => by
     rcases he with h | h
     ·exact Or.inl h
     ·rcases hvv2 i h with h | h
      ·exact Or.inr h
      ·omega)).trans' k67 (fun i hi he => by have := hvs i he; omega)).trans' k78 (fun i hi he => by omega)
    have s8 := k08.size
    go_wp2_with fail
    go_roundg (g.rs.length + 1 - x.1.next)
    case measure => omega
    case rel =>
     exact ⟨x.1, m3, _, _, _, _, vn6, nl6, h8, ks8.up (by rw [size_set]; exact Nat.le_refl _) (Nat.le_refl _), b8, k08, fun i hi => by
      rcases q4 i hi with h | h
      ·exact hvv2 i h
      ·exact Or.inr (by omega), HP2, HPR2', rfl, by omega, by omega, by simp; omega, by rw [size_set] at s8 ⊢; have := b7.lt; omega⟩
end Go.Proofs.YtfollffpibmgcaaGreatDoor
